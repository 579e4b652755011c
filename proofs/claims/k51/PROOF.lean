import PyProof.Rows.All
import Wide.All
import OpenK.AllK
import Wide.FinOn
import HandS.Base
import HandS.Call
import HandS.List
import HandS.Comp
import HandS.Ends
import HandS.Words
import HandS.WordsList
import HandS.Dict
import HandS.Iter
import PyProof.ReprRoads
import HandS.ForMost
import HandS.Wide
import HandS.DictComp
import HandS.IsInst
import HandS.NoneIn
import HandS.Conv
import HandS.SortInts
import HandS.WideBits
import HandS.Style
import KE.GoesEnumKw
import HandS.Deep
import HandS.Codes
import HandS.Zip
import KE.SortData
import PySem.Challenge.RW_foldednets_k51_whole_turns_told_by_round
set_option Elab.async false
set_option linter.all false
set_option maxRecDepth 100000
namespace Fo
open PySem PySem.Spec PyProof.Rows L2
/-! piece Aux1 -/
section
open PySem PySem.Spec PyProof.Rows L2
abbrev Sl := L2.St

/-! ## calls while no repr is under way -/
structure FnG (P : Program) (w : World) (K : PySem.W.Frag) (mg : Str → Option Value) (base : Heap)
    (CX : CXT) (k : Nat) (f : Addr) (fd : FuncData) (ps : List Str) (sp : Sp) : Prop where
  arity : ∀ vs H Q E, sp vs H Q E → vs.length = ps.length
  go : ∀ (A : Around) (outer : List Env) (s : Shared) (H : Hp) (args : Args) (us : List Value)
      (vs : List V) (Q : VK) (E : XK), Room k A → A.guards = some [] →
      Env0 P w K mg base A outer s H → BindsTo s fd args (ps.zip us) → Vals vs us → sp vs H Q E →
      codeAny (model P w) A (.call (.ref f) args) (CR CX outer P w H s Q E) s

theorem FnG.of {P : Program} {w : World} {K : PySem.W.Frag} {mg : Str → Option Value} {base : Heap}
    {CX : CXT} {k : Nat} {f : Addr} {fd : FuncData} {ps : List Str} {sp : Sp}
    (F : FnOk P w K mg base CX k f fd ps sp) : FnG P w K mg base CX k f fd ps sp :=
  ⟨F.len, fun A outer s H args us vs Q E hr _ => F.run A outer s H args us vs Q E hr⟩

section
variable {X : Cx} {CX : CXT} {k : Nat} {f : Addr} {fd : FuncData} {ps : List Str} {sp : Sp}
  {dvs : List V} {ds : List Value} {E : XK} {x : Str} {p pos : Pos} {e : Expr} {es : List Expr} {t : TA}
theorem go_fn {pins : List (Addr × Obj)} {σ : L2.St} {H : Hp} {s : Shared} {Q : VK} {us : List Value} {vs : List V}
    (F : FnG X.prog X.w X.K X.mg X.base CX k f fd ps sp) (hr : Room k X.A) (hgd : X.A.guards = some [])
    (hb : Binds X.K fd ps ds) (hd : Vals dvs ds) (hx : Passes CX X E)
    (I : Inv X pins σ H s) (r : Vals vs us) (h : sp (vs ++ dvs) H Q E) :
    wpAny (model X.prog X.w) X.A (call (.ref f) us) (EP X pins σ Q) X.xe s := by
  have rr := Vals.append r hd
  have hlen : (us ++ ds).length = ps.length := rr.length.symm.trans (F.arity _ _ _ _ h)
  have step := F.go X.A X.stack s H ⟨us, []⟩ (us ++ ds) (vs ++ dvs) Q E hr hgd I.env0 (hb s us I.kIn hlen) rr h
  refine wpAny_call (codeAny_mono step ?_)
  intro out s' hq
  match out, hq with
  | .error e, hq => exact hx pins σ H s e s' I hq
  | .ok (.ret u), hq => exact I.after hq
  | .ok .next, hq => exact hq.elim
  | .ok .brk, hq => exact hq.elim
  | .ok .cont, hq => exact hq.elim

theorem pe_callG (F : FnG X.prog X.w X.K X.mg X.base CX k f fd ps sp) (hr : Room k X.A) (hgd : X.A.guards = some [])
    (hg : Gl X x) (hm : X.mg x = some (.ref f)) (hk : PySem.W.keepIn X.K (.ref f) = true)
    (hb : Binds X.K fd ps ds) (hd : Vals dvs ds) (hx : Passes CX X E) (ha : PA X (e :: es) t)
    (hdb : (x == ("__debug__" : Str)) = false := by decide)
    (he : starEach (e :: es) X.env = (false, eval e X.env) :: starEach es X.env := by rfl)
    (hpl : (backTo pos (starEach es X.env)).any (·.1) = false := by rfl) :
    PE X (.Call (.Name x p) (e :: es) [] pos) (tCall sp dvs E t) := by
  constructor
  intro pins s σ H Q I h
  apply wpAny_Call_Name_kw
  apply ld_glob I hg hm _ hdb
  refine PySem.W.callWith_K (h₀ := X.base) I.ok.mod.kin hk (thn (ha.run pos pins s σ H _ I h) ?_) he hpl
  rintro us s1 ⟨vs, H1, I1, r, q⟩
  exact ⟨I1.kIn, go_fn F hr hgd hb hd hx I1 r q⟩

/-- f(k = v, ..), keywords alone -/
theorem pe_callK0 {ks : List Str} {kws : List Keyword} {tk : TA} {g : List Value → List Value → List Value}
    {gV : List V → List V → List V} (F : FnOk X.prog X.w X.K X.mg X.base CX k f fd ps sp) (hr : Room k X.A)
    (hg : Gl X x) (hm : X.mg x = some (.ref f)) (hk : PySem.W.keepIn X.K (.ref f) = true)
    (hb : KBinds X.K fd ps ks g gV) (hx : Passes CX X E) (hkw : PK X kws tk)
    (hall : (backToKw pos (keywordEach kws X.env)).all (·.1.isSome) = true := by rfl)
    (hks : (backToKw pos (keywordEach kws X.env)).filterMap (·.1) = ks := by rfl)
    (hdb : (x == ("__debug__" : Str)) = false := by decide)
    (hpl : ((backTo pos (starEach [] X.env)).any (·.1) || (backToKw pos (keywordEach kws X.env)).any (·.1.isNone)) = false := by rfl) :
    PE X (.Call (.Name x p) [] kws pos) (tCallK sp gV E tNil tk) := by
  constructor
  intro pins s σ H Q I h
  apply wpAny_Call_Name_kw
  apply ld_glob I hg hm _ hdb
  refine PySem.W.callWith_KW0 (h₀ := X.base) I.ok.mod.kin hk hall (thn (hkw.run pos pins s σ H _ I h) ?_) hpl
  rintro ws s2 ⟨zs, H2, I2, rz, q2⟩
  refine ⟨I2.kIn, ?_⟩
  rw [hks]
  exact run_fnk (us := []) F hr hb hx I2 .nil rz q2
end

section
variable {P : Program} {w : World} {K : PySem.W.Frag} {mg : Str → Option Value} {base : Heap}
/-- a def's body, where no repr is under way -/
theorem okG {x qual : Str} {st : Stmt} {f : Addr} {fd : FuncData} {N ps : List Str} {k : Nat} {sp : Sp}
    (F : Fun K x qual st f fd) (S : FnScope N ps (defScope st)) (len : ∀ vs H Q E, sp vs H Q E → vs.length = ps.length)
    (hbody : ∀ (cdv : Value) (A : Around) (outer : List Env) (s : Shared) (H : Hp) (vs : List V) (Q : VK) (E : XK),
      Room k (A.deeper (envOfC qual (defScope st) s.heap.objs.size f cdv)) → A.guards = some [] → sp vs H Q E →
      ∃ t, PSs (cxOf CX0 P w K mg base N qual (defScope st) f cdv A outer s H E).nox (defBody st) t ∧
        t { nx := fun _ H' => Q .non H', rt := Q } (start N vs) H) :
    FnG P w K mg base CX0 (k + 1) f fd ps sp := by
  obtain ⟨oc, od, kV, doc, pm, an, cdv, ct, osl, rfl, lk, hcd⟩ := F.ex
  constructor
  · exact len
  intro A outer s H args us vs Q E hr hgd e0 hb r hsp
  have keepB : ∀ b o, base.get? b = some o → s.heap.get? b = some o := fun b o e => (e0.bs b o e).1
  have inK : K.In s.heap := e0.mod.kin.keeps keepB
  have noLim : s.heap.NoLimit := e0.mod.nolimit.keeps keepB
  have kinds : ∀ y ∈ ps.zip us, (defScope st).names.lookup y.1 = some .local ∨
      ((defScope st).names.lookup y.1 = some .cell ∧
        ((cellsFrom (s.heap.objs.size + 1) (defScope st).names []).lookup y.1).isSome = true) := by
    rintro ⟨n, v⟩ hy
    cases S.par n (List.of_mem_zip hy).1 with
    | inl q => exact Or.inl q
    | inr q => exact Or.inr ⟨q, PySem.W.cellsFrom_some _ _ _ (Or.inl q)⟩
  refine codeAny_call_function hr.depth (inK _ _ lk) rfl S.co S.gen rfl (PySem.W.codeRec_of inK hcd) (hb _ _ _ _ ?_)
  apply wpAny_newFunctionEnv_cells S.kind kinds
  intro env henv s1 inC
  subst henv
  refine ⟨noLim.keeps inC.toInCall.keep, codeAny_func ?_⟩
  obtain ⟨t, ht, hq⟩ := hbody cdv A outer s H vs Q E (hr.deeper _) hgd hsp
  have I0 : Inv (cxOf CX0 P w K mg base N qual (defScope st) f cdv A outer s H E) [] (start N vs) H s1 :=
    inv_start S hr.hd e0 (len _ _ _ _ hsp) r inC
  refine wpAny_mono (ht.nox.run [] s1 (start N vs) H _ I0 hq) ?_ (fun _ _ z => z)
  intro fl s' hs
  match fl, hs with
  | .ret u, hs =>
    obtain ⟨v, σ', H', J, rv, q⟩ := hs
    exact ⟨v, H', J.os, J.bare, J.base, J.hok, rv, q⟩
  | .next, hs =>
    obtain ⟨σ', H', J, q⟩ := hs
    exact ⟨.non, H', J.os, J.bare, J.base, J.hok, rfl, q⟩
  | .brk, hs =>
    obtain ⟨_, _, _, q⟩ := hs
    exact q.elim
  | .cont, hs =>
    obtain ⟨_, _, _, q⟩ := hs
    exact q.elim
end

/-! ## repr of data -/
section
variable {X : Cx}
theorem call_reprD (hgd : X.A.guards = some []) (hu : X.A.units + 64 < cLine) :
    CallR X (.builtin "repr") (fun xs H Q => ∃ a d, xs = [.ref a] ∧ Dp X.K H (.ref a) d ∧ d.showable = true ∧
      d.hasDict = false ∧ d.depth ≤ 60 ∧ d.shown.length ≤ sizeLine ∧ Q (.str d.shown) H) := by
  intro pins s σ H xs us Q I r h
  obtain ⟨a, d, rfl, hd, hs, hn, hdp, hz, q⟩ := h
  obtain ⟨u, rfl, ru⟩ := vals1 r
  cases ru
  obtain ⟨as, rd⟩ := Dp.reads I d _ _ hd rfl
  exact repr_of_reads' rd hs (PyData.noDict_hsm hn) hgd (by omega) (fun _ _ z => z)
    (fun h' u tk hk => ⟨.str d.shown, H, I.kept hk, ⟨_, rfl⟩, q⟩) hz

/-! ## great powers -/
theorem op_powW : OpR X (binaryOp .Pow) (rI (fun i j => 0 ≤ j ∧ (Builtin.Int.intBits i : Int) * j ≤ 2 ^ 27) fun i j => .int (i ^ j.toNat)) :=
  opI fun _ _ _ _ _ _ _ hc q => pow_int hc.1 hc.2 q

/-! ## xs[::k], k 1 or -1 -/
def stepV (o : Option Int) (xs : List V) : List V := if o = some (-1) then xs.reverse else xs
def tStep (K : PySem.W.Frag) (te tk : TE) : TE := fun σ H Q => te σ H fun x H1 => tPart tk σ H1 fun o H2 =>
  ∃ a xs, x = .ref a ∧ (o = some 1 ∨ o = some (-1)) ∧ SqL K H2 a xs ∧ ∀ p, H2 p = none → Q (.ref p) (upd H2 p (.lst (stepV o xs)))
theorem slicePick_one (its : List Value) : slicePick its.toArray none none (some 1) = its.toArray := by
  have h := slicePick_cut its none none
  have e : slicePick its.toArray none none (some 1) = slicePick its.toArray none none none := rfl
  rw [e, h]
  simp [HT.sIx]

theorem pe_step {e st : Expr} {te tk : TE} {p3 pos : Pos} (he : PE X e te) (hst : PE X st tk)
    (hgo : ∀ v sl, subscripted (.Slice none none (some st) p3) false v sl = operate [v, sl] (getItem v sl) := by intro _ _; rfl)
    (hlt : ∀ v r, letTemporaryGo e v r = pure () := by intro _ _; rfl) :
    PE X (.Subscript e (.Slice none none (some st) p3) pos) (tStep X.K te tk) := by
  constructor
  intro pins s σ H Q I h
  apply Subscript_
  refine thn (he.run pins s σ H _ I h) ?_
  rintro v s1 ⟨x, H1, I1, r1, q1⟩
  apply wpAny_Slice
  refine thn (po_none.run pins s1 σ H1 (fun o H2 => o = none ∧ H2 = H1) I1 ⟨rfl, rfl⟩) ?_
  rintro vl s2 ⟨l, H2, I2, pl, rfl, rfl⟩
  refine thn (po_none.run pins s2 σ H2 (fun o H3 => o = none ∧ H3 = H2) I2 ⟨rfl, rfl⟩) ?_
  rintro vu s3 ⟨u, H3, I3, pu, rfl, rfl⟩
  refine thn ((po_some hst).run pins s3 σ H3 _ I3 q1) ?_
  rintro vs s4 ⟨o, H4, I4, ps, a, xs, rfl, hk, hx, q⟩
  cases r1
  have I5 : Inv X pins σ H4 { s4 with heap := s4.heap.push { cls := .type "slice", data := .fields #[vl, vu, vs] } } :=
    I4.kept (t' := s4.toks) fun b ob z => Heap.get?_push_of_some _ z
  obtain ⟨its, r, ht, hz⟩ := I5.list hx
  have hlen := r.length
  have fin : ∀ (ys : List V) (its' : List Value), Vals ys its' → ys.length ≤ sizeLine → (∀ p, H4 p = none → Q (.ref p) (upd H4 p (.lst ys))) →
      EP X pins σ Q (.ref (s4.heap.push { cls := .type "slice", data := .fields #[vl, vu, vs] }).objs.size)
        { s4 with heap := (s4.heap.push { cls := .type "slice", data := .fields #[vl, vu, vs] }).push { cls := .type "list", data := .seq its'.toArray } } := by
    intro ys its' rv hz' hq
    refine ⟨.ref _, _, I5.laid (t' := s4.toks) (o := .lst ys) (fun b ob z => Heap.get?_push_of_some _ z) (Nat.le_refl _) ?_, rfl, hq _ (I5.hok.fresh (Nat.le_refl _))⟩
    exact ⟨hz', its', 0, rv, Heap.get?_push_size _ rfl⟩
  have hgo' := hgo (.ref a) (.ref s4.heap.objs.size)
  refine tail_any (ops := [.ref a, .ref s4.heap.objs.size]) ht.isList.typeIs (PySem.slot_list_getitem.lookup) ?_ hgo'
  refine wpAny_getItem_list_slice ht.isList (Heap.IsSliceOf.new _ vl vu vs) pl pu ps (by rcases hk with rfl | rfl <;> decide) ?_ (by rw [List.size_toArray]; omega)
  rcases hk with rfl | rfl
  · rw [slicePick_one]
    have e : stepV (some 1) xs = xs := by simp [stepV]
    rw [e] at q
    exact fin xs its r hz q
  · rw [PySem.W.krv_pick]
    have e : stepV (some (-1)) xs = xs.reverse := by simp [stepV]
    rw [e] at q
    exact fin xs.reverse its.reverse (Vals.reverse r) (by rw [List.length_reverse]; exact hz) q

/-! ## count of a flat thing; d[k] |= e -/
def rCnt (K : PySem.W.Frag) : V → List V → Hp → VK → Prop := fun x vs H Q => ∃ (p : Addr) (xs : List V) (y : V),
  x = .ref p ∧ vs = [y] ∧ SqL K H p xs ∧ flatV y = true ∧ xs.all flatV = true ∧ Q (.int ((xs.countP fun z => eqV z y : Nat) : Int)) H
theorem countP_eqU {x : V} : ∀ {xs : List V} {us : List Value}, Vals xs us → xs.all flatV = true → us.countP (eqU x) = xs.countP fun y => eqV y x
  | _, _, .nil, _ => rfl
  | y :: xs, u :: us, .cons r t, hf => by
    rw [List.all_cons, Bool.and_eq_true] at hf
    rw [List.countP_cons, List.countP_cons, countP_eqU t hf.2, eqU_of r hf.1]
theorem mt_cnt : MtR X "list.count" (rCnt X.K) := by
  intro pins s σ H x xs v us Q I rx rxs h
  obtain ⟨p, ys, y, rfl, rfl, hs, hy, hf, q⟩ := h
  cases rx
  obtain ⟨u, rfl, ru⟩ := rxs.one
  obtain ⟨its, rv, ⟨⟨cls, dd, data, sl⟩, n, ho, hc, hdn, hd⟩, hlen⟩ := I.list hs
  simp only at hc hd
  subst hc hd
  refine call_meets PySem.F.slot_list_count ⟨_, ho, rfl⟩ PySem.F.entry_list_count (PySem.F.args_list_count_2 _ _)
    (SeqAt.list_countAt p its.toArray n dd sl u (eqU y)) ⟨ho, fun z hz => mem_eqAt ru hy rv hf z (by simpa using hz), ?_⟩
  refine ⟨.int ((ys.countP fun z => eqV z y : Nat) : Int), H, I.tok _, ⟨s.toks, ?_⟩, q⟩
  show Value.int ((its.toArray.toList.countP (eqU y) : Nat) : Int) s.toks = Value.int ((ys.countP fun z => eqV z y : Nat) : Int) s.toks
  rw [show its.toArray.toList = its from rfl, countP_eqU rv hf]
theorem in_or : InOp X .BitOr (rI0 fun i j => .int (Builtin.bitOr i j)) := by
  rintro pins s σ H x y u v Q I rx ry ⟨i, j, rfl, rfl, q⟩
  obtain ⟨t, rfl⟩ := (show ∃ t, u = Value.int i t from rx)
  obtain ⟨t', rfl⟩ := (show ∃ t', v = Value.int j t' from ry)
  exact ior_int ⟨.int _, H, I.tok _, ⟨_, rfl⟩, q⟩
end

/-! ## the end of a law whose def is a FnG -/
theorem law_callG {P : Program} {w : World} {K : PySem.W.Frag} {mg mb : Str → Option Value} {k : Nat} {fa a : Addr} {fd : FuncData} {x : Str} {sp : Sp} {s1 : Shared}
    {vs : List Value} {ns : List Int} (inK : K.In s1.heap) (gn : s1.heap.Ns mainGlobals mg) (bn : s1.heap.Ns builtinsNs mb)
    (bb : ∀ x : Str, x ≠ "__name__" → mb x = bootBuiltins x) (nl : s1.heap.NoLimit) (g0 : s1.gens = #[])
    (ha : s1.heap.get? a = some { cls := .type "list", data := .seq vs.toArray }) (hi : IntsAre vs ns) (hl : ns.length ≤ sizeLine) (hr : Room k callerA)
    (F : ∀ base : Heap, K.In base → base.Ns mainGlobals mg → FnG P w K mg base CX0 k fa fd [x] sp)
    (bnd : ∀ (s : Shared) (u : Value), BindsTo s fd ⟨[u], []⟩ [(x, u)])
    (hsp : ∀ H : Hp, Only H → SqL K H a (ns.map V.int) → sp [.ref a] H (fun v _ => v = .bl true) fun _ _ _ => False) :
    codeAny (model P w) callerA (.call (.ref fa) ⟨[.ref a], []⟩) (fun r s' => r = .ok (.ret (.bool true)) ∧ OldK s1.heap s'.heap ∧ s'.os = s1.os ∧ AllBare s'.gens) s1 := by
  have rel := vals_ints hi
  have vlen := hi.length
  have main : ∀ H : Hp, Only H → SqL K H a (ns.map V.int) → HOk P w H s1.heap → (∀ b u, H b = some u → b = a ∧ K.lookup a = none) →
      codeAny (model P w) callerA (.call (.ref fa) ⟨[.ref a], []⟩) (fun r s' => r = .ok (.ret (.bool true)) ∧ OldK s1.heap s'.heap ∧ s'.os = s1.os ∧ AllBare s'.gens) s1 := by
    intro H only hS hok own
    have undict : ∀ {b : Addr} {o : Obj} {es : Array DictEntry} {ep : Nat}, s1.heap.get? b = some o → o.data = .dict es ep → H b = none := by
      intro b o es ep e d
      match q : H b with
      | none => rfl
      | some u =>
        obtain ⟨rfl, _⟩ := own b u q
        rw [ha] at e
        cases e
        have d' : Data.seq vs.toArray _ = Data.dict es ep := d
        cases d'
    have nsOf : ∀ {b : Addr} {m : Str → Option Value}, s1.heap.Ns b m → (hidT s1.heap H).Ns b m :=
      fun ⟨o, es, ep, e, d, r⟩ => ⟨o, es, ep, hidT_get e (undict e d), d, r⟩
    have kIn : K.In (hidT s1.heap H) := by
      intro b o e
      refine hidT_get (inK b o e) ?_
      match q : H b with
      | none => rfl
      | some u =>
        obtain ⟨rfl, hk⟩ := own b u q
        rw [hk] at e
        cases e
    have modOk : Mod K mg (hidT s1.heap H) :=
      ⟨kIn, nsOf gn, ⟨mb, nsOf bn, bb⟩, let ⟨mc, h1, h2⟩ := nl; ⟨mc, nsOf h1, h2⟩⟩
    have env0 : Env0 P w K mg (hidT s1.heap H) callerA [] s1 H :=
      ⟨rfl, modOk, fun b o e => of_hidT e, Nat.le_of_eq (hidT_size _ _), trivial, fun b hb => absurd (show b ∈ ([] : List Addr) from hb) (by simp), hok, .of_eq g0⟩
    refine codeAny_mono ((F _ kIn (nsOf gn)).go callerA [] s1 H ⟨[.ref a], []⟩ [.ref a] [.ref a] _ _ hr rfl env0 (bnd s1 (.ref a)) (.cons rfl .nil) (hsp H only hS)) ?_
    intro r s' h
    match r, h with
    | .error e, h => exact h.elim
    | .ok .next, h => exact h.elim
    | .ok .brk, h => exact h.elim
    | .ok .cont, h => exact h.elim
    | .ok (.ret u), h =>
      obtain ⟨v, H', os, bare, un, hok', r', q⟩ := h
      obtain rfl : v = .bl true := q
      obtain rfl : u = Value.bool true := r'
      refine ⟨rfl, OldK.of_keep ?_, os, bare⟩
      intro b o e
      match q : H b with
      | none => exact un.keep b o e q (by intro z; exact absurd (show b ∈ ([] : List Addr) from z) (by simp)) (by simp)
      | some u =>
        rcases only b with z | ⟨ob, xs, z⟩
        · rw [q] at z; cases z
        · have e1 := (hok b _ z).1
          have e2 := (hok' b _ (un.frzs b ob _ z)).1
          rw [e] at e1
          cases e1
          exact e2
  match hk : K.lookup a with
  | some o =>
    have e := inK a o hk
    rw [ha] at e
    cases e
    refine main (fun _ => none) (fun _ => .inl rfl) (.inr ⟨_, vs.toArray, _, hk, rfl, rfl, rfl, by rw [List.size_toArray, vlen]; exact hl, by simpa using rel⟩) ?_ ?_
    · intro b u z
      have z' : (none : Option HO) = some u := z
      cases z'
    · intro b u z
      have z' : (none : Option HO) = some u := z
      cases z'
  | none =>
    let ob : Obj := { cls := .type "list", data := .seq vs.toArray }
    have at_a : ∀ {b : Addr} {u : HO}, (if b = a then some (HO.frz ob (.lst (ns.map V.int))) else none) = some u → b = a ∧ u = .frz ob (.lst (ns.map V.int)) := by
      intro b u z
      by_cases hb : b = a
      · rw [if_pos hb] at z
        exact ⟨hb, (Option.some.inj z).symm⟩
      · rw [if_neg hb] at z
        cases z
    refine main (fun b => if b = a then some (.frz ob (.lst (ns.map V.int))) else none) ?_ (.inl (.inr ⟨ob, if_pos rfl⟩)) ?_ ?_
    · intro b
      by_cases hb : b = a
      · exact .inr ⟨_, _, if_pos hb⟩
      · exact .inl (if_neg hb)
    · intro b u z
      obtain ⟨rfl, rfl⟩ := at_a z
      exact ⟨ha, by rw [List.length_map]; exact hl, vs, _, rel, ha⟩
    · intro b u z
      exact ⟨(at_a z).1, hk⟩

theorem walkG {l : PySem.W.OpenLaw} {n k : Nat} {q : Program} {loose : List Str} {XP : (Str → Option Value) → Heap → Prop} {YP : World → Heap → Prop} {d : DefRec} {K : Params → PySem.W.Frag} {sp : World → Sp} {x : Str}
    (hn : l.most = some n) (hn2 : n ≤ sizeLine) (hdf : d.params.defaults = []) (hr : Room k callerA)
    (hY : ∀ (w : World) (h : Heap), YP w h → (K w.params).In h)
    (F : ∀ (w : World) (mg : Str → Option Value) (fa : Addr) (h : Heap), (K w.params).In h → h.Ns mainGlobals mg → mg d.name = some (.ref fa) →
      ∃ fd : FuncData, (∀ (s : Shared) (u : Value), BindsTo s fd ⟨[u], []⟩ [(x, u)]) ∧
        ∀ base : Heap, (K w.params).In base → base.Ns mainGlobals mg → FnG l.prog w (K w.params) mg base CX0 k fa fd [x] (sp w))
    (hsp : ∀ (w : World) (H : Hp) (a : Addr) (ns : List Int), ns.length ≤ n → Only H → SqL (K w.params) H a (ns.map V.int) → sp w [.ref a] H (fun v _ => v = .bl true) fun _ _ _ => False) :
    PySem.W.WalkO q loose XP YP l.row.toRowW d [] (fun f vs => PySem.call f vs) := by
  apply Att.attach_call hn hdf
  intro w s0 s1 mg mb fa o pm cd doc a vs ns G Y ho hd hcd hmg hobj hints hlen hg
  obtain ⟨fd, hb, hF⟩ := F w mg fa _ (hY w _ Y) G.T.g hmg
  exact law_callG (hY w _ Y) G.T.g G.T.b G.T.builtins G.T.nolimit hg hobj hints (Nat.le_trans hlen hn2) hr hF hb fun H hO hS => hsp w H a ns hlen hO hS

end
end Fo
/-! piece Aux2 -/
namespace Fo
open PySem PySem.Spec PyProof.Rows L2
/-- a def of the text that may be called by its name -/
structure Cal (P : Program) (w : World) (K : PySem.W.Frag) (mg : Str → Option Value) (base : Heap) (x : Str) (k : Nat) (ps : List Str) (sp : Sp) : Prop where
  ex : ∃ (f : Addr) (fd : FuncData), FnOk P w K mg base CX0 k f fd ps sp ∧ mg x = some (.ref f) ∧ PySem.W.keepIn K (.ref f) = true ∧ Binds K fd ps []
section
variable {X : Cx} {x : Str} {p pos : Pos} {e : Expr} {es : List Expr} {t : TA} {k j : Nat} {ps : List Str} {sp : Sp}
theorem pe_cal (C : Cal X.prog X.w X.K X.mg X.base x k ps sp) (hr : Room j X.A) (hkj : k ≤ j) (hg : Gl X x) (ha : PA X (e :: es) t)
    (hdb : (x == ("__debug__" : Str)) = false := by decide)
    (he : starEach (e :: es) X.env = (false, eval e X.env) :: starEach es X.env := by rfl)
    (hpl : (backTo pos (starEach es X.env)).any (·.1) = false := by rfl) :
    PE X (.Call (.Name x p) (e :: es) [] pos) (tCall sp [] E0 t) := by
  obtain ⟨f, fd, F, hm, hk, hb⟩ := C.ex
  exact pe_call F (hr.mono hkj) hg hm hk hb .nil pass0 ha hdb he hpl
end
theorem opAdd {X : Cx} : OpR X (binaryOp .Add) (fun x y H Q => rI0 (fun i j => .int (i + j)) x y H Q ∨ rCat x y H Q) := op_add.or op_cat
end Fo
namespace Fo
open PySem PySem.Spec PyProof.Rows L2
theorem mk_body {X : Cx} {b : List Stmt} {t : TS} {D : Ends} {σ : L2.St} {H : Hp} (h : PSs X b t) (r : t D σ H) : ∃ t, PSs X b t ∧ t D σ H := ⟨t, h, r⟩
end Fo
namespace Fo
open PySem PySem.Spec PyProof.Rows L2
def gOr (g g' : TG) : TG := fun v σ H Q => g v σ H Q ∨ g' v σ H Q
theorem PG_or {X : Cx} {tg : Expr} {g g' : TG} (h : PG X tg g) (h' : PG X tg g') : PG X tg (gOr g g') := by
  constructor
  intro pins s σ H v u Q I r q
  rcases q with q | q
  · exact h.run pins s σ H v u Q I r q
  · exact h'.run pins s σ H v u Q I r q
end Fo
namespace Fo
open PySem PySem.Spec PyProof.Rows L2
def ownOf (N : List Str) (sc : Scope) : List (Str × Nat) := sc.names.filterMap fun y => match y.2 with
  | .local => (N.idxOf? y.1).map fun i => (y.1, i)
  | .cell => (N.idxOf? y.1).map fun i => (y.1, i)
  | _ => none
section
variable {X : Cx}
theorem pe_lcO {N ps : List Str} {sc : Scope} {elt tg iter : Expr} {ifs : List Expr} {scope : Scope} {pos : Pos} {wi : TI} {g : TG} {tt : TT} {te : TE} {vs : List Nat}
    (S : FnScope N ps sc) (hXN : X.N = N) (hXs : X.env.scope = sc)
    (hv : (ownOf N scope).map (·.2) = vs) (hb : blkC N sc scope (ownOf N scope) = true) (hc : X.calm = true) (hi : PI X tg iter wi)
    (hg : ∀ (s : Shared) (H : Hp) (C : Addr) (cl : List (Str × Addr)) (fp : List Addr), PG (X.blk s H scope (compEnvC scope cl C X.env) fp) tg g)
    (ht : ∀ (s : Shared) (H : Hp) (C : Addr) (cl : List (Str × Addr)) (fp : List Addr), PTs (X.blk s H scope (compEnvC scope cl C X.env) fp) ifs tt)
    (he : ∀ (s : Shared) (H : Hp) (C : Addr) (cl : List (Str × Addr)) (fp : List Addr), PE (X.blk s H scope (compEnvC scope cl C X.env) fp) elt te)
    (hs : ∀ x, foldedSetIterable iter X.env x = pure x := by intro _; rfl) :
    PE X (.ListComp elt [⟨tg, iter, ifs, 0⟩] scope pos) (tLc wi g tt te vs) := by
  subst hv
  refine pe_lc hc (by rw [hXN]; exact S.nd) hi ?_ hg ht he hs
  rw [hXN, hXs]
  exact blkOk_by hb
theorem ps_setLcO {N ps : List Str} {sc : Scope} {i : Nat} {y : Str} {py : Pos} {elt tg iter : Expr} {ifs : List Expr} {scope : Scope} {pos spos : Pos} {wi : TI} {g : TG} {tt : TT} {te : TE} {vs : List Nat}
    (S : FnScope N ps sc) (hXN : X.N = N) (hXs : X.env.scope = sc)
    (hv : (ownOf N scope).map (·.2) = vs) (hb : blkC N sc scope (ownOf N scope) = true) (hc : X.calm = true) (hy : X.N[i]? = some y)
    (hyl : X.env.scope.names.lookup y = some .local)
    (hsw : swapsWith (.ListComp elt [⟨tg, iter, ifs, 0⟩] scope pos) (some (.Name y py)) spos.line X.env = pure true) (hi : PI X tg iter wi)
    (hg : ∀ (s : Shared) (H : Hp) (C : Addr) (cl : List (Str × Addr)) (fp : List Addr), PG (X.blk s H scope (compEnvC scope cl C X.env) fp) tg g)
    (ht : ∀ (s : Shared) (H : Hp) (C : Addr) (cl : List (Str × Addr)) (fp : List Addr), PTs (X.blk s H scope (compEnvC scope cl C X.env) fp) ifs tt)
    (he : ∀ (s : Shared) (H : Hp) (C : Addr) (cl : List (Str × Addr)) (fp : List Addr), PE (X.blk s H scope (compEnvC scope cl C X.env) fp) elt te)
    (hs : ∀ x, foldedSetIterable iter X.env x = pure x := by intro _; rfl) :
    PS X (.Assign [.Name y py] (.ListComp elt [⟨tg, iter, ifs, 0⟩] scope pos) spos) (tAsg (tLc wi g tt te vs) (gName i)) := by
  subst hv
  refine ps_setLc hc (by rw [hXN]; exact S.nd) hy hyl hsw hi ?_ hg ht he hs
  rw [hXN, hXs]
  exact blkOk_by hb
end
end Fo
namespace Fo
open PySem PySem.Spec PyProof.Rows L2
/-! rules whose reading names the written part by a letter of its own, for a comprehension's block -/
structure KMark (K : PySem.W.Frag) : Prop where
  mk ::
section
variable {X : Cx} {K : PySem.W.Frag}
theorem ix_seqK (_ : KMark K) (h : X.K = K) : IxR X (rIx K) := h ▸ ix_seq
theorem op_inK (_ : KMark K) (h : X.K = K) : OpR X (compareOp .In) (rIn K false) := h ▸ op_in_seq
theorem op_notInK (_ : KMark K) (h : X.K = K) : OpR X (compareOp .NotIn) (rIn K true) := h ▸ op_notIn_seq
def rEqB (K : PySem.W.Frag) : R2 := fun x y H Q => rEq x y H Q ∨ rEqD K x y H Q
def rNeB (K : PySem.W.Frag) : R2 := fun x y H Q => rNe x y H Q ∨ rNeD K x y H Q
theorem op_eqK (_ : KMark K) (h : X.K = K) (hu : X.A.units + 64 < cLine) : OpR X (compareOp .Eq) (rEqB K) := h ▸ op_eq.or (op_eqD hu)
theorem op_neK (_ : KMark K) (h : X.K = K) (hu : X.A.units + 64 < cLine) : OpR X (compareOp .NotEq) (rNeB K) := h ▸ op_ne.or (op_neD hu)
def cListOf (K : PySem.W.Frag) : List V → Hp → VK → Prop := fun xs H Q => ∃ p ys, xs = [.ref p] ∧ (SqL K H p ys ∨ SqT K H p ys) ∧ ∀ l, H l = none → Q (.ref l) (upd H l (.lst ys))
def cLen (K : PySem.W.Frag) : List V → Hp → VK → Prop := fun xs H Q => ∃ p ys, xs = [.ref p] ∧ (SqL K H p ys ∨ SqT K H p ys) ∧ Q (.int ys.length) H
theorem call_listK (_ : KMark K) (h : X.K = K) : CallR X (.type "list") (cListOf K) := h ▸ call_list_of
theorem call_lenK (_ : KMark K) (h : X.K = K) : CallR X (.builtin "len") (cLen K) := h ▸ call_len_seq
theorem cr_sortedK (_ : KMark K) (h : X.K = K) : CallR X (.builtin "sorted") (rSorted K) := h ▸ cr_sorted
def cRepr (K : PySem.W.Frag) : List V → Hp → VK → Prop := fun xs H Q => ∃ a d, xs = [.ref a] ∧ Dp K H (.ref a) d ∧ d.showable = true ∧ d.hasDict = false ∧ d.depth ≤ 60 ∧ d.shown.length ≤ sizeLine ∧ Q (.str d.shown) H
theorem call_reprK (_ : KMark K) (h : X.K = K) (hgd : X.A.guards = some []) (hu : X.A.units + 64 < cLine) : CallR X (.builtin "repr") (cRepr K) := h ▸ call_reprD hgd hu
def rAddB : R2 := fun x y H Q => rI0 (fun i j => .int (i + j)) x y H Q ∨ rCat x y H Q
theorem opAddB : OpR X (binaryOp .Add) rAddB := op_add.or op_cat
theorem pi_listK {tg l : Expr} {tl : TE} (_ : KMark K) (h : X.K = K) (hl : PE X l tl) : PI X tg l (iList K tl) := h ▸ pi_list hl
theorem pg_tup2 {a b : Expr} {k : Nat} {pos : Pos} {t : TGs} (_ : KMark K) (h : X.K = K) (hc : X.calm = true) (hg : PGs X [a, b] t)
    (hn : (assignEach [a, b] X.env).length = 2 := by rfl) (hst : (assignEach [a, b] X.env).findIdx? (·.1) = none := by rfl) : PG X (.Tuple [a, b] k pos) (gTup K 2 t) := h ▸ pg_tup hc hg hn hst
theorem pg_unl2 {a b : Expr} {k : Nat} {pos : Pos} {t : TGs} (_ : KMark K) (h : X.K = K) (hc : X.calm = true) (hg : PGs X [a, b] t)
    (hn : (assignEach [a, b] X.env).length = 2 := by rfl) (hst : (assignEach [a, b] X.env).findIdx? (·.1) = none := by rfl) : PG X (.Tuple [a, b] k pos) (gUnl K 2 t) := h ▸ pg_unl hc hg hn hst
theorem pe_stepK {e st : Expr} {te tk : TE} {p3 pos : Pos} (_ : KMark K) (h : X.K = K) (he : PE X e te) (hst : PE X st tk)
    (hgo : ∀ v sl, subscripted (.Slice none none (some st) p3) false v sl = operate [v, sl] (getItem v sl) := by intro _ _; rfl)
    (hlt : ∀ v r, letTemporaryGo e v r = pure () := by intro _ _; rfl) : PE X (.Subscript e (.Slice none none (some st) p3) pos) (tStep K te tk) := h ▸ pe_step he hst hgo hlt
theorem sl_listK (_ : KMark K) (h : X.K = K) : SlR X (rSlL K) := h ▸ sl_list
theorem mt_cntK (_ : KMark K) (h : X.K = K) : MtR X "list.count" (rCnt K) := h ▸ mt_cnt
def tTruth (K : PySem.W.Frag) (ta : TE) : TT := fun σ H Q => ta σ H fun x H' => ∃ k, TruV K x H' k ∧ Q k H'
theorem pt_truthK {a : Expr} {ta : TE} (_ : KMark K) (h : X.K = K) (ha : PE X a ta) (he : ∀ whole, isTrue a X.env whole = (do let v ← whole; standAt a.pos; holding [v] (truthy v))) : PT X a (tTruth K ta) := h ▸ pt_truth ha he
def cInt : List V → Hp → VK → Prop := fun xs H Q => (∃ i, xs = [.int i] ∧ Q (.int i) H) ∨ ∃ k, xs = [.bl k] ∧ Q (.int (if k then 1 else 0)) H
theorem call_intB : CallR X (.type "int") cInt := call_int1
end
end Fo

namespace Fo
open PySem PySem.Spec PyProof.Rows L2
/-! piece Text1 -/
section
open PySem PySem.Spec PyProof.Rows L2
def topS (i : Nat) : Stmt := PySem.Challenge.pw_foldednets_k51_whole_turns_told_by_round.main.body.getD i (.Pass ⟨0, 0, 0, 0⟩)
abbrev s_is_place : Stmt := topS 6
theorem sc_is_place : FnScope ["place", "places"] ["place", "places"] (defScope s_is_place) := ⟨rfl, rfl, rfl, by decide +kernel, rfl, by decide +kernel, by decide +kernel⟩
abbrev s_read_net : Stmt := topS 7
theorem sc_read_net : FnScope ["places", "lines", "bits", "place", "near", "at", "line", "low", "high"] ["places", "lines"] (defScope s_read_net) := ⟨rfl, rfl, rfl, by decide +kernel, rfl, by decide +kernel, by decide +kernel⟩
abbrev s_check_place : Stmt := topS 8
theorem sc_check_place : FnScope ["near", "place"] ["near", "place"] (defScope s_check_place) := ⟨rfl, rfl, rfl, by decide +kernel, rfl, by decide +kernel, by decide +kernel⟩
abbrev s_whole_lot : Stmt := topS 9
theorem sc_whole_lot : FnScope ["near"] ["near"] (defScope s_whole_lot) := ⟨rfl, rfl, rfl, by decide +kernel, rfl, by decide +kernel, by decide +kernel⟩
abbrev s_members : Stmt := topS 10
theorem sc_members : FnScope ["lot", "place"] ["lot"] (defScope s_members) := ⟨rfl, rfl, rfl, by decide +kernel, rfl, by decide +kernel, by decide +kernel⟩
abbrev s_first_target : Stmt := topS 11
theorem sc_first_target : FnScope ["near", "lot", "place", "mine", "other", "theirs"] ["near", "lot", "place"] (defScope s_first_target) := ⟨rfl, rfl, rfl, by decide +kernel, rfl, by decide +kernel, by decide +kernel⟩
abbrev s_fold_around : Stmt := topS 12
theorem sc_fold_around : FnScope ["near", "held", "lot", "pairs", "folded", "place", "other"] ["near", "held"] (defScope s_fold_around) := ⟨rfl, rfl, rfl, by decide +kernel, rfl, by decide +kernel, by decide +kernel⟩
abbrev s_turns_to_catch : Stmt := topS 14
theorem sc_turns_to_catch : FnScope ["places", "lines", "seeker", "fleer", "turns", "_"] ["places", "lines", "seeker", "fleer"] (defScope s_turns_to_catch) := ⟨rfl, rfl, rfl, by decide +kernel, rfl, by decide +kernel, by decide +kernel⟩
abbrev s_best_starts : Stmt := topS 15
theorem sc_best_starts : FnScope ["places", "lines", "near", "answers", "lot", "turns", "before", "sure", "best"] ["places", "lines"] (defScope s_best_starts) := ⟨rfl, rfl, rfl, by decide +kernel, rfl, by decide +kernel, by decide +kernel⟩
abbrev s_read_both : Stmt := topS 16
theorem sc_read_both : FnScope ["places", "lines", "seeker", "fleer", "near"] ["places", "lines", "seeker", "fleer"] (defScope s_read_both) := ⟨rfl, rfl, rfl, by decide +kernel, rfl, by decide +kernel, by decide +kernel⟩
abbrev s_best_going : Stmt := topS 17
theorem sc_best_going : FnScope ["near", "seeker", "fleer", "answers", "lot", "turns", "before", "sure", "traps", "goals"] ["near", "seeker", "fleer"] (defScope s_best_going) := ⟨rfl, rfl, rfl, by decide +kernel, rfl, by decide +kernel, by decide +kernel⟩
abbrev s_same_places : Stmt := topS 18
theorem sc_same_places : FnScope ["near", "place"] ["near"] (defScope s_same_places) := ⟨rfl, rfl, rfl, by decide +kernel, rfl, by decide +kernel, by decide +kernel⟩
abbrev s_traps : Stmt := topS 19
theorem sc_traps : FnScope ["answers", "sure", "place"] ["answers", "sure"] (defScope s_traps) := ⟨rfl, rfl, rfl, by decide +kernel, rfl, by decide +kernel, by decide +kernel⟩
abbrev s_one_turn_ahead : Stmt := topS 20
theorem sc_one_turn_ahead : FnScope ["near", "traps", "sure", "lot", "beside", "place"] ["near", "traps"] (defScope s_one_turn_ahead) := ⟨rfl, rfl, rfl, by decide +kernel, rfl, by decide +kernel, by decide +kernel⟩
abbrev s_common : Stmt := topS 21
theorem sc_common : FnScope ["lots", "places", "lot", "place"] ["lots", "places"] (defScope s_common) := ⟨rfl, rfl, rfl, by decide +kernel, rfl, by decide +kernel, by decide +kernel⟩
abbrev s_full_order : Stmt := topS 23
theorem sc_full_order : FnScope ["places", "lines"] ["places", "lines"] (defScope s_full_order) := ⟨rfl, rfl, rfl, by decide +kernel, rfl, by decide +kernel, by decide +kernel⟩
abbrev s_end_size : Stmt := topS 24
theorem sc_end_size : FnScope ["places", "lines"] ["places", "lines"] (defScope s_end_size) := ⟨rfl, rfl, rfl, by decide +kernel, rfl, by decide +kernel, by decide +kernel⟩
abbrev s_order_around : Stmt := topS 25
theorem sc_order_around : FnScope ["near", "held", "_", "pairs", "place"] ["near", "held"] (defScope s_order_around) := ⟨rfl, rfl, rfl, by decide +kernel, rfl, by decide +kernel, by decide +kernel⟩
abbrev s_rounds_left : Stmt := topS 27
theorem sc_rounds_left : FnScope ["places", "lines", "lot"] ["places", "lines"] (defScope s_rounds_left) := ⟨rfl, rfl, rfl, by decide +kernel, rfl, by decide +kernel, by decide +kernel⟩
abbrev s_middle : Stmt := topS 28
theorem sc_middle : FnScope ["places", "lines"] ["places", "lines"] (defScope s_middle) := ⟨rfl, rfl, rfl, by decide +kernel, rfl, by decide +kernel, by decide +kernel⟩
abbrev s_lots_by_rounds : Stmt := topS 29
theorem sc_lots_by_rounds : FnScope ["near", "lots", "lot"] ["near"] (defScope s_lots_by_rounds) := ⟨rfl, rfl, rfl, by decide +kernel, rfl, by decide +kernel, by decide +kernel⟩
abbrev s_lot_behind_round : Stmt := topS 30
theorem sc_lot_behind_round : FnScope ["near", "lot", "beside", "place", "left", "mine", "theirs"] ["near", "lot"] (defScope s_lot_behind_round) := ⟨rfl, rfl, rfl, by decide +kernel, rfl, by decide +kernel, by decide +kernel⟩
abbrev s_beside : Stmt := topS 32
theorem sc_beside : FnScope ["places", "lines", "place", "near"] ["places", "lines", "place"] (defScope s_beside) := ⟨rfl, rfl, rfl, by decide +kernel, rfl, by decide +kernel, by decide +kernel⟩
abbrev s_product : Stmt := topS 33
theorem sc_product : FnScope ["places", "lines", "more", "ties", "near", "near_more"] ["places", "lines", "more", "ties"] (defScope s_product) := ⟨rfl, rfl, rfl, by decide +kernel, rfl, by decide +kernel, by decide +kernel⟩
abbrev s_product_lines : Stmt := topS 34
theorem sc_product_lines : FnScope ["near", "near_more", "more", "firsts", "lot", "seconds", "lines", "first", "rows", "one", "second", "low", "row", "two"] ["near", "near_more"] (defScope s_product_lines) := ⟨rfl, rfl, rfl, by decide +kernel, rfl, by decide +kernel, by decide +kernel⟩
abbrev s_law_draws : Stmt := topS 36
theorem sc_law_draws : FnScope ["_law_cell"] ["_law_cell"] (defScope s_law_draws) := ⟨rfl, rfl, rfl, by decide +kernel, rfl, by decide +kernel, by decide +kernel⟩
abbrev s_law_next : Stmt := topS 37
theorem sc_law_next : FnScope ["_law_draws_here", "_law_k", "_law_drawn"] ["_law_draws_here"] (defScope s_law_next) := ⟨rfl, rfl, rfl, by decide +kernel, rfl, by decide +kernel, by decide +kernel⟩
abbrev s_law_shuffled : Stmt := topS 38
theorem sc_law_shuffled : FnScope ["_law_draws_here", "_law_things", "_law_left", "_law_told"] ["_law_draws_here", "_law_things"] (defScope s_law_shuffled) := ⟨rfl, rfl, rfl, by decide +kernel, rfl, by decide +kernel, by decide +kernel⟩
abbrev s_law_grown : Stmt := topS 39
theorem sc_law_grown : FnScope ["_law_draws_here", "_law_size", "_law_sides", "_law_start", "_law_told", "_law_side", "_law_spot", "_law_goal", "_law_some", "_law_low", "_law_high", "_law_mate"] ["_law_draws_here", "_law_size", "_law_sides", "_law_start"] (defScope s_law_grown) := ⟨rfl, rfl, rfl, by decide +kernel, rfl, by decide +kernel, by decide +kernel⟩
abbrev s_law_web : Stmt := topS 40
theorem sc_law_web : FnScope ["_law_draws_here", "_law_size", "_law_kind", "_law_step", "_law_told", "_law_low", "_law_high", "_law_far", "_law_ring", "_law_spot", "_law_names", "_law_side"] ["_law_draws_here", "_law_size", "_law_kind"] (defScope s_law_web) := ⟨rfl, rfl, rfl, by decide +kernel, rfl, by decide +kernel, by decide +kernel⟩
abbrev s_law_due : Stmt := topS 41
theorem sc_law_due : FnScope ["_law_size", "_law_sides", "_law_lots", "_law_last", "_law_open_now", "_law_spot", "_law_some", "_law_mate"] ["_law_size", "_law_sides"] (defScope s_law_due) := ⟨rfl, rfl, rfl, by decide +kernel, rfl, by decide +kernel, by decide +kernel⟩
abbrev s_law_right : Stmt := topS 42
theorem sc_law_right : FnScope ["_law_size", "_law_sides", "_law_before", "_law_due_here", "_law_told", "_law_spot"] ["_law_size", "_law_sides"] (defScope s_law_right) := ⟨rfl, rfl, rfl, by decide +kernel, rfl, by decide +kernel, by decide +kernel⟩
abbrev s_law_product_right : Stmt := topS 43
theorem sc_law_product_right : FnScope ["_law_draws_here", "_law_size", "_law_sides", "_law_far", "_law_bars", "_law_many_now", "_law_lines_now", "_law_turn", "_law_one", "_law_two", "_law_both", "_law_due_here"] ["_law_draws_here", "_law_size", "_law_sides", "_law_far", "_law_bars"] (defScope s_law_product_right) := ⟨rfl, rfl, rfl, by decide +kernel, rfl, by decide +kernel, by decide +kernel⟩
abbrev s_law : Stmt := topS 44
theorem sc_law : FnScope ["_law_script", "_law_draws_here", "_law_cell", "_law_kind", "_law_size", "_law_far", "_law_sides", "_law_bars", "_law_row", "_law_spot", "_law_seven", "_law_told", "_law_ring"] ["_law_script"] (defScope s_law) := ⟨rfl, rfl, rfl, by decide +kernel, rfl, by decide +kernel, by decide +kernel⟩

end
end Fo
/-! piece Dat -/
namespace Fo
open PySem PySem.Spec PyProof.Rows L2
/-! ## plain data: may be compared and shown -/
structure DOk (n b : Nat) (d : PyData) : Prop where
  lay : d.canLay0 = true
  dep : d.depth ≤ n
  sh : d.showable = true
  nd : d.hasDict = false
  len : d.shown.length ≤ b
theorem DOk.mono {n m b c : Nat} {d : PyData} (h : DOk n b d) (hn : n ≤ m) (hb : b ≤ c) : DOk m c d :=
  ⟨h.lay, Nat.le_trans h.dep hn, h.sh, h.nd, Nat.le_trans h.len hb⟩
theorem DOk.shaped {n b : Nat} {d : PyData} (h : DOk n b d) (hn : n ≤ 64) : SeqAt.shaped d = true := by
  unfold SeqAt.shaped
  rw [h.lay, decide_eq_true (Nat.le_trans h.dep hn)]
  rfl
theorem dok_none : DOk 0 4 .none := ⟨rfl, Nat.le_refl _, rfl, rfl, by decide⟩
theorem dok_bool (k : Bool) : DOk 0 5 (.bool k) := by cases k <;> exact ⟨rfl, Nat.le_refl _, rfl, rfl, by decide⟩
theorem natLen : ∀ n : Fin 1000, (PyData.shown (.int (Int.ofNat n.val))).length ≤ 4 ∧ (PyData.shown (.int (Int.negSucc n.val))).length ≤ 5 := by decide +kernel
theorem dok_int {i : Int} (h : i.natAbs < 1000) : DOk 0 5 (.int i) := by
  refine ⟨rfl, Nat.le_refl _, ?_, rfl, ?_⟩
  · unfold PyData.showable
    apply decide_eq_true
    have h1 : i.natAbs.log2 ≤ i.natAbs := Nat.log2_le_self _
    omega
  · cases i with
    | ofNat n => exact Nat.le_trans (natLen ⟨n, h⟩).1 (by decide)
    | negSucc n => exact (natLen ⟨n, by simp [Int.natAbs_negSucc] at h; omega⟩).2
theorem textFrom_le : ∀ (ts : List Str) (k : Nat) (acc : Str), (textFrom k acc ts).length ≤ acc.length + piled ts
  | [], k, acc => by
    show acc.length ≤ acc.length + piled []
    rw [piled_nil]
    exact Nat.le_refl _
  | t :: r, k, acc => by
    have h := textFrom_le r (k + 1) (acc ++ (if k > 0 then ", " else "" : String) ++ t)
    have e : (acc ++ (if k > 0 then ", " else "" : String) ++ t).length ≤ acc.length + 2 + t.length := by
      rw [strLen_append, strLen_append]
      split
      · exact Nat.le_refl _
      · exact Nat.add_le_add_right (Nat.add_le_add_left (Nat.zero_le _) _) _
    rw [piled_cons]
    show (textFrom (k + 1) _ r).length ≤ _
    omega
theorem listText_le (ts : List Str) : (listText ts).length ≤ 2 + piled ts := by
  have h := textFrom_le ts 0 "["
  unfold listText
  rw [strLen_append]
  have e1 : (Str.ofString "[").length = 1 := rfl
  have e2 : (Str.ofString "]").length = 1 := rfl
  omega
theorem tupleText_le (ts : List Str) : (tupleText ts).length ≤ 3 + piled ts := by
  unfold tupleText
  rw [strLen_append, strLen_append]
  have e1 : (Str.ofString "(").length = 1 := rfl
  have e3 : (Str.ofString (if ts.length == 1 then ",)" else ")")).length ≤ 2 := by split <;> decide
  by_cases h : ts = []
  · subst h
    have : (Str.join ", " ([] : List Str)).length = 0 := rfl
    omega
  · have := join_length_add ts h
    omega
theorem all_of {n b : Nat} : ∀ {xs : List PyData}, (∀ x ∈ xs, DOk n b x) → PyData.canLayAll0 xs = true ∧ PyData.depthAll xs ≤ n ∧ PyData.showableAll xs = true ∧ PyData.hasDictAll xs = false ∧ piled (PyData.shownAll xs) ≤ xs.length * (b + 2)
  | [], _ => ⟨rfl, Nat.zero_le _, rfl, rfl, by show piled [] ≤ _; rw [piled_nil]; exact Nat.zero_le _⟩
  | x :: xs, h => by
    obtain ⟨h1, h2, h3, h4, h5⟩ := all_of (xs := xs) fun y hy => h y (List.mem_cons_of_mem _ hy)
    have hx := h x (List.mem_cons_self ..)
    refine ⟨?_, ?_, ?_, ?_, ?_⟩
    · unfold PyData.canLayAll0; rw [hx.lay, h1]; rfl
    · unfold PyData.depthAll; exact Nat.max_le.mpr ⟨hx.dep, h2⟩
    · unfold PyData.showableAll; rw [hx.sh, h3]; rfl
    · unfold PyData.hasDictAll; rw [hx.nd, h4]; rfl
    · show piled (PyData.shown x :: PyData.shownAll xs) ≤ (xs.length + 1) * (b + 2)
      rw [piled_cons, Nat.succ_mul]
      have := hx.len
      omega
theorem dok_list {n b : Nat} {xs : List PyData} (h : ∀ x ∈ xs, DOk n b x) : DOk (n + 1) (2 + xs.length * (b + 2)) (.list xs) := by
  obtain ⟨h1, h2, h3, h4, h5⟩ := all_of h
  refine ⟨?_, ?_, ?_, ?_, ?_⟩
  · unfold PyData.canLay0; exact h1
  · unfold PyData.depth; omega
  · unfold PyData.showable; exact h3
  · unfold PyData.hasDict; exact h4
  · unfold PyData.shown; exact Nat.le_trans (listText_le _) (by omega)
theorem dok_tuple {n b : Nat} {xs : List PyData} (h : ∀ x ∈ xs, DOk n b x) : DOk (n + 1) (3 + xs.length * (b + 2)) (.tuple xs) := by
  obtain ⟨h1, h2, h3, h4, h5⟩ := all_of h
  refine ⟨?_, ?_, ?_, ?_, ?_⟩
  · unfold PyData.canLay0; exact h1
  · unfold PyData.depth; omega
  · unfold PyData.showable; exact h3
  · unfold PyData.hasDict; exact h4
  · unfold PyData.shown; exact Nat.le_trans (tupleText_le _) (by omega)
theorem eqv_list_nil (ds : List PyData) : PyData.eqv (.list ds) (.list []) = ds.isEmpty := by
  cases ds <;> simp [PyData.eqv, PyData.eqvAll]

section
variable {K : PySem.W.Frag} {H H' : Hp}
theorem dp_ints : ∀ xs : List Int, DpAll K H (xs.map V.int) (xs.map PyData.int)
  | [] => .nil
  | x :: xs => .cons (.int x) (dp_ints xs)
theorem dpAll_of {f : V → PyData} : ∀ {xs : List V}, (∀ x ∈ xs, Dp K H x (f x)) → DpAll K H xs (xs.map f)
  | [], _ => .nil
  | x :: xs, h => .cons (h x (List.mem_cons_self ..)) (dpAll_of fun y hy => h y (List.mem_cons_of_mem _ hy))
end
end Fo
namespace Fo
open PySem PySem.Spec PyProof.Rows L2
theorem ifF {b : Bool} {A B : Prop} (e : b = false) (h : B) : if b = true then A else B := by
  rw [e, if_neg Bool.false_ne_true]
  exact h
theorem ifT {b : Bool} {A B : Prop} (e : b = true) (h : A) : if b = true then A else B := by
  rw [if_pos e]
  exact h
theorem perm_erase {α : Type} : ∀ {l : List α} {j : Nat} {y : α}, l[j]? = some y → (y :: l.eraseIdx j).Perm l
  | [], _, _, h => by simp at h
  | a :: r, 0, y, h => by
    simp at h
    subst h
    exact List.Perm.refl _
  | a :: r, j + 1, y, h => by
    simp only [List.getElem?_cons_succ] at h
    exact (List.Perm.swap a y _).trans (List.Perm.cons a (perm_erase h))
theorem perm_move {α : Type} {ts ls xs : List α} {j : Nat} {y : α} (h : ls[j]? = some y) (p : (ts ++ ls).Perm xs) : ((ts ++ [y]) ++ ls.eraseIdx j).Perm xs := by
  refine List.Perm.trans ?_ p
  rw [List.append_assoc]
  exact List.Perm.append_left ts (perm_erase h)
/-- an index that is a remainder by the length -/
theorem mod_ix {n : Int} {len : Nat} (h : 0 < len) : ∃ j, j < len ∧ n % (len : Int) = (j : Int) := by
  have h1 := Int.emod_nonneg n (show (len : Int) ≠ 0 by omega)
  have h2 := Int.emod_lt_of_pos n (show (0 : Int) < len by omega)
  exact ⟨(n % (len : Int)).toNat, by omega, by omega⟩
theorem seqIx {j len : Nat} (h : j < len) : PySem.seqIndex? (j : Int) len = some j := by
  have h1 : ixN len (j : Int) = some j := by
    unfold ixN
    rw [if_pos (by omega), if_pos (by omega)]
    rfl
  exact (ixN_seq h1).1
end Fo
namespace Fo
open PySem PySem.Spec PyProof.Rows L2
theorem same_upd {H0 H : Hp} {r : Addr} {o : HO} (s : Same H0 H) (h : H0 r = none) : Same H0 (upd H r o) := fun b x e => by
  rw [upd_ne (ne_of_none e h)]
  exact s b x e
/-- lists of numbers of our own, in a list of our own -/
structure LsAt (H0 H : Hp) (D : Addr) (rs : List Addr) (ts : List (List Int)) : Prop where
  hD : H D = some (.lst (rs.map V.ref))
  nd : rs.Nodup
  len : rs.length = ts.length
  at_ : ∀ (i : Nat) (r : Addr) (t : List Int), rs[i]? = some r → ts[i]? = some t → H r = some (.lst (t.map V.int))
  fr : ∀ r ∈ rs, H0 r = none
  nD : D ∉ rs
theorem LsAt.trk {H0 H : Hp} {D : Addr} {rs : List Addr} {ts : List (List Int)} (L : LsAt H0 H D rs ts) {r : Addr} (h : r ∈ rs) : ∃ o, H r = some o := by
  obtain ⟨i, hi⟩ := List.getElem?_of_mem h
  have hl : i < ts.length := by rw [← L.len]; exact (List.getElem?_eq_some_iff.mp hi).1
  exact ⟨_, L.at_ i r _ hi (List.getElem?_eq_getElem hl)⟩
theorem LsAt.nil {H0 H : Hp} {D : Addr} (h : H D = some (.lst [])) : LsAt H0 H D [] [] :=
  ⟨h, List.nodup_nil, rfl, (fun i r t h _ => by simp at h), (fun r h => nomatch h), (fun h => nomatch h)⟩
theorem LsAt.push {H0 H : Hp} {D r : Addr} {rs : List Addr} {ts : List (List Int)} {t : List Int} (L : LsAt H0 H D rs ts) (nr : H r = none) (n0 : H0 r = none) :
    LsAt H0 (upd (upd H r (.lst (t.map V.int))) D (.lst (rs.map V.ref ++ [V.ref r]))) D (rs ++ [r]) (ts ++ [t]) := by
  have hDr : D ≠ r := ne_of_none L.hD nr
  have hrn : r ∉ rs := fun h => by
    obtain ⟨o, e⟩ := L.trk h
    rw [nr] at e
    cases e
  refine ⟨?_, ?_, ?_, ?_, ?_, ?_⟩
  · rw [upd_same, List.map_append]
    rfl
  · rw [List.nodup_append]
    refine ⟨L.nd, by simp, ?_⟩
    intro a ha b hb
    simp at hb
    subst hb
    rintro rfl
    exact hrn ha
  · rw [List.length_append, List.length_append, L.len]
    rfl
  · intro i a u ha hu
    by_cases hi : i < rs.length
    · rw [List.getElem?_append_left hi] at ha
      rw [List.getElem?_append_left (by rw [← L.len]; exact hi)] at hu
      have hm := List.mem_of_getElem? ha
      rw [upd_ne (show a ≠ D from fun e => L.nD (by rw [← e]; exact hm)), upd_ne (show a ≠ r from fun e => hrn (by rw [← e]; exact hm))]
      exact L.at_ i a u ha hu
    · rw [List.getElem?_append_right (by omega)] at ha
      rw [List.getElem?_append_right (by rw [← L.len]; omega), ← L.len] at hu
      have e0 : i - rs.length = 0 := by
        have := (List.getElem?_eq_some_iff.mp ha).1
        simp at this
        omega
      rw [e0] at ha hu
      simp at ha hu
      subst ha hu
      rw [upd_ne hDr.symm, upd_same]
  · intro a ha
    rcases List.mem_append.mp ha with ha | ha
    · exact L.fr a ha
    · simp at ha
      subst ha
      exact n0
  · intro h
    rcases List.mem_append.mp h with h | h
    · exact L.nD h
    · simp at h
      exact hDr h
theorem LsAt.modify {H0 H : Hp} {D r : Addr} {rs : List Addr} {ts : List (List Int)} {j : Nat} {t : List Int} {v : Int} (L : LsAt H0 H D rs ts) (hr : rs[j]? = some r) (ht : ts[j]? = some t) :
    LsAt H0 (upd H r (.lst (t.map V.int ++ [V.int v]))) D rs (ts.modify j (· ++ [v])) := by
  have hm := List.mem_of_getElem? hr
  refine ⟨?_, L.nd, ?_, ?_, L.fr, L.nD⟩
  · rw [upd_ne (fun e => L.nD (by rw [e]; exact hm))]
    exact L.hD
  · rw [List.length_modify]
    exact L.len
  · intro i a u ha hu
    rw [List.getElem?_modify] at hu
    by_cases hij : i = j
    · subst hij
      rw [hr] at ha
      cases ha
      rw [ht] at hu
      simp at hu
      subst hu
      rw [upd_same, List.map_append]
      rfl
    · have hne : a ≠ r := fun e => by
        subst e
        exact hij (nd_ix L.nd ha hr)
      rw [upd_ne hne]
      simp only [if_neg (Ne.symm hij)] at hu
      exact L.at_ i a u ha (by simpa using hu)
theorem LsAt.fr_none {H0 H : Hp} {D : Addr} {rs : List Addr} {ts : List (List Int)} (L : LsAt H0 H D rs ts) (h : H0 D = none) : H0 D = none := h
theorem LsAt.but {H0 H : Hp} {D r : Addr} {rs : List Addr} {ts : List (List Int)} {o : HO} (L : LsAt H0 H D rs ts) (nr : H r = none) : LsAt H0 (upd H r o) D rs ts := by
  refine ⟨by rw [upd_ne (ne_of_none L.hD nr)]; exact L.hD, L.nd, L.len, ?_, L.fr, L.nD⟩
  intro i a u ha hu
  rw [upd_ne (ne_of_none (L.at_ i a u ha hu) nr)]
  exact L.at_ i a u ha hu
theorem LsAt.same {H0 H H' : Hp} {D : Addr} {rs : List Addr} {ts : List (List Int)} (L : LsAt H0 H D rs ts) (s : Same H H') : LsAt H0 H' D rs ts :=
  ⟨s _ _ L.hD, L.nd, L.len, fun i r t h1 h2 => s _ _ (L.at_ i r t h1 h2), L.fr, L.nD⟩
end Fo

/-! piece Aux3 -/
namespace Fo
open PySem PySem.Spec PyProof.Rows L2
section
variable {X : Cx}
/-! ## x is not True -/
def isTrueV (x : V) : Bool := match x with
  | .bl true => true
  | _ => false
def rNotT : R2 := fun x y H Q => y = .bl true ∧ Q (.bl (!isTrueV x)) H
theorem op_notT : OpR X (compareOp .IsNot) rNotT := by
  intro pins s σ H x y v u Q I rx ry h
  obtain ⟨rfl, q⟩ := h
  cases (show u = Value.bool true from ry)
  have fin : ∀ b : Bool, b = !isTrueV x → EP X pins σ Q (.bool b) s := fun b e => ⟨.bl b, H, I, rfl, by rw [e]; exact q⟩
  cases x with
  | bl b =>
    cases (show v = Value.bool b from rx)
    cases b with
    | true => exact wpAny_isNot_self rfl (fin false rfl)
    | false => exact wpAny_isNot_other rfl (fun z => nomatch z) (fin true rfl)
  | non => cases (show v = Value.none from rx); exact wpAny_isNot_other rfl (fun z => nomatch z) (fin true rfl)
  | ty n => cases (show v = Value.type n from rx); exact wpAny_isNot_other rfl (fun z => nomatch z) (fin true rfl)
  | ref a => cases (show v = Value.ref a from rx); exact wpAny_isNot_other rfl (fun z => nomatch z) (fin true rfl)
  | int i => obtain ⟨t, rfl⟩ := (show ∃ t, v = Value.int i t from rx); exact wpAny_isNot_other rfl (fun z => nomatch z) (fin true rfl)
  | str i => obtain ⟨t, rfl⟩ := (show ∃ t, v = Value.str i t from rx); exact wpAny_isNot_other rfl (fun z => nomatch z) (fin true rfl)
  | byt i => obtain ⟨t, rfl⟩ := (show ∃ t, v = Value.bytes i t from rx); exact wpAny_isNot_other rfl (fun z => nomatch z) (fin true rfl)
  | flt i => obtain ⟨t, rfl⟩ := (show ∃ t, v = Value.float i t from rx); exact wpAny_isNot_other rfl (fun z => nomatch z) (fin true rfl)
/-! ## a test of three comparisons in a row -/
section
variable {a b c d : Expr} {pos : Pos} {ta tb tc td : TE}
def tChain3 (r r' r'' : R2) (ta tb tc td : TE) : TT := fun σ H Q => ta σ H fun x H1 => tb σ H1 fun y H2 => r x y H2 fun z H3 => ∃ k, z = .bl k ∧
  (if k = true then tc σ H3 fun w' H4 => r' y w' H4 fun z2 H5 => ∃ k2, z2 = .bl k2 ∧ (if k2 = true then td σ H5 fun w2 H6 => r'' w' w2 H6 fun z3 H7 => ∃ k3, z3 = .bl k3 ∧ Q k3 H7 else Q false H5) else Q false H3)
theorem pt_chain3 {op op' op'' : CmpOp} {r r' r'' : R2} (ho : OpR X (compareOp op) r) (ho' : OpR X (compareOp op') r') (ho'' : OpR X (compareOp op'') r'') (ha : PE X a ta) (hb : PE X b tb) (hc : PE X c tc) (hd : PE X d td)
    (hm : lastMarks [op, op', op''] [b, c, d] = false := by with_unfolding_all rfl) : PT X (.Compare a [op, op', op''] [b, c, d] pos) (tChain3 r r' r'' ta tb tc td) := by
  refine ⟨fun pins s σ H Q I h => ?_⟩
  refine isTrue_chain (thn (ha.run pins s σ H _ I h) fun v s1 ⟨x, H1, I1, r1, q1⟩ => test_link (thn (hb.run pins s1 σ H1 _ I1 q1) fun u s2 ⟨y, H2, I2, r2, q2⟩ =>
    thn (ho pins s2 σ H2 x y v u _ I2 r1 r2 q2) fun d s3 ⟨z, H3, I3, r3, k, e, q3⟩ => ?_)) hm
  subst e
  cases r3
  refine wpAny_truthy_bool ?_
  cases k with
  | false => exact ite_ff ⟨H3, I3, q3⟩
  | true =>
    refine ite_tt (test_link (thn (hc.run pins s3 σ H3 _ I3 q3) fun w' s4 ⟨z', H4, I4, r4, q4⟩ => thn (ho' pins s4 σ H4 y z' u w' _ I4 r2 r4 q4) fun d' s5 ⟨z2, H5, I5, r5, k2, e2, q5⟩ => ?_))
    subst e2
    cases r5
    refine wpAny_truthy_bool ?_
    cases k2 with
    | false => exact ite_ff ⟨H5, I5, q5⟩
    | true =>
      refine ite_tt (test_last (thn (hd.run pins s5 σ H5 _ I5 q5) fun w2 s6 ⟨z6, H6, I6, r6, q6⟩ => thn (ho'' pins s6 σ H6 z' z6 w' w2 _ I6 r4 r6 q6) fun d2 s7 ⟨z7, H7, I7, r7, k7, e7, q7⟩ => ?_))
      subst e7
      cases r7
      exact wpAny_truthy_bool ⟨H7, I7, q7⟩
end
/-! ## a[i] |= e of a list of ints -/
def rGetL : V → V → Hp → VK → Prop := fun o i H Q => ∃ p xs k j y, o = .ref p ∧ i = .int k ∧ H p = some (.lst xs) ∧ 0 ≤ k ∧ k.toNat = j ∧ xs[j]? = some y ∧ Q y H
theorem get_list : PGet X rGetL := by
  intro pins s σ H o i ov iv Q I ro ri h
  obtain ⟨p, xs, k, j, y, rfl, rfl, hp, h0, hj, hy, q⟩ := h
  cases ro
  obtain ⟨t, rfl⟩ := (show ∃ t, iv = Value.int k t from ri)
  obtain ⟨its, n, r, ho, hz⟩ := I.lst hp
  obtain ⟨w, ew, rw'⟩ := r.get hy
  have hl := r.length
  have hn := line63
  have hjl : j < xs.length := (List.getElem?_eq_some_iff.mp hy).1
  obtain ⟨its2, r2, pl, _⟩ := I.list (SqL.of hp)
  obtain ⟨w2, ew2, rw2⟩ := r2.get hy
  have fin : EP X pins σ Q w2 s := ⟨y, H, I, rw2, q⟩
  exact wpAny_mono (wpAny_getItem_list (Q := fun r s' => r = w2 ∧ EP X pins σ Q r s') pl.isList h0 (by omega) (by rw [hj]; simpa using ew2) ⟨rfl, fin⟩) (fun v s' z => z.2) (fun _ _ z => z)
theorem ip_or : PIp X .BitOr (ipI fun i j => Builtin.bitOr i j) := by
  intro pins s σ H x y v u Q I r1 r2 h
  obtain ⟨i, j, e1, e2, q⟩ := h
  subst e1; subst e2
  obtain ⟨t, rfl⟩ := r1
  obtain ⟨t', rfl⟩ := r2
  exact ior_int ⟨.int _, H, I.tok _, ⟨_, rfl⟩, q⟩
theorem ip_and : PIp X .BitAnd (ipI fun i j => Builtin.bitAnd i j) := by
  intro pins s σ H x y v u Q I r1 r2 h
  obtain ⟨i, j, e1, e2, q⟩ := h
  subst e1; subst e2
  obtain ⟨t, rfl⟩ := r1
  obtain ⟨t', rfl⟩ := r2
  exact iand_int ⟨.int _, H, I.tok _, ⟨_, rfl⟩, q⟩
theorem ip_xor : PIp X .BitXor (ipI fun i j => Builtin.bitXor i j) := by
  intro pins s σ H x y v u Q I r1 r2 h
  obtain ⟨i, j, e1, e2, q⟩ := h
  subst e1; subst e2
  obtain ⟨t, rfl⟩ := r1
  obtain ⟨t', rfl⟩ := r2
  exact ixor_int ⟨.int _, H, I.tok _, ⟨_, rfl⟩, q⟩
/-! ## bits of natural numbers -/
theorem bAnd (a b : Nat) : Builtin.bitAnd (a : Int) (b : Int) = ((a &&& b : Nat) : Int) := by
  rw [bitAnd_pp (Int.natCast_nonneg a) (Int.natCast_nonneg b)]
  rfl
theorem bOr (a b : Nat) : Builtin.bitOr (a : Int) (b : Int) = ((a ||| b : Nat) : Int) := by
  rw [bitOr_nn (Int.natCast_nonneg a) (Int.natCast_nonneg b)]
  rfl
theorem bit_test (v k : Nat) : (Builtin.bitAnd ((v : Int) / 2 ^ k) 1 != 0) = v.testBit k := by
  have e : (v : Int) / 2 ^ k = ((v / 2 ^ k : Nat) : Int) := by rw [Int.natCast_ediv, Int.natCast_pow]; rfl
  rw [e, show Builtin.bitAnd ((v / 2 ^ k : Nat) : Int) 1 = ((v / 2 ^ k &&& 1 : Nat) : Int) from bAnd _ 1, Nat.testBit_eq_decide_div_mod_eq, Nat.and_one_is_mod]
  rcases Nat.mod_two_eq_zero_or_one (v / 2 ^ k) with h | h <;> rw [h] <;> rfl
end
end Fo
namespace Fo
open PySem PySem.Spec PyProof.Rows L2
theorem cut_1 (xs : List V) : cutV xs (some 1) none = xs.drop 1 := by
  unfold cutV
  rw [show HT.sIx xs.length 0 (some 1) = min 1 xs.length from HT.sIx_nat xs.length 0 1, HT.sIx_none]
  cases xs with
  | nil => rfl
  | cons x r =>
    rw [show min 1 (x :: r).length = 1 from Nat.min_eq_left (by rw [List.length_cons]; omega), List.drop_succ_cons, List.drop_zero, List.length_cons, Nat.add_sub_cancel, List.take_length]
end Fo

namespace Fo
open PySem PySem.Spec PyProof.Rows L2
/-! piece Aux4 -/
section
open PySem PySem.Spec PyProof.Rows L2
theorem pe_lcN {X : Cx} {N : List Str} {sc : Scope} {elt tg iter : Expr} {ifs : List Expr} {scope : Scope} {pos : Pos} {wi : TI} {g : TG} {tt : TT} {te : TE} {vs : List Nat}
    (nd : N.Nodup) (hXN : X.N = N) (hXs : X.env.scope = sc)
    (hv : (ownOf N scope).map (·.2) = vs) (hb : blkC N sc scope (ownOf N scope) = true) (hc : X.calm = true) (hi : PI X tg iter wi)
    (hg : ∀ (s : Shared) (H : Hp) (C : Addr) (cl : List (Str × Addr)) (fp : List Addr), PG (X.blk s H scope (compEnvC scope cl C X.env) fp) tg g)
    (ht : ∀ (s : Shared) (H : Hp) (C : Addr) (cl : List (Str × Addr)) (fp : List Addr), PTs (X.blk s H scope (compEnvC scope cl C X.env) fp) ifs tt)
    (he : ∀ (s : Shared) (H : Hp) (C : Addr) (cl : List (Str × Addr)) (fp : List Addr), PE (X.blk s H scope (compEnvC scope cl C X.env) fp) elt te)
    (hs : ∀ x, foldedSetIterable iter X.env x = pure x := by intro _; rfl) :
    PE X (.ListComp elt [⟨tg, iter, ifs, 0⟩] scope pos) (tLc wi g tt te vs) := by
  subst hv
  refine pe_lc hc (by rw [hXN]; exact nd) hi ?_ hg ht he hs
  rw [hXN, hXs]
  exact blkOk_by hb
theorem call_minK {X : Cx} {K : PySem.W.Frag} (_ : KMark K) (h : X.K = K) (hc : X.calm = true) : CallR X (.builtin "min") (rMin K) := h ▸ cr_min hc

end
/-! piece EN -/
section
open PySem PySem.Spec PyProof.Rows L2
/-! ### enumerate(list, c), enumerate(list, start=c) -/
def ItE (K : PySem.W.Frag) (a : Addr) (c : Int) : It where
  go i H := ∃ (ys : List V) (y : V), SqL K H a ys ∧ ys[i]? = some y
  yld i H v G := ∃ T y, v = .ref T ∧ H T = none ∧ G = upd H T (.tup [.int (c + (i : Nat)), y]) ∧ ∀ ys, SqL K H a ys → ys[i]? = some y
  stop i H := ∃ ys : List V, SqL K H a ys ∧ ys.length = i
theorem turn_enumC {P : Program} {w : World} {K : PySem.W.Frag} {es : List Expr} {kk : Nat} {tp : Pos} (c : Int) (a e it : Addr) :
    Turn P w K (.Tuple es kk tp) (ItE K a c) [e, it] e (fun i h => (∃ old, IsEnum h e it (c + (i : Nat)) old) ∧ h.IsListIter it a i ∧ e ≠ it) := by
  refine ⟨by simp, ?ob, ?ke, ?im, ?dn, ?sf⟩
  case ob =>
    rintro i h ⟨⟨old, he⟩, ⟨o, ho, hc, hd⟩, _⟩ b hb
    rcases (show b = e ∨ b = it by simpa using hb) with z | z
    · subst z; exact ⟨_, he, fun v q => nomatch q⟩
    · subst z; exact ⟨o, ho, fun v q => by rw [hd] at q; cases q⟩
  case ke =>
    rintro i h h' ⟨⟨old, he⟩, hi, hne⟩ k
    exact ⟨⟨old, k e (by simp) _ he⟩, hi.at fun o q => k it (by simp) o q, hne⟩
  case im =>
    intro X hP hw hK hc i pins s σ H E I hf st hg
    subst hP hw hK
    obtain ⟨⟨old, he⟩, hit, hne⟩ := st
    obtain ⟨xs, x, hq, hx⟩ := hg
    obtain ⟨its, rv, p, hz⟩ := I.list hq
    obtain ⟨u, hu, ru⟩ := rv.get hx
    have hel : e < s.heap.objs.size := Heap.lt_size he
    have hil : it < s.heap.objs.size := by obtain ⟨_, q, _⟩ := hit; exact Heap.lt_size q
    have hai : a ≠ it := fun z => by
      obtain ⟨o1, h1, c1, _⟩ := hit
      obtain ⟨o2, h2, c2, _⟩ := p.isList
      rw [z, h1] at h2
      cases h2
      rw [c1] at c2
      exact absurd c2 (by decide)
    have hea : e ≠ a := fun z => by
      obtain ⟨o2, h2, c2, _⟩ := p.isList
      rw [← z, show s.heap.get? e = _ from he] at h2
      cases h2
      exact absurd (show Value.type "enumerate" = Value.type "list" from c2) (by decide)
    have D := Draws.list (prog := X.prog) (w := X.w) (A := X.A.in1) (I.ok.hd hc) it a hai its.toArray
    have hlt : i < its.toArray.size := by
      have := (List.getElem?_eq_some_iff.mp hu).1
      simpa using this
    refine wpAny_pyNext_enum_itemC D he ⟨hit, p.isList⟩ hlt hne (by simp [hne, hea]) fun x' h' tk hx' ho hst hT hsz hk => ?_
    obtain rfl : x' = u := by
      have h1 : its.toArray[i]? = some u := by simpa using hu
      rw [h1] at hx'
      exact (Option.some.inj hx').symm
    refine ⟨_, rfl, wpAny_letOwnedTupleGo_enum ho fun h2 he2 sb => ?_⟩
    have hT2 : h2.get? s.heap.objs.size = some { cls := .type "tuple", data := .seq #[.int (c + (i : Nat)) tk, x'] } := (sb.2 _ (Nat.ne_of_gt hel)).trans hT
    have fresh : ObjOk X.prog X.w (upd H s.heap.objs.size (.tup [.int (c + (i : Nat)), x])) h2 s.heap.objs.size (.tup [.int (c + (i : Nat)), x]) :=
      ⟨by show 2 ≤ sizeLine; decide, [.int (c + (i : Nat)) tk, x'], .cons ⟨_, rfl⟩ (.cons ru .nil), ⟨_, hT2, rfl, _, rfl⟩⟩
    have I2 : Inv X pins σ (upd H s.heap.objs.size (.tup [.int (c + (i : Nat)), x])) { s with heap := h2, toks := tk + 1 } :=
      I.turnedNew (ch := [e, it]) (fun b ob hb q => (sb.2 b (fun z => hb (by simp [z]))).trans (hk b ob (fun z => hb (by simp [z])) (fun z => hb (by simp [z])) q)) hf (Nat.le_refl _) fresh
    refine ⟨.ref s.heap.objs.size, _, I2, rfl, ⟨_, x, rfl, I.hok.fresh (Nat.le_refl _), rfl, fun ys hy => by rw [I.list_inj hy hq]; exact hx⟩, ⟨⟨x', ?_⟩, hst.1.at fun o q => (sb.2 it (Ne.symm hne)).trans q, hne⟩, fun b hb => ?_⟩
    · rw [show c + ((i + 1 : Nat) : Int) = c + (i : Nat) + 1 by omega]
      exact he2
    · have hlt2 : b < s.heap.objs.size := by
        rcases (show b = e ∨ b = it by simpa using hb) with z | z
        · subst z; exact hel
        · subst z; exact hil
      rw [upd_ne (Nat.ne_of_lt hlt2)]
      exact (hf b hb).1
  case dn =>
    intro X hP hw hK hc i pins s σ H E I hf st hg
    subst hP hw hK
    obtain ⟨⟨old, he⟩, hit, hne⟩ := st
    obtain ⟨xs, hq, hx⟩ := hg
    obtain ⟨its, rv, p, hz⟩ := I.list hq
    obtain ⟨f0, f1, f2, f3, f4, f5⟩ := hf it (by simp)
    have hl := rv.length
    have hai : a ≠ it := fun z => by
      obtain ⟨o1, h1, c1, _⟩ := hit
      obtain ⟨o2, h2, c2, _⟩ := p.isList
      rw [z, h1] at h2
      cases h2
      rw [c1] at c2
      exact absurd c2 (by decide)
    have D := Draws.list (prog := X.prog) (w := X.w) (A := X.A.in1) (I.ok.hd hc) it a hai its.toArray
    have hn : its.toArray.size = i := by simp; omega
    exact wpAny_pyNext_enum_endD D he ⟨by rw [hn]; exact hit, p.isList⟩ fun h' eb => ⟨rfl, I.turned (t' := s.toks) (fun b o hb q => eb b o hb q) f0 f1 f3 f4 f5⟩
  case sf =>
    rintro A i s Q E ⟨⟨_, he⟩, _⟩ h
    exact wpAny_pyIter_enum he h
/-- what the iterator of the list at a, told from c on, begins with -/
theorem enum_start {X : Cx} {pins : List (Addr × Obj)} {σ : L2.St} {H : Hp} {s1 : Shared} {es : List Expr} {kk : Nat} {tp : Pos} {a : Addr} {c : Int} {R : It → Hp → Prop} {h' : Heap}
    (I : Inv X pins σ H s1) (he : IsEnum h' (s1.heap.objs.size + 1) s1.heap.objs.size c .none) (hit : h'.get? s1.heap.objs.size = some { cls := .type "list_iterator", data := .fields #[.ref a, .int 0 0] })
    (hk : ∀ b o, s1.heap.get? b = some o → h'.get? b = some o) (q : R (ItE X.K a c) H) :
    wpAny (model X.prog X.w) X.A (pyIter (.ref (s1.heap.objs.size + 1))) (PIE X pins σ (.Tuple es kk tp) R) X.xe { s1 with heap := h' } := by
  refine wpAny_pyIter_enum he ?_
  have I2 : Inv X pins σ H { s1 with heap := h' } := I.kept (t' := s1.toks) hk
  refine ⟨s1.heap.objs.size + 1, [s1.heap.objs.size + 1, s1.heap.objs.size], _, _, H, rfl, I2, turn_enumC c a (s1.heap.objs.size + 1) s1.heap.objs.size, ⟨⟨.none, ?_⟩, ⟨_, hit, rfl, rfl⟩, Nat.succ_ne_self _⟩, fun b hb => ?_, q⟩
  · rw [show c + ((0 : Nat) : Int) = c by omega]
    exact he
  · have hle : s1.heap.objs.size ≤ b := by
      rcases (show b = s1.heap.objs.size + 1 ∨ b = s1.heap.objs.size by simpa using hb) with z | z
      · subst z; exact Nat.le_add_right _ _
      · subst z; exact Nat.le_refl _
    exact I.fpOk hle (I.hok.fresh hle)
def iEnumC (K : PySem.W.Frag) (ta : TA) : TI := fun σ H R => ta σ H fun vs H1 => ∃ a xs c, vs = [.ref a, .int c] ∧ SqL K H1 a xs ∧ (-(2 ^ 63) ≤ c ∧ c < 2 ^ 63) ∧ R (ItE K a c) H1
theorem pi_enumC {X : Cx} {K : PySem.W.Frag} {e k : Expr} {ta : TA} {p pos tp : Pos} {es : List Expr} {kk : Nat} (_ : KMark K) (hXK : X.K = K) (hg : Gl X "enumerate") (hm : X.mg "enumerate" = none) (ha : PA X [e, k] ta)
    (hs : starEach [e, k] X.env = [(false, eval e X.env), (false, eval k X.env)] := by rfl) (hs2 : starEach [k] X.env = [(false, eval k X.env)] := by rfl) :
    PI X (.Tuple es kk tp) (.Call (.Name "enumerate" p) [e, k] [] pos) (iEnumC K ta) := by
  subst hXK
  refine ⟨fun pins s σ H R I h => ?_⟩
  refine Call_ (ld_blt I hg hm boot_enumerate (PyProof.Rows.callWith_type1 (thn (ha.run pos pins s σ H _ I h) fun us s1 ⟨vs, H1, I1, r1, q1⟩ => ?_) (by rw [hs, hs2]) (by rw [hs2]; rfl)))
  obtain ⟨a, xs, c, rfl, hq, hc, q⟩ := q1
  cases r1 with
  | cons r rr =>
    cases rr with
    | cons r' rr =>
      cases rr
      cases r
      obtain ⟨t, rfl⟩ := r'
      obtain ⟨its, rv, p', hz⟩ := I1.list hq
      exact enum_begins (begins_list a its.toArray) p'.isList hc.1 hc.2 fun h' he hit hsz hk => enum_start I1 he hit hk q
def iEnumS (K : PySem.W.Frag) (ta tk : TA) : TI := fun σ H R => ta σ H fun vs H1 => tk σ H1 fun zs H2 => ∃ a xs c, vs = [.ref a] ∧ zs = [.int c] ∧ SqL K H2 a xs ∧ (-(2 ^ 63) ≤ c ∧ c < 2 ^ 63) ∧ R (ItE K a c) H2
theorem pi_enumS {X : Cx} {K : PySem.W.Frag} {e : Expr} {kws : List Keyword} {ta tk : TA} {p pos tp : Pos} {es : List Expr} {kk : Nat} (_ : KMark K) (hXK : X.K = K) (hg : Gl X "enumerate") (hm : X.mg "enumerate" = none) (ha : PA X [e] ta) (hkw : PK X kws tk)
    (hall : (backToKw pos (keywordEach kws X.env)).all (·.1.isSome) = true := by rfl) (hks : (backToKw pos (keywordEach kws X.env)).filterMap (·.1) = [Str.ofString "start"] := by rfl)
    (hpl : ((backTo pos (starEach [e] X.env)).any (·.1) || (backToKw pos (keywordEach kws X.env)).any (·.1.isNone)) = false := by rfl) (he : starEach [e] X.env = (false, eval e X.env) :: starEach [] X.env := by rfl) :
    PI X (.Tuple es kk tp) (.Call (.Name "enumerate" p) [e] kws pos) (iEnumS K ta tk) := by
  subst hXK
  refine ⟨fun pins s σ H R I h => ?_⟩
  refine wpAny_Call_Name_kw (ld_blt I hg hm boot_enumerate ?_)
  refine PySem.W.callWith_of (P := fun _ => True) hpl (fun h _ => ⟨.machine, .inr (.inl rfl), .of_pure rfl⟩) (evalArgs_kw2 hall (thn (ha.run pos pins s σ H _ I h) fun us s1 ⟨vs, H1, I1, r1, q1⟩ => thn (hkw.run pos pins s1 σ H1 _ I1 q1) fun ws s2 ⟨zs, H2, I2, r2, q2⟩ => ⟨trivial, ?_⟩) he)
  rw [hks]
  obtain ⟨a, xs, c, rfl, rfl, hq, hc, q⟩ := q2
  obtain ⟨u, rfl, ru⟩ := vals1 r1
  obtain ⟨v, rfl, rv⟩ := vals1 r2
  cases ru
  obtain ⟨t, rfl⟩ := rv
  obtain ⟨its, rv, p', hz⟩ := I2.list hq
  exact enum_begins_start (begins_list a its.toArray) p'.isList hc.1 hc.2 fun h' he hit hsz hk => enum_start I2 he hit hk q
/-- for over such an iterator -/
theorem for_enumC {K : PySem.W.Frag} {a : Addr} {c : Int} {xs : List V} {g : TG} {tb : TS} {D : Ends} {σ : Sl} {H : Hp} (Pv : Nat → Sl → Hp → Prop) (h0 : Pv 0 σ H) (hl : ∀ i σ H, i ≤ xs.length → Pv i σ H → SqL K H a xs)
    (hs : ∀ (i : Nat) x T σ H, xs[i]? = some x → Pv i σ H → H T = none → g (.ref T) σ (upd H T (.tup [.int (c + (i : Nat)), x])) fun σ2 H2 => tb { D with nx := Pv (i + 1), ct := Pv (i + 1), bk := D.nx } σ2 H2)
    (hd : ∀ σ H, Pv xs.length σ H → D.nx σ H) :
    ∃ W : Nat → Nat → Sl → Hp → Prop, (∃ m, W 0 m σ H) ∧ ∀ i m σ H, W i m σ H →
      ((ItE K a c).stop i H ∧ D.nx σ H) ∨ ((ItE K a c).go i H ∧ ∃ N : Sl → Hp → Prop, (∀ σ' H', N σ' H' → ∃ m', m' < m ∧ W (i + 1) m' σ' H') ∧
        ∀ x H', (ItE K a c).yld i H x H' → g x σ H' fun σ2 H2 => tb { D with nx := N, ct := N, bk := D.nx } σ2 H2) := by
  refine ⟨fun i m σ H => m = xs.length - i ∧ i ≤ xs.length ∧ Pv i σ H, ⟨xs.length, by simp, Nat.zero_le _, h0⟩, ?_⟩
  rintro i m σ H ⟨rfl, hi, p⟩
  have q := hl i σ H hi p
  by_cases hlt : i < xs.length
  · refine Or.inr ⟨⟨xs, xs[i], q, List.getElem?_eq_getElem hlt⟩, Pv (i + 1), fun σ' H' p' => ⟨xs.length - (i + 1), by omega, rfl, hlt, p'⟩, ?_⟩
    rintro x H' ⟨T, y, rfl, nT, rfl, hx⟩
    exact hs i y T σ H (hx xs q) p nT
  · obtain rfl : i = xs.length := by omega
    exact Or.inl ⟨⟨xs, q, rfl⟩, hd σ H p⟩

end
/-! piece AX -/
section
open PySem PySem.Spec PyProof.Rows L2
section
variable {X : Cx} {K : PySem.W.Frag}
theorem op_inDK {k : Nat} (_ : KMark K) (h : X.K = K) (hr : Room k X.A) : OpR X (compareOp .In) (rInD K) := h ▸ op_inD (by have := hr.un; omega)
theorem op_notInDK {k : Nat} (_ : KMark K) (h : X.K = K) (hr : Room k X.A) : OpR X (compareOp .NotIn) (rNotInD K) := h ▸ op_notInD (by have := hr.un; omega)
/-- x in y, flat things or data -/
def rInB2 (K : PySem.W.Frag) : R2 := fun x y H Q => rIn K false x y H Q ∨ rInD K x y H Q
def rNotInB2 (K : PySem.W.Frag) : R2 := fun x y H Q => rIn K true x y H Q ∨ rNotInD K x y H Q
theorem op_inB2 {k : Nat} (m : KMark K) (h : X.K = K) (hr : Room k X.A) : OpR X (compareOp .In) (rInB2 K) := (op_inK m h).or (op_inDK m h hr)
theorem op_notInB2 {k : Nat} (m : KMark K) (h : X.K = K) (hr : Room k X.A) : OpR X (compareOp .NotIn) (rNotInB2 K) := (op_notInK m h).or (op_notInDK m h hr)
/-- products of numbers, and lists repeated -/
def rMulB : R2 := fun x y H Q => rI CMul (fun i j => .int (i * j)) x y H Q ∨ rRep x y H Q
theorem opMulB : OpR X (binaryOp .Mult) rMulB := op_mul.or op_rep
end

end
/-! piece L2C -/
section
open PySem PySem.Spec PyProof.Rows L2
section
variable {X : Cx}
theorem pe_lc2O {N ps : List Str} {sc : Scope} {elt tg iter tg1 iter1 : Expr} {ifs ifs1 : List Expr} {scope : Scope} {pos : Pos} {wi wi1 : TI} {g g1 : TG} {tt tt1 : TT} {te : TE} {vs vs1 : List Nat}
    (S : FnScope N ps sc) (hXN : X.N = N) (hXs : X.env.scope = sc)
    (hv : (ownOf N scope).map (·.2) = vs) (hv1 : (vs1.all fun i => vs.contains i) = true) (hb : blkC N sc scope (ownOf N scope) = true) (hc : X.calm = true) (hi : PI X tg iter wi)
    (hg : ∀ (s : Shared) (H : Hp) (C : Addr) (cl : List (Str × Addr)) (fp : List Addr), PG (X.blk s H scope (compEnvC scope cl C X.env) fp) tg g)
    (ht : ∀ (s : Shared) (H : Hp) (C : Addr) (cl : List (Str × Addr)) (fp : List Addr), PTs (X.blk s H scope (compEnvC scope cl C X.env) fp) ifs tt)
    (hi1 : ∀ (s : Shared) (H : Hp) (C : Addr) (cl : List (Str × Addr)) (fp : List Addr), PI (X.blk s H scope (compEnvC scope cl C X.env) fp) tg1 iter1 wi1)
    (hg1 : ∀ (s : Shared) (H : Hp) (C : Addr) (cl : List (Str × Addr)) (fp : List Addr), PG (X.blk s H scope (compEnvC scope cl C X.env) fp) tg1 g1)
    (ht1 : ∀ (s : Shared) (H : Hp) (C : Addr) (cl : List (Str × Addr)) (fp : List Addr), PTs (X.blk s H scope (compEnvC scope cl C X.env) fp) ifs1 tt1)
    (he : ∀ (s : Shared) (H : Hp) (C : Addr) (cl : List (Str × Addr)) (fp : List Addr), PE (X.blk s H scope (compEnvC scope cl C X.env) fp) elt te)
    (hs : ∀ x, foldedSetIterable iter X.env x = pure x := by intro _; rfl) (hs1 : ∀ env x, foldedSetIterable iter1 env x = pure x := by intro _ _; rfl) :
    PE X (.ListComp elt [⟨tg, iter, ifs, 0⟩, ⟨tg1, iter1, ifs1, 0⟩] scope pos) (tLc2 wi g tt wi1 g1 tt1 te vs vs1) := by
  subst hv
  refine pe_lc2 hc (by rw [hXN]; exact S.nd) hi ?_ (fun i h => ?_) hg ht hi1 hg1 ht1 he hs hs1
  · rw [hXN, hXs]
    exact blkOk_by hb
  · have := List.all_eq_true.mp hv1 i h
    simpa using this
end
section
variable {X : Cx}
theorem ps_setLc2O {N ps : List Str} {sc : Scope} {i : Nat} {y : Str} {py : Pos} {elt tg iter tg1 iter1 : Expr} {ifs ifs1 : List Expr} {scope : Scope} {pos spos : Pos} {wi wi1 : TI} {g g1 : TG} {tt tt1 : TT} {te : TE} {vs vs1 : List Nat}
    (S : FnScope N ps sc) (hXN : X.N = N) (hXs : X.env.scope = sc)
    (hv : (ownOf N scope).map (·.2) = vs) (hv1 : (vs1.all fun i => vs.contains i) = true) (hb : blkC N sc scope (ownOf N scope) = true) (hc : X.calm = true) (hy : X.N[i]? = some y) (hyl : X.env.scope.names.lookup y = some .local)
    (hsw : swapsWith (.ListComp elt [⟨tg, iter, ifs, 0⟩, ⟨tg1, iter1, ifs1, 0⟩] scope pos) (some (.Name y py)) spos.line X.env = pure true) (hi : PI X tg iter wi)
    (hg : ∀ (s : Shared) (H : Hp) (C : Addr) (cl : List (Str × Addr)) (fp : List Addr), PG (X.blk s H scope (compEnvC scope cl C X.env) fp) tg g)
    (ht : ∀ (s : Shared) (H : Hp) (C : Addr) (cl : List (Str × Addr)) (fp : List Addr), PTs (X.blk s H scope (compEnvC scope cl C X.env) fp) ifs tt)
    (hi1 : ∀ (s : Shared) (H : Hp) (C : Addr) (cl : List (Str × Addr)) (fp : List Addr), PI (X.blk s H scope (compEnvC scope cl C X.env) fp) tg1 iter1 wi1)
    (hg1 : ∀ (s : Shared) (H : Hp) (C : Addr) (cl : List (Str × Addr)) (fp : List Addr), PG (X.blk s H scope (compEnvC scope cl C X.env) fp) tg1 g1)
    (ht1 : ∀ (s : Shared) (H : Hp) (C : Addr) (cl : List (Str × Addr)) (fp : List Addr), PTs (X.blk s H scope (compEnvC scope cl C X.env) fp) ifs1 tt1)
    (he : ∀ (s : Shared) (H : Hp) (C : Addr) (cl : List (Str × Addr)) (fp : List Addr), PE (X.blk s H scope (compEnvC scope cl C X.env) fp) elt te)
    (hs : ∀ x, foldedSetIterable iter X.env x = pure x := by intro _; rfl) (hs1 : ∀ env x, foldedSetIterable iter1 env x = pure x := by intro _ _; rfl) :
    PS X (.Assign [.Name y py] (.ListComp elt [⟨tg, iter, ifs, 0⟩, ⟨tg1, iter1, ifs1, 0⟩] scope pos) spos) (tAsg (tLc2 wi g tt wi1 g1 tt1 te vs vs1) (gName i)) := by
  subst hv
  refine ps_setLc2 hc (by rw [hXN]; exact S.nd) hy hyl hsw hi ?_ (fun i h => ?_) hg ht hi1 hg1 ht1 he hs hs1
  · rw [hXN, hXs]
    exact blkOk_by hb
  · have := List.all_eq_true.mp hv1 i h
    simpa using this
end
/-- two walks in one comprehension: the outer one over a list -/
theorem lc2_list {K : PySem.W.Frag} {a : Addr} {xs : List V} {g : TG} {tt : TT} {wi1 : TI} {g1 : TG} {tt1 : TT} {te : TE} {vs vs1 : List Nat} {σ : Sl} {H1 : Hp} {D : Addr} {Qd : Hp → Prop} (Pv : Nat → Hp → Prop) (h0 : Pv 0 (upd H1 D (.lst []))) (hl : ∀ i H, i ≤ xs.length → Pv i H → SqL K H a xs)
    (hs : ∀ i x H, xs[i]? = some x → Pv i H → g x (wipe σ vs) H fun σ2 H2 => wipe σ2 vs = wipe σ vs ∧ tt σ2 H2 fun b H3 =>
      if b = true then wi1 σ2 H3 fun J1 H4 => ∃ W1 : Nat → Nat → Hp → Prop, (∃ m, W1 0 m H4) ∧ ∀ j k H, W1 j k H →
        (J1.stop j H ∧ Pv (i + 1) H) ∨ (J1.go j H ∧ ∃ Nx1 : Hp → Prop, (∀ H', Nx1 H' → ∃ k', k' < k ∧ W1 (j + 1) k' H') ∧ ∀ x H', J1.yld j H x H' → g1 x (wipe σ2 vs1) H' fun σ3 H5 => wipe σ3 vs1 = wipe σ2 vs1 ∧ tt1 σ3 H5 fun b H6 =>
          if b = true then te σ3 H6 fun y H7 => ∃ acc, H7 D = some (.lst acc) ∧ acc.length < sizeLine ∧ Nx1 (upd H7 D (.lst (acc ++ [y]))) else Nx1 H6)
      else Pv (i + 1) H3) (hd : ∀ H, Pv xs.length H → Qd H) :
    ∃ W : Nat → Nat → Hp → Prop, (∃ m, W 0 m (upd H1 D (.lst []))) ∧ ∀ i m H, W i m H →
      ((Itl K a).stop i H ∧ Qd H) ∨ ((Itl K a).go i H ∧ ∃ Nx : Hp → Prop, (∀ H', Nx H' → ∃ m', m' < m ∧ W (i + 1) m' H') ∧ ∀ x H', (Itl K a).yld i H x H' → g x (wipe σ vs) H' fun σ2 H2 => wipe σ2 vs = wipe σ vs ∧ tt σ2 H2 fun b H3 =>
        if b = true then wi1 σ2 H3 fun J1 H4 => ∃ W1 : Nat → Nat → Hp → Prop, (∃ m, W1 0 m H4) ∧ ∀ j k H, W1 j k H →
          (J1.stop j H ∧ Nx H) ∨ (J1.go j H ∧ ∃ Nx1 : Hp → Prop, (∀ H', Nx1 H' → ∃ k', k' < k ∧ W1 (j + 1) k' H') ∧ ∀ x H', J1.yld j H x H' → g1 x (wipe σ2 vs1) H' fun σ3 H5 => wipe σ3 vs1 = wipe σ2 vs1 ∧ tt1 σ3 H5 fun b H6 =>
            if b = true then te σ3 H6 fun y H7 => ∃ acc, H7 D = some (.lst acc) ∧ acc.length < sizeLine ∧ Nx1 (upd H7 D (.lst (acc ++ [y]))) else Nx1 H6)
        else Nx H3) := by
  refine ⟨fun i m H => m = xs.length - i ∧ i ≤ xs.length ∧ Pv i H, ⟨xs.length, by simp, Nat.zero_le _, h0⟩, ?_⟩
  rintro i m H ⟨rfl, hi, p⟩
  have q := hl i H hi p
  by_cases hlt : i < xs.length
  · refine .inr ⟨⟨xs, xs[i], q, by simp [hlt]⟩, Pv (i + 1), fun H' p' => ⟨xs.length - (i + 1), by omega, rfl, hlt, p'⟩, fun x H' y => ?_⟩
    obtain ⟨e, y⟩ := y
    subst e
    exact hs i x _ (y xs q) p
  · have e : i = xs.length := by omega
    subst e
    exact .inl ⟨⟨xs, q, Nat.le_refl _⟩, hd H p⟩
/-- the inner one over a list -/
theorem lc2_in {K : PySem.W.Frag} {a : Addr} {xs : List V} {g1 : TG} {tt1 : TT} {te : TE} {vs1 : List Nat} {σ2 : Sl} {H4 : Hp} {D : Addr} {Qd : Hp → Prop} (Pv : Nat → Hp → Prop) (h0 : Pv 0 H4) (hl : ∀ i H, i ≤ xs.length → Pv i H → SqL K H a xs)
    (hs : ∀ i x H, xs[i]? = some x → Pv i H → g1 x (wipe σ2 vs1) H fun σ3 H5 => wipe σ3 vs1 = wipe σ2 vs1 ∧ tt1 σ3 H5 fun b H6 =>
          if b = true then te σ3 H6 fun y H7 => ∃ acc, H7 D = some (.lst acc) ∧ acc.length < sizeLine ∧ Pv (i + 1) (upd H7 D (.lst (acc ++ [y]))) else Pv (i + 1) H6)
    (hd : ∀ H, Pv xs.length H → Qd H) :
    ∃ W1 : Nat → Nat → Hp → Prop, (∃ m, W1 0 m H4) ∧ ∀ j k H, W1 j k H →
        ((Itl K a).stop j H ∧ Qd H) ∨ ((Itl K a).go j H ∧ ∃ Nx1 : Hp → Prop, (∀ H', Nx1 H' → ∃ k', k' < k ∧ W1 (j + 1) k' H') ∧ ∀ x H', (Itl K a).yld j H x H' → g1 x (wipe σ2 vs1) H' fun σ3 H5 => wipe σ3 vs1 = wipe σ2 vs1 ∧ tt1 σ3 H5 fun b H6 =>
          if b = true then te σ3 H6 fun y H7 => ∃ acc, H7 D = some (.lst acc) ∧ acc.length < sizeLine ∧ Nx1 (upd H7 D (.lst (acc ++ [y]))) else Nx1 H6) := by
  refine ⟨fun i m H => m = xs.length - i ∧ i ≤ xs.length ∧ Pv i H, ⟨xs.length, by simp, Nat.zero_le _, h0⟩, ?_⟩
  rintro i m H ⟨rfl, hi, p⟩
  have q := hl i H hi p
  by_cases hlt : i < xs.length
  · refine .inr ⟨⟨xs, xs[i], q, by simp [hlt]⟩, Pv (i + 1), fun H' p' => ⟨xs.length - (i + 1), by omega, rfl, hlt, p'⟩, fun x H' y => ?_⟩
    obtain ⟨e, y⟩ := y
    subst e
    exact hs i x _ (y xs q) p
  · have e : i = xs.length := by omega
    subst e
    exact .inl ⟨⟨xs, q, Nat.le_refl _⟩, hd H p⟩
/-- the outer one over an enumeration from c on -/
theorem lc2_enumO {K : PySem.W.Frag} {a : Addr} {c : Int} {xs : List V} {g : TG} {tt : TT} {wi1 : TI} {g1 : TG} {tt1 : TT} {te : TE} {vs vs1 : List Nat} {σ : Sl} {H1 : Hp} {D : Addr} {Qd : Hp → Prop} (Pv : Nat → Hp → Prop) (h0 : Pv 0 (upd H1 D (.lst []))) (hl : ∀ i H, i ≤ xs.length → Pv i H → SqL K H a xs)
    (hs : ∀ (i : Nat) x T H, xs[i]? = some x → Pv i H → H T = none → g (.ref T) (wipe σ vs) (upd H T (.tup [.int (c + (i : Nat)), x])) fun σ2 H2 => wipe σ2 vs = wipe σ vs ∧ tt σ2 H2 fun b H3 =>
      if b = true then wi1 σ2 H3 fun J1 H4 => ∃ W1 : Nat → Nat → Hp → Prop, (∃ m, W1 0 m H4) ∧ ∀ j k H, W1 j k H →
        (J1.stop j H ∧ Pv (i + 1) H) ∨ (J1.go j H ∧ ∃ Nx1 : Hp → Prop, (∀ H', Nx1 H' → ∃ k', k' < k ∧ W1 (j + 1) k' H') ∧ ∀ x H', J1.yld j H x H' → g1 x (wipe σ2 vs1) H' fun σ3 H5 => wipe σ3 vs1 = wipe σ2 vs1 ∧ tt1 σ3 H5 fun b H6 =>
          if b = true then te σ3 H6 fun y H7 => ∃ acc, H7 D = some (.lst acc) ∧ acc.length < sizeLine ∧ Nx1 (upd H7 D (.lst (acc ++ [y]))) else Nx1 H6)
      else Pv (i + 1) H3) (hd : ∀ H, Pv xs.length H → Qd H) :
    ∃ W : Nat → Nat → Hp → Prop, (∃ m, W 0 m (upd H1 D (.lst []))) ∧ ∀ i m H, W i m H →
      ((ItE K a c).stop i H ∧ Qd H) ∨ ((ItE K a c).go i H ∧ ∃ Nx : Hp → Prop, (∀ H', Nx H' → ∃ m', m' < m ∧ W (i + 1) m' H') ∧ ∀ x H', (ItE K a c).yld i H x H' → g x (wipe σ vs) H' fun σ2 H2 => wipe σ2 vs = wipe σ vs ∧ tt σ2 H2 fun b H3 =>
        if b = true then wi1 σ2 H3 fun J1 H4 => ∃ W1 : Nat → Nat → Hp → Prop, (∃ m, W1 0 m H4) ∧ ∀ j k H, W1 j k H →
          (J1.stop j H ∧ Nx H) ∨ (J1.go j H ∧ ∃ Nx1 : Hp → Prop, (∀ H', Nx1 H' → ∃ k', k' < k ∧ W1 (j + 1) k' H') ∧ ∀ x H', J1.yld j H x H' → g1 x (wipe σ2 vs1) H' fun σ3 H5 => wipe σ3 vs1 = wipe σ2 vs1 ∧ tt1 σ3 H5 fun b H6 =>
            if b = true then te σ3 H6 fun y H7 => ∃ acc, H7 D = some (.lst acc) ∧ acc.length < sizeLine ∧ Nx1 (upd H7 D (.lst (acc ++ [y]))) else Nx1 H6)
        else Nx H3) := by
  refine ⟨fun i m H => m = xs.length - i ∧ i ≤ xs.length ∧ Pv i H, ⟨xs.length, by simp, Nat.zero_le _, h0⟩, ?_⟩
  rintro i m H ⟨rfl, hi, p⟩
  have q := hl i H hi p
  by_cases hlt : i < xs.length
  · refine .inr ⟨⟨xs, xs[i], q, by simp [hlt]⟩, Pv (i + 1), fun H' p' => ⟨xs.length - (i + 1), by omega, rfl, hlt, p'⟩, ?_⟩
    rintro x H' ⟨T, y, rfl, nT, rfl, hx⟩
    exact hs i y T H (hx xs q) p nT
  · have e : i = xs.length := by omega
    subst e
    exact .inl ⟨⟨xs, q, rfl⟩, hd H p⟩
/-- the inner one over an enumeration from c on -/
theorem lc2_enumI {K : PySem.W.Frag} {a : Addr} {c : Int} {xs : List V} {g1 : TG} {tt1 : TT} {te : TE} {vs1 : List Nat} {σ2 : Sl} {H4 : Hp} {D : Addr} {Qd : Hp → Prop} (Pv : Nat → Hp → Prop) (h0 : Pv 0 H4) (hl : ∀ i H, i ≤ xs.length → Pv i H → SqL K H a xs)
    (hs : ∀ (i : Nat) x T H, xs[i]? = some x → Pv i H → H T = none → g1 (.ref T) (wipe σ2 vs1) (upd H T (.tup [.int (c + (i : Nat)), x])) fun σ3 H5 => wipe σ3 vs1 = wipe σ2 vs1 ∧ tt1 σ3 H5 fun b H6 =>
          if b = true then te σ3 H6 fun y H7 => ∃ acc, H7 D = some (.lst acc) ∧ acc.length < sizeLine ∧ Pv (i + 1) (upd H7 D (.lst (acc ++ [y]))) else Pv (i + 1) H6)
    (hd : ∀ H, Pv xs.length H → Qd H) :
    ∃ W1 : Nat → Nat → Hp → Prop, (∃ m, W1 0 m H4) ∧ ∀ j k H, W1 j k H →
        ((ItE K a c).stop j H ∧ Qd H) ∨ ((ItE K a c).go j H ∧ ∃ Nx1 : Hp → Prop, (∀ H', Nx1 H' → ∃ k', k' < k ∧ W1 (j + 1) k' H') ∧ ∀ x H', (ItE K a c).yld j H x H' → g1 x (wipe σ2 vs1) H' fun σ3 H5 => wipe σ3 vs1 = wipe σ2 vs1 ∧ tt1 σ3 H5 fun b H6 =>
          if b = true then te σ3 H6 fun y H7 => ∃ acc, H7 D = some (.lst acc) ∧ acc.length < sizeLine ∧ Nx1 (upd H7 D (.lst (acc ++ [y]))) else Nx1 H6) := by
  refine ⟨fun i m H => m = xs.length - i ∧ i ≤ xs.length ∧ Pv i H, ⟨xs.length, by simp, Nat.zero_le _, h0⟩, ?_⟩
  rintro i m H ⟨rfl, hi, p⟩
  have q := hl i H hi p
  by_cases hlt : i < xs.length
  · refine .inr ⟨⟨xs, xs[i], q, by simp [hlt]⟩, Pv (i + 1), fun H' p' => ⟨xs.length - (i + 1), by omega, rfl, hlt, p'⟩, ?_⟩
    rintro x H' ⟨T, y, rfl, nT, rfl, hx⟩
    exact hs i y T H (hx xs q) p nT
  · have e : i = xs.length := by omega
    subst e
    exact .inl ⟨⟨xs, q, rfl⟩, hd H p⟩

end
/-! tactics TAC -/
local macro_rules | `(tactic| wtm_at "fo a") => `(tactic| first
  | exact pa_nil
  | (refine' pa_cons ?k1 ?k2; (case k1 => wtm_at "fo e"); (case k2 => wtm_at "fo a"))
  | fail "no")
local macro_rules | `(tactic| wtm_at "fo v") => `(tactic| first
  | exact pv 0
  | exact pv 1
  | exact pv 2
  | exact pv 3
  | exact pv 4
  | exact pv 5
  | exact pv 6
  | exact pv 7
  | exact pv 8
  | exact pv 9
  | exact pv 10
  | exact pv 11
  | exact pv 12
  | exact pv 13
  | exact pv 14
  | exact pv 15
  | fail "no")
local macro_rules | `(tactic| wtm_at "fo e") => `(tactic| first
  | with_reducible exact pe_int
  | with_reducible exact pe_bl
  | with_reducible exact pe_non
  | with_reducible exact pe_str
  | ((with_reducible show PE _ (.Name _ _) _); wtm_at "fo v")
  | ((with_reducible show PE _ (.BinOp _ .Add _ _) _); apply pe_op opAddB <;> wtm_at "fo e")
  | ((with_reducible show PE _ (.BinOp _ .Sub _ _) _); apply pe_op op_sub <;> wtm_at "fo e")
  | ((with_reducible show PE _ (.BinOp _ .Mult _ _) _); apply pe_op op_mul <;> wtm_at "fo e")
  | ((with_reducible show PE _ (.BinOp _ .Mod _ _) _); apply pe_op op_mod <;> wtm_at "fo e")
  | ((with_reducible show PE _ (.BinOp _ .FloorDiv _ _) _); apply pe_op op_fdiv <;> wtm_at "fo e")
  | ((with_reducible show PE _ (.BinOp _ .Pow _ _) _); apply pe_op op_powW <;> wtm_at "fo e")
  | ((with_reducible show PE _ (.BinOp _ .LShift _ _) _); apply pe_op op_shl <;> wtm_at "fo e")
  | ((with_reducible show PE _ (.BinOp _ .RShift _ _) _); apply pe_op op_shr <;> wtm_at "fo e")
  | ((with_reducible show PE _ (.BinOp _ .BitAnd _ _) _); apply pe_op op_and <;> wtm_at "fo e")
  | ((with_reducible show PE _ (.List _ _) _); apply pe_lst; wtm_at "fo a")
  | ((with_reducible show PE _ (.Tuple _ _ _) _); apply pe_tup; wtm_at "fo a")
  | ((with_reducible show PE _ (.ListComp _ [_] _ _) _); wtm_at "fo lc")
  | ((with_reducible show PE _ (.IfExp _ _ _ _) _); apply pe_ifExp; (· wtm_at "fo t"); (· wtm_at "fo e"); (· wtm_at "fo e"))
  | ((with_reducible show PE _ (.UnaryOp .USub _ _) _); apply pe_un un_neg; wtm_at "fo e")
  | ((with_reducible show PE _ (.Call (.Name _ _) [] (_ :: _) _) _); wtm_at "fo kcall")
  | ((with_reducible show PE _ (.Call (.Name _ _) _ _ _) _); wtm_at "fo call")
  | ((with_reducible show PE _ (.Call (.Attribute _ _ _) _ _ _) _); wtm_at "fo meth")
  | ((with_reducible show PE _ (.Compare _ _ _ _) _); wtm_at "fo cmp")
  | ((with_reducible show PE _ (.Subscript _ (.Slice _ _ _ _) _) _); wtm_at "fo slice")
  | ((with_reducible show PE _ (.Subscript _ _ _) _); refine' pe_ix (ix_seqK (by assumption) (by exact rfl)) ?ka ?kb (fun _ _ => rfl); (case ka => wtm_at "fo e"); (case kb => wtm_at "fo e"))
  | fail "no")
local macro_rules | `(tactic| wtm_at "fo own") => `(tactic| first
  | ((show _ = [0]); kernel_rfl!)
  | ((show _ = [1]); kernel_rfl!)
  | ((show _ = [2]); kernel_rfl!)
  | ((show _ = [3]); kernel_rfl!)
  | ((show _ = [4]); kernel_rfl!)
  | ((show _ = [5]); kernel_rfl!)
  | ((show _ = [6]); kernel_rfl!)
  | ((show _ = [7]); kernel_rfl!)
  | ((show _ = [8]); kernel_rfl!)
  | ((show _ = [9]); kernel_rfl!)
  | ((show _ = [10]); kernel_rfl!)
  | ((show _ = [11]); kernel_rfl!)
  | ((show _ = [12]); kernel_rfl!)
  | ((show _ = [13]); kernel_rfl!)
  | ((show _ = [14]); kernel_rfl!)
  | ((show _ = [15]); kernel_rfl!)
  | ((show _ = [0, 1]); kernel_rfl!)
  | ((show _ = [1, 2]); kernel_rfl!)
  | ((show _ = [2, 3]); kernel_rfl!)
  | ((show _ = [3, 4]); kernel_rfl!)
  | ((show _ = [4, 5]); kernel_rfl!)
  | ((show _ = [5, 6]); kernel_rfl!)
  | ((show _ = [6, 7]); kernel_rfl!)
  | ((show _ = [7, 8]); kernel_rfl!)
  | ((show _ = [8, 9]); kernel_rfl!)
  | ((show _ = [9, 10]); kernel_rfl!)
  | ((show _ = [10, 11]); kernel_rfl!)
  | ((show _ = [11, 12]); kernel_rfl!)
  | ((show _ = [12, 13]); kernel_rfl!)
  | ((show _ = [13, 14]); kernel_rfl!)
  | ((show _ = [14, 15]); kernel_rfl!)
  | fail "no")
local macro_rules | `(tactic| wtm_at "fo ts") => `(tactic| first
  | exact pts_nil
  | (apply pts_one; wtm_at "fo t")
  | fail "no")
local macro_rules | `(tactic| wtm_at "fo lc") => `(tactic| first
  | (refine' pe_lcO (by assumption) (by exact rfl) (by exact rfl) (by wtm_at "fo own") (by decide +kernel) rfl ?ki ?kg ?kt ?ke; (case ki => wtm_at "fo i"); (case kg => (intro _ _ _ _ _; wtm_at "fo g")); (case kt => (intro _ _ _ _ _; wtm_at "fo ts")); (case ke => (intro _ _ _ _ _; wtm_at "fo e")))
  | fail "no")
local macro_rules | `(tactic| wtm_at "fo part") => `(tactic| first
  | exact po_none
  | (apply po_some; wtm_at "fo e")
  | fail "no")
local macro_rules | `(tactic| wtm_at "fo slice") => `(tactic| first
  | ((with_reducible show PE _ (.Subscript _ (.Slice _ _ none _) _) _); refine' pe_slice (sl_listK (by assumption) (by exact rfl)) ?ka ?kb ?kc; (case ka => wtm_at "fo e"); (case kb => wtm_at "fo part"); (case kc => wtm_at "fo part"))
  | ((with_reducible show PE _ (.Subscript _ (.Slice none none (some _) _) _) _); refine' pe_stepK (by assumption) (by exact rfl) ?ka ?kb; (case ka => wtm_at "fo e"); (case kb => wtm_at "fo e"))
  | fail "no")
local macro_rules | `(tactic| wtm_at "fo cmp") => `(tactic| first
  | ((with_reducible show PE _ (.Compare _ [.Lt] _ _) _); refine' pe_cmpR op_lt ?ka ?kb (nomark _); (case ka => wtm_at "fo e"); (case kb => wtm_at "fo e"))
  | ((with_reducible show PE _ (.Compare _ [.LtE] _ _) _); refine' pe_cmpR op_le ?ka ?kb (nomark _); (case ka => wtm_at "fo e"); (case kb => wtm_at "fo e"))
  | ((with_reducible show PE _ (.Compare _ [.Gt] _ _) _); refine' pe_cmpR op_gt ?ka ?kb (nomark _); (case ka => wtm_at "fo e"); (case kb => wtm_at "fo e"))
  | ((with_reducible show PE _ (.Compare _ [.GtE] _ _) _); refine' pe_cmpR op_ge ?ka ?kb (nomark _); (case ka => wtm_at "fo e"); (case kb => wtm_at "fo e"))
  | ((with_reducible show PE _ (.Compare _ [.Eq] _ _) _); refine' pe_cmpR (op_eqK (by assumption) (by exact rfl) (Room.units (by assumption))) ?ka ?kb (nomark _); (case ka => wtm_at "fo e"); (case kb => wtm_at "fo e"))
  | ((with_reducible show PE _ (.Compare _ [.NotEq] _ _) _); refine' pe_cmpR (op_neK (by assumption) (by exact rfl) (Room.units (by assumption))) ?ka ?kb (nomark _); (case ka => wtm_at "fo e"); (case kb => wtm_at "fo e"))
  | fail "no")
local macro_rules | `(tactic| wtm_at "fo tcmp") => `(tactic| first
  | ((with_reducible show PT _ (.Compare _ [.Lt] _ _) _); refine' pt_cmpR op_lt ?ka ?kb (nomark _); (case ka => wtm_at "fo e"); (case kb => wtm_at "fo e"))
  | ((with_reducible show PT _ (.Compare _ [.LtE] _ _) _); refine' pt_cmpR op_le ?ka ?kb (nomark _); (case ka => wtm_at "fo e"); (case kb => wtm_at "fo e"))
  | ((with_reducible show PT _ (.Compare _ [.Gt] _ _) _); refine' pt_cmpR op_gt ?ka ?kb (nomark _); (case ka => wtm_at "fo e"); (case kb => wtm_at "fo e"))
  | ((with_reducible show PT _ (.Compare _ [.GtE] _ _) _); refine' pt_cmpR op_ge ?ka ?kb (nomark _); (case ka => wtm_at "fo e"); (case kb => wtm_at "fo e"))
  | ((with_reducible show PT _ (.Compare _ [.Eq] _ _) _); refine' pt_cmpR (op_eqK (by assumption) (by exact rfl) (Room.units (by assumption))) ?ka ?kb (nomark _); (case ka => wtm_at "fo e"); (case kb => wtm_at "fo e"))
  | ((with_reducible show PT _ (.Compare _ [.NotEq] _ _) _); refine' pt_cmpR (op_neK (by assumption) (by exact rfl) (Room.units (by assumption))) ?ka ?kb (nomark _); (case ka => wtm_at "fo e"); (case kb => wtm_at "fo e"))
  | ((with_reducible show PT _ (.Compare _ [.In] _ _) _); refine' pt_cmpR (op_inK (by assumption) (by exact rfl)) ?ka ?kb rfl; (case ka => wtm_at "fo e"); (case kb => wtm_at "fo e"))
  | ((with_reducible show PT _ (.Compare _ [.NotIn] _ _) _); refine' pt_cmpR (op_notInK (by assumption) (by exact rfl)) ?ka ?kb rfl; (case ka => wtm_at "fo e"); (case kb => wtm_at "fo e"))
  | fail "no")
local macro_rules | `(tactic| wtm_at "fo w") => `(tactic| first
  | ((with_reducible show PW _ (.BoolOp .And [_] _) _); apply pw_and1; wtm_at "fo t")
  | ((with_reducible show PW _ (.BoolOp .And _ _) _); apply pw_and; (· wtm_at "fo t"); (· wtm_at "fo w"))
  | ((with_reducible show PW _ (.BoolOp .Or [_] _) _); apply pw_or1; wtm_at "fo t")
  | ((with_reducible show PW _ (.BoolOp .Or _ _) _); apply pw_or; (· wtm_at "fo t"); (· wtm_at "fo w"))
  | fail "no")
local macro_rules | `(tactic| wtm_at "fo meth") => `(tactic| first
  | ((with_reducible show PE _ (.Call (.Attribute _ (Str.ofString "append") _) _ _ _) _); refine' pe_bm PySem.F.plainAttrs_list PySem.F.slot_list_append PySem.F.type_list_append mt_append ?ka ?kb; (case ka => wtm_at "fo e"); (case kb => wtm_at "fo a"))
  | ((with_reducible show PE _ (.Call (.Attribute _ (Str.ofString "pop") _) [_] _ _) _); refine' pe_bm PySem.F.plainAttrs_list PySem.F.slot_list_pop PySem.F.type_list_pop mt_popAt ?ka ?kb; (case ka => wtm_at "fo e"); (case kb => wtm_at "fo a"))
  | ((with_reducible show PE _ (.Call (.Attribute _ (Str.ofString "pop") _) [] _ _) _); refine' pe_bm0 PySem.F.plainAttrs_list PySem.F.slot_list_pop PySem.F.type_list_pop mt_pop ?ka; (case ka => wtm_at "fo e"))
  | fail "no")
local macro_rules | `(tactic| wtm_at "fo k") => `(tactic| first
  | exact pk_nil
  | (refine' pk_cons ?k1 ?k2; (case k1 => wtm_at "fo e"); (case k2 => wtm_at "fo k"))
  | fail "no")
local macro_rules | `(tactic| wtm_at "fo kcall") => `(tactic| first
  | (refine' pe_kcal (by assumption) (by assumption) (by decide) (by rfl) ?ka; (case ka => wtm_at "fo k"))
  | fail "no")
local macro_rules | `(tactic| wtm_at "fo call") => `(tactic| first
  | ((with_reducible show PE _ (.Call (.Name (Str.ofString "int") _) _ _ _) _); refine' pe_callTy call_intB (by rfl) (by assumption) (by decide +kernel) ?ka; (case ka => wtm_at "fo a"))
  | ((with_reducible show PE _ (.Call (.Name (Str.ofString "len") _) _ _ _) _); refine' pe_callB (call_lenK (by assumption) (by exact rfl)) (by rfl) (by assumption) PySem.boot_len ?ka; (case ka => wtm_at "fo a"))
  | ((with_reducible show PE _ (.Call (.Name (Str.ofString "list") _) [.Call (.Name (Str.ofString "range") _) [_, _] _ _] _ _) _); refine' pe_listRg rfl (by rfl) (by assumption) (prg_2 (by rfl) (by assumption) ?ka ?kb); (case ka => wtm_at "fo e"); (case kb => wtm_at "fo e"))
  | ((with_reducible show PE _ (.Call (.Name (Str.ofString "list") _) _ _ _) _); refine' pe_callTy (call_listK (by assumption) (by exact rfl)) (by rfl) (by assumption) (by decide +kernel) ?ka; (case ka => wtm_at "fo a"))
  | ((with_reducible show PE _ (.Call (.Name (Str.ofString "min") _) [_, _] _ _) _); refine' pe_callB (call_min2 rfl) (by rfl) (by assumption) (by decide +kernel) ?ka; (case ka => wtm_at "fo a"))
  | ((with_reducible show PE _ (.Call (.Name (Str.ofString "sorted") _) [_] _ _) _); refine' pe_callB (cr_sortedK (by assumption) (by exact rfl)) (by rfl) (by assumption) (by decide +kernel) ?ka; (case ka => wtm_at "fo a"))
  | ((with_reducible show PE _ (.Call (.Name (Str.ofString "repr") _) [_] _ _) _); refine' pe_callB (call_reprK (by assumption) (by exact rfl) (by assumption) (Room.units (by assumption))) (by rfl) (by assumption) (by decide +kernel) ?ka; (case ka => wtm_at "fo a"))
  | (refine' pe_cal (by assumption) (by assumption) (by decide) (by rfl) ?ka; (case ka => wtm_at "fo a"))
  | fail "no")
local macro_rules | `(tactic| wtm_at "fo setlc") => `(tactic| first
  | (refine' ps_setLcO (i := 0) (by assumption) (by exact rfl) (by exact rfl) (by wtm_at "fo own") (by decide +kernel) rfl rfl rfl (sw_true rfl rfl rfl (by decide +kernel)) ?ki ?kg ?kt ?ke; (case ki => wtm_at "fo i"); (case kg => (intro _ _ _ _ _; wtm_at "fo g")); (case kt => (intro _ _ _ _ _; wtm_at "fo ts")); (case ke => (intro _ _ _ _ _; wtm_at "fo e")))
  | (refine' ps_setLcO (i := 1) (by assumption) (by exact rfl) (by exact rfl) (by wtm_at "fo own") (by decide +kernel) rfl rfl rfl (sw_true rfl rfl rfl (by decide +kernel)) ?ki ?kg ?kt ?ke; (case ki => wtm_at "fo i"); (case kg => (intro _ _ _ _ _; wtm_at "fo g")); (case kt => (intro _ _ _ _ _; wtm_at "fo ts")); (case ke => (intro _ _ _ _ _; wtm_at "fo e")))
  | (refine' ps_setLcO (i := 2) (by assumption) (by exact rfl) (by exact rfl) (by wtm_at "fo own") (by decide +kernel) rfl rfl rfl (sw_true rfl rfl rfl (by decide +kernel)) ?ki ?kg ?kt ?ke; (case ki => wtm_at "fo i"); (case kg => (intro _ _ _ _ _; wtm_at "fo g")); (case kt => (intro _ _ _ _ _; wtm_at "fo ts")); (case ke => (intro _ _ _ _ _; wtm_at "fo e")))
  | (refine' ps_setLcO (i := 3) (by assumption) (by exact rfl) (by exact rfl) (by wtm_at "fo own") (by decide +kernel) rfl rfl rfl (sw_true rfl rfl rfl (by decide +kernel)) ?ki ?kg ?kt ?ke; (case ki => wtm_at "fo i"); (case kg => (intro _ _ _ _ _; wtm_at "fo g")); (case kt => (intro _ _ _ _ _; wtm_at "fo ts")); (case ke => (intro _ _ _ _ _; wtm_at "fo e")))
  | (refine' ps_setLcO (i := 4) (by assumption) (by exact rfl) (by exact rfl) (by wtm_at "fo own") (by decide +kernel) rfl rfl rfl (sw_true rfl rfl rfl (by decide +kernel)) ?ki ?kg ?kt ?ke; (case ki => wtm_at "fo i"); (case kg => (intro _ _ _ _ _; wtm_at "fo g")); (case kt => (intro _ _ _ _ _; wtm_at "fo ts")); (case ke => (intro _ _ _ _ _; wtm_at "fo e")))
  | (refine' ps_setLcO (i := 5) (by assumption) (by exact rfl) (by exact rfl) (by wtm_at "fo own") (by decide +kernel) rfl rfl rfl (sw_true rfl rfl rfl (by decide +kernel)) ?ki ?kg ?kt ?ke; (case ki => wtm_at "fo i"); (case kg => (intro _ _ _ _ _; wtm_at "fo g")); (case kt => (intro _ _ _ _ _; wtm_at "fo ts")); (case ke => (intro _ _ _ _ _; wtm_at "fo e")))
  | (refine' ps_setLcO (i := 6) (by assumption) (by exact rfl) (by exact rfl) (by wtm_at "fo own") (by decide +kernel) rfl rfl rfl (sw_true rfl rfl rfl (by decide +kernel)) ?ki ?kg ?kt ?ke; (case ki => wtm_at "fo i"); (case kg => (intro _ _ _ _ _; wtm_at "fo g")); (case kt => (intro _ _ _ _ _; wtm_at "fo ts")); (case ke => (intro _ _ _ _ _; wtm_at "fo e")))
  | (refine' ps_setLcO (i := 7) (by assumption) (by exact rfl) (by exact rfl) (by wtm_at "fo own") (by decide +kernel) rfl rfl rfl (sw_true rfl rfl rfl (by decide +kernel)) ?ki ?kg ?kt ?ke; (case ki => wtm_at "fo i"); (case kg => (intro _ _ _ _ _; wtm_at "fo g")); (case kt => (intro _ _ _ _ _; wtm_at "fo ts")); (case ke => (intro _ _ _ _ _; wtm_at "fo e")))
  | (refine' ps_setLcO (i := 8) (by assumption) (by exact rfl) (by exact rfl) (by wtm_at "fo own") (by decide +kernel) rfl rfl rfl (sw_true rfl rfl rfl (by decide +kernel)) ?ki ?kg ?kt ?ke; (case ki => wtm_at "fo i"); (case kg => (intro _ _ _ _ _; wtm_at "fo g")); (case kt => (intro _ _ _ _ _; wtm_at "fo ts")); (case ke => (intro _ _ _ _ _; wtm_at "fo e")))
  | (refine' ps_setLcO (i := 9) (by assumption) (by exact rfl) (by exact rfl) (by wtm_at "fo own") (by decide +kernel) rfl rfl rfl (sw_true rfl rfl rfl (by decide +kernel)) ?ki ?kg ?kt ?ke; (case ki => wtm_at "fo i"); (case kg => (intro _ _ _ _ _; wtm_at "fo g")); (case kt => (intro _ _ _ _ _; wtm_at "fo ts")); (case ke => (intro _ _ _ _ _; wtm_at "fo e")))
  | (refine' ps_setLcO (i := 10) (by assumption) (by exact rfl) (by exact rfl) (by wtm_at "fo own") (by decide +kernel) rfl rfl rfl (sw_true rfl rfl rfl (by decide +kernel)) ?ki ?kg ?kt ?ke; (case ki => wtm_at "fo i"); (case kg => (intro _ _ _ _ _; wtm_at "fo g")); (case kt => (intro _ _ _ _ _; wtm_at "fo ts")); (case ke => (intro _ _ _ _ _; wtm_at "fo e")))
  | (refine' ps_setLcO (i := 11) (by assumption) (by exact rfl) (by exact rfl) (by wtm_at "fo own") (by decide +kernel) rfl rfl rfl (sw_true rfl rfl rfl (by decide +kernel)) ?ki ?kg ?kt ?ke; (case ki => wtm_at "fo i"); (case kg => (intro _ _ _ _ _; wtm_at "fo g")); (case kt => (intro _ _ _ _ _; wtm_at "fo ts")); (case ke => (intro _ _ _ _ _; wtm_at "fo e")))
  | (refine' ps_setLcO (i := 12) (by assumption) (by exact rfl) (by exact rfl) (by wtm_at "fo own") (by decide +kernel) rfl rfl rfl (sw_true rfl rfl rfl (by decide +kernel)) ?ki ?kg ?kt ?ke; (case ki => wtm_at "fo i"); (case kg => (intro _ _ _ _ _; wtm_at "fo g")); (case kt => (intro _ _ _ _ _; wtm_at "fo ts")); (case ke => (intro _ _ _ _ _; wtm_at "fo e")))
  | (refine' ps_setLcO (i := 13) (by assumption) (by exact rfl) (by exact rfl) (by wtm_at "fo own") (by decide +kernel) rfl rfl rfl (sw_true rfl rfl rfl (by decide +kernel)) ?ki ?kg ?kt ?ke; (case ki => wtm_at "fo i"); (case kg => (intro _ _ _ _ _; wtm_at "fo g")); (case kt => (intro _ _ _ _ _; wtm_at "fo ts")); (case ke => (intro _ _ _ _ _; wtm_at "fo e")))
  | (refine' ps_setLcO (i := 14) (by assumption) (by exact rfl) (by exact rfl) (by wtm_at "fo own") (by decide +kernel) rfl rfl rfl (sw_true rfl rfl rfl (by decide +kernel)) ?ki ?kg ?kt ?ke; (case ki => wtm_at "fo i"); (case kg => (intro _ _ _ _ _; wtm_at "fo g")); (case kt => (intro _ _ _ _ _; wtm_at "fo ts")); (case ke => (intro _ _ _ _ _; wtm_at "fo e")))
  | (refine' ps_setLcO (i := 15) (by assumption) (by exact rfl) (by exact rfl) (by wtm_at "fo own") (by decide +kernel) rfl rfl rfl (sw_true rfl rfl rfl (by decide +kernel)) ?ki ?kg ?kt ?ke; (case ki => wtm_at "fo i"); (case kg => (intro _ _ _ _ _; wtm_at "fo g")); (case kt => (intro _ _ _ _ _; wtm_at "fo ts")); (case ke => (intro _ _ _ _ _; wtm_at "fo e")))
  | fail "no")
local macro_rules | `(tactic| wtm_at "fo set") => `(tactic| first
  | (refine' ps_set (i := 0) (by assumption) rfl (by first | exact Or.inl rfl | exact Or.inr rfl) ?ka; (case ka => wtm_at "fo e"))
  | (refine' ps_set (i := 1) (by assumption) rfl (by first | exact Or.inl rfl | exact Or.inr rfl) ?ka; (case ka => wtm_at "fo e"))
  | (refine' ps_set (i := 2) (by assumption) rfl (by first | exact Or.inl rfl | exact Or.inr rfl) ?ka; (case ka => wtm_at "fo e"))
  | (refine' ps_set (i := 3) (by assumption) rfl (by first | exact Or.inl rfl | exact Or.inr rfl) ?ka; (case ka => wtm_at "fo e"))
  | (refine' ps_set (i := 4) (by assumption) rfl (by first | exact Or.inl rfl | exact Or.inr rfl) ?ka; (case ka => wtm_at "fo e"))
  | (refine' ps_set (i := 5) (by assumption) rfl (by first | exact Or.inl rfl | exact Or.inr rfl) ?ka; (case ka => wtm_at "fo e"))
  | (refine' ps_set (i := 6) (by assumption) rfl (by first | exact Or.inl rfl | exact Or.inr rfl) ?ka; (case ka => wtm_at "fo e"))
  | (refine' ps_set (i := 7) (by assumption) rfl (by first | exact Or.inl rfl | exact Or.inr rfl) ?ka; (case ka => wtm_at "fo e"))
  | (refine' ps_set (i := 8) (by assumption) rfl (by first | exact Or.inl rfl | exact Or.inr rfl) ?ka; (case ka => wtm_at "fo e"))
  | (refine' ps_set (i := 9) (by assumption) rfl (by first | exact Or.inl rfl | exact Or.inr rfl) ?ka; (case ka => wtm_at "fo e"))
  | (refine' ps_set (i := 10) (by assumption) rfl (by first | exact Or.inl rfl | exact Or.inr rfl) ?ka; (case ka => wtm_at "fo e"))
  | (refine' ps_set (i := 11) (by assumption) rfl (by first | exact Or.inl rfl | exact Or.inr rfl) ?ka; (case ka => wtm_at "fo e"))
  | (refine' ps_set (i := 12) (by assumption) rfl (by first | exact Or.inl rfl | exact Or.inr rfl) ?ka; (case ka => wtm_at "fo e"))
  | (refine' ps_set (i := 13) (by assumption) rfl (by first | exact Or.inl rfl | exact Or.inr rfl) ?ka; (case ka => wtm_at "fo e"))
  | fail "no")
local macro_rules | `(tactic| wtm_at "fo t") => `(tactic| first
  | ((with_reducible show PT _ (.BoolOp _ _ _) _); apply PW.pt; wtm_at "fo w")
  | ((with_reducible show PT _ (.UnaryOp .Not _ _) _); apply pt_not; wtm_at "fo t")
  | ((with_reducible show PT _ (.Compare _ _ _ _) _); wtm_at "fo tcmp")
  | (refine' pt_truthK (by assumption) (by exact rfl) ?ka (by intro _; rfl); (case ka => wtm_at "fo e"))
  | fail "no")
local macro_rules | `(tactic| wtm_at "fo gn") => `(tactic| first
  | exact pg_name (i := 0) (by assumption) rfl (by first | exact Or.inl rfl | exact Or.inr rfl)
  | exact pg_name (i := 1) (by assumption) rfl (by first | exact Or.inl rfl | exact Or.inr rfl)
  | exact pg_name (i := 2) (by assumption) rfl (by first | exact Or.inl rfl | exact Or.inr rfl)
  | exact pg_name (i := 3) (by assumption) rfl (by first | exact Or.inl rfl | exact Or.inr rfl)
  | exact pg_name (i := 4) (by assumption) rfl (by first | exact Or.inl rfl | exact Or.inr rfl)
  | exact pg_name (i := 5) (by assumption) rfl (by first | exact Or.inl rfl | exact Or.inr rfl)
  | exact pg_name (i := 6) (by assumption) rfl (by first | exact Or.inl rfl | exact Or.inr rfl)
  | exact pg_name (i := 7) (by assumption) rfl (by first | exact Or.inl rfl | exact Or.inr rfl)
  | exact pg_name (i := 8) (by assumption) rfl (by first | exact Or.inl rfl | exact Or.inr rfl)
  | exact pg_name (i := 9) (by assumption) rfl (by first | exact Or.inl rfl | exact Or.inr rfl)
  | exact pg_name (i := 10) (by assumption) rfl (by first | exact Or.inl rfl | exact Or.inr rfl)
  | exact pg_name (i := 11) (by assumption) rfl (by first | exact Or.inl rfl | exact Or.inr rfl)
  | exact pg_name (i := 12) (by assumption) rfl (by first | exact Or.inl rfl | exact Or.inr rfl)
  | exact pg_name (i := 13) (by assumption) rfl (by first | exact Or.inl rfl | exact Or.inr rfl)
  | exact pg_name (i := 14) (by assumption) rfl (by first | exact Or.inl rfl | exact Or.inr rfl)
  | exact pg_name (i := 15) (by assumption) rfl (by first | exact Or.inl rfl | exact Or.inr rfl)
  | fail "no")
local macro_rules | `(tactic| wtm_at "fo par") => `(tactic| first
  | (refine' ps_par (i := 0) (j := 1) rfl (by assumption) rfl rfl (by decide) rfl rfl ?ka (by rfl); (case ka => wtm_at "fo a"))
  | (refine' ps_par (i := 1) (j := 2) rfl (by assumption) rfl rfl (by decide) rfl rfl ?ka (by rfl); (case ka => wtm_at "fo a"))
  | (refine' ps_par (i := 2) (j := 3) rfl (by assumption) rfl rfl (by decide) rfl rfl ?ka (by rfl); (case ka => wtm_at "fo a"))
  | (refine' ps_par (i := 3) (j := 4) rfl (by assumption) rfl rfl (by decide) rfl rfl ?ka (by rfl); (case ka => wtm_at "fo a"))
  | (refine' ps_par (i := 4) (j := 5) rfl (by assumption) rfl rfl (by decide) rfl rfl ?ka (by rfl); (case ka => wtm_at "fo a"))
  | (refine' ps_par (i := 5) (j := 6) rfl (by assumption) rfl rfl (by decide) rfl rfl ?ka (by rfl); (case ka => wtm_at "fo a"))
  | (refine' ps_par (i := 6) (j := 7) rfl (by assumption) rfl rfl (by decide) rfl rfl ?ka (by rfl); (case ka => wtm_at "fo a"))
  | (refine' ps_par (i := 7) (j := 8) rfl (by assumption) rfl rfl (by decide) rfl rfl ?ka (by rfl); (case ka => wtm_at "fo a"))
  | (refine' ps_par (i := 8) (j := 9) rfl (by assumption) rfl rfl (by decide) rfl rfl ?ka (by rfl); (case ka => wtm_at "fo a"))
  | (refine' ps_par (i := 9) (j := 10) rfl (by assumption) rfl rfl (by decide) rfl rfl ?ka (by rfl); (case ka => wtm_at "fo a"))
  | (refine' ps_par (i := 10) (j := 11) rfl (by assumption) rfl rfl (by decide) rfl rfl ?ka (by rfl); (case ka => wtm_at "fo a"))
  | (refine' ps_par (i := 11) (j := 12) rfl (by assumption) rfl rfl (by decide) rfl rfl ?ka (by rfl); (case ka => wtm_at "fo a"))
  | (refine' ps_par (i := 12) (j := 13) rfl (by assumption) rfl rfl (by decide) rfl rfl ?ka (by rfl); (case ka => wtm_at "fo a"))
  | (refine' ps_par (i := 13) (j := 14) rfl (by assumption) rfl rfl (by decide) rfl rfl ?ka (by rfl); (case ka => wtm_at "fo a"))
  | (refine' ps_par (i := 14) (j := 15) rfl (by assumption) rfl rfl (by decide) rfl rfl ?ka (by rfl); (case ka => wtm_at "fo a"))
  | fail "no")
local macro_rules | `(tactic| wtm_at "fo g") => `(tactic| first
  | ((with_reducible show PG _ (.Name _ _) _); wtm_at "fo gn")
  | ((with_reducible show PG _ (.Tuple _ _ _) _); apply PG_or; (· refine' pg_tup2 (by assumption) (by exact rfl) rfl ?kg; (case kg => wtm_at "fo gs")); (· refine' pg_unl2 (by assumption) (by exact rfl) rfl ?kg; (case kg => wtm_at "fo gs")))
  | fail "no")
local macro_rules | `(tactic| wtm_at "fo gs") => `(tactic| first
  | exact pgs_nil
  | (refine' pgs_cons ?k1 ?k2; (case k1 => wtm_at "fo g"); (case k2 => wtm_at "fo gs"))
  | fail "no")
local macro_rules | `(tactic| wtm_at "fo i") => `(tactic| first
  | ((with_reducible show PI _ _ (.Call (.Name (Str.ofString "range") _) [_] _ _) _); refine' pi_range1 (by rfl) (by assumption) ?ka; (case ka => wtm_at "fo a"))
  | ((with_reducible show PI _ _ (.Call (.Name (Str.ofString "range") _) [_, _] _ _) _); refine' pi_range2 (by rfl) (by assumption) ?ka; (case ka => wtm_at "fo a"))
  | ((with_reducible show PI _ _ (.Call (.Name (Str.ofString "enumerate") _) [_] _ _) _); refine' pi_enum (by rfl) (by assumption) ?ka; (case ka => wtm_at "fo a"))
  | (refine' pi_listK (by assumption) (by exact rfl) ?ka; (case ka => wtm_at "fo e"))
  | fail "no")
local macro_rules | `(tactic| wtm_at "fo s") => `(tactic| first
  | ((with_reducible show PS _ (.While _ _ _ _) _); refine' ps_while PassesOwn.never ?kt ?kb; (case kt => wtm_at "fo t"); (case kb => wtm_at "fo ss"))
  | ((with_reducible show PS _ (.For _ _ _ _ _) _); refine' ps_for PassesOwn.never rfl ?ki ?kg ?kb; (case ki => wtm_at "fo i"); (case kg => wtm_at "fo g"); (case kb => wtm_at "fo ss"))
  | ((with_reducible show PS _ (.Assign [.Name _ _] (.ListComp _ [_] _ _) _) _); wtm_at "fo setlc")
  | ((with_reducible show PS _ (.Assign [.Name _ _] _ _) _); wtm_at "fo set")
  | ((with_reducible show PS _ (.Assign [.Tuple [.Name _ _, .Name _ _] _ _] (.Tuple [_, _] _ _) _) _); wtm_at "fo par")
  | ((with_reducible show PS _ (.Assign [.Subscript _ _ _] _ _) _); refine' ps_asg ?ka (pg_sub ?kb ?kc set_list); (case ka => wtm_at "fo e"); (case kb => wtm_at "fo e"); (case kc => wtm_at "fo e"))
  | ((with_reducible show PS _ (.Return (some _) _) _); apply ps_ret; wtm_at "fo e")
  | ((with_reducible show PS _ (.Expr _ _) _); refine' ps_expr ?ka; (case ka => wtm_at "fo e"))
  | ((with_reducible show PS _ (.If _ _ _ _) _); apply ps_if; (· wtm_at "fo t"); (· wtm_at "fo ss"); (· wtm_at "fo ss"))
  | fail "no")
local macro_rules | `(tactic| wtm_at "fo ss") => `(tactic| first
  | with_reducible exact pss_nil
  | ((with_reducible show PSs _ [_] _); apply pss_one; wtm_at "fo s")
  | (apply pss_cons; (· wtm_at "fo s"); (· wtm_at "fo ss"))
  | fail "no")
local macro_rules | `(tactic| wtm_at "fo hp") => `(tactic| first
  | assumption
  | exact upd_same
  | (refine (upd_ne ?ne).trans ?hp; (case ne => wtm_at "fo ne"); (case hp => wtm_at "fo hp"))
  | fail "no")
local macro_rules | `(tactic| wtm_at "fo ne") => `(tactic| first
  | assumption
  | (apply Ne.symm; assumption)
  | exact ne_of_none (by assumption) (by assumption)
  | exact Ne.symm (ne_of_none (by assumption) (by assumption))
  | fail "no")
local macro_rules | `(tactic| wtm_at "fo sz") => `(tactic| first
  | exact (Nat.le_of_ble_eq_true rfl : _ ≤ sizeLine)
  | exact (Nat.le_of_ble_eq_true rfl : _ < sizeLine)
  | exact Nat.lt_of_le_of_lt (m := 100000) (by first | assumption | omega | (simp; omega)) (by decide)
  | exact Nat.le_trans (m := 100000) (by first | assumption | omega | (simp; omega)) (by decide)
  | fail "no")
local macro_rules | `(tactic| wtm_at "fo r1") => `(tactic| first
  | refine ⟨(Nat.le_of_ble_eq_true rfl : _ ≤ sizeLine), fun p np => ?_⟩
  | (refine' ⟨_, _, rfl, Or.inl (SqL.of ?h), ?_⟩; (case h => wtm_at "fo hp"))
  | refine ⟨_, rfl, ?_⟩
  | refine ⟨_, _, rfl, rfl, ?_⟩
  | refine ⟨_, _, rfl, ⟨by omega, by omega, by omega, by omega⟩, ?_⟩
  | refine ⟨_, rfl, by omega, by omega, ?_⟩
  | refine Or.inl ⟨_, rfl, ?_⟩
  | refine Or.inl ⟨rfl, ?_⟩
  | refine Or.inl ⟨_, _, rfl, rfl, ?_⟩
  | (refine' Or.inl ⟨_, _, _, _, rfl, rfl, SqL.of ?h, ?a, ?_⟩; (case h => wtm_at "fo hp"); (case a => rfl))
  | (refine' ⟨_, _, _, _, rfl, rfl, ?h, ?a, ?_⟩; (case h => wtm_at "fo hp"); (case a => rfl))
  | (refine' ⟨.inl ⟨rfl, _, SqL.of ?h⟩, ?_⟩; (case h => wtm_at "fo hp"))
  | (refine' ⟨_, _, _, rfl, rfl, ?h, ?z, ?_⟩; (case h => wtm_at "fo hp"); (case z => wtm_at "fo sz"))
  | (refine' ⟨_, rfl, ⟨_, SqL.of ?h⟩, ?_⟩; (case h => wtm_at "fo hp"))
  | fail "no")
local macro_rules | `(tactic| wtm_at "fo side") => `(tactic| ((try dsimp only [CMul, CDiv]); first
  | assumption
  | decide
  | omega
  | exact ⟨by decide, by decide⟩
  | exact ⟨by omega, by omega⟩
  | decide +kernel
  | fail "no"))
local macro_rules | `(tactic| wtm_at "fo r2") => `(tactic| first
  | wtm_at "fo r1"
  | refine And.intro (by wtm_at "fo side") ?_
  | fail "no")
local macro_rules | `(tactic| wtm_at "fo r") => `(tactic| repeat wtm_at "fo r2")
/-! piece D1 -/
section
def Dr (H : Hp) (d : Addr) (k : Int) : Prop := ∃ a b, H d = some (.lst [.int a, .int k, .bl b]) ∧ 0 ≤ k
def SameBut (d : Addr) (H H' : Hp) : Prop := ∀ b o, b ≠ d → H b = some o → H' b = some o
@[irreducible] def spNext : Sp := fun vs H Q _ => ∃ d k, vs = [.ref d] ∧ Dr H d k ∧ k < 2 ^ 40 ∧
  ∀ n H', 0 ≤ n → SameBut d H H' → Dr H' d (k + 1) → Q (.int n) H'
theorem call_next {d : Addr} {k : Int} {H : Hp} {Q : VK} {E : XK} (hd : Dr H d k) (hk : k < 2 ^ 40) (q : ∀ n H', 0 ≤ n → SameBut d H H' → Dr H' d (k + 1) → Q (.int n) H') : spNext [.ref d] H Q E := by
  unfold spNext
  exact ⟨d, k, rfl, hd, hk, q⟩
variable {P : Program} {w : World} {K : PySem.W.Frag} {mg : Str → Option Value} {base : Heap}
set_option maxHeartbeats 2000000 in
theorem ok_next {f : Addr} {fd : FuncData} (F : Fun K "_law_next" "_law_next" s_law_next f fd) (mi : mg "int" = none) :
    FnOk P w K mg base CX0 1 f fd ["_law_draws_here"] spNext := by
  refine F.ok sc_law_next (fun vs H Q E h => ?_) (fun cdv A outer s H vs Q E hr h => ?_)
  · unfold spNext at h
    obtain ⟨d, k, rfl, _⟩ := h
    rfl
  · have nd := sc_law_next.nd
    have hS := sc_law_next
    have hKM : KMark K := ⟨⟩
    have hmi : (cxOf CX0 P w K mg base ["_law_draws_here", "_law_k", "_law_drawn"] "_law_next" (defScope s_law_next) f cdv A outer s H E).nox.mg "int" = none := mi
    refine' mk_body ?body ?rd
    case body =>
      show PSs _ [_, _, _, _, _, _] _
      wtm_at "fo ss"
    case rd =>
     unfold spNext at h
     obtain ⟨d, k, rfl, ⟨a, b, hd, hk⟩, hk2, q⟩ := h
     wtm_at "fo r"
     refine ite2 (fun hb => ?_) (fun hb => ?_)
     · wtm_at "fo r"
       refine q _ _ (Int.emod_nonneg _ (by decide)) ?_ ⟨_, _, upd_same, by omega⟩
       intro c o hc e
       rw [upd_ne hc, upd_ne hc]
       exact e
     · wtm_at "fo r"
       refine q _ _ (by omega) ?_ ⟨_, _, upd_same, by omega⟩
       intro c o hc e
       rw [upd_ne hc]
       exact e
end
/-! piece D2 -/
section
@[irreducible] def spDraws : Sp := fun vs H Q _ => ∃ c : Int, vs = [.int c] ∧
  ∀ p a b, H p = none → Q (.ref p) (upd H p (.lst [.int a, .int 0, .bl b]))
theorem call_draws {c : Int} {H : Hp} {Q : VK} {E : XK} (q : ∀ p a b, H p = none → Q (.ref p) (upd H p (.lst [.int a, .int 0, .bl b]))) : spDraws [.int c] H Q E := by
  unfold spDraws
  exact ⟨c, rfl, q⟩
variable {P : Program} {w : World} {K : PySem.W.Frag} {mg : Str → Option Value} {base : Heap}
set_option maxHeartbeats 2000000 in
theorem ok_draws {f : Addr} {fd : FuncData} (F : Fun K "_law_draws" "_law_draws" s_law_draws f fd) (mi : mg "int" = none) :
    FnOk P w K mg base CX0 1 f fd ["_law_cell"] spDraws := by
  refine F.ok sc_law_draws (fun vs H Q E h => ?_) (fun cdv A outer s H vs Q E hr h => ?_)
  · unfold spDraws at h
    obtain ⟨c, rfl, _⟩ := h
    rfl
  · have nd := sc_law_draws.nd
    have hS := sc_law_draws
    have hKM : KMark K := ⟨⟩
    refine' mk_body ?body ?rd
    case body =>
      show PSs _ [_] _
      wtm_at "fo ss"
    case rd =>
     unfold spDraws at h
     obtain ⟨c, rfl, q⟩ := h
     wtm_at "fo r"
     exact q _ _ _ (by assumption)
end
/-! piece D3 -/
section
theorem SameBut.refl (d : Addr) (H : Hp) : SameBut d H H := fun _ _ _ h => h
theorem SameBut.trans {d : Addr} {H H1 H2 : Hp} (a : SameBut d H H1) (b : SameBut d H1 H2) : SameBut d H H2 := fun c o n e => b c o n (a c o n e)
theorem SameBut.new {d p : Addr} {H H1 : Hp} {o : HO} (a : SameBut d H H1) (np : H p = none) : SameBut d H (upd H1 p o) := fun c u n e => by
  rw [upd_ne (ne_of_none e np)]
  exact a c u n e
theorem SameBut.at {d p : Addr} {H H1 : Hp} {o u : HO} (a : SameBut d H H1) (hp : H p = some o) (hd : H d = some u) (ne : o ≠ u) : H1 p = some o :=
  a p o (ne_of hp hd ne) hp
/-- a thing that may be shuffled: a small number, or a pair of such -/
def Item (H : Hp) (x : V) : Prop := (∃ i : Int, x = .int i ∧ i.natAbs < 1000) ∨ ∃ r i j, x = .ref r ∧ H r = some (.lst [.int i, .int j]) ∧ i.natAbs < 1000 ∧ j.natAbs < 1000
theorem Dr.ne_pair {H : Hp} {d r : Addr} {k i j : Int} (h : Dr H d k) (hr : H r = some (.lst [.int i, .int j])) : r ≠ d := by
  obtain ⟨a, b, hd, _⟩ := h
  exact ne_of hr hd (by intro e; injection e with e; simp at e)
theorem Item.but {d : Addr} {H H' : Hp} {x : V} {k : Int} (h : Item H x) (s : SameBut d H H') (hd : Dr H d k) : Item H' x := by
  rcases h with h | ⟨r, i, j, rfl, hr, h1, h2⟩
  · exact .inl h
  · exact .inr ⟨r, i, j, rfl, s r _ (hd.ne_pair hr) hr, h1, h2⟩
theorem Item.dp {K : PySem.W.Frag} {H : Hp} {x : V} (h : Item H x) : ∃ e, Dp K H x e ∧ DOk 1 20 e := by
  rcases h with ⟨i, rfl, hi⟩ | ⟨r, i, j, rfl, hr, h1, h2⟩
  · exact ⟨_, .int i, (dok_int hi).mono (by decide) (by decide)⟩
  · refine ⟨.list [.int i, .int j], .lst (SqL.of hr) (.cons (.int i) (.cons (.int j) .nil)), (dok_list (n := 0) (b := 5) ?_).mono (by decide) (by simp)⟩
    intro x hx
    simp only [List.mem_cons, List.not_mem_nil, or_false] at hx
    rcases hx with rfl | rfl
    · exact dok_int h1
    · exact dok_int h2
theorem items_dp {K : PySem.W.Frag} {H : Hp} : ∀ {xs : List V}, (∀ x ∈ xs, Item H x) → ∃ ds, DpAll K H xs ds ∧ (∀ e ∈ ds, DOk 1 20 e) ∧ ds.length = xs.length
  | [], _ => ⟨[], .nil, (fun _ h => nomatch h), rfl⟩
  | x :: xs, h => by
    obtain ⟨ds, h1, h2, h3⟩ := items_dp (K := K) (xs := xs) fun y hy => h y (List.mem_cons_of_mem _ hy)
    obtain ⟨e, h4, h5⟩ := (h x (List.mem_cons_self ..)).dp (K := K)
    refine ⟨e :: ds, .cons h4 h1, ?_, by simp [h3]⟩
    intro u hu
    rcases List.mem_cons.mp hu with rfl | hu
    · exact h5
    · exact h2 u hu
@[irreducible] def spShuf : Sp := fun vs H Q _ => ∃ d q k xs, vs = [.ref d, .ref q] ∧ Dr H d k ∧ k ≤ 1000000 ∧ H q = some (.lst xs) ∧ xs.length ≤ 200 ∧ (∀ x ∈ xs, Item H x) ∧
  ∀ p ys H' k', ys.Perm xs → SameBut d H H' → H p = none → H' p = some (.lst ys) → Dr H' d k' → k' ≤ k + 200 → Q (.ref p) H'
theorem call_shuf {d q : Addr} {k : Int} {xs : List V} {H : Hp} {Q : VK} {E : XK} (hd : Dr H d k) (hk : k ≤ 1000000) (hq : H q = some (.lst xs)) (hl : xs.length ≤ 200) (hi : ∀ x ∈ xs, Item H x)
    (fin : ∀ p ys H' k', ys.Perm xs → SameBut d H H' → H p = none → H' p = some (.lst ys) → Dr H' d k' → k' ≤ k + 200 → Q (.ref p) H') : spShuf [.ref d, .ref q] H Q E := by
  unfold spShuf
  exact ⟨d, q, k, xs, rfl, hd, hk, hq, hl, hi, fin⟩
variable {P : Program} {w : World} {K : PySem.W.Frag} {mg : Str → Option Value} {base : Heap}
set_option maxHeartbeats 4000000 in
theorem ok_shuf {f : Addr} {fd : FuncData} (F : Fun K "_law_shuffled" "_law_shuffled" s_law_shuffled f fd) (mi : mg "int" = none) (ml : mg "list" = none) (mn : mg "len" = none)
    (C : Cal P w K mg base "_law_next" 1 ["_law_draws_here"] spNext) :
    FnOk P w K mg base CX0 2 f fd ["_law_draws_here", "_law_things"] spShuf := by
  refine F.ok sc_law_shuffled (fun vs H Q E h => ?_) (fun cdv A outer s H vs Q E hr h => ?_)
  · unfold spShuf at h
    obtain ⟨d, q, k, xs, rfl, _⟩ := h
    rfl
  · have nd := sc_law_shuffled.nd
    have hS := sc_law_shuffled
    have hKM : KMark K := ⟨⟩
    refine' mk_body ?body ?rd
    case body =>
      show PSs _ [_, _, _, _] _
      wtm_at "fo ss"
    case rd =>
     unfold spShuf at h
     obtain ⟨d, q, k, xs, rfl, hd, hk, hq, hlen, hit, fin⟩ := h
     wtm_at "fo r"
     intro l nl
     wtm_at "fo r"
     rename_i t nt
     have nl' : l ≠ d := by
       obtain ⟨a, b, e, _⟩ := hd
       exact (ne_of_none e nl).symm
     have tl : t ≠ l := (ne_of_none (upd_same (H := H) (a := l) (o := HO.lst xs)) nt).symm
     have nt0 : H t = none := by rw [upd_ne tl] at nt; exact nt
     have nt' : t ≠ d := by
       obtain ⟨a, b, e, _⟩ := hd
       exact (ne_of_none e nt0).symm
     let W : Nat → Sl → Hp → Prop := fun m σ H1 => ∃ ls ts k1, σ = [some (.ref d), some (.ref q), some (.ref l), some (.ref t)] ∧ m = ls.length ∧ H1 l = some (.lst ls) ∧ H1 t = some (.lst ts) ∧
       (ts ++ ls).Perm xs ∧ Dr H1 d k1 ∧ k1 + ls.length = k + xs.length ∧ SameBut d H H1
     refine ⟨W, ⟨xs.length, xs, [], k, rfl, rfl, ?_, upd_same, .refl _, ?_, rfl, ?_⟩, fun m σ H1 hW => ?_⟩
     · rw [upd_ne tl.symm]
       exact upd_same
     · obtain ⟨a, b, e, h0⟩ := hd
       exact ⟨a, b, by rw [upd_ne nt'.symm, upd_ne nl'.symm]; exact e, h0⟩
     · exact ((SameBut.refl d H).new nl).new nt0
     obtain ⟨ls, ts, k1, rfl, rfl, hl, ht, hp, hd1, hk1, sb⟩ := hW
     have hlen2 : ts.length + ls.length = xs.length := by rw [← List.length_append]; exact hp.length_eq
     have hit1 : ∀ x ∈ ls, Item H1 x := fun x hx => (hit x (hp.mem_iff.mp (List.mem_append_right _ hx))).but sb hd
     wtm_at "fo r"
     rename_i e ne
     have le : l ≠ e := ne_of_none hl ne
     have te : t ≠ e := ne_of_none ht ne
     have hd2 : Dr (upd H1 e (HO.lst [])) d k1 := by
       obtain ⟨a, b, h1, h2⟩ := hd1
       exact ⟨a, b, by rw [upd_ne (ne_of_none h1 ne)]; exact h1, h2⟩
     have hit2 : ∀ x ∈ ls, Item (upd H1 e (HO.lst [])) x := fun x hx => (hit1 x hx).but (SameBut.new (.refl d H1) ne) hd1
     obtain ⟨ds, h1, h2, h3⟩ := items_dp (K := K) hit2
     have hl2 : (upd H1 e (HO.lst [])) l = some (.lst ls) := by rw [upd_ne le]; exact hl
     have ht2 : (upd H1 e (HO.lst [])) t = some (.lst ts) := by rw [upd_ne te]; exact ht
     refine Or.inr ⟨.list ds, .list [], .lst (SqL.of hl2) h1, .lst (SqL.of upd_same) .nil, (dok_list h2).shaped (by decide), rfl, ?_⟩
     refine ⟨_, rfl, ?_⟩
     rcases ls with _ | ⟨y0, r0⟩
     · have : ds = [] := by cases ds with | nil => rfl | cons _ _ => simp at h3
       subst this
       refine ifF (by rw [eqv_list_nil]; rfl) ?_
       wtm_at "fo r"
       refine fin t ts _ k1 (by simpa using hp) ((sb.trans (SameBut.new (.refl d H1) ne))) nt0 ht2 hd2 ?_
       simp at hk1 hlen2
       omega
     · have : ds.isEmpty = false := by cases ds with | nil => simp at h3 | cons _ _ => rfl
       refine ifT (by rw [eqv_list_nil, this]; rfl) ?_
       generalize hls : y0 :: r0 = ls at *
       have hpos : 0 < ls.length := by rw [← hls]; simp
       refine ⟨fun σ' H' => ∃ m', m' < ls.length ∧ W m' σ' H', fun _ _ h => h, ?_⟩
       wtm_at "fo r"
       refine call_next hd2 (by omega) (fun n H3 hn sb3 hd3 => ?_)
       have hl3 : H3 l = some (.lst ls) := sb3 l _ nl' hl2
       have ht3 : H3 t = some (.lst ts) := sb3 t _ nt' ht2
       wtm_at "fo r"
       obtain ⟨j, hj, ej⟩ := mod_ix (n := n) hpos
       have hy : ls[j]? = some ls[j] := List.getElem?_eq_getElem hj
       refine ⟨l, ls, _, j, ls[j], rfl, rfl, hl3, ?_, ?_, ?_, hy, ?_⟩
       · show _
         rw [ej]
         omega
       · show _
         rw [ej]
         omega
       · show _
         rw [ej]
         exact seqIx hj
       have ht4 : (upd H3 l (.lst (ls.eraseIdx j))) t = some (.lst ts) := by rw [upd_ne tl]; exact ht3
       refine ⟨t, ts, _, rfl, rfl, ht4, Nat.lt_of_le_of_lt (m := 1000) (by omega) (by decide), ?_⟩
       have hlen3 : (ls.eraseIdx j).length + 1 = ls.length := by rw [List.length_eraseIdx, if_pos hj]; omega
       refine ⟨(ls.eraseIdx j).length, by omega, ls.eraseIdx j, ts ++ [ls[j]], k1 + 1, rfl, rfl, ?_, upd_same, perm_move hy hp, ?_, by omega, ?_⟩
       · rw [upd_ne tl.symm]
         exact upd_same
       · obtain ⟨a, b, e1, h0⟩ := hd3
         exact ⟨a, b, by rw [upd_ne nt'.symm, upd_ne nl'.symm]; exact e1, h0⟩
       · exact (((sb.trans (SameBut.new (.refl d H1) ne)).trans sb3).new nl).new nt0
end
/-! piece D4 -/
section
/-! ### what is beside, by the law -/
def near0 (n : Nat) : List (List Int) := [] :: (List.range n).map fun (i : Nat) => [((i : Int) + 1)]
def addE (t : List (List Int)) (e : Int × Int) : List (List Int) := (t.modify e.1.toNat (· ++ [e.2])).modify e.2.toNat (· ++ [e.1])
def nearM (n : Nat) (es : List (Int × Int)) : List (List Int) := es.foldl addE (near0 n)
def Pairs (H : Hp) (p : Addr) (es : List (Int × Int)) : Prop := ∃ rs : List Addr, H p = some (.lst (rs.map V.ref)) ∧ rs.length = es.length ∧
  ∀ (i : Nat) (r : Addr) (e : Int × Int), rs[i]? = some r → es[i]? = some e → H r = some (.lst [.int e.1, .int e.2])
def Lists (H : Hp) (p : Addr) (ts : List (List Int)) : Prop := ∃ rs : List Addr, H p = some (.lst (rs.map V.ref)) ∧ rs.Nodup ∧ rs.length = ts.length ∧
  ∀ (i : Nat) (r : Addr) (t : List Int), rs[i]? = some r → ts[i]? = some t → H r = some (.lst (t.map V.int))
theorem addE_length (t : List (List Int)) (e : Int × Int) : (addE t e).length = t.length := by
  unfold addE
  rw [List.length_modify, List.length_modify]
theorem foldl_addE_length : ∀ (es : List (Int × Int)) (t : List (List Int)), (es.foldl addE t).length = t.length
  | [], _ => rfl
  | e :: es, t => by
    rw [List.foldl_cons, foldl_addE_length es, addE_length]
theorem mem_modify {α : Type} {f : α → α} {l : List α} {i : Nat} {x : α} (h : x ∈ l.modify i f) : x ∈ l ∨ ∃ y ∈ l, x = f y := by
  obtain ⟨j, hj⟩ := List.getElem?_of_mem h
  rw [List.getElem?_modify] at hj
  cases hl : l[j]? with
  | none => rw [hl] at hj; simp at hj
  | some y =>
    rw [hl] at hj
    have hm := List.mem_of_getElem? hl
    by_cases e : i = j
    · simp [e] at hj
      exact .inr ⟨y, hm, hj.symm⟩
    · simp [e] at hj
      exact .inl (hj ▸ hm)
theorem addE_bound {t : List (List Int)} {b : Nat} (h : ∀ u ∈ t, u.length ≤ b) (e : Int × Int) : ∀ u ∈ addE t e, u.length ≤ b + 2 := by
  intro u hu
  unfold addE at hu
  rcases mem_modify hu with hu | ⟨v, hv, rfl⟩
  · rcases mem_modify hu with hu | ⟨v, hv, rfl⟩
    · exact Nat.le_trans (h u hu) (by omega)
    · have := h v hv
      simp; omega
  · rcases mem_modify hv with hv | ⟨x, hx, rfl⟩
    · have := h v hv
      simp; omega
    · have := h x hx
      simp; omega
theorem foldl_addE_bound : ∀ (es : List (Int × Int)) (t : List (List Int)) (b : Nat), (∀ u ∈ t, u.length ≤ b) → ∀ u ∈ es.foldl addE t, u.length ≤ b + 2 * es.length
  | [], _, _, h => h
  | e :: es, t, b, h => fun u hu => by
    have := foldl_addE_bound es (addE t e) (b + 2) (addE_bound h e) u hu
    rw [List.length_cons]
    omega
theorem near0_length (n : Nat) : (near0 n).length = n + 1 := by simp [near0]
theorem near0_bound (n : Nat) : ∀ u ∈ near0 n, u.length ≤ 1 := by
  intro u hu
  simp [near0] at hu
  rcases hu with rfl | ⟨i, _, rfl⟩ <;> simp
@[irreducible] def spNear : Sp := fun vs H Q _ => ∃ (n : Nat) (q : Addr) (es : List (Int × Int)), vs = [.int n, .ref q] ∧ n ≤ 12 ∧ Pairs H q es ∧ es.length ≤ 200 ∧ (∀ e ∈ es, 1 ≤ e.1 ∧ e.1 ≤ n ∧ 1 ≤ e.2 ∧ e.2 ≤ n) ∧
  ∀ p H', Same H H' → H p = none → Lists H' p (nearM n es) → Q (.ref p) H'
theorem call_near {n : Nat} {q : Addr} {es : List (Int × Int)} {H : Hp} {Q : VK} {E : XK} (hn : n ≤ 12) (hq : Pairs H q es) (hl : es.length ≤ 200) (he : ∀ e ∈ es, 1 ≤ e.1 ∧ e.1 ≤ n ∧ 1 ≤ e.2 ∧ e.2 ≤ n)
    (fin : ∀ p H', Same H H' → H p = none → Lists H' p (nearM n es) → Q (.ref p) H') : spNear [.int n, .ref q] H Q E := by
  unfold spNear
  exact ⟨n, q, es, rfl, hn, hq, hl, he, fin⟩
end
/-! piece D5m -/
section
/-! ### nets in lists of pairs -/
abbrev Edge := Int × Int
def Apart (a b : Edge) : Prop := a ≠ b ∧ a ≠ (b.2, b.1)
structure Simp (n : Int) (es : List Edge) : Prop where
  rng : ∀ e ∈ es, 1 ≤ e.1 ∧ e.1 ≤ n ∧ 1 ≤ e.2 ∧ e.2 ≤ n ∧ e.1 ≠ e.2
  ap : es.Pairwise Apart
theorem Apart.symm {a b : Edge} (h : Apart a b) : Apart b a := ⟨fun e => h.1 e.symm, fun e => h.2 (by rw [e])⟩
structure PsAt (H : Hp) (D : Addr) (rs : List Addr) (es : List Edge) : Prop where
  hD : H D = some (.lst (rs.map V.ref))
  len : rs.length = es.length
  at_ : ∀ (i : Nat) (r : Addr) (e : Edge), rs[i]? = some r → es[i]? = some e → H r = some (.lst [.int e.1, .int e.2])
theorem PsAt.pairs {H : Hp} {D : Addr} {rs : List Addr} {es : List Edge} (h : PsAt H D rs es) : Pairs H D es := ⟨rs, h.hD, h.len, h.at_⟩
theorem PsAt.of {H : Hp} {D : Addr} {es : List Edge} (h : Pairs H D es) : ∃ rs, PsAt H D rs es := by
  obtain ⟨rs, a, b, c⟩ := h
  exact ⟨rs, a, b, c⟩
theorem PsAt.mem {H : Hp} {D : Addr} {rs : List Addr} {es : List Edge} (h : PsAt H D rs es) {r : Addr} (hr : r ∈ rs) : ∃ e ∈ es, H r = some (.lst [.int e.1, .int e.2]) := by
  obtain ⟨i, hi⟩ := List.getElem?_of_mem hr
  have hl : i < es.length := by rw [← h.len]; exact (List.getElem?_eq_some_iff.mp hi).1
  exact ⟨es[i], List.getElem_mem hl, h.at_ i r _ hi (List.getElem?_eq_getElem hl)⟩
theorem PsAt.ne {H : Hp} {D : Addr} {rs : List Addr} {es : List Edge} (h : PsAt H D rs es) {r : Addr} (hr : r ∈ rs) : r ≠ D := by
  obtain ⟨e, _, he⟩ := h.mem hr
  refine ne_of he h.hD ?_
  intro q
  injection q with q
  cases rs with
  | nil => simp at q
  | cons a l => simp at q
theorem PsAt.nil {H : Hp} {D : Addr} (h : H D = some (.lst [])) : PsAt H D [] [] := ⟨h, rfl, fun i r e h _ => by simp at h⟩
theorem PsAt.same {H H' : Hp} {D : Addr} {rs : List Addr} {es : List Edge} (h : PsAt H D rs es) (s : Same H H') : PsAt H' D rs es :=
  ⟨s _ _ h.hD, h.len, fun i r e a b => s _ _ (h.at_ i r e a b)⟩
theorem Dr.ne_refs {H : Hp} {d D : Addr} {k : Int} {rs : List Addr} (h : Dr H d k) (hr : H D = some (.lst (rs.map V.ref))) : D ≠ d := by
  obtain ⟨a, b, hd, _⟩ := h
  refine ne_of hr hd ?_
  intro e
  injection e with e
  cases rs with
  | nil => simp at e
  | cons x l => simp at e
theorem Dr.ne_ints {H : Hp} {d D : Addr} {k : Int} {xs : List Int} (h : Dr H d k) (hr : H D = some (.lst (xs.map V.int))) : D ≠ d := by
  obtain ⟨a, b, hd, _⟩ := h
  refine ne_of hr hd ?_
  intro e
  injection e with e
  cases xs with
  | nil => simp at e
  | cons x l => cases l with
    | nil => simp at e
    | cons y l => cases l with
      | nil => simp at e
      | cons z l => simp at e
theorem PsAt.but {H H' : Hp} {d D : Addr} {k : Int} {rs : List Addr} {es : List Edge} (h : PsAt H D rs es) (s : SameBut d H H') (hd : Dr H d k) : PsAt H' D rs es :=
  ⟨s _ _ (hd.ne_refs h.hD) h.hD, h.len, fun i r e a b => s _ _ (hd.ne_pair (h.at_ i r e a b)) (h.at_ i r e a b)⟩
theorem PsAt.push {H : Hp} {D r : Addr} {rs : List Addr} {es : List Edge} (h : PsAt H D rs es) (nr : H r = none) (e : Edge) :
    PsAt (upd (upd H r (.lst [.int e.1, .int e.2])) D (.lst (rs.map V.ref ++ [V.ref r]))) D (rs ++ [r]) (es ++ [e]) := by
  have hDr : D ≠ r := ne_of_none h.hD nr
  refine ⟨?_, ?_, ?_⟩
  · rw [upd_same, List.map_append]
    rfl
  · rw [List.length_append, List.length_append, h.len]
    rfl
  · intro i a u ha hu
    by_cases hi : i < rs.length
    · rw [List.getElem?_append_left hi] at ha
      rw [List.getElem?_append_left (by rw [← h.len]; exact hi)] at hu
      rw [upd_ne (h.ne (List.mem_of_getElem? ha)), upd_ne (ne_of_none (h.at_ i a u ha hu) nr)]
      exact h.at_ i a u ha hu
    · rw [List.getElem?_append_right (by omega)] at ha
      rw [List.getElem?_append_right (by rw [← h.len]; omega), ← h.len] at hu
      have e0 : i - rs.length = 0 := by
        have := (List.getElem?_eq_some_iff.mp ha).1
        simp at this
        omega
      rw [e0] at ha hu
      simp at ha hu
      subst ha hu
      rw [upd_ne hDr.symm, upd_same]
theorem PsAt.cat {H : Hp} {D D2 p : Addr} {rs rs2 : List Addr} {es es2 : List Edge} (h : PsAt H D rs es) (h2 : PsAt H D2 rs2 es2) (np : H p = none) :
    PsAt (upd H p (.lst (rs.map V.ref ++ rs2.map V.ref))) p (rs ++ rs2) (es ++ es2) := by
  refine ⟨by rw [upd_same, List.map_append], by rw [List.length_append, List.length_append, h.len, h2.len], ?_⟩
  intro i a u ha hu
  by_cases hi : i < rs.length
  · rw [List.getElem?_append_left hi] at ha
    rw [List.getElem?_append_left (by rw [← h.len]; exact hi)] at hu
    rw [upd_ne (ne_of_none (h.at_ i a u ha hu) np)]
    exact h.at_ i a u ha hu
  · rw [List.getElem?_append_right (by omega)] at ha
    rw [List.getElem?_append_right (by rw [← h.len]; omega), ← h.len] at hu
    rw [upd_ne (ne_of_none (h2.at_ _ a u ha hu) np)]
    exact h2.at_ _ a u ha hu
theorem PsAt.one {H : Hp} {D r : Addr} {e : Edge} (hD : H D = some (.lst [V.ref r])) (hr : H r = some (.lst [.int e.1, .int e.2])) : PsAt H D [r] [e] := by
  refine ⟨hD, rfl, ?_⟩
  intro i a u ha hu
  cases i with
  | zero => simp at ha hu; subst ha hu; exact hr
  | succ i => simp at ha
/-! numbers without repeats -/
theorem nodup_le : ∀ (n : Nat) (l : List Int), l.Nodup → (∀ x ∈ l, 1 ≤ x ∧ x ≤ n) → l.length ≤ n
  | 0, l, _, h => by
    cases l with
    | nil => exact Nat.le_refl _
    | cons a r => have := h a (List.mem_cons_self ..); omega
  | n + 1, l, nd, h => by
    have h1 : (l.erase ((n : Int) + 1)).length ≤ n := by
      apply nodup_le n _ (nd.erase _)
      intro x hx
      have hx2 := (List.Nodup.mem_erase_iff nd).mp hx
      have := h x hx2.2
      have := hx2.1
      omega
    have h2 : l.length ≤ (l.erase ((n : Int) + 1)).length + 1 := by
      rw [List.length_erase]
      split <;> omega
    omega
/-! the mates of a place in a list of pairs -/
def mates (g : Int) (es : List Edge) : List Int := es.filterMap fun e => if e.1 = g ∨ e.2 = g then some (e.1 + e.2 - g) else none
theorem mates_rng {n g : Int} {es : List Edge} (h : Simp n es) : ∀ m ∈ mates g es, 1 ≤ m ∧ m ≤ n ∧ m ≠ g := by
  intro m hm
  obtain ⟨e, he, hf⟩ := List.mem_filterMap.mp hm
  have := h.rng e he
  split at hf
  · rename_i hg
    cases hf
    rcases hg with rfl | rfl <;> omega
  · cases hf
theorem mates_nodup {n g : Int} {es : List Edge} (h : Simp n es) : (mates g es).Nodup := by
  unfold mates List.Nodup
  rw [List.pairwise_filterMap]
  refine h.ap.imp_of_mem ?_
  intro a b ha hb hab x hx y hy
  split at hx
  · rename_i h1
    split at hy
    · rename_i h2
      cases hx
      cases hy
      intro e
      obtain ⟨a1, a2⟩ := a
      obtain ⟨b1, b2⟩ := b
      have q1 := hab.1
      have q2 := hab.2
      simp only [ne_eq, Prod.mk.injEq] at q1 q2
      simp only at e h1 h2
      apply Classical.byContradiction
      intro _
      omega
    · cases hy
  · cases hx
theorem simp_grow {s g : Int} {es : List Edge} {fs : List Int} (h : Simp (s - 1) es) (g1 : 1 ≤ g) (g2 : g ≤ s - 1) (hf : fs.Sublist (mates g es)) : Simp s (es ++ (g, s) :: fs.map fun m => (m, s)) := by
  have hr : ∀ m ∈ g :: fs, 1 ≤ m ∧ m ≤ s - 1 := by
    intro m hm
    rcases List.mem_cons.mp hm with rfl | hm
    · exact ⟨g1, g2⟩
    · have := mates_rng h m (hf.subset hm)
      exact ⟨this.1, this.2.1⟩
  have hnd : (g :: fs).Nodup := by
    refine List.nodup_cons.mpr ⟨fun hg => ?_, (mates_nodup h).sublist hf⟩
    exact (mates_rng h g (hf.subset hg)).2.2 rfl
  have hm : (g, s) :: fs.map (fun m => (m, s)) = (g :: fs).map fun m => (m, s) := rfl
  rw [hm]
  generalize g :: fs = l at hr hnd
  refine ⟨?_, ?_⟩
  · intro e he
    rcases List.mem_append.mp he with he | he
    · have := h.rng e he
      omega
    · obtain ⟨m, hm, rfl⟩ := List.mem_map.mp he
      have := hr m hm
      simp only
      omega
  · rw [List.pairwise_append]
    refine ⟨h.ap, ?_, ?_⟩
    · rw [List.pairwise_map]
      refine hnd.imp_of_mem ?_
      intro a b ha hb hab
      have := hr a ha
      have := hr b hb
      refine ⟨fun e => hab ?_, fun e => ?_⟩
      · simp only [Prod.mk.injEq] at e; exact e.1
      · simp only [Prod.mk.injEq] at e; omega
    · intro a ha b hb
      obtain ⟨m, hm, rfl⟩ := List.mem_map.mp hb
      have q1 := h.rng a ha
      have q2 := hr m hm
      refine ⟨fun e => ?_, fun e => ?_⟩
      · have e1 := congrArg Prod.snd e
        simp only at e1
        omega
      · have e1 := congrArg Prod.fst e
        simp only at e1
        omega
theorem mates_len {s g : Int} {es : List Edge} {fs : List Int} (h : Simp (s - 1) es) (hs : s ≤ 13) (hf : fs.Sublist (mates g es)) : fs.length ≤ 12 := by
  apply nodup_le 12 fs ((mates_nodup h).sublist hf)
  intro m hm
  have := mates_rng h m (hf.subset hm)
  omega
theorem simp_mono {n m : Int} {es : List Edge} (h : Simp n es) (hm : n ≤ m) : Simp m es := ⟨fun e he => by have := h.rng e he; omega, h.ap⟩

theorem mates_snoc (g : Int) (es : List Edge) (e : Edge) : mates g (es ++ [e]) = mates g es ++ (if e.1 = g ∨ e.2 = g then [e.1 + e.2 - g] else []) := by
  unfold mates
  rw [List.filterMap_append]
  congr 1
  by_cases h : e.1 = g ∨ e.2 = g
  · simp [h]
  · simp [h]
theorem mates_length (g : Int) (es : List Edge) : (mates g es).length ≤ es.length := List.length_filterMap_le ..
theorem inV2 (g a b : Int) : inV (.int g) [.int a, .int b] = decide (a = g ∨ b = g) := by
  simp only [inV, List.any_cons, List.any_nil, Bool.or_false, eqV]
  by_cases h1 : a = g <;> by_cases h2 : b = g <;> simp [h1, h2]
theorem Dr.same {H H' : Hp} {d : Addr} {k : Int} (h : Dr H d k) (s : Same H H') : Dr H' d k := by
  obtain ⟨a, b, e, h0⟩ := h
  exact ⟨a, b, s _ _ e, h0⟩
theorem Same.but {H H' : Hp} (d : Addr) (s : Same H H') : SameBut d H H' := fun b o _ e => s b o e
theorem SameBut.none {d p : Addr} {H H' : Hp} {k : Int} (s : SameBut d H H') (hd : Dr H' d k) (np : H' p = none) : H p = none := by
  cases hq : H p with
  | none => rfl
  | some o =>
    obtain ⟨a, b, e, _⟩ := hd
    have hne : p ≠ d := (ne_of_none e np).symm
    rw [s p o hne hq] at np
    cases np
theorem ref_at {qs : List Addr} {i : Nat} {x : V} (h : (qs.map V.ref)[i]? = some x) : ∃ r, qs[i]? = some r ∧ x = V.ref r := by
  rw [List.getElem?_map] at h
  cases hq : qs[i]? with
  | none => rw [hq] at h; cases h
  | some r => rw [hq] at h; exact ⟨r, rfl, (Option.some.inj h).symm⟩
theorem int_at {ns : List Int} {i : Nat} {x : V} (h : (ns.map V.int)[i]? = some x) : ∃ r, ns[i]? = some r ∧ x = V.int r := by
  rw [List.getElem?_map] at h
  cases hq : ns[i]? with
  | none => rw [hq] at h; cases h
  | some r => rw [hq] at h; exact ⟨r, rfl, (Option.some.inj h).symm⟩
end
/-! piece D6m -/
section
/-! ### renaming, flipping and shuffling a net -/
theorem simp_perm {n : Int} {es fs : List Edge} (h : Simp n es) (p : fs.Perm es) : Simp n fs :=
  ⟨fun e he => h.rng e (p.mem_iff.mp he), (p.pairwise_iff (fun hab => Apart.symm hab)).mpr h.ap⟩
theorem simp_map {n m : Int} {es : List Edge} (h : Simp n es) (f : Int → Int) (hr : ∀ x, 1 ≤ x → x ≤ n → 1 ≤ f x ∧ f x ≤ m) (inj : ∀ x y, 1 ≤ x → x ≤ n → 1 ≤ y → y ≤ n → f x = f y → x = y) :
    Simp m (es.map fun e => (f e.1, f e.2)) := by
  refine ⟨?_, ?_⟩
  · intro e he
    obtain ⟨a, ha, rfl⟩ := List.mem_map.mp he
    have q := h.rng a ha
    have q1 := hr a.1 q.1 q.2.1
    have q2 := hr a.2 q.2.2.1 q.2.2.2.1
    refine ⟨q1.1, q1.2, q2.1, q2.2, fun e => q.2.2.2.2 (inj _ _ q.1 q.2.1 q.2.2.1 q.2.2.2.1 e)⟩
  · rw [List.pairwise_map]
    refine h.ap.imp_of_mem ?_
    intro a b ha hb hab
    have qa := h.rng a ha
    have qb := h.rng b hb
    refine ⟨fun e => hab.1 ?_, fun e => hab.2 ?_⟩
    · simp only [Prod.mk.injEq] at e
      exact Prod.ext (inj _ _ qa.1 qa.2.1 qb.1 qb.2.1 e.1) (inj _ _ qa.2.2.1 qa.2.2.2.1 qb.2.2.1 qb.2.2.2.1 e.2)
    · simp only [Prod.mk.injEq] at e
      exact Prod.ext (inj _ _ qa.1 qa.2.1 qb.2.2.1 qb.2.2.2.1 e.1) (inj _ _ qa.2.2.1 qa.2.2.2.1 qb.1 qb.2.1 e.2)
/-- some pairs the other way about -/
def Flips : List Edge → List Edge → Prop
  | [], [] => True
  | a :: as, b :: bs => (b = a ∨ b = (a.2, a.1)) ∧ Flips as bs
  | _, _ => False
theorem flips_snoc : ∀ {as bs : List Edge} {a b : Edge}, Flips as bs → (b = a ∨ b = (a.2, a.1)) → Flips (as ++ [a]) (bs ++ [b])
  | [], [], _, _, _, h => ⟨h, trivial⟩
  | _ :: _, _ :: _, _, _, h, h2 => ⟨h.1, flips_snoc h.2 h2⟩
theorem flips_mem : ∀ {as bs : List Edge}, Flips as bs → ∀ b ∈ bs, ∃ a ∈ as, b = a ∨ b = (a.2, a.1)
  | [], [], _, b, h => nomatch h
  | a :: as, c :: bs, h, b, hb => by
    rcases List.mem_cons.mp hb with rfl | hb
    · exact ⟨a, List.mem_cons_self .., h.1⟩
    · obtain ⟨x, hx, h2⟩ := flips_mem h.2 b hb
      exact ⟨x, List.mem_cons_of_mem _ hx, h2⟩
theorem flips_apart {a b c d : Edge} (h : Apart a b) (hc : c = a ∨ c = (a.2, a.1)) (hd : d = b ∨ d = (b.2, b.1)) : Apart c d := by
  obtain ⟨a1, a2⟩ := a
  obtain ⟨b1, b2⟩ := b
  have q1 := h.1
  have q2 := h.2
  simp only [ne_eq, Prod.mk.injEq] at q1 q2
  unfold Apart
  rcases hc with rfl | rfl <;> rcases hd with rfl | rfl <;> simp only [ne_eq, Prod.mk.injEq] <;> refine ⟨fun e => ?_, fun e => ?_⟩ <;> first | exact q1 e | exact q2 e | exact q1 ⟨e.2, e.1⟩ | exact q2 ⟨e.2, e.1⟩
theorem flips_pair : ∀ {as bs : List Edge}, Flips as bs → as.Pairwise Apart → bs.Pairwise Apart
  | [], [], _, _ => List.Pairwise.nil
  | a :: as, b :: bs, h, hp => by
    rw [List.pairwise_cons] at hp ⊢
    refine ⟨?_, flips_pair h.2 hp.2⟩
    intro c hc
    obtain ⟨x, hx, hx2⟩ := flips_mem h.2 c hc
    exact flips_apart (hp.1 x hx) h.1 hx2
theorem simp_flips {n : Int} {es fs : List Edge} (h : Simp n es) (hf : Flips es fs) : Simp n fs := by
  refine ⟨?_, flips_pair hf h.ap⟩
  intro e he
  obtain ⟨a, ha, h2⟩ := flips_mem hf e he
  have q := h.rng a ha
  rcases h2 with rfl | rfl
  · exact q
  · exact ⟨q.2.2.1, q.2.2.2.1, q.1, q.2.1, fun e => q.2.2.2.2 e.symm⟩
theorem flips_length : ∀ {as bs : List Edge}, Flips as bs → bs.length = as.length
  | [], [], _ => rfl
  | _ :: _, _ :: _, h => by rw [List.length_cons, List.length_cons, flips_length h.2]
/-- any lines: those of one place to greater ones -/
theorem simp_rows {n a : Int} {es : List Edge} {bs : List Int} (h : Simp n es) (h1 : ∀ e ∈ es, e.1 < a ∧ e.1 < e.2) (ha : 1 ≤ a) (han : a ≤ n) (hb : ∀ b ∈ bs, a < b ∧ b ≤ n) (nd : bs.Nodup) : Simp n (es ++ bs.map fun b => (a, b)) := by
  refine ⟨?_, ?_⟩
  · intro e he
    rcases List.mem_append.mp he with he | he
    · exact h.rng e he
    · obtain ⟨b, hb2, rfl⟩ := List.mem_map.mp he
      have := hb b hb2
      simp only
      omega
  · rw [List.pairwise_append]
    refine ⟨h.ap, ?_, ?_⟩
    · rw [List.pairwise_map]
      refine nd.imp_of_mem ?_
      intro x y hx hy hxy
      have := hb x hx
      have := hb y hy
      refine ⟨fun e => hxy ?_, fun e => ?_⟩
      · simp only [Prod.mk.injEq] at e; exact e.2
      · simp only [Prod.mk.injEq] at e; omega
    · intro x hx y hy
      obtain ⟨b, hb2, rfl⟩ := List.mem_map.mp hy
      have q1 := h1 x hx
      have q2 := hb b hb2
      refine ⟨fun e => ?_, fun e => ?_⟩
      · have := congrArg Prod.fst e; simp only at this; omega
      · have e1 := congrArg Prod.fst e
        have e2 := congrArg Prod.snd e
        simp only at e1 e2
        omega
theorem perm_lift {α β : Type} (f : α → β) {l m : List β} (h : l.Perm m) : ∀ zs, m = zs.map f → ∃ zs' : List α, zs'.Perm zs ∧ l = zs'.map f := by
  induction h with
  | nil => intro zs e; exact ⟨[], by cases zs with | nil => exact List.Perm.refl _ | cons a r => simp at e, rfl⟩
  | cons x _ ih =>
    intro zs e
    cases zs with
    | nil => simp at e
    | cons a r =>
      simp only [List.map_cons, List.cons.injEq] at e
      obtain ⟨zs', h1, h2⟩ := ih r e.2
      exact ⟨a :: zs', h1.cons a, by rw [List.map_cons, ← h2, e.1]⟩
  | swap x y l =>
    intro zs e
    cases zs with
    | nil => simp at e
    | cons a r =>
      cases r with
      | nil => simp at e
      | cons b r =>
        simp only [List.map_cons, List.cons.injEq] at e
        exact ⟨b :: a :: r, List.Perm.swap a b r, by rw [List.map_cons, List.map_cons, ← e.1, ← e.2.1, ← e.2.2]⟩
  | trans _ _ ih1 ih2 =>
    intro zs e
    obtain ⟨z1, h1, h2⟩ := ih2 zs e
    obtain ⟨z2, h3, h4⟩ := ih1 z1 h2
    exact ⟨z2, h3.trans h1, h4⟩
theorem zip_at {α β : Type} : ∀ {rs : List α} {es : List β} {i : Nat} {r : α} {e : β}, (rs.zip es)[i]? = some (r, e) → rs[i]? = some r ∧ es[i]? = some e
  | [], _, _, _, _, h => by simp at h
  | _ :: _, [], _, _, _, h => by simp at h
  | a :: rs, b :: es, 0, r, e, h => by simp at h; simp [h.1, h.2]
  | a :: rs, b :: es, i + 1, r, e, h => by
    simp only [List.zip_cons_cons, List.getElem?_cons_succ] at h ⊢
    exact zip_at h
theorem PsAt.perm {H H' : Hp} {D D2 : Addr} {rs : List Addr} {es : List Edge} {ys : List V} (h : PsAt H D rs es) (hp : ys.Perm (rs.map V.ref)) (hD : H' D2 = some (.lst ys))
    (keep : ∀ r e, r ∈ rs → H r = some (.lst [.int e.1, .int e.2]) → H' r = some (.lst [.int (e : Edge).1, .int e.2])) : ∃ fs rs', fs.Perm es ∧ PsAt H' D2 rs' fs := by
  have e1 : rs.map V.ref = (rs.zip es).map fun z => V.ref z.1 := by
    rw [show (fun z : Addr × Edge => V.ref z.1) = V.ref ∘ Prod.fst from rfl, ← List.map_map, List.map_fst_zip (by rw [h.len]; exact Nat.le_refl _)]
  obtain ⟨zs, hz, rfl⟩ := perm_lift (fun z : Addr × Edge => V.ref z.1) hp (rs.zip es) e1
  refine ⟨zs.map (·.2), zs.map (·.1), ?_, ?_, ?_, ?_⟩
  · have := hz.map (·.2)
    rw [List.map_snd_zip (by rw [h.len]; exact Nat.le_refl _)] at this
    exact this
  · rw [List.map_map]
    exact hD
  · rw [List.length_map, List.length_map]
  · intro i r e hr he
    rw [List.getElem?_map] at hr he
    cases hzi : zs[i]? with
    | none => rw [hzi] at hr; cases hr
    | some z =>
      rw [hzi] at hr he
      cases hr
      cases he
      have hm : z ∈ rs.zip es := hz.mem_iff.mp (List.mem_of_getElem? hzi)
      obtain ⟨j, hj⟩ := List.getElem?_of_mem hm
      obtain ⟨a, b⟩ := z
      obtain ⟨j1, j2⟩ := zip_at hj
      exact keep a b (List.mem_of_getElem? j1) (h.at_ j a b j1 j2)
theorem PsAt.cong {H : Hp} {D : Addr} {rs : List Addr} {es fs : List Edge} (h : PsAt H D rs es) (e : es = fs) : PsAt H D rs fs := e ▸ h
/-- a row of names: zs is the numbers 1 to n in some order -/
def nameOf (zs : List Int) (x : Int) : Int := (zs[(x - 1).toNat]?).getD 0
theorem name_at {zs : List Int} {n : Nat} (hz : zs.Perm ((List.range n).map fun (i : Nat) => (1 : Int) + i)) {x : Int} (h1 : 1 ≤ x) (h2 : x ≤ n) : zs[(x - 1).toNat]? = some (nameOf zs x) ∧ 1 ≤ nameOf zs x ∧ nameOf zs x ≤ n := by
  have hl : zs.length = n := by rw [hz.length_eq]; simp
  have hi : (x - 1).toNat < zs.length := by omega
  have e : zs[(x - 1).toNat]? = some zs[(x - 1).toNat] := List.getElem?_eq_getElem hi
  have e2 : nameOf zs x = zs[(x - 1).toNat] := by unfold nameOf; rw [e]; rfl
  have hm : zs[(x - 1).toNat] ∈ ((List.range n).map fun (i : Nat) => (1 : Int) + i) := hz.mem_iff.mp (List.getElem_mem hi)
  obtain ⟨i, hi2, hi3⟩ := List.mem_map.mp hm
  have := List.mem_range.mp hi2
  rw [e2]
  exact ⟨e, by omega, by omega⟩
theorem name_inj {zs : List Int} {n : Nat} (hz : zs.Perm ((List.range n).map fun (i : Nat) => (1 : Int) + i)) {x y : Int} (h1 : 1 ≤ x) (h2 : x ≤ n) (h3 : 1 ≤ y) (h4 : y ≤ n) (e : nameOf zs x = nameOf zs y) : x = y := by
  have nd : zs.Nodup := by
    refine (hz.nodup_iff).mpr ?_
    rw [List.Nodup, List.pairwise_map]
    refine List.nodup_range.imp ?_
    intro a b hab h
    exact hab (by omega)
  have a1 := (name_at hz h1 h2).1
  have a2 := (name_at hz h3 h4).1
  rw [e] at a1
  have := nd_ix nd a1 a2
  omega
theorem simp_nil (n : Int) : Simp n [] := ⟨(fun e h => nomatch h), List.Pairwise.nil⟩
end
/-! piece D7m -/
section
/-! ### what is beside a place -/
theorem addE_get {t : List (List Int)} {e : Edge} {p : Nat} {u : List Int} (h1 : 0 ≤ e.1) (h2 : 0 ≤ e.2) (hne : e.1 ≠ e.2) (h : t[p]? = some u) :
    (addE t e)[p]? = some (u ++ (if e.1 = (p : Int) ∨ e.2 = (p : Int) then [e.1 + e.2 - p] else [])) := by
  unfold addE
  rw [List.getElem?_modify, List.getElem?_modify, h]
  by_cases a1 : e.1.toNat = p <;> by_cases a2 : e.2.toNat = p
  · omega
  · have b1 : e.1 = (p : Int) := by omega
    have b2 : ¬ e.2 = (p : Int) := by omega
    have b3 : e.1 + e.2 - p = e.2 := by omega
    simp [a1, a2, b1, b3]
    try omega
  · have b1 : ¬ e.1 = (p : Int) := by omega
    have b2 : e.2 = (p : Int) := by omega
    have b3 : e.1 + e.2 - p = e.1 := by omega
    simp [a1, a2, b2, b3]
    try omega
  · have b1 : ¬ e.1 = (p : Int) := by omega
    have b2 : ¬ e.2 = (p : Int) := by omega
    simp [a1, a2, b1, b2]
theorem foldl_addE_get {p : Nat} : ∀ (es : List Edge) (t : List (List Int)) (u : List Int), (∀ e ∈ es, 0 ≤ e.1 ∧ 0 ≤ e.2 ∧ e.1 ≠ e.2) → t[p]? = some u → (es.foldl addE t)[p]? = some (u ++ mates p es)
  | [], t, u, _, h => by simpa [mates] using h
  | e :: es, t, u, hr, h => by
    have he := hr e (List.mem_cons_self ..)
    have := foldl_addE_get es (addE t e) _ (fun x hx => hr x (List.mem_cons_of_mem _ hx)) (addE_get he.1 he.2.1 he.2.2 h)
    have hm : mates (p : Int) (e :: es) = (if e.1 = (p : Int) ∨ e.2 = (p : Int) then [e.1 + e.2 - p] else []) ++ mates p es := by
      unfold mates
      by_cases hc : e.1 = (p : Int) ∨ e.2 = (p : Int) <;> simp [List.filterMap_cons, hc]
    rw [List.foldl_cons, this, List.append_assoc, hm]
theorem near_get {n : Nat} {es : List Edge} (h : Simp n es) {p : Nat} (h1 : 1 ≤ p) (h2 : p ≤ n) : (nearM n es)[p]? = some ((p : Int) :: mates p es) := by
  have h0 : (near0 n)[p]? = some [(p : Int)] := by
    unfold near0
    cases p with
    | zero => omega
    | succ q =>
      rw [List.getElem?_cons_succ, List.getElem?_map, List.getElem?_range (by omega)]
      rfl
  exact foldl_addE_get es (near0 n) [(p : Int)] (fun e he => by have := h.rng e he; omega) h0
def besideM (n : Nat) (es : List Edge) (p : Int) : List Int := ((List.range n).map fun (i : Nat) => (i : Int) + 1).filter fun x => decide (x = p ∨ x ∈ mates p es)
theorem besideM_lt (n : Nat) (es : List Edge) (p : Int) : (besideM n es p).Pairwise (· < ·) := by
  unfold besideM
  apply List.Pairwise.filter
  rw [List.pairwise_map]
  exact List.pairwise_lt_range.imp fun h => by omega
theorem besideM_mem {n : Nat} {es : List Edge} {p : Int} (h : Simp n es) (h1 : 1 ≤ p) (h2 : p ≤ n) (x : Int) : x ∈ besideM n es p ↔ x ∈ p :: mates p es := by
  unfold besideM
  rw [List.mem_filter, List.mem_cons, decide_eq_true_iff]
  constructor
  · exact fun h => h.2
  · intro hx
    refine ⟨?_, hx⟩
    have : 1 ≤ x ∧ x ≤ n := by
      rcases hx with rfl | hx
      · exact ⟨h1, h2⟩
      · have := mates_rng h x hx
        exact ⟨this.1, this.2.1⟩
    exact List.mem_map.mpr ⟨(x - 1).toNat, List.mem_range.mpr (by omega), by omega⟩
theorem lt_unique : ∀ {l m : List Int}, l.Pairwise (· < ·) → m.Pairwise (· < ·) → (∀ x, x ∈ l ↔ x ∈ m) → l = m
  | [], [], _, _, _ => rfl
  | [], b :: m, _, _, h => by have := (h b).mpr (List.mem_cons_self ..); simp at this
  | a :: l, [], _, _, h => by have := (h a).mp (List.mem_cons_self ..); simp at this
  | a :: l, b :: m, hl, hm, h => by
    rw [List.pairwise_cons] at hl hm
    have hab : a = b := by
      have h1 := (h a).mp (List.mem_cons_self ..)
      have h2 := (h b).mpr (List.mem_cons_self ..)
      rcases List.mem_cons.mp h1 with e | h1
      · exact e
      · rcases List.mem_cons.mp h2 with e | h2
        · exact e.symm
        · have := hm.1 a h1
          have := hl.1 b h2
          omega
    subst hab
    rw [lt_unique hl.2 hm.2 fun x => ?_]
    constructor
    · intro hx
      rcases List.mem_cons.mp ((h x).mp (List.mem_cons_of_mem _ hx)) with e | hx2
      · subst e; have := hl.1 x hx; omega
      · exact hx2
    · intro hx
      rcases List.mem_cons.mp ((h x).mpr (List.mem_cons_of_mem _ hx)) with e | hx2
      · subst e; have := hm.1 x hx; omega
      · exact hx2
theorem sorted_is {l m k : List Int} (hp : l.Perm k) (hs : l.Pairwise (· ≤ ·)) (hk : k.Nodup) (hm : m.Pairwise (· < ·)) (h : ∀ x, x ∈ m ↔ x ∈ k) : l = m := by
  have hn : l.Nodup := hp.nodup_iff.mpr hk
  refine lt_unique ?_ hm fun x => (hp.mem_iff).trans (h x).symm
  have := hs.and hn
  exact this.imp fun ⟨a, b⟩ => by omega
theorem near_sorted {n : Nat} {es : List Edge} {p : Int} (h : Simp n es) (h1 : 1 ≤ p) (h2 : p ≤ n) {l : List Int} (hp : l.Perm (p :: mates p es)) (hs : l.Pairwise (· ≤ ·)) : l = besideM n es p :=
  sorted_is hp hs (List.nodup_cons.mpr ⟨fun hm => (mates_rng h p hm).2.2 rfl, mates_nodup h⟩) (besideM_lt n es p) (besideM_mem h h1 h2)
theorem besideM_length {n : Nat} {es : List Edge} {p : Int} (hn : n ≤ 12) : (besideM n es p).length ≤ 12 := by
  unfold besideM
  refine Nat.le_trans (List.length_filter_le ..) ?_
  simp
  exact hn
theorem besideM_rng {n : Nat} {es : List Edge} {p x : Int} (hx : x ∈ besideM n es p) : 1 ≤ x ∧ x ≤ n := by
  unfold besideM at hx
  obtain ⟨h1, _⟩ := List.mem_filter.mp hx
  obtain ⟨i, hi, rfl⟩ := List.mem_map.mp h1
  have := List.mem_range.mp hi
  omega
/-! the data of nets and of rows -/
def dI (xs : List Int) : PyData := .list (xs.map PyData.int)
def dE (es : List Edge) : PyData := .list (es.map fun e => .list [.int e.1, .int e.2])
theorem dok_dI {xs : List Int} (h : ∀ x ∈ xs, x.natAbs < 1000) : DOk 1 (2 + xs.length * 7) (dI xs) := by
  have := dok_list (n := 0) (b := 5) (xs := xs.map PyData.int) (fun d hd => by
    obtain ⟨x, hx, rfl⟩ := List.mem_map.mp hd
    exact dok_int (h x hx))
  rw [List.length_map] at this
  exact this
theorem dok_pair {a b : Int} (h1 : a.natAbs < 1000) (h2 : b.natAbs < 1000) : DOk 1 20 (.list [.int a, .int b]) := by
  refine (dok_list (n := 0) (b := 5) ?_).mono (by decide) (by simp)
  intro x hx
  simp only [List.mem_cons, List.not_mem_nil, or_false] at hx
  rcases hx with rfl | rfl
  · exact dok_int h1
  · exact dok_int h2
theorem dok_dE {es : List Edge} (h : ∀ e ∈ es, e.1.natAbs < 1000 ∧ e.2.natAbs < 1000) : DOk 2 (2 + es.length * 22) (dE es) := by
  have := dok_list (n := 1) (b := 20) (xs := es.map fun e => PyData.list [.int e.1, .int e.2]) (fun d hd => by
    obtain ⟨x, hx, rfl⟩ := List.mem_map.mp hd
    exact dok_pair (h x hx).1 (h x hx).2)
  rw [List.length_map] at this
  exact this
theorem Simp.small {n : Int} {es : List Edge} (h : Simp n es) (hn : n ≤ 200) : ∀ e ∈ es, e.1.natAbs < 1000 ∧ e.2.natAbs < 1000 := fun e he => by
  have := h.rng e he
  omega
theorem dp_dI {K : PySem.W.Frag} {H : Hp} {p : Addr} {xs : List Int} (h : SqL K H p (xs.map V.int)) : Dp K H (.ref p) (dI xs) := .lst h (dp_ints xs)
theorem dp_pairsAll {K : PySem.W.Frag} {H : Hp} : ∀ {rs : List Addr} {es : List Edge}, rs.length = es.length → (∀ (i : Nat) (r : Addr) (e : Edge), rs[i]? = some r → es[i]? = some e → H r = some (.lst [.int e.1, .int e.2])) →
    DpAll K H (rs.map V.ref) (es.map fun e => .list [.int e.1, .int e.2])
  | [], [], _, _ => .nil
  | [], _ :: _, h, _ => by simp at h
  | _ :: _, [], h, _ => by simp at h
  | r :: rs, e :: es, hl, h => .cons (.lst (SqL.of (h 0 r e rfl rfl)) (.cons (.int _) (.cons (.int _) .nil))) (dp_pairsAll (by simpa using hl) fun i a b h1 h2 => h (i + 1) a b (by simpa using h1) (by simpa using h2))
theorem dp_dE {K : PySem.W.Frag} {H : Hp} {p : Addr} {es : List Edge} (h : Pairs H p es) : Dp K H (.ref p) (dE es) := by
  obtain ⟨rs, h1, h2, h3⟩ := h
  exact .lst (SqL.of h1) (dp_pairsAll h2 h3)

/-! ### the program's promises, as the law asks them -/
@[irreducible] def spBeside : Sp := fun vs H Q _ => ∃ (q : Addr) (n : Nat) (p : Int) (es : List Edge), vs = [.int n, .ref q, .int p] ∧ 1 ≤ n ∧ n ≤ 12 ∧ 1 ≤ p ∧ p ≤ n ∧ Pairs H q es ∧ Simp n es ∧ es.length ≤ 200 ∧
  ∀ r H', Same H H' → H r = none → H' r = some (.lst ((besideM n es p).map V.int)) → Q (.ref r) H'
theorem call_beside {q : Addr} {n : Nat} {p : Int} {es : List Edge} {H : Hp} {Q : VK} {E : XK} (h1 : 1 ≤ n) (h2 : n ≤ 12) (h3 : 1 ≤ p) (h4 : p ≤ n) (hq : Pairs H q es) (hS : Simp n es) (hl : es.length ≤ 200)
    (fin : ∀ r H', Same H H' → H r = none → H' r = some (.lst ((besideM n es p).map V.int)) → Q (.ref r) H') : spBeside [.int n, .ref q, .int p] H Q E := by
  unfold spBeside
  exact ⟨q, n, p, es, rfl, h1, h2, h3, h4, hq, hS, hl, fin⟩
/-- a def of the text that may be called by its parameters' names alone -/
structure KCal (P : Program) (w : World) (K : PySem.W.Frag) (mg : Str → Option Value) (base : Heap) (x : Str) (k : Nat) (ps ks : List Str) (g : List Value → List Value → List Value) (gV : List V → List V → List V) (sp : Sp) : Prop where
  ex : ∃ (f : Addr) (fd : FuncData), FnOk P w K mg base CX0 k f fd ps sp ∧ mg x = some (.ref f) ∧ PySem.W.keepIn K (.ref f) = true ∧ KBinds K fd ps ks g gV
theorem pe_kcal {X : Cx} {x : Str} {p pos : Pos} {kws : List Keyword} {tk : TA} {k j : Nat} {ps ks : List Str} {g : List Value → List Value → List Value} {gV : List V → List V → List V} {sp : Sp}
    (C : KCal X.prog X.w X.K X.mg X.base x k ps ks g gV sp) (hr : Room j X.A) (hkj : k ≤ j) (hg : Gl X x) (hkw : PK X kws tk)
    (hall : (backToKw pos (keywordEach kws X.env)).all (·.1.isSome) = true := by rfl) (hks : (backToKw pos (keywordEach kws X.env)).filterMap (·.1) = ks := by rfl)
    (hdb : (x == ("__debug__" : Str)) = false := by decide)
    (hpl : ((backTo pos (starEach [] X.env)).any (·.1) || (backToKw pos (keywordEach kws X.env)).any (·.1.isNone)) = false := by rfl) :
    PE X (.Call (.Name x p) [] kws pos) (tCallK sp gV E0 tNil tk) := by
  obtain ⟨f, fd, F, hm, hk, hb⟩ := C.ex
  exact pe_callK0 F (hr.mono hkj) hg hm hk hb pass0 hkw hall hks hdb hpl
def g3 {α : Type} : List α → List α → List α := fun us ws => match us, ws with
  | [], [a, b, c] => [c, b, a]
  | _, _ => []
theorem Pairs.same {H H' : Hp} {p : Addr} {es : List Edge} (h : Pairs H p es) (s : Same H H') : Pairs H' p es := by
  obtain ⟨rs, a, b, c⟩ := h
  exact ⟨rs, s _ _ a, b, fun i r e x y => s _ _ (c i r e x y)⟩
theorem Dp.dok_two {K : PySem.W.Frag} {H : Hp} {t a b : Addr} {d : PyData} (ht : H t = some (.lst [.ref a, .ref b])) (ha : Dp K H (.ref a) d) (hb : Dp K H (.ref b) d) : Dp K H (.ref t) (.list [d, d]) :=
  .lst (SqL.of ht) (.cons ha (.cons hb .nil))
theorem dok_two {n b : Nat} {d : PyData} (h : DOk n b d) : DOk (n + 1) (2 + 2 * (b + 2)) (.list [d, d]) := by
  refine dok_list (xs := [d, d]) (fun x hx => ?_)
  simp only [List.mem_cons, List.not_mem_nil, or_false] at hx
  rcases hx with rfl | rfl <;> exact h
end
/-! piece FG -/
section
/-! ### folds and their maps, in general -/
section
variable {adj : Int → Int → Prop}
def StepOk (adj : Int → Int → Prop) (S : Int → Prop) (p q : Int) : Prop := S p ∧ S q ∧ p ≠ q ∧ ∀ z, S z → adj p z → adj q z
inductive Run (adj : Int → Int → Prop) : (Int → Prop) → List Edge → (Int → Prop) → Prop where
  | nil (S : Int → Prop) : Run adj S [] S
  | cons {S S' : Int → Prop} {p q : Int} {l : List Edge} (h : StepOk adj S p q) (r : Run adj (fun x => S x ∧ x ≠ p) l S') : Run adj S ((p, q) :: l) S'
def mapR : List Edge → Int → Int
  | [], x => x
  | e :: l, x => mapR l (if x = e.1 then e.2 else x)
def Stiff (adj : Int → Int → Prop) (S : Int → Prop) : Prop := ∀ p q, ¬ StepOk adj S p q
theorem mapR_in {S S' : Int → Prop} {l : List Edge} (r : Run adj S l S') : ∀ {x : Int}, S x → S' (mapR l x) := by
  induction r with
  | nil S => exact fun h => h
  | @cons S S' p q l h r ih =>
    intro x hx
    unfold mapR
    apply ih
    by_cases e : x = p
    · simp only [e, if_true]
      exact ⟨h.2.1, h.2.2.1.symm⟩
    · simp only [e, if_false]
      exact ⟨hx, e⟩
theorem run_sub {S S' : Int → Prop} {l : List Edge} (r : Run adj S l S') : ∀ {x : Int}, S' x → S x ∧ ∀ e ∈ l, x ≠ e.1 := by
  induction r with
  | nil S => exact fun h => ⟨h, fun _ h => nomatch h⟩
  | @cons S S' p q l h r ih =>
    intro x hx
    obtain ⟨⟨h1, h2⟩, h3⟩ := ih hx
    refine ⟨h1, fun e he => ?_⟩
    rcases List.mem_cons.mp he with rfl | he
    · exact h2
    · exact h3 e he
theorem mapR_off : ∀ {l : List Edge} {x : Int}, (∀ e ∈ l, x ≠ e.1) → mapR l x = x
  | [], _, _ => rfl
  | e :: l, x, h => by
    unfold mapR
    rw [if_neg (h e (List.mem_cons_self ..))]
    exact mapR_off fun u hu => h u (List.mem_cons_of_mem _ hu)
theorem mapR_fix {S S' : Int → Prop} {l : List Edge} (r : Run adj S l S') {x : Int} (h : S' x) : mapR l x = x := mapR_off (run_sub r h).2
theorem mapR_hom (sy : ∀ x y, adj x y → adj y x) {S S' : Int → Prop} {l : List Edge} (r : Run adj S l S') : ∀ {x y : Int}, S x → S y → adj x y → adj (mapR l x) (mapR l y) := by
  induction r with
  | nil S => exact fun _ _ h => h
  | @cons S S' p q l h r ih =>
    intro x y hx hy ha
    obtain ⟨hp, hq, hne, hn⟩ := h
    unfold mapR
    apply ih
    · by_cases e : x = p
      · simp only [e, if_true]; exact ⟨hq, hne.symm⟩
      · simp only [e, if_false]; exact ⟨hx, e⟩
    · by_cases e : y = p
      · simp only [e, if_true]; exact ⟨hq, hne.symm⟩
      · simp only [e, if_false]; exact ⟨hy, e⟩
    · by_cases e1 : x = p
      · subst e1
        by_cases e2 : y = x
        · subst e2
          simp only [if_true]
          exact hn q hq (sy _ _ (hn y hp ha))
        · simp only [e2, if_true, if_false]
          exact hn y hy ha
      · by_cases e2 : y = p
        · subst e2
          simp only [e1, if_true, if_false]
          exact sy _ _ (hn x hx (sy _ _ ha))
        · simp only [e1, e2, if_false]
          exact ha
/-- whoever stands so that the map of full folds leads each back does so behind further folds -/
theorem led_back (rf : ∀ x, adj x x) (sy : ∀ x y, adj x y → adj y x) {S E : Int → Prop} {l : List Edge} (r : Run adj S l E) (st : Stiff adj E)
    {T T' : Int → Prop} {m : List Edge} (rm : Run adj T m T') : (∀ x, T x → S x) → ∀ {s : Int → Int}, (∀ x, E x → T (s x)) → (∀ x y, E x → E y → adj x y → adj (s x) (s y)) → (∀ x, E x → mapR l (s x) = x) →
      ∀ x, E x → mapR l (mapR m (s x)) = x := by
  induction rm with
  | nil T => exact fun _ s _ _ h => h
  | @cons T T' p q m h rm ih =>
    intro hTS s hin hom hb x hx
    obtain ⟨hp, hq, hne, hn⟩ := h
    show mapR l (mapR m (if s x = p then q else s x)) = x
    refine ih (s := fun x => if s x = p then q else s x) (fun x hx => hTS x hx.1) ?_ ?_ ?_ x hx
    · intro x hx
      by_cases e : s x = p
      · simp only [e, if_true]; exact ⟨hq, hne.symm⟩
      · simp only [e, if_false]; exact ⟨hin x hx, e⟩
    · intro x y hx hy ha
      have ha := hom x y hx hy ha
      by_cases e1 : s x = p
      · by_cases e2 : s y = p
        · simp only [e1, e2, if_true]; exact rf q
        · simp only [e1, e2, if_true, if_false]
          rw [e1] at ha
          exact hn _ (hin y hy) ha
      · by_cases e2 : s y = p
        · simp only [e1, e2, if_true, if_false]
          rw [e2] at ha
          exact sy _ _ (hn _ (hin x hx) (sy _ _ ha))
        · simp only [e1, e2, if_false]; exact ha
    · intro x hx
      by_cases e : s x = p
      · simp only [e, if_true]
        -- what is beside x in the end is beside its new goal
        apply Classical.byContradiction
        intro hxy
        refine st x (mapR l q) ⟨hx, mapR_in r (hTS q hq), fun e => hxy e.symm, ?_⟩
        intro z hz hxz
        have h1 := hom x z hx hz hxz
        rw [e] at h1
        have h2 := hn _ (hin z hz) h1
        have h3 := mapR_hom sy r (hTS q hq) (hTS _ (hin z hz)) h2
        rw [hb z hz] at h3
        exact h3
      · simp only [e, if_false]
        exact hb x hx
theorem back (rf : ∀ x, adj x x) (sy : ∀ x y, adj x y → adj y x) {S E E' : Int → Prop} {l m : List Edge} (r : Run adj S l E) (st : Stiff adj E) (rm : Run adj S m E') {x : Int} (hx : E x) : mapR l (mapR m x) = x :=
  led_back rf sy r st rm (fun _ h => h) (s := fun x => x) (fun x hx => (run_sub r hx).1) (fun _ _ _ _ h => h) (fun x hx => mapR_fix r hx) x hx
theorem alike_iff (rf : ∀ x, adj x x) (sy : ∀ x y, adj x y → adj y x) {S E E' : Int → Prop} {l m : List Edge} (r : Run adj S l E) (st : Stiff adj E) (rm : Run adj S m E') {x y : Int} (hx : E x) (hy : E y) :
    adj (mapR m x) (mapR m y) ↔ adj x y := by
  constructor
  · intro h
    have h2 := mapR_hom sy r (run_sub rm (mapR_in rm (run_sub r hx).1)).1 (run_sub rm (mapR_in rm (run_sub r hy).1)).1 h
    rwa [back rf sy r st rm hx, back rf sy r st rm hy] at h2
  · exact fun h => mapR_hom sy rm (run_sub r hx).1 (run_sub r hy).1 h
end
/-! ### the same over lists of lines -/
theorem mem_mates {g m : Int} {es : List Edge} : m ∈ mates g es ↔ (g, m) ∈ es ∨ (m, g) ∈ es := by
  unfold mates
  rw [List.mem_filterMap]
  constructor
  · rintro ⟨⟨a, b⟩, he, hf⟩
    simp only at hf
    split at hf
    · rename_i hc
      have hf := Option.some.inj hf
      rcases hc with hc | hc
      · left
        rw [show (g, m) = (a, b) by rw [Prod.mk.injEq]; omega]
        exact he
      · right
        rw [show (m, g) = (a, b) by rw [Prod.mk.injEq]; omega]
        exact he
    · cases hf
  · rintro (h | h)
    · exact ⟨_, h, by simp only [true_or, if_true]; congr 1; omega⟩
    · exact ⟨_, h, by simp only [or_true, if_true]; congr 1; omega⟩
def Adj (es : List Edge) (a b : Int) : Prop := b ∈ a :: mates a es
instance (es : List Edge) (a b : Int) : Decidable (Adj es a b) := by unfold Adj; exact inferInstance
theorem adj_refl (es : List Edge) (a : Int) : Adj es a a := List.mem_cons_self ..
theorem adj_symm {es : List Edge} (a b : Int) (h : Adj es a b) : Adj es b a := by
  unfold Adj at h ⊢
  rcases List.mem_cons.mp h with e | h
  · subst e; exact List.mem_cons_self ..
  · exact List.mem_cons_of_mem _ (mem_mates.mpr ((mem_mates.mp h).symm))
/-- what a place can be folded onto, in the order of the law's own list -/
def ontoM (es : List Edge) (left : List Int) (p : Int) : List Int :=
  let some := (p :: mates p es).filter fun m => decide (m ∈ left)
  some.filter fun m => decide (m ≠ p ∧ (some.filter fun o => !decide (o ∈ m :: mates m es)) = [])
theorem ontoM_mem {es : List Edge} {left : List Int} {p q : Int} (hp : p ∈ left) : q ∈ ontoM es left p ↔ StepOk (Adj es) (· ∈ left) p q := by
  unfold ontoM StepOk
  simp only [List.mem_filter, decide_eq_true_eq, List.filter_eq_nil_iff, Bool.not_eq_true', decide_eq_false_iff_not]
  constructor
  · rintro ⟨⟨h1, h2⟩, h3, h4⟩
    refine ⟨hp, h2, fun e => h3 e.symm, fun z hz ha => ?_⟩
    exact Decidable.not_not.mp (h4 z ⟨ha, hz⟩)
  · rintro ⟨_, h2, h3, h4⟩
    refine ⟨⟨adj_symm _ _ (h4 p hp (adj_refl es p)), h2⟩, fun e => h3 e.symm, fun z hz => ?_⟩
    exact fun hh => hh (h4 z hz.2 hz.1)
def foldableM (es : List Edge) (left : List Int) : List Int := left.filter fun p => decide (ontoM es left p ≠ [])
def without (left : List Int) (p : Int) : List Int := left.filter fun m => decide (m ≠ p)
theorem without_mem {left : List Int} {p x : Int} : x ∈ without left p ↔ x ∈ left ∧ x ≠ p := by
  unfold without
  rw [List.mem_filter, decide_eq_true_eq]
theorem without_lt {left : List Int} {p : Int} (h : left.Pairwise (· < ·)) : (without left p).Pairwise (· < ·) := List.Pairwise.filter _ h
/-- folds by lists: what is left is told too -/
inductive RunL (es : List Edge) : List Int → List Edge → List Int → Prop where
  | nil (left : List Int) : RunL es left [] left
  | cons {left left' : List Int} {p q : Int} {l : List Edge} (hp : p ∈ left) (hq : q ∈ ontoM es left p) (r : RunL es (without left p) l left') : RunL es left ((p, q) :: l) left'
theorem RunL.run {es : List Edge} {left left' : List Int} {l : List Edge} (r : RunL es left l left') : Run (Adj es) (· ∈ left) l (· ∈ left') := by
  induction r with
  | nil left => exact .nil _
  | @cons left left' p q l hp hq r ih =>
    refine .cons ((ontoM_mem hp).mp hq) ?_
    have e : (fun x => x ∈ left ∧ x ≠ p) = (· ∈ without left p) := by
      funext x
      exact propext without_mem.symm
    rw [e]
    exact ih
theorem RunL.snoc {es : List Edge} {left left' : List Int} {l : List Edge} (r : RunL es left l left') {p q : Int} (hp : p ∈ left') (hq : q ∈ ontoM es left' p) : RunL es left (l ++ [(p, q)]) (without left' p) := by
  induction r with
  | nil left => exact .cons hp hq (.nil _)
  | cons hp' hq' r ih => exact .cons hp' hq' (ih hp hq)
theorem RunL.length {es : List Edge} {left left' : List Int} {l : List Edge} (r : RunL es left l left') (nd : left.Nodup) : left'.length + l.length = left.length ∧ left'.Nodup := by
  induction r with
  | nil left => exact ⟨rfl, nd⟩
  | @cons left left' p q l hp hq r ih =>
    have h1 : (without left p).length + 1 = left.length := by
      have h2 : without left p = left.erase p := by
        unfold without
        rw [List.Nodup.erase_eq_filter nd]
        congr 1
        funext x
        by_cases e : x = p <;> simp [e]
      rw [h2, List.length_erase_of_mem hp]
      have : 0 < left.length := List.length_pos_of_mem hp
      omega
    obtain ⟨h3, h4⟩ := ih (nd.filter _)
    rw [List.length_cons]
    exact ⟨by omega, h4⟩
theorem RunL.pos {es : List Edge} {left left' : List Int} {l : List Edge} (r : RunL es left l left') (h : left ≠ []) : left' ≠ [] := by
  induction r with
  | nil left => exact h
  | @cons left left' p q l hp hq r ih =>
    apply ih
    have := (ontoM_mem hp).mp hq
    intro e
    have hm : q ∈ without left p := without_mem.mpr ⟨this.2.1, this.2.2.1.symm⟩
    rw [e] at hm
    cases hm
theorem stiff_of {es : List Edge} {left : List Int} (h : foldableM es left = []) : Stiff (Adj es) (· ∈ left) := by
  intro p q hs
  have hm : p ∈ foldableM es left := by
    unfold foldableM
    rw [List.mem_filter, decide_eq_true_eq]
    refine ⟨hs.1, fun e => ?_⟩
    have := (ontoM_mem hs.1).mpr hs
    rw [e] at this
    cases this
  rw [h] at hm
  cases hm
theorem RunL.sub {es : List Edge} {left left' : List Int} {l : List Edge} (r : RunL es left l left') : ∀ x ∈ left', x ∈ left := fun _ hx => (run_sub r.run hx).1
theorem RunL.lt {es : List Edge} {left left' : List Int} {l : List Edge} (r : RunL es left l left') (h : left.Pairwise (· < ·)) : left'.Pairwise (· < ·) := by
  induction r with
  | nil left => exact h
  | cons hp hq r ih => exact ih (without_lt h)
/-- the map, by places -/
def whereL (n : Nat) (ps : List Edge) : List Int := (List.range (n + 1)).map fun (i : Nat) => mapR ps (i : Int)
theorem whereL_length (n : Nat) (ps : List Edge) : (whereL n ps).length = n + 1 := by simp [whereL]
theorem whereL_get {n : Nat} {ps : List Edge} {i : Nat} (h : i ≤ n) : (whereL n ps)[i]? = some (mapR ps (i : Int)) := by
  unfold whereL
  rw [List.getElem?_map, List.getElem?_range (by omega)]
  rfl
theorem whereL_set {n : Nat} {ps : List Edge} {p q : Nat} (hp : p ≤ n) : (whereL n ps).set p (mapR ps (q : Int)) = whereL n (((p : Int), (q : Int)) :: ps) := by
  apply List.ext_getElem?
  intro i
  rw [List.getElem?_set]
  by_cases hi : i ≤ n
  · rw [whereL_get hi, whereL_get hi, whereL_length]
    by_cases e : p = i
    · subst e
      rw [if_pos rfl, if_pos (by omega)]
      simp [mapR]
    · rw [if_neg e]
      simp only [mapR]
      rw [if_neg (by omega)]
  · rw [if_neg (by omega), List.getElem?_eq_none (by rw [whereL_length]; omega), List.getElem?_eq_none (by rw [whereL_length]; omega)]
/-- the least of a list of numbers -/
def minL : List Int → Int
  | [] => 0
  | x :: r => r.foldl min x
/-- the folds of an order, each onto the least place then -/
def leastM (es : List Edge) : List Int → List Int → List Edge
  | _, [] => []
  | left, p :: r => (p, minL (ontoM es left p)) :: leastM es (without left p) r
theorem foldl_min_mem : ∀ (l : List Int) (a : Int), l.foldl min a ∈ a :: l
  | [], a => List.mem_cons_self ..
  | b :: l, a => by
    rw [List.foldl_cons]
    have h := foldl_min_mem l (min a b)
    rcases List.mem_cons.mp h with h | h
    · rw [h]
      by_cases e : a ≤ b
      · rw [Int.min_eq_left e]; exact List.mem_cons_self ..
      · rw [Int.min_eq_right (by omega)]; exact List.mem_cons_of_mem _ (List.mem_cons_self ..)
    · exact List.mem_cons_of_mem _ (List.mem_cons_of_mem _ h)
theorem foldl_min_le : ∀ (l : List Int) (a : Int), ∀ x ∈ a :: l, l.foldl min a ≤ x
  | [], a, x, h => by simp at h; subst h; exact Int.le_refl _
  | b :: l, a, x, h => by
    rw [List.foldl_cons]
    have h1 := foldl_min_le l (min a b) (min a b) (List.mem_cons_self ..)
    have h2 := Int.min_le_left a b
    have h3 := Int.min_le_right a b
    rcases List.mem_cons.mp h with rfl | h
    · omega
    · rcases List.mem_cons.mp h with rfl | h
      · omega
      · exact foldl_min_le l (min a b) x (List.mem_cons_of_mem _ h)
theorem minL_mem {l : List Int} (h : l ≠ []) : minL l ∈ l := by
  cases l with
  | nil => exact absurd rfl h
  | cons a l => exact foldl_min_mem l a
theorem minL_le {l : List Int} {x : Int} (h : x ∈ l) : minL l ≤ x := by
  cases l with
  | nil => cases h
  | cons a l => exact foldl_min_le l a x h
theorem RunL.least {es : List Edge} {left left' : List Int} {l : List Edge} (r : RunL es left l left') : RunL es left (leastM es left (l.map (·.1))) left' := by
  induction r with
  | nil left => exact .nil _
  | @cons left left' p q l hp hq r ih => exact .cons hp (minL_mem fun e => by rw [e] at hq; cases hq) ih
theorem leastM_fst (es : List Edge) : ∀ (o left : List Int), (leastM es left o).map (·.1) = o
  | [], _ => rfl
  | p :: o, left => by
    unfold leastM
    rw [List.map_cons, leastM_fst es o]
theorem RunL.take {es : List Edge} {left left' : List Int} {l : List Edge} (r : RunL es left l left') : ∀ k, ∃ left2, RunL es left (l.take k) left2 := by
  induction r with
  | nil left => exact fun k => ⟨left, by rw [List.take_nil]; exact .nil _⟩
  | @cons left left' p q l hp hq r ih =>
    intro k
    cases k with
    | zero => exact ⟨left, .nil _⟩
    | succ k =>
      obtain ⟨l2, h⟩ := ih k
      exact ⟨l2, by rw [List.take_succ_cons]; exact .cons hp hq h⟩
end
/-! piece LC -/
section
/-! ### a comprehension that filters and tells -/
theorem lc_gen {K : PySem.W.Frag} {a : Addr} {α : Type} {inj : α → V} {xs : List α} {i : Nat} {tt : TT} {te : TE} {vs : List Nat} {σ : Sl} {H1 : Hp} {D : Addr} {Qd : Hp → Prop} (f : α → Bool) (e : α → V)
    (hl : SqL K H1 a (xs.map inj)) (nD : H1 D = none) (hn : xs.length ≤ 10000) (hw : ∀ v, wipe ((wipe σ vs).set i (some v)) vs = wipe σ vs)
    (ht : ∀ x ∈ xs, ∀ H2, Same H1 H2 → ∀ R : Bool → Hp → Prop, (∀ H3, Same H2 H3 → R (f x) H3) → tt ((wipe σ vs).set i (some (inj x))) H2 R)
    (he : ∀ x ∈ xs, f x = true → ∀ H2, Same H1 H2 → ∀ R : V → Hp → Prop, (∀ H3, Same H2 H3 → R (e x) H3) → te ((wipe σ vs).set i (some (inj x))) H2 R)
    (hd : ∀ H2, Same H1 H2 → H2 D = some (.lst ((xs.filter f).map e)) → Qd H2) :
    ∃ W : Nat → Nat → Hp → Prop, (∃ m, W 0 m (upd H1 D (.lst []))) ∧ ∀ i' m H, W i' m H →
      ((Itl K a).stop i' H ∧ Qd H) ∨ ((Itl K a).go i' H ∧ ∃ Nx : Hp → Prop, (∀ H', Nx H' → ∃ m', m' < m ∧ W (i' + 1) m' H') ∧ ∀ x H', (Itl K a).yld i' H x H' → gName i x (wipe σ vs) H' fun σ2 H2 => wipe σ2 vs = wipe σ vs ∧ tt σ2 H2 fun b H3 =>
        if b = true then te σ2 H3 fun y H4 => ∃ acc, H4 D = some (.lst acc) ∧ acc.length < sizeLine ∧ Nx (upd H4 D (.lst (acc ++ [y]))) else Nx H3) := by
  refine lc_list (K := K) (xs := xs.map inj) (fun j H2 => Same H1 H2 ∧ H2 D = some (.lst (((xs.take j).filter f).map e))) ⟨same_upd (Same.refl _) nD, upd_same⟩ ?_ ?_ ?_
  · rintro j H2 _ ⟨sm, _⟩
    exact sm.seq hl
  · rintro j x H2 hx ⟨sm, hD⟩
    rw [List.getElem?_map] at hx
    cases hv : xs[j]? with
    | none => rw [hv] at hx; cases hx
    | some y =>
      rw [hv] at hx
      cases hx
      have hm := List.mem_of_getElem? hv
      have htk : xs.take (j + 1) = xs.take j ++ [y] := by rw [List.take_add_one, hv]; rfl
      refine ⟨hw _, ht y hm H2 sm _ fun H3 sm3 => ?_⟩
      cases hf : f y with
      | false =>
        refine ifF rfl ⟨sm.trans sm3, ?_⟩
        rw [htk, List.filter_append, List.filter_cons, hf]
        simpa using sm3 _ _ hD
      | true =>
        refine ifT rfl (he y hm hf H3 (sm.trans sm3) _ fun H4 sm4 => ?_)
        refine ⟨_, sm4 _ _ (sm3 _ _ hD), ?_, same_upd ((sm.trans sm3).trans sm4) nD, ?_⟩
        · rw [List.length_map]
          exact Nat.lt_of_le_of_lt (Nat.le_trans (List.length_filter_le ..) (Nat.le_trans (by rw [List.length_take]; exact Nat.min_le_right _ _) hn)) (by decide)
        · rw [upd_same, htk, List.filter_append, List.filter_cons, hf, List.map_append]
          simp
  · rintro H2 ⟨sm, hD⟩
    rw [List.length_map, List.take_length] at hD
    exact hd H2 sm hD
/-- the same where the thing itself is told -/
theorem lc_filt {K : PySem.W.Frag} {a : Addr} {xs : List Int} {i : Nat} {tt : TT} {vs : List Nat} {σ : Sl} {H1 : Hp} {D : Addr} {Qd : Hp → Prop} (f : Int → Bool)
    (hl : SqL K H1 a (xs.map V.int)) (nD : H1 D = none) (hn : xs.length ≤ 10000) (hi : i < σ.length) (hwl : (wipe σ vs).length = σ.length) (hw : ∀ v, wipe ((wipe σ vs).set i (some v)) vs = wipe σ vs)
    (ht : ∀ x ∈ xs, ∀ H2, Same H1 H2 → ∀ R : Bool → Hp → Prop, (∀ H3, Same H2 H3 → R (f x) H3) → tt ((wipe σ vs).set i (some (.int x))) H2 R)
    (hd : ∀ H2, Same H1 H2 → H2 D = some (.lst ((xs.filter f).map V.int)) → Qd H2) :
    ∃ W : Nat → Nat → Hp → Prop, (∃ m, W 0 m (upd H1 D (.lst []))) ∧ ∀ i' m H, W i' m H →
      ((Itl K a).stop i' H ∧ Qd H) ∨ ((Itl K a).go i' H ∧ ∃ Nx : Hp → Prop, (∀ H', Nx H' → ∃ m', m' < m ∧ W (i' + 1) m' H') ∧ ∀ x H', (Itl K a).yld i' H x H' → gName i x (wipe σ vs) H' fun σ2 H2 => wipe σ2 vs = wipe σ vs ∧ tt σ2 H2 fun b H3 =>
        if b = true then tVar i σ2 H3 fun y H4 => ∃ acc, H4 D = some (.lst acc) ∧ acc.length < sizeLine ∧ Nx (upd H4 D (.lst (acc ++ [y]))) else Nx H3) :=
  lc_gen (inj := V.int) f V.int hl nD hn hw ht (fun x _ _ H2 _ R hR => ⟨_, by rw [List.getElem?_set_self (by rw [hwl]; exact hi)], hR H2 (Same.refl _)⟩) hd
end
/-! piece D8m -/
section
/-! ### pairs as tuples -/
structure TsAt (H : Hp) (D : Addr) (rs : List Addr) (es : List Edge) : Prop where
  hD : H D = some (.lst (rs.map V.ref))
  len : rs.length = es.length
  at_ : ∀ (i : Nat) (r : Addr) (e : Edge), rs[i]? = some r → es[i]? = some e → H r = some (.tup [.int e.1, .int e.2])
theorem TsAt.mem {H : Hp} {D : Addr} {rs : List Addr} {es : List Edge} (h : TsAt H D rs es) {r : Addr} (hr : r ∈ rs) : ∃ e ∈ es, H r = some (.tup [.int e.1, .int e.2]) := by
  obtain ⟨i, hi⟩ := List.getElem?_of_mem hr
  have hl : i < es.length := by rw [← h.len]; exact (List.getElem?_eq_some_iff.mp hi).1
  exact ⟨es[i], List.getElem_mem hl, h.at_ i r _ hi (List.getElem?_eq_getElem hl)⟩
theorem TsAt.ne {H : Hp} {D : Addr} {rs : List Addr} {es : List Edge} (h : TsAt H D rs es) {r : Addr} (hr : r ∈ rs) : r ≠ D := by
  obtain ⟨e, _, he⟩ := h.mem hr
  exact ne_of he h.hD (by intro q; cases q)
theorem TsAt.nil {H : Hp} {D : Addr} (h : H D = some (.lst [])) : TsAt H D [] [] := ⟨h, rfl, fun i r e h _ => by simp at h⟩
theorem TsAt.same {H H' : Hp} {D : Addr} {rs : List Addr} {es : List Edge} (h : TsAt H D rs es) (s : Same H H') : TsAt H' D rs es :=
  ⟨s _ _ h.hD, h.len, fun i r e a b => s _ _ (h.at_ i r e a b)⟩
theorem TsAt.push {H : Hp} {D r : Addr} {rs : List Addr} {es : List Edge} (h : TsAt H D rs es) (nr : H r = none) (e : Edge) :
    TsAt (upd (upd H r (.tup [.int e.1, .int e.2])) D (.lst (rs.map V.ref ++ [V.ref r]))) D (rs ++ [r]) (es ++ [e]) := by
  have hDr : D ≠ r := ne_of_none h.hD nr
  refine ⟨?_, ?_, ?_⟩
  · rw [upd_same, List.map_append]
    rfl
  · rw [List.length_append, List.length_append, h.len]
    rfl
  · intro i a u ha hu
    by_cases hi : i < rs.length
    · rw [List.getElem?_append_left hi] at ha
      rw [List.getElem?_append_left (by rw [← h.len]; exact hi)] at hu
      rw [upd_ne (h.ne (List.mem_of_getElem? ha)), upd_ne (ne_of_none (h.at_ i a u ha hu) nr)]
      exact h.at_ i a u ha hu
    · rw [List.getElem?_append_right (by omega)] at ha
      rw [List.getElem?_append_right (by rw [← h.len]; omega), ← h.len] at hu
      have e0 : i - rs.length = 0 := by
        have := (List.getElem?_eq_some_iff.mp ha).1
        simp at this
        omega
      rw [e0] at ha hu
      simp at ha hu
      subst ha hu
      rw [upd_ne hDr.symm, upd_same]
theorem TsAt.cat {H : Hp} {D D2 p : Addr} {rs rs2 : List Addr} {es es2 : List Edge} (h : TsAt H D rs es) (h2 : TsAt H D2 rs2 es2) (np : H p = none) :
    TsAt (upd H p (.lst (rs.map V.ref ++ rs2.map V.ref))) p (rs ++ rs2) (es ++ es2) := by
  refine ⟨by rw [upd_same, List.map_append], by rw [List.length_append, List.length_append, h.len, h2.len], ?_⟩
  intro i a u ha hu
  by_cases hi : i < rs.length
  · rw [List.getElem?_append_left hi] at ha
    rw [List.getElem?_append_left (by rw [← h.len]; exact hi)] at hu
    rw [upd_ne (ne_of_none (h.at_ i a u ha hu) np)]
    exact h.at_ i a u ha hu
  · rw [List.getElem?_append_right (by omega)] at ha
    rw [List.getElem?_append_right (by rw [← h.len]; omega), ← h.len] at hu
    rw [upd_ne (ne_of_none (h2.at_ _ a u ha hu) np)]
    exact h2.at_ _ a u ha hu

theorem for_enum {K : PySem.W.Frag} {a : Addr} {xs : List V} {g : TG} {tb : TS} {D : Ends} {σ : Sl} {H : Hp} (Pv : Nat → Sl → Hp → Prop) (h0 : Pv 0 σ H) (hl : ∀ i σ H, i ≤ xs.length → Pv i σ H → SqL K H a xs)
    (hs : ∀ (i : Nat) x T σ H, xs[i]? = some x → Pv i σ H → H T = none → g (.ref T) σ (upd H T (.tup [.int (i : Nat), x])) fun σ2 H2 => tb { D with nx := Pv (i + 1), ct := Pv (i + 1), bk := D.nx } σ2 H2)
    (hd : ∀ σ H, Pv xs.length σ H → D.nx σ H) :
    ∃ W : Nat → Nat → Sl → Hp → Prop, (∃ m, W 0 m σ H) ∧ ∀ i m σ H, W i m σ H →
      ((Ite K a).stop i H ∧ D.nx σ H) ∨ ((Ite K a).go i H ∧ ∃ N : Sl → Hp → Prop, (∀ σ' H', N σ' H' → ∃ m', m' < m ∧ W (i + 1) m' σ' H') ∧
        ∀ x H', (Ite K a).yld i H x H' → g x σ H' fun σ2 H2 => tb { D with nx := N, ct := N, bk := D.nx } σ2 H2) := by
  refine ⟨fun i m σ H => m = xs.length - i ∧ i ≤ xs.length ∧ Pv i σ H, ⟨xs.length, by simp, Nat.zero_le _, h0⟩, ?_⟩
  rintro i m σ H ⟨rfl, hi, p⟩
  have q := hl i σ H hi p
  by_cases hlt : i < xs.length
  · refine Or.inr ⟨⟨xs, xs[i], q, List.getElem?_eq_getElem hlt⟩, Pv (i + 1), fun σ' H' p' => ⟨xs.length - (i + 1), by omega, rfl, hlt, p'⟩, ?_⟩
    rintro x H' ⟨T, y, rfl, nT, rfl, hx⟩
    exact hs i y T σ H (hx xs q) p nT
  · obtain rfl : i = xs.length := by omega
    exact Or.inl ⟨⟨xs, q, Nat.le_refl _⟩, hd σ H p⟩
theorem inV_ints (x : Int) : ∀ t : List Int, inV (.int x) (t.map V.int) = decide (x ∈ t)
  | [] => rfl
  | a :: t => by
    have h := inV_ints x t
    unfold inV at h ⊢
    rw [List.map_cons, List.any_cons, h]
    by_cases hx : a = x
    · subst hx; simp [eqV]
    · have : ¬ x = a := fun e => hx e.symm
      simp [eqV, hx, this]
theorem flat_ints : ∀ t : List Int, (t.map V.int).all flatV = true
  | [] => rfl
  | _ :: t => by rw [List.map_cons, List.all_cons, flat_ints t]; rfl
/-! ### the product, told place by place -/
def partsM (n m : Nat) : List Edge := (List.range n).flatMap fun (a : Nat) => (List.range m).map fun (b : Nat) => ((a : Int) + 1, (b : Int) + 1)
def joinM (es fs : List Edge) (ps : List Edge) (i j : Nat) : Option Edge :=
  match ps[i]?, ps[j]? with
  | some x, some y => if i < j ∧ y.1 ∈ x.1 :: mates x.1 es ∧ y.2 ∈ x.2 :: mates x.2 fs then some ((i : Int) + 1, (j : Int) + 1) else none
  | _, _ => none
def prodM (n : Nat) (es : List Edge) (m : Nat) (fs : List Edge) : List Edge :=
  (List.range (partsM n m).length).flatMap fun i => (List.range (partsM n m).length).filterMap fun j => joinM es fs (partsM n m) i j
theorem partsM_length (n m : Nat) : (partsM n m).length = n * m := by
  unfold partsM
  induction n with
  | zero => simp
  | succ n ih =>
    rw [List.range_succ, List.flatMap_append, List.length_append, ih, Nat.succ_mul]
    simp
theorem partsM_rng {n m : Nat} {e : Edge} (h : e ∈ partsM n m) : 1 ≤ e.1 ∧ e.1 ≤ n ∧ 1 ≤ e.2 ∧ e.2 ≤ m := by
  unfold partsM at h
  obtain ⟨a, ha, h2⟩ := List.mem_flatMap.mp h
  obtain ⟨b, hb, rfl⟩ := List.mem_map.mp h2
  have := List.mem_range.mp ha
  have := List.mem_range.mp hb
  simp only
  omega
theorem range_flat {α : Type} (f : Nat → List α) (i : Nat) : (List.range (i + 1)).flatMap f = (List.range i).flatMap f ++ f i := by
  rw [List.range_succ, List.flatMap_append]
  simp
theorem range_fm {α : Type} (f : Nat → Option α) (i : Nat) : (List.range (i + 1)).filterMap f = (List.range i).filterMap f ++ (f i).toList := by
  rw [List.range_succ, List.filterMap_append]
  cases h : f i <;> simp [List.filterMap_cons, h]
end
/-! piece NB -/
section
/-! ### lots as numbers: the bits -/
def nb0 (n : Nat) : List Nat := 0 :: (List.range n).map fun i => 2 ^ (i + 1)
def addB (t : List Nat) (e : Edge) : List Nat := (t.modify e.1.toNat (· ||| 2 ^ e.2.toNat)).modify e.2.toNat (· ||| 2 ^ e.1.toNat)
def nearB (n : Nat) (es : List Edge) : List Nat := es.foldl addB (nb0 n)
theorem addB_length (t : List Nat) (e : Edge) : (addB t e).length = t.length := by
  unfold addB
  rw [List.length_modify, List.length_modify]
theorem foldl_addB_length : ∀ (es : List Edge) (t : List Nat), (es.foldl addB t).length = t.length
  | [], _ => rfl
  | e :: es, t => by rw [List.foldl_cons, foldl_addB_length es, addB_length]
theorem nb0_length (n : Nat) : (nb0 n).length = n + 1 := by simp [nb0]
theorem nearB_length (n : Nat) (es : List Edge) : (nearB n es).length = n + 1 := by
  unfold nearB
  rw [foldl_addB_length, nb0_length]
theorem addB_swap (t : List Nat) {a b : Int} (h : a.toNat ≠ b.toNat) : addB t (a, b) = addB t (b, a) := by
  unfold addB
  apply List.ext_getElem?
  intro i
  simp only [List.getElem?_modify]
  by_cases h1 : a.toNat = i <;> by_cases h2 : b.toNat = i
  · omega
  · cases t[i]? <;> simp [h1, h2]
  · cases t[i]? <;> simp [h1, h2]
  · cases t[i]? <;> simp [h1, h2]
/-- the bits of the entry at p -/
theorem addB_bit {t : List Nat} {e : Edge} {p : Nat} {v : Nat} (h1 : 1 ≤ e.1) (h2 : 1 ≤ e.2) (hne : e.1 ≠ e.2) (h : t[p]? = some v) :
    ∃ u, (addB t e)[p]? = some u ∧ ∀ k : Nat, u.testBit k = (v.testBit k || decide ((e.1 = p ∧ e.2 = k) ∨ (e.2 = p ∧ e.1 = k))) := by
  unfold addB
  simp only [List.getElem?_modify, h]
  by_cases a1 : e.1.toNat = p <;> by_cases a2 : e.2.toNat = p
  · omega
  · refine ⟨v ||| 2 ^ e.2.toNat, by simp [a1, a2], fun k => ?_⟩
    rw [Nat.testBit_or, Nat.testBit_two_pow]
    congr 1
    apply decide_eq_decide.mpr
    omega
  · refine ⟨v ||| 2 ^ e.1.toNat, by simp [a1, a2], fun k => ?_⟩
    rw [Nat.testBit_or, Nat.testBit_two_pow]
    congr 1
    apply decide_eq_decide.mpr
    omega
  · refine ⟨v, by simp [a1, a2], fun k => ?_⟩
    have : decide ((e.1 = p ∧ e.2 = k) ∨ (e.2 = p ∧ e.1 = k)) = false := by
      apply decide_eq_false
      omega
    rw [this, Bool.or_false]
theorem foldl_addB_bit {p : Nat} : ∀ (es : List Edge) (t : List Nat) (v : Nat), (∀ e ∈ es, 1 ≤ e.1 ∧ 1 ≤ e.2 ∧ e.1 ≠ e.2) → t[p]? = some v →
    ∃ u, (es.foldl addB t)[p]? = some u ∧ ∀ k : Nat, u.testBit k = (v.testBit k || decide ((k : Int) ∈ mates p es))
  | [], t, v, _, h => ⟨v, h, fun k => by simp [mates]⟩
  | e :: es, t, v, hr, h => by
    have he := hr e (List.mem_cons_self ..)
    obtain ⟨u1, h1, b1⟩ := addB_bit he.1 he.2.1 he.2.2 h
    obtain ⟨u, h2, b2⟩ := foldl_addB_bit es (addB t e) u1 (fun x hx => hr x (List.mem_cons_of_mem _ hx)) h1
    refine ⟨u, h2, fun k => ?_⟩
    rw [b2, b1, Bool.or_assoc]
    congr 1
    rw [← Bool.decide_or]
    apply decide_eq_decide.mpr
    unfold mates
    rw [List.filterMap_cons]
    by_cases hc : e.1 = (p : Int) ∨ e.2 = (p : Int)
    · rw [if_pos hc]
      simp only [List.mem_cons]
      constructor
      · rintro (h | h)
        · left; omega
        · exact .inr h
      · rintro (h | h)
        · left; omega
        · exact .inr h
    · rw [if_neg hc]
      simp only
      constructor
      · rintro (h | h)
        · exact absurd (by omega) hc
        · exact h
      · exact .inr
theorem nearB_bit {n : Nat} {es : List Edge} (hr : ∀ e ∈ es, 1 ≤ e.1 ∧ 1 ≤ e.2 ∧ e.1 ≠ e.2) {p : Nat} (h1 : 1 ≤ p) (h2 : p ≤ n) :
    ∃ u, (nearB n es)[p]? = some u ∧ ∀ k : Nat, u.testBit k = decide ((k : Int) ∈ (p : Int) :: mates p es) := by
  have h0 : (nb0 n)[p]? = some (2 ^ p) := by
    unfold nb0
    cases p with
    | zero => omega
    | succ q =>
      rw [List.getElem?_cons_succ, List.getElem?_map, List.getElem?_range (by omega)]
      rfl
  obtain ⟨u, h3, h4⟩ := foldl_addB_bit es (nb0 n) _ hr h0
  refine ⟨u, h3, fun k => ?_⟩
  rw [h4, Nat.testBit_two_pow, ← Bool.decide_or]
  apply decide_eq_decide.mpr
  rw [List.mem_cons]
  constructor
  · rintro (h | h)
    · left; omega
    · exact .inr h
  · rintro (h | h)
    · left; omega
    · exact .inr h
theorem nearB_zero {n : Nat} {es : List Edge} (hr : ∀ e ∈ es, 1 ≤ e.1 ∧ 1 ≤ e.2 ∧ e.1 ≠ e.2) : (nearB n es)[0]? = some 0 := by
  obtain ⟨u, h3, h4⟩ := foldl_addB_bit (p := 0) es (nb0 n) 0 hr rfl
  have : u = 0 := by
    apply Nat.eq_of_testBit_eq
    intro k
    rw [h4, Nat.zero_testBit, Bool.false_or]
    apply decide_eq_false
    intro h
    obtain ⟨e, he, hf⟩ := List.mem_filterMap.mp h
    have := hr e he
    split at hf
    · omega
    · cases hf
  subst this
  exact h3
theorem and_pow_zero {v k : Nat} (h : v.testBit k = false) : v &&& 2 ^ k = 0 := by
  apply Nat.eq_of_testBit_eq
  intro i
  rw [Nat.testBit_and, Nat.testBit_two_pow, Nat.zero_testBit]
  by_cases e : k = i
  · subst e; rw [h]; rfl
  · simp [e]
/-- a line that no earlier one joins: its bit is not there yet -/
theorem fresh_bit {n : Nat} {es : List Edge} {a b : Nat} (hr : ∀ e ∈ es, 1 ≤ e.1 ∧ 1 ≤ e.2 ∧ e.1 ≠ e.2) (ha : 1 ≤ a) (han : a ≤ n) (hab : a ≠ b)
    (hf : ∀ e ∈ es, Apart e ((a : Int), (b : Int))) : ∃ u, (nearB n es)[a]? = some u ∧ u &&& 2 ^ b = 0 := by
  obtain ⟨u, h1, h2⟩ := nearB_bit hr ha han
  refine ⟨u, h1, and_pow_zero ?_⟩
  rw [h2]
  apply decide_eq_false
  rw [List.mem_cons]
  rintro (h | h)
  · omega
  · obtain ⟨e, he, hx⟩ := List.mem_filterMap.mp h
    have q := hf e he
    have q1 := q.1
    have q2 := q.2
    obtain ⟨e1, e2⟩ := e
    simp only at hx
    split at hx
    · rename_i hc
      have hx := Option.some.inj hx
      rcases hc with hc | hc
      · exact q1 (by rw [Prod.mk.injEq]; exact ⟨hc, by omega⟩)
      · exact q2 (by rw [Prod.mk.injEq]; exact ⟨by omega, hc⟩)
    · cases hx
/-! ### the places of a lot -/
def bitLen (v : Nat) : Nat := if v = 0 then 0 else v.log2 + 1
theorem bit_lt {v k : Nat} (h : v.testBit k = true) : k < bitLen v := by
  unfold bitLen
  by_cases e : v = 0
  · subst e; simp at h
  · rw [if_neg e]
    have h1 := Nat.ge_two_pow_of_testBit h
    have h2 := (Nat.le_log2 e).mpr h1
    omega
def membersM (v : Nat) : List Int := ((List.range (bitLen v - 1)).map fun (i : Nat) => (i : Int) + 1).filter fun x => v.testBit x.toNat
theorem membersM_lt (v : Nat) : (membersM v).Pairwise (· < ·) := by
  unfold membersM
  apply List.Pairwise.filter
  rw [List.pairwise_map]
  exact List.pairwise_lt_range.imp fun h => by omega
theorem membersM_mem (v : Nat) (x : Int) : x ∈ membersM v ↔ 1 ≤ x ∧ v.testBit x.toNat = true := by
  unfold membersM
  rw [List.mem_filter]
  constructor
  · rintro ⟨h1, h2⟩
    obtain ⟨i, hi, rfl⟩ := List.mem_map.mp h1
    exact ⟨by omega, h2⟩
  · rintro ⟨h1, h2⟩
    have := bit_lt h2
    exact ⟨List.mem_map.mpr ⟨(x - 1).toNat, List.mem_range.mpr (by omega), by omega⟩, h2⟩
theorem membersM_near {n : Nat} {es : List Edge} (h : Simp n es) {p : Nat} (h1 : 1 ≤ p) (h2 : p ≤ n) :
    ∃ u, (nearB n es)[p]? = some u ∧ membersM u = besideM n es p := by
  obtain ⟨u, hu, hb⟩ := nearB_bit (n := n) (es := es) (fun e he => by have := h.rng e he; omega) h1 h2
  refine ⟨u, hu, lt_unique (membersM_lt u) (besideM_lt n es p) fun x => ?_⟩
  rw [membersM_mem, besideM_mem h (by omega) (by omega)]
  constructor
  · rintro ⟨h3, h4⟩
    rw [hb] at h4
    have := of_decide_eq_true h4
    rwa [show ((x.toNat : Nat) : Int) = x by omega] at this
  · intro h3
    have : 1 ≤ x := by
      rcases List.mem_cons.mp h3 with e | e
      · omega
      · exact (mates_rng h x e).1
    refine ⟨this, ?_⟩
    rw [hb]
    apply decide_eq_true
    rwa [show ((x.toNat : Nat) : Int) = x by omega]
theorem nearB_members {n : Nat} {es : List Edge} (h : Simp n es) : (nearB n es).map membersM = [] :: (List.range n).map fun (i : Nat) => besideM n es ((i : Int) + 1) := by
  apply List.ext_getElem?
  intro i
  rw [List.getElem?_map]
  by_cases h0 : i = 0
  · subst h0
    rw [nearB_zero (fun e he => by have := h.rng e he; omega)]
    rfl
  · obtain ⟨j, rfl⟩ : ∃ j, i = j + 1 := ⟨i - 1, by omega⟩
    by_cases hi : j < n
    · obtain ⟨u, hu, hm⟩ := membersM_near h (p := j + 1) (by omega) (by omega)
      rw [hu, List.getElem?_cons_succ, List.getElem?_map, List.getElem?_range hi]
      simp only [Option.map_some]
      rw [hm]
      rfl
    · rw [List.getElem?_eq_none (by rw [nearB_length]; omega), List.getElem?_eq_none (by simp; omega)]
      rfl
theorem nearB_small {n : Nat} {es : List Edge} (h : Simp n es) {p u : Nat} (hu : (nearB n es)[p]? = some u) : u < 2 ^ (n + 1) := by
  apply Nat.lt_pow_two_of_testBit
  intro k hk
  have hp : p < n + 1 := by
    have := (List.getElem?_eq_some_iff.mp hu).1
    rwa [nearB_length] at this
  by_cases h0 : p = 0
  · subst h0
    rw [nearB_zero (fun e he => by have := h.rng e he; omega)] at hu
    cases hu
    exact Nat.zero_testBit _
  · obtain ⟨v, hv, hb⟩ := nearB_bit (n := n) (es := es) (fun e he => by have := h.rng e he; omega) (p := p) (by omega) (by omega)
    rw [hu] at hv
    cases hv
    rw [hb]
    apply decide_eq_false
    intro hm
    rcases List.mem_cons.mp hm with e | e
    · omega
    · have := mates_rng h _ e
      omega
end
/-! piece LT -/
section
/-! ### lots and what can be folded -/
def LotIs (v : Nat) (left : List Int) : Prop := ∀ k : Nat, v.testBit k = decide ((k : Int) ∈ left)
/-- one of those onto which a place can be folded, by bits -/
def Good (es : List Edge) (n v p j : Nat) : Prop := ∃ u m, (nearB n es)[j]? = some u ∧ (nearB n es)[p]? = some m ∧ u &&& (m &&& v) = (m &&& v) ∧ j ≠ p ∧ v.testBit j = true
theorem and_sub {u m : Nat} : u &&& m = m ↔ ∀ k, m.testBit k = true → u.testBit k = true := by
  constructor
  · intro h k hk
    have := congrArg (fun x => x.testBit k) h
    simp only [Nat.testBit_and, hk, Bool.and_true] at this
    exact this
  · intro h
    apply Nat.eq_of_testBit_eq
    intro k
    rw [Nat.testBit_and]
    cases hm : m.testBit k with
    | false => simp
    | true => rw [h k hm]; rfl
theorem good_iff {es : List Edge} {n v p j : Nat} {left : List Int} (hS : Simp n es) (hv : LotIs v left) (hI : ∀ x ∈ left, 1 ≤ x ∧ x ≤ n) (hp : (p : Int) ∈ left) (hj : j ≤ n) :
    Good es n v p j ↔ (j : Int) ∈ ontoM es left p := by
  have hr : ∀ e ∈ es, 1 ≤ e.1 ∧ 1 ≤ e.2 ∧ e.1 ≠ e.2 := fun e he => by have := hS.rng e he; omega
  have hpr := hI _ hp
  obtain ⟨m, hm, bm⟩ := nearB_bit hr (p := p) (n := n) (by omega) (by omega)
  rw [ontoM_mem hp]
  constructor
  · rintro ⟨u, m2, hu, hm2, hs, hne, hb⟩
    rw [hm] at hm2
    cases hm2
    rw [hv] at hb
    have hjl := of_decide_eq_true hb
    have hjr := hI _ hjl
    obtain ⟨u2, hu2, bu⟩ := nearB_bit hr (p := j) (n := n) (by omega) (by omega)
    rw [hu] at hu2
    cases hu2
    refine ⟨hp, hjl, fun e => hne (by omega), fun z hz ha => ?_⟩
    have hzr := hI z hz
    have h1 := and_sub.mp hs z.toNat (by rw [Nat.testBit_and, bm, hv, show ((z.toNat : Nat) : Int) = z by omega, decide_eq_true hz, Bool.and_true]; exact decide_eq_true ha)
    rw [bu, show ((z.toNat : Nat) : Int) = z by omega] at h1
    exact of_decide_eq_true h1
  · rintro ⟨_, hjl, hne, hn⟩
    have hjr := hI _ hjl
    obtain ⟨u, hu, bu⟩ := nearB_bit hr (p := j) (n := n) (by omega) (by omega)
    refine ⟨u, m, hu, hm, and_sub.mpr fun k hk => ?_, fun e => hne (by omega), ?_⟩
    · rw [Nat.testBit_and, bm, hv, Bool.and_eq_true, decide_eq_true_eq, decide_eq_true_eq] at hk
      rw [bu]
      exact decide_eq_true (hn _ hk.2 hk.1)
    · rw [hv]
      exact decide_eq_true hjl
/-- the least place onto which a place can be folded, 0 if none -/
def ftM (es : List Edge) (left : List Int) (p : Int) : Int := if p ∈ left then minL (ontoM es left p) else 0
theorem ftM_none {es : List Edge} {left : List Int} {p : Int} (h : ∀ q, q ∉ ontoM es left p) : ftM es left p = 0 := by
  unfold ftM
  split
  · have : ontoM es left p = [] := List.eq_nil_iff_forall_not_mem.mpr h
    rw [this]; rfl
  · rfl
theorem ftM_some {es : List Edge} {left : List Int} {p q : Int} (hp : p ∈ left) (hq : q ∈ ontoM es left p) (h : ∀ x ∈ ontoM es left p, q ≤ x) : ftM es left p = q := by
  unfold ftM
  rw [if_pos hp]
  have h1 := minL_le hq
  have h2 := h _ (minL_mem fun e => by rw [e] at hq; cases hq)
  omega
theorem ftM_zero {es : List Edge} {left : List Int} {p : Int} (hI : ∀ x ∈ left, 1 ≤ x) (hp : p ∈ left) : ftM es left p = 0 ↔ ontoM es left p = [] := by
  unfold ftM
  rw [if_pos hp]
  constructor
  · intro h
    apply Classical.byContradiction
    intro hne
    have := minL_mem hne
    have h2 := ((ontoM_mem hp).mp this).2.1
    have := hI _ h2
    omega
  · intro h; rw [h]; rfl
theorem xor_pow {v p : Nat} {left : List Int} (hv : LotIs v left) (hp : (p : Int) ∈ left) : LotIs (v ^^^ 2 ^ p) (without left p) := by
  intro k
  rw [Nat.testBit_xor, hv, Nat.testBit_two_pow]
  by_cases e : p = k
  · subst e
    rw [decide_eq_true hp, decide_eq_true rfl]
    symm
    apply decide_eq_false
    intro h
    exact (without_mem.mp h).2 rfl
  · rw [decide_eq_false e, Bool.xor_false]
    apply decide_eq_decide.mpr
    rw [without_mem]
    constructor
    · exact fun h => ⟨h, fun h2 => e (by omega)⟩
    · exact fun h => h.1
theorem whole_is (n : Nat) : LotIs (2 ^ (n + 1) - 2) ((List.range n).map fun (i : Nat) => (i : Int) + 1) := by
  intro k
  have e : (2 ^ (n + 1) - 2) = (2 ^ n - 1) * 2 := by
    rw [Nat.pow_succ, Nat.sub_mul]
  have hb : ((2 ^ n - 1) * 2).testBit k = (decide (1 ≤ k) && decide (k - 1 < n)) := by
    have h2 : (2 ^ n - 1) * 2 = (2 ^ n - 1) <<< 1 := by rw [Nat.shiftLeft_eq, Nat.pow_one]
    rw [h2, Nat.testBit_shiftLeft, Nat.testBit_two_pow_sub_one]
  rw [e, hb, ← Bool.decide_and]
  apply decide_eq_decide.mpr
  constructor
  · intro h
    exact List.mem_map.mpr ⟨k - 1, List.mem_range.mpr h.2, by omega⟩
  · intro h
    obtain ⟨i, hi, he⟩ := List.mem_map.mp h
    have := List.mem_range.mp hi
    omega
theorem members_lot {v : Nat} {left : List Int} (hv : LotIs v left) (hl : left.Pairwise (· < ·)) (hI : ∀ x ∈ left, 1 ≤ x) : membersM v = left := by
  refine lt_unique (membersM_lt v) hl fun x => ?_
  rw [membersM_mem, hv, decide_eq_true_eq]
  constructor
  · rintro ⟨h1, h2⟩
    rwa [show ((x.toNat : Nat) : Int) = x by omega] at h2
  · intro h
    have := hI x h
    exact ⟨this, by rwa [show ((x.toNat : Nat) : Int) = x by omega]⟩
theorem lot_small {v n : Nat} {left : List Int} (hv : LotIs v left) (hI : ∀ x ∈ left, x ≤ n) : v < 2 ^ (n + 1) := by
  apply Nat.lt_pow_two_of_testBit
  intro k hk
  rw [hv]
  apply decide_eq_false
  intro h
  have := hI _ h
  omega
def allM (n : Nat) : List Int := (List.range n).map fun (i : Nat) => (i : Int) + 1
theorem allM_mem {n : Nat} {x : Int} : x ∈ allM n ↔ 1 ≤ x ∧ x ≤ n := by
  unfold allM
  constructor
  · intro h
    obtain ⟨i, hi, rfl⟩ := List.mem_map.mp h
    have := List.mem_range.mp hi
    omega
  · intro h
    exact List.mem_map.mpr ⟨(x - 1).toNat, List.mem_range.mpr (by omega), by omega⟩
theorem allM_lt (n : Nat) : (allM n).Pairwise (· < ·) := by
  unfold allM
  rw [List.pairwise_map]
  exact List.pairwise_lt_range.imp fun h => by omega
end
/-! piece PSF -/
section
structure PsF (H0 H : Hp) (D : Addr) (rs : List Addr) (es : List Edge) : Prop where
  ps : PsAt H D rs es
  nd : rs.Nodup
  fr : ∀ r ∈ rs, H0 r = none
theorem PsF.push {H0 H : Hp} {D r : Addr} {rs : List Addr} {es : List Edge} (h : PsF H0 H D rs es) (nr : H r = none) (n0 : H0 r = none) (e : Edge) :
    PsF H0 (upd (upd H r (.lst [.int e.1, .int e.2])) D (.lst (rs.map V.ref ++ [V.ref r]))) D (rs ++ [r]) (es ++ [e]) := by
  refine ⟨h.ps.push nr e, ?_, ?_⟩
  · rw [List.nodup_append]
    refine ⟨h.nd, by simp, ?_⟩
    intro a ha b hb
    simp at hb
    subst hb
    rintro rfl
    obtain ⟨e, _, he⟩ := h.ps.mem ha
    rw [nr] at he
    cases he
  · intro a ha
    rcases List.mem_append.mp ha with ha | ha
    · exact h.fr a ha
    · simp at ha
      subst ha
      exact n0
/-- one such list behind another one, in its place -/
theorem PsF.ext {H0 H H2 : Hp} {L D : Addr} {rs rs2 : List Addr} {es es2 : List Edge} (h : PsF H0 H L rs es) (s : Same H H2) (h2 : PsF H H2 D rs2 es2) (h0 : Same H0 H) (nL : H0 L = none) :
    PsF H0 (upd H2 L (.lst (rs.map V.ref ++ rs2.map V.ref))) L (rs ++ rs2) (es ++ es2) := by
  have k1 : ∀ r ∈ rs2, r ≠ L := fun r hr e => by
    have := h2.fr r hr
    rw [e, h.ps.hD] at this
    cases this
  have k2 : ∀ r ∈ rs, r ≠ L := fun r hr => h.ps.ne hr
  refine ⟨⟨by rw [upd_same, List.map_append], by rw [List.length_append, List.length_append, h.ps.len, h2.ps.len], ?_⟩, ?_, ?_⟩
  · intro i a u ha hu
    by_cases hi : i < rs.length
    · rw [List.getElem?_append_left hi] at ha
      rw [List.getElem?_append_left (by rw [← h.ps.len]; exact hi)] at hu
      rw [upd_ne (k2 a (List.mem_of_getElem? ha))]
      exact s _ _ (h.ps.at_ i a u ha hu)
    · rw [List.getElem?_append_right (by omega)] at ha
      rw [List.getElem?_append_right (by rw [← h.ps.len]; omega), ← h.ps.len] at hu
      rw [upd_ne (k1 a (List.mem_of_getElem? ha))]
      exact h2.ps.at_ _ a u ha hu
  · rw [List.nodup_append]
    refine ⟨h.nd, h2.nd, ?_⟩
    intro a ha b hb e
    subst e
    obtain ⟨e, _, he⟩ := h.ps.mem ha
    rw [h2.fr a hb] at he
    cases he
  · intro a ha
    rcases List.mem_append.mp ha with ha | ha
    · exact h.fr a ha
    · exact h0.free (h2.fr a ha)
end
/-! piece IN -/
section
variable {P : Program} {w : World} {K : PySem.W.Frag} {mg : Str → Option Value} {base : Heap}
/-! ### the law's onto, foldable -/
def iL (xs : List Int) : HO := .lst (xs.map V.int)
structure InNet (n : Nat) (left : List Int) : Prop where
  lt : left.Pairwise (· < ·)
  rng : ∀ x ∈ left, 1 ≤ x ∧ x ≤ n
theorem dp_dI' {K : PySem.W.Frag} {H : Hp} {p : Addr} {xs : List Int} (h : SqL K H p (xs.map V.int)) : Dp K H (.ref p) (.list (xs.map PyData.int)) := .lst h (dp_ints xs)
theorem shaped_ints (xs : List Int) : SeqAt.shaped (.list (xs.map PyData.int)) = true := by
  have h : ∀ ys : List Int, PyData.canLayAll0 (ys.map PyData.int) = true ∧ PyData.depthAll (ys.map PyData.int) ≤ 0 := fun ys => by
    induction ys with
    | nil => exact ⟨rfl, Nat.le_refl _⟩
    | cons y r ih =>
      rw [List.map_cons]
      refine ⟨?_, ?_⟩
      · unfold PyData.canLayAll0; rw [ih.1]; rfl
      · unfold PyData.depthAll; exact Nat.max_le.mpr ⟨Nat.le_refl _, ih.2⟩
  unfold SeqAt.shaped PyData.canLay0 PyData.depth
  rw [(h xs).1, decide_eq_true (by have := (h xs).2; omega)]
  rfl
variable {P : Program} {w : World} {K : PySem.W.Frag} {mg : Str → Option Value} {base : Heap}
theorem Lists.same {H H' : Hp} {p : Addr} {ts : List (List Int)} (h : Lists H p ts) (s : Same H H') : Lists H' p ts := by
  obtain ⟨rs, a, b, c, e⟩ := h
  exact ⟨rs, s _ _ a, b, c, fun i r t x y => s _ _ (e i r t x y)⟩
theorem Lists.but {H H' : Hp} {d p : Addr} {k : Int} {ts : List (List Int)} (h : Lists H p ts) (s : SameBut d H H') (hd : Dr H d k) : Lists H' p ts := by
  obtain ⟨rs, a, b, c, e⟩ := h
  exact ⟨rs, s _ _ (hd.ne_refs a) a, b, c, fun i r t x y => s _ _ (hd.ne_ints (e i r t x y)) (e i r t x y)⟩
theorem PsF.but {H0 H H' : Hp} {d D : Addr} {k : Int} {rs : List Addr} {es : List Edge} (h : PsF H0 H D rs es) (s : SameBut d H H') (hd : Dr H d k) : PsF H0 H' D rs es := ⟨h.ps.but s hd, h.nd, h.fr⟩
theorem PsF.same {H0 H H' : Hp} {D : Addr} {rs : List Addr} {es : List Edge} (h : PsF H0 H D rs es) (s : Same H H') : PsF H0 H' D rs es := ⟨h.ps.same s, h.nd, h.fr⟩
theorem Dr.trk {H : Hp} {d p : Addr} {k : Int} (h : Dr H d k) (np : H p = Option.none) : p ≠ d := by
  obtain ⟨a, b, e, _⟩ := h
  exact (ne_of_none e np).symm
theorem SameBut.fr0 {d : Addr} {H H' : Hp} (s : SameBut d H H') {p : Addr} (np : H' p = Option.none) (hd : p ≠ d) : H p = Option.none := by
  cases e : H p with
  | none => rfl
  | some o => rw [s p o hd e] at np; cases np
theorem InNet.len {n : Nat} {left : List Int} (h : InNet n left) : left.length ≤ n := nodup_le n left (h.lt.imp fun h => by omega) h.rng
theorem InNet.without {n : Nat} {left : List Int} (h : InNet n left) (p : Int) : InNet n (without left p) := ⟨without_lt h.lt, fun x hx => h.rng x (without_mem.mp hx).1⟩
theorem InNet.run {n : Nat} {es : List Edge} {left left' : List Int} {l : List Edge} (h : InNet n left) (r : RunL es left l left') : InNet n left' := ⟨r.lt h.lt, fun x hx => h.rng x (r.sub x hx)⟩
theorem inNet_all (n : Nat) : InNet n (allM n) := ⟨allM_lt n, fun x hx => allM_mem.mp hx⟩
theorem onto_sub {es : List Edge} {left : List Int} {p : Int} : ∀ x ∈ ontoM es left p, x ∈ left := fun x hx => by
  unfold ontoM at hx
  exact of_decide_eq_true (List.mem_filter.mp (List.mem_filter.mp hx).1).2
theorem RunL.rng {n : Nat} {es : List Edge} {left left' : List Int} {l : List Edge} (r : RunL es left l left') (h : InNet n left) : ∀ e ∈ l, 1 ≤ e.1 ∧ e.1 ≤ n ∧ 1 ≤ e.2 ∧ e.2 ≤ n := by
  induction r with
  | nil left => exact fun e h => nomatch h
  | @cons left left' p q l hp hq r ih =>
    intro e he
    rcases List.mem_cons.mp he with rfl | he
    · have h1 := h.rng p hp
      have h2 := h.rng q (onto_sub q hq)
      exact ⟨h1.1, h1.2, h2.1, h2.2⟩
    · exact ih (h.without p) e he
end
/-! piece LO -/
section
/-! ### orders: what is left behind -/
def leftA (left : List Int) (o : List Int) : List Int := o.foldl without left
theorem RunL.left {es : List Edge} {left left' : List Int} {l : List Edge} (r : RunL es left l left') : left' = leftA left (l.map (·.1)) := by
  induction r with
  | nil left => rfl
  | cons hp hq r ih => exact ih
theorem leftA_snoc (left o : List Int) (p : Int) : leftA left (o ++ [p]) = without (leftA left o) p := by
  unfold leftA
  rw [List.foldl_append]
  rfl
theorem leastM_snoc (es : List Edge) (p : Int) : ∀ (o left : List Int), leastM es left (o ++ [p]) = leastM es left o ++ [(p, minL (ontoM es (leftA left o) p))]
  | [], left => rfl
  | a :: o, left => by
    show (a, minL (ontoM es left a)) :: leastM es (without left a) (o ++ [p]) = _
    rw [leastM_snoc es p o]
    rfl
theorem RunL.step {es : List Edge} {left left' : List Int} {l : List Edge} (r : RunL es left l left') : ∀ (i : Nat) (e : Edge), l[i]? = some e →
    RunL es left (l.take i) (leftA left ((l.take i).map (·.1))) ∧ e.1 ∈ leftA left ((l.take i).map (·.1)) ∧ e.2 ∈ ontoM es (leftA left ((l.take i).map (·.1))) e.1 := by
  induction r with
  | nil left => exact fun i e h => by simp at h
  | @cons left left' p q l hp hq r ih =>
    intro i e h
    cases i with
    | zero =>
      simp at h
      subst h
      exact ⟨.nil _, hp, hq⟩
    | succ i =>
      obtain ⟨h1, h2, h3⟩ := ih i e (by simpa using h)
      exact ⟨.cons hp hq h1, h2, h3⟩
theorem leastM_length (es : List Edge) (o left : List Int) : (leastM es left o).length = o.length := by
  have h := congrArg List.length (leastM_fst es o left)
  rwa [List.length_map] at h
end
/-! piece FH -/
section
/-! ### folds that keep some places, and walks whose shadow stays -/
section
variable {adj : Int → Int → Prop}
def StiffH (adj : Int → Int → Prop) (S H : Int → Prop) : Prop := ∀ p q, ¬ H p → ¬ StepOk adj S p q
theorem stiffH_of {S H : Int → Prop} (h : Stiff adj S) : StiffH adj S H := fun p q _ => h p q
/-- like led_back, where some places are never folded -/
theorem led_back_held (rf : ∀ x, adj x x) (sy : ∀ x y, adj x y → adj y x) {S E : Int → Prop} {l : List Edge} (r : Run adj S l E) {Hd : Int → Prop} (st : StiffH adj E Hd) (hE : ∀ x, Hd x → E x)
    {T T' : Int → Prop} {m : List Edge} (rm : Run adj T m T') (hT : ∀ x, Hd x → T' x) : (∀ x, T x → S x) → ∀ {s : Int → Int}, (∀ x, E x → T (s x)) → (∀ x y, E x → E y → adj x y → adj (s x) (s y)) → (∀ x, E x → mapR l (s x) = x) → (∀ x, Hd x → s x = x) →
      ∀ x, E x → mapR l (mapR m (s x)) = x := by
  induction rm with
  | nil T => exact fun _ s _ _ h _ => h
  | @cons T T' p q m h rm ih =>
    intro hTS s hin hom hb hfx x hx
    obtain ⟨hp, hq, hne, hn⟩ := h
    have hpH : ¬ Hd p := fun hh => (run_sub rm (hT p hh)).1.2 rfl
    show mapR l (mapR m (if s x = p then q else s x)) = x
    refine ih hT (s := fun x => if s x = p then q else s x) (fun x hx => hTS x hx.1) ?_ ?_ ?_ ?_ x hx
    · intro x hx
      by_cases e : s x = p
      · simp only [e, if_true]; exact ⟨hq, hne.symm⟩
      · simp only [e, if_false]; exact ⟨hin x hx, e⟩
    · intro x y hx hy ha
      have ha := hom x y hx hy ha
      by_cases e1 : s x = p
      · by_cases e2 : s y = p
        · simp only [e1, e2, if_true]; exact rf q
        · simp only [e1, e2, if_true, if_false]
          rw [e1] at ha
          exact hn _ (hin y hy) ha
      · by_cases e2 : s y = p
        · simp only [e1, e2, if_true, if_false]
          rw [e2] at ha
          exact sy _ _ (hn _ (hin x hx) (sy _ _ ha))
        · simp only [e1, e2, if_false]; exact ha
    · intro x hx
      by_cases e : s x = p
      · simp only [e, if_true]
        apply Classical.byContradiction
        intro hxy
        have hxH : ¬ Hd x := fun hh => by
          rw [hfx x hh] at e
          exact hpH (e ▸ hh)
        refine st x (mapR l q) hxH ⟨hx, mapR_in r (hTS q hq), fun e => hxy e.symm, ?_⟩
        intro z hz hxz
        have h1 := hom x z hx hz hxz
        rw [e] at h1
        have h2 := hn _ (hin z hz) h1
        have h3 := mapR_hom sy r (hTS q hq) (hTS _ (hin z hz)) h2
        rw [hb z hz] at h3
        exact h3
      · simp only [e, if_false]
        exact hb x hx
    · intro x hh
      have hxp : x ≠ p := fun e => hpH (e ▸ hh)
      simp only [hfx x hh, hxp, if_false]
/-- if some order leaves just a lot, all that is left where the lot is kept is the lot -/
theorem held_is (rf : ∀ x, adj x x) (sy : ∀ x y, adj x y → adj y x) {S E Hd : Int → Prop} {l m : List Edge} (r : Run adj S l E) (st : StiffH adj E Hd) (hE : ∀ x, Hd x → E x) (rm : Run adj S m Hd) {x : Int} (hx : E x) : Hd x := by
  have h := led_back_held rf sy r st hE rm (fun _ h => h) (fun _ h => h) (s := fun x => x) (fun x hx => (run_sub r hx).1) (fun _ _ _ _ h => h) (fun x hx => mapR_fix r hx) (fun _ _ => rfl) x hx
  have h2 := mapR_in rm (run_sub r hx).1
  rw [mapR_fix r (hE _ h2)] at h
  exact h ▸ h2
/-- who steps so that those beside it in the end stay beside it is led back as before -/
theorem shadow_step (sy : ∀ x y, adj x y → adj y x) {S E : Int → Prop} {l : List Edge} (r : Run adj S l E) (st : Stiff adj E) {s : Int → Int} (hin : ∀ x, E x → S (s x)) (hb : ∀ x, E x → mapR l (s x) = x)
    {i t : Int} (hi : E i) (ht : S t) (h : ∀ z, E z → adj i z → adj t (s z)) : mapR l t = i := by
  apply Classical.byContradiction
  intro hne
  refine st i (mapR l t) ⟨hi, mapR_in r ht, fun e => hne e.symm, fun z hz ha => ?_⟩
  have h1 := mapR_hom sy r ht (hin z hz) (h z hz ha)
  rwa [hb z hz] at h1
end
end
/-! piece BX -/
section
theorem bXor (a b : Nat) : Builtin.bitXor (a : Int) (b : Int) = ((a ^^^ b : Nat) : Int) := by
  have h1 := PyProof.Rows.nat_or_add_and (a ^^^ b) (a &&& b)
  have h2 : (a ^^^ b) ||| (a &&& b) = a ||| b := by
    apply Nat.eq_of_testBit_eq
    intro k
    simp only [Nat.testBit_or, Nat.testBit_xor, Nat.testBit_and]
    cases a.testBit k <;> cases b.testBit k <;> rfl
  have h3 : (a ^^^ b) &&& (a &&& b) = 0 := by
    apply Nat.eq_of_testBit_eq
    intro k
    simp only [Nat.testBit_xor, Nat.testBit_and, Nat.zero_testBit]
    cases a.testBit k <;> cases b.testBit k <;> rfl
  rw [h2, h3] at h1
  show Builtin.bitOr (a : Int) (b : Int) - Builtin.bitAnd (a : Int) (b : Int) = _
  rw [bOr, bAnd]
  omega
end
/-! piece AM -/
section
/-! ### what fold_around does, as a function -/
def stepA (es : List Edge) (s : List Int × List Edge) (x : Int) : List Int × List Edge :=
  if ontoM es s.1 x = [] then s else (without s.1 x, s.2 ++ [(x, minL (ontoM es s.1 x))])
def passA (es : List Edge) (hs : List Int) (s : List Int × List Edge) : List Int × List Edge := (s.1.filter fun x => decide (x ∉ hs)).foldl (stepA es) s
def iterA (n : Nat) (es : List Edge) (hs : List Int) : Nat → List Int × List Edge
  | 0 => (allM n, [])
  | k + 1 => passA es hs (iterA n es hs k)
def aroundA (n : Nat) (es : List Edge) (hs : List Int) : List Int × List Edge := iterA n es hs 20
theorem iterA_stays {n : Nat} {es : List Edge} {hs : List Int} {k : Nat} (h : passA es hs (iterA n es hs k) = iterA n es hs k) : ∀ j, iterA n es hs (k + j) = iterA n es hs k
  | 0 => rfl
  | j + 1 => by
    show passA es hs (iterA n es hs (k + j)) = _
    rw [iterA_stays h j, h]
theorem aroundA_is {n : Nat} {es : List Edge} {hs : List Int} {k : Nat} (hk : k ≤ 20) (h : passA es hs (iterA n es hs k) = iterA n es hs k) : aroundA n es hs = iterA n es hs k := by
  have := iterA_stays h (20 - k)
  rwa [show k + (20 - k) = 20 by omega] at this
theorem all_len {n : Nat} : (allM n).length = n := by simp [allM]
theorem RunL.len12 {n : Nat} {es ps : List Edge} {left : List Int} (r : RunL es (allM n) ps left) : left.length + ps.length = n := by
  have := (r.length ((allM_lt n).imp fun h => by omega)).1
  rwa [all_len] at this
end
/-! piece RM -/
section
/-! ### rounds: who is beside less than another one goes -/
def goesB (es : List Edge) (S : List Int) (p : Int) : Bool := S.any fun q => decide ((∃ z ∈ S, Adj es q z ∧ ¬ Adj es p z) ∧ ∀ z ∈ S, Adj es p z → Adj es q z)
def restM (es : List Edge) (S : List Int) : List Int := S.filter fun p => !goesB es S p
def roundM (es : List Edge) (S : List Int) : Nat → List Int
  | 0 => S
  | k + 1 => restM es (roundM es S k)
def midM (n : Nat) (es : List Edge) : List Int := roundM es (allM n) 13
theorem goesB_iff {es : List Edge} {S : List Int} {p : Int} : goesB es S p = true ↔ ∃ q ∈ S, (∃ z ∈ S, Adj es q z ∧ ¬ Adj es p z) ∧ ∀ z ∈ S, Adj es p z → Adj es q z := by
  unfold goesB
  rw [List.any_eq_true]
  constructor
  · rintro ⟨q, hq, h⟩
    exact ⟨q, hq, of_decide_eq_true h⟩
  · rintro ⟨q, hq, h⟩
    exact ⟨q, hq, decide_eq_true h⟩
theorem restM_mem {es : List Edge} {S : List Int} {p : Int} : p ∈ restM es S ↔ p ∈ S ∧ ¬ ∃ q ∈ S, (∃ z ∈ S, Adj es q z ∧ ¬ Adj es p z) ∧ ∀ z ∈ S, Adj es p z → Adj es q z := by
  unfold restM
  rw [List.mem_filter, ← goesB_iff]
  cases goesB es S p <;> simp
theorem restM_lt {es : List Edge} {S : List Int} (h : S.Pairwise (· < ·)) : (restM es S).Pairwise (· < ·) := List.Pairwise.filter _ h
theorem InNet.rest {n : Nat} {es : List Edge} {S : List Int} (h : InNet n S) : InNet n (restM es S) := ⟨restM_lt h.lt, fun x hx => h.rng x (restM_mem.mp hx).1⟩
theorem InNet.round {n : Nat} {es : List Edge} {S : List Int} (h : InNet n S) : ∀ k, InNet n (roundM es S k)
  | 0 => h
  | k + 1 => (h.round k).rest
/-- whoever is beside most stays -/
theorem restM_pos {es : List Edge} {S : List Int} (h : S ≠ []) : restM es S ≠ [] := by
  -- the one with the most beside it, by number
  have key : ∀ k, ∀ p ∈ S, S.length - (S.filter fun z => decide (Adj es p z)).length ≤ k → ∃ r ∈ S, ¬ ∃ q ∈ S, (∃ z ∈ S, Adj es q z ∧ ¬ Adj es r z) ∧ ∀ z ∈ S, Adj es r z → Adj es q z := by
    intro k
    induction k with
    | zero =>
      intro p hp hk
      refine ⟨p, hp, fun ⟨q, hq, ⟨z, hz, h1, h2⟩, _⟩ => ?_⟩
      have hl := List.length_filter_le (fun z => decide (Adj es p z)) S
      have he : (S.filter fun z => decide (Adj es p z)).length = S.length := by omega
      rw [List.length_filter_eq_length_iff] at he
      exact h2 (of_decide_eq_true (he z hz))
    | succ k ih =>
      intro p hp hk
      by_cases hg : ∃ q ∈ S, (∃ z ∈ S, Adj es q z ∧ ¬ Adj es p z) ∧ ∀ z ∈ S, Adj es p z → Adj es q z
      · obtain ⟨q, hq, ⟨z, hz, h1, h2⟩, h3⟩ := hg
        refine ih q hq ?_
        have hlt : (S.filter fun z => decide (Adj es p z)).length < (S.filter fun z => decide (Adj es q z)).length := by
          have hsub : ((S.filter fun z => decide (Adj es q z)).filter fun z => decide (Adj es p z)) = S.filter fun z => decide (Adj es p z) := by
            rw [List.filter_filter]
            refine List.filter_congr fun y hy => ?_
            by_cases hy2 : Adj es p y
            · simp [hy2, h3 y hy hy2]
            · simp [hy2]
          rw [← hsub]
          have hle := List.length_filter_le (fun z => decide (Adj es p z)) (S.filter fun z => decide (Adj es q z))
          rcases Nat.lt_or_eq_of_le hle with h | h
          · exact h
          · rw [List.length_filter_eq_length_iff] at h
            exact absurd (of_decide_eq_true (h z (List.mem_filter.mpr ⟨hz, decide_eq_true h1⟩))) h2
        have hlq := List.length_filter_le (fun z => decide (Adj es q z)) S
        omega
      · exact ⟨p, hp, hg⟩
  obtain ⟨a, S', rfl⟩ := List.exists_cons_of_ne_nil h
  obtain ⟨r, hr, hn⟩ := key _ a (List.mem_cons_self ..) (Nat.le_refl _)
  intro e
  have := restM_mem.mpr ⟨hr, hn⟩
  rw [e] at this
  cases this
theorem round_pos {es : List Edge} {S : List Int} (h : S ≠ []) : ∀ k, roundM es S k ≠ []
  | 0 => h
  | k + 1 => restM_pos (round_pos h k)
theorem round_stay {es : List Edge} {S : List Int} {k : Nat} (h : restM es (roundM es S k) = roundM es S k) : ∀ j, roundM es S (k + j) = roundM es S k
  | 0 => rfl
  | j + 1 => by
    show restM es (roundM es S (k + j)) = _
    rw [round_stay h j, h]
/-- the bits of what is beside a place within a lot -/
def besU (n : Nat) (es : List Edge) (lot : Nat) (p : Int) : Nat := (nearB n es).getD p.toNat 0 &&& lot
theorem besU_bit {n lot : Nat} {es : List Edge} {S : List Int} (hS : Simp n es) (hv : LotIs lot S) (hI : InNet n S) {p : Int} (hp : p ∈ S) (k : Nat) : (besU n es lot p).testBit k = decide (Adj es p (k : Int) ∧ (k : Int) ∈ S) := by
  have hr := hI.rng p hp
  obtain ⟨u, hu, hb⟩ := nearB_bit (n := n) (es := es) (fun e he => by have := hS.rng e he; omega) (p := p.toNat) (by omega) (by omega)
  unfold besU
  rw [List.getD_eq_getElem?_getD, hu, Nat.testBit_and]
  show (u.testBit k && lot.testBit k) = _
  rw [hb, hv, ← Bool.decide_and]
  apply decide_eq_decide.mpr
  rw [show ((p.toNat : Nat) : Int) = p by omega]
  exact Iff.rfl
theorem besU_less {n lot : Nat} {es : List Edge} {S : List Int} (hS : Simp n es) (hv : LotIs lot S) (hI : InNet n S) {p q : Int} (hp : p ∈ S) (hq : q ∈ S) :
    (besU n es lot p ≠ besU n es lot q ∧ besU n es lot p &&& besU n es lot q = besU n es lot p) ↔ (∃ z ∈ S, Adj es q z ∧ ¬ Adj es p z) ∧ ∀ z ∈ S, Adj es p z → Adj es q z := by
  have bp := besU_bit hS hv hI hp
  have bq := besU_bit hS hv hI hq
  have sub : (besU n es lot p &&& besU n es lot q = besU n es lot p) ↔ ∀ z ∈ S, Adj es p z → Adj es q z := by
    constructor
    · intro h z hz ha
      have hr := hI.rng z hz
      have := congrArg (fun v => v.testBit z.toNat) h
      simp only [Nat.testBit_and, bp, bq, show ((z.toNat : Nat) : Int) = z by omega] at this
      rw [decide_eq_true (show Adj es p z ∧ z ∈ S from ⟨ha, hz⟩), Bool.true_and] at this
      exact (of_decide_eq_true this).1
    · intro h
      refine Nat.eq_of_testBit_eq fun k => ?_
      rw [Nat.testBit_and, bp, bq]
      by_cases hk : Adj es p (k : Int) ∧ (k : Int) ∈ S
      · rw [decide_eq_true hk, decide_eq_true (show Adj es q (k : Int) ∧ (k : Int) ∈ S from ⟨h _ hk.2 hk.1, hk.2⟩)]
        rfl
      · rw [decide_eq_false hk, Bool.false_and]
  rw [sub]
  refine ⟨fun ⟨h1, h2⟩ => ⟨?_, h2⟩, fun ⟨⟨z, hz, z1, z2⟩, h2⟩ => ⟨fun e => ?_, h2⟩⟩
  · apply Classical.byContradiction
    intro hno
    refine h1 (Nat.eq_of_testBit_eq fun k => ?_)
    rw [bp, bq]
    apply decide_eq_decide.mpr
    constructor
    · exact fun hk => ⟨h2 _ hk.2 hk.1, hk.2⟩
    · intro hk
      refine ⟨?_, hk.2⟩
      apply Classical.byContradiction
      exact fun ha => hno ⟨_, hk.2, hk.1, ha⟩
  · have hr := hI.rng z hz
    have := congrArg (fun v => v.testBit z.toNat) e
    simp only [bp, bq, show ((z.toNat : Nat) : Int) = z by omega] at this
    rw [decide_eq_true (show Adj es q z ∧ z ∈ S from ⟨z1, hz⟩), decide_eq_false (fun h => z2 h.1)] at this
    cases this
end
/-! piece LT2 -/
section
/-- a comprehension of new pairs, tuples -/
theorem lc_tup {K : PySem.W.Frag} {a : Addr} {xs : List Int} {i : Nat} {te : TE} {vs : List Nat} {σ : Sl} {H1 : Hp} {D : Addr} {Qd : Hp → Prop} (f : Int → Edge)
    (hl : SqL K H1 a (xs.map V.int)) (nD : H1 D = none) (hn : xs.length ≤ 10000) (hw : ∀ v, wipe ((wipe σ vs).set i (some v)) vs = wipe σ vs)
    (he : ∀ x ∈ xs, ∀ H2, Same H1 H2 → ∀ R : V → Hp → Prop, (∀ H3 r, Same H2 H3 → H3 r = none → R (.ref r) (upd H3 r (.tup [.int (f x).1, .int (f x).2]))) → te ((wipe σ vs).set i (some (.int x))) H2 R)
    (hd : ∀ H2 rs, Same H1 H2 → TsAt H2 D rs (xs.map f) → Qd H2) :
    ∃ W : Nat → Nat → Hp → Prop, (∃ m, W 0 m (upd H1 D (.lst []))) ∧ ∀ i' m H, W i' m H →
      ((Itl K a).stop i' H ∧ Qd H) ∨ ((Itl K a).go i' H ∧ ∃ Nx : Hp → Prop, (∀ H', Nx H' → ∃ m', m' < m ∧ W (i' + 1) m' H') ∧ ∀ x H', (Itl K a).yld i' H x H' → gName i x (wipe σ vs) H' fun σ2 H2 => wipe σ2 vs = wipe σ vs ∧ tYes σ2 H2 fun b H3 =>
        if b = true then te σ2 H3 fun y H4 => ∃ acc, H4 D = some (.lst acc) ∧ acc.length < sizeLine ∧ Nx (upd H4 D (.lst (acc ++ [y]))) else Nx H3) := by
  refine lc_list (K := K) (xs := xs.map V.int) (fun j H2 => Same H1 H2 ∧ ∃ rs, TsAt H2 D rs ((xs.take j).map f)) ⟨same_upd (Same.refl _) nD, [], TsAt.nil upd_same⟩ ?_ ?_ ?_
  · rintro j H2 _ ⟨sm, _⟩
    exact sm.seq hl
  · rintro j x H2 hx ⟨sm, rs, hP⟩
    rw [List.getElem?_map] at hx
    cases hv : xs[j]? with
    | none => rw [hv] at hx; cases hx
    | some y =>
      rw [hv] at hx
      cases hx
      have hm := List.mem_of_getElem? hv
      have htk : xs.take (j + 1) = xs.take j ++ [y] := by rw [List.take_add_one, hv]; rfl
      refine ⟨hw _, ?_⟩
      refine he y hm H2 sm _ fun H3 r sm3 nr => ?_
      have hP3 : TsAt H3 D rs ((xs.take j).map f) := hP.same sm3
      have s3 := sm.trans sm3
      refine ⟨_, (upd_ne (ne_of_none hP3.hD nr)).trans hP3.hD, ?_, same_upd (same_upd s3 (s3.free nr)) nD, rs ++ [r], ?_⟩
      · rw [List.length_map, hP3.len, List.length_map]
        exact Nat.lt_of_le_of_lt (Nat.le_trans (by rw [List.length_take]; exact Nat.min_le_right _ _) hn) (by decide)
      · rw [htk, List.map_append]
        exact hP3.push nr (f y)
  · rintro H2 ⟨sm, rs, hP⟩
    rw [List.length_map, List.take_length] at hP
    exact hd H2 rs sm hP
/-- a comprehension that tells one value each -/
theorem lc_vals {K : PySem.W.Frag} {a : Addr} {α : Type} {inj : α → V} {xs : List α} {i : Nat} {te : TE} {vs : List Nat} {σ : Sl} {H1 : Hp} {D : Addr} {Qd : Hp → Prop} (e : α → V)
    (hl : SqL K H1 a (xs.map inj)) (nD : H1 D = none) (hn : xs.length ≤ 10000) (hw : ∀ v, wipe ((wipe σ vs).set i (some v)) vs = wipe σ vs)
    (he : ∀ x ∈ xs, ∀ H2, Same H1 H2 → ∀ R : V → Hp → Prop, (∀ H3, Same H2 H3 → R (e x) H3) → te ((wipe σ vs).set i (some (inj x))) H2 R)
    (hd : ∀ H2, Same H1 H2 → H2 D = some (.lst (xs.map e)) → Qd H2) :
    ∃ W : Nat → Nat → Hp → Prop, (∃ m, W 0 m (upd H1 D (.lst []))) ∧ ∀ i' m H, W i' m H →
      ((Itl K a).stop i' H ∧ Qd H) ∨ ((Itl K a).go i' H ∧ ∃ Nx : Hp → Prop, (∀ H', Nx H' → ∃ m', m' < m ∧ W (i' + 1) m' H') ∧ ∀ x H', (Itl K a).yld i' H x H' → gName i x (wipe σ vs) H' fun σ2 H2 => wipe σ2 vs = wipe σ vs ∧ tYes σ2 H2 fun b H3 =>
        if b = true then te σ2 H3 fun y H4 => ∃ acc, H4 D = some (.lst acc) ∧ acc.length < sizeLine ∧ Nx (upd H4 D (.lst (acc ++ [y]))) else Nx H3) :=
  lc_gen (tt := tYes) (fun _ => true) e hl nD hn hw (fun _ _ H2 _ R hR => hR H2 (Same.refl _)) (fun x hx _ => he x hx) (fun H2 sm h => hd H2 sm (by rw [List.filter_eq_self.mpr (fun _ _ => rfl)] at h; exact h))
theorem eqv_ints (xs : List Int) : PyData.eqv (.list (xs.map .int)) (.list (xs.map .int)) = true := by
  have h : ∀ ys : List Int, PyData.eqvAll (ys.map .int) (ys.map .int) = true := fun ys => by
    induction ys with
    | nil => simp [PyData.eqvAll]
    | cons y r ih => rw [List.map_cons, PyData.eqvAll, ih]; simp [PyData.eqv]
  rw [PyData.eqv, h xs]
end
/-! piece SL -/
section
/-! ### sorted of pairs that are lists -/
def leE (p q : Edge) : Prop := p.1 < q.1 ∨ (p.1 = q.1 ∧ p.2 ≤ q.2)
theorem leE_iff (p q : Edge) : [p.1, p.2] ≤ [q.1, q.2] ↔ leE p q := by
  unfold leE
  rw [List.cons_le_cons_iff, List.cons_le_cons_iff]
  constructor
  · rintro (h | ⟨h1, h2 | ⟨h2, _⟩⟩)
    · exact .inl h
    · exact .inr ⟨h1, by omega⟩
    · exact .inr ⟨h1, by omega⟩
  · rintro (h | ⟨h1, h2⟩)
    · exact .inl h
    · by_cases e : p.2 = q.2
      · exact .inr ⟨h1, .inr ⟨e, List.le_refl _⟩⟩
      · exact .inr ⟨h1, .inl (by omega)⟩
def rSortedL (K : PySem.W.Frag) : List V → Hp → VK → Prop := fun vs H Q => ∃ (a : Addr) (rs : List Addr) (ps : List Edge), vs = [V.ref a] ∧ PsAt H a rs ps ∧ rs.length ≤ 1000 ∧
  ∀ (p : Addr) (rs' : List Addr) (ps' : List Edge), H p = none → ps'.Perm ps → ps'.Pairwise leE → PsAt (upd H p (.lst (rs'.map V.ref))) p rs' ps' → Q (.ref p) (upd H p (.lst (rs'.map V.ref)))
theorem each_of {α β : Type} {R : α → β → Prop} : ∀ {as : List α} {bs : List β}, as.length = bs.length → (∀ (i : Nat) (a : α) (b : β), as[i]? = some a → bs[i]? = some b → R a b) → PySem.W.EachIs R as bs
  | [], [], _, _ => .nil
  | [], _ :: _, h, _ => by simp at h
  | _ :: _, [], h, _ => by simp at h
  | a :: as, b :: bs, h, f => .cons (f 0 a b rfl rfl) (each_of (by simpa using h) fun i x y hx hy => f (i + 1) x y (by simpa using hx) (by simpa using hy))
theorem vals_refs : ∀ {rs : List Addr} {us : List Value}, Vals (rs.map V.ref) us → us = rs.map Value.ref
  | [], us, r => by rw [List.map_nil] at r; cases r; rfl
  | t :: ts, us, r => by
    rw [List.map_cons] at r
    cases r with
    | cons h q => cases h; rw [List.map_cons, ← vals_refs q]
theorem refs_vals : ∀ rs : List Addr, Vals (rs.map V.ref) (rs.map Value.ref)
  | [] => .nil
  | _ :: ts => .cons rfl (refs_vals ts)
theorem each_refs : ∀ {out : List Value} {bs : List (Addr × Edge)}, PySem.W.EachIs (fun (v : Value) (b : Addr × Edge) => v = .ref b.1) out bs → out = (bs.map (·.1)).map Value.ref
  | _, _, .nil => rfl
  | _, _, .cons h t => by rw [h, each_refs t]; rfl
section
variable {X : Cx}
theorem cr_sortedL (hu : X.A.units + 64 < cLine) : CallR X (.builtin "sorted") (rSortedL X.K) := by
  intro pins s σ H vs us Q I r h
  obtain ⟨a, rs, ps, rfl, hP, hlen, q⟩ := h
  obtain ⟨its, rv, hl, hz⟩ := I.list (SqL.of hP.hD)
  rw [Vals.ref1 r]
  have ei := vals_refs rv
  let bs : List (Addr × Edge) := rs.zip ps
  have hbl : bs.length = rs.length := by simp [bs, hP.len]
  let enc : Addr × Edge → PyData := fun b => .list ([b.2.1, b.2.2].map .int)
  have hb1 : bs.map (·.1) = rs := by simp [bs, List.map_fst_zip, hP.len]
  have hb2 : bs.map (·.2) = ps := by simp [bs, List.map_snd_zip, hP.len]
  have hget : ∀ b ∈ bs, H b.1 = some (.lst [.int b.2.1, .int b.2.2]) := fun b hb => by
    obtain ⟨i, hi⟩ := List.getElem?_of_mem hb
    have h1 : rs[i]? = some b.1 := by rw [← hb1, List.getElem?_map, hi]; rfl
    have h2 : ps[i]? = some b.2 := by rw [← hb2, List.getElem?_map, hi]; rfl
    exact hP.at_ i b.1 b.2 h1 h2
  have e : PySem.W.EachIs (fun (v : Value) (b : Addr × Edge) => v = .ref b.1) its bs := each_of (by rw [hbl, ei, List.length_map]) fun i v b hv hb => by
    rw [ei, List.getElem?_map] at hv
    have h1 : rs[i]? = some b.1 := by rw [← hb1, List.getElem?_map, hb]; rfl
    rw [h1] at hv
    exact (Option.some.inj hv).symm
  have er : PySem.W.EachIs (fun (v : Value) (b : Addr × Edge) => ∃ as, Reads s.heap v (enc b) as) its bs := each_of (by rw [hbl, ei, List.length_map]) fun i v b hv hb => by
    rw [ei, List.getElem?_map] at hv
    have h1 : rs[i]? = some b.1 := by rw [← hb1, List.getElem?_map, hb]; rfl
    rw [h1] at hv
    have hv := (Option.some.inj hv).symm
    exact Dp.reads I (enc b) (.ref b.1) v (.lst (SqL.of (hget b (List.mem_of_getElem? hb))) (.cons (.int _) (.cons (.int _) .nil))) hv
  refine PySem.W.sorted_data (enc := enc) hl.isList e er (PySem.W.AllAlike.of fun b b' => rfl) (PySem.W.Sortable.others fun b => ⟨(fun z => nomatch z), (fun xs z => nomatch z)⟩) (by rw [hbl]; exact Nat.le_trans hlen (by decide)) (fun b _ => by
    have : (enc b).depth ≤ 1 := by exact Nat.le_of_eq rfl
    omega) fun out h1 h2 => ?_
  rw [show PySem.W.dataLe false enc = fun p q => decide ([p.2.1, p.2.2] ≤ [q.2.1, q.2.2]) from PySem.W.dataLe_rows (fun b : Addr × Edge => [b.2.1, b.2.2])] at h2
  generalize hbs : bs.mergeSort (fun p q => decide ([p.2.1, p.2.2] ≤ [q.2.1, q.2.2])) = bs' at h2
  have hperm : bs'.Perm bs := by rw [← hbs]; exact List.mergeSort_perm _ _
  have hsort : bs'.Pairwise (fun p q => leE p.2 q.2) := by
    rw [← hbs]
    refine (List.pairwise_mergeSort (fun a b c h1 h2 => ?_) (fun a b => ?_) bs).imp fun h => (leE_iff _ _).mp (of_decide_eq_true h)
    · exact decide_eq_true ((leE_iff _ _).mpr (by
        have a1 := (leE_iff _ _).mp (of_decide_eq_true h1)
        have a2 := (leE_iff _ _).mp (of_decide_eq_true h2)
        unfold leE at *
        omega))
    · by_cases h : leE a.2 b.2
      · rw [decide_eq_true ((leE_iff _ _).mpr h)]; rfl
      · rw [decide_eq_true ((leE_iff b.2 a.2).mpr (by unfold leE at *; omega))]; simp
  have eo := each_refs h2
  obtain ⟨ep, he'⟩ := PyProof.Rows.sortedAll_at s.heap its out.toArray
  have hn : H (s.heap.objs.size + 1) = none := I.hok.fresh (Nat.le_succ _)
  have hlo : ((bs'.map (·.1)).map V.ref).length ≤ sizeLine := by
    rw [List.length_map, List.length_map, hperm.length_eq, hbl]
    exact Nat.le_trans hlen (by decide)
  have rvo : Vals ((bs'.map (·.1)).map V.ref) out := by rw [eo]; exact refs_vals _
  refine ⟨.ref _, upd H (s.heap.objs.size + 1) (.lst ((bs'.map (·.1)).map V.ref)), I.laid (t' := s.toks) (fun _ _ => PyProof.Rows.sortedAll_old) (Nat.le_succ _) ⟨hlo, out, ep, rvo, he'⟩, rfl, ?_⟩
  refine q _ (bs'.map (·.1)) (bs'.map (·.2)) hn ?_ (List.pairwise_map.mpr hsort) ⟨upd_same, by rw [List.length_map, List.length_map], ?_⟩
  · rw [← hb2]
    exact hperm.map _
  · intro i r e hr he
    rw [List.getElem?_map] at hr he
    cases hb : bs'[i]? with
    | none => rw [hb] at hr; cases hr
    | some b =>
      rw [hb] at hr he
      cases hr
      cases he
      have := hget b (hperm.mem_iff.mp (List.mem_of_getElem? hb))
      rw [upd_ne (ne_of_none this hn)]
      exact this
theorem cr_sortedLK {K : PySem.W.Frag} (_ : KMark K) (h : X.K = K) (hu : X.A.units + 64 < cLine) : CallR X (.builtin "sorted") (rSortedL K) := h ▸ cr_sortedL hu
end
theorem leE_uniq : ∀ {l m : List Edge}, l.Pairwise leE → m.Pairwise leE → l.Perm m → l = m
  | [], m, _, _, h => (List.Perm.eq_nil h.symm).symm
  | a :: l, [], _, _, h => by have := h.length_eq; simp at this
  | a :: l, b :: m, hl, hm, h => by
    have h1 : leE a b := by
      rcases List.mem_cons.mp (h.mem_iff.mpr (List.mem_cons_self (a := b) (l := m))) with e | hb
      · rw [e]; unfold leE; omega
      · exact List.rel_of_pairwise_cons hl hb
    have h2 : leE b a := by
      rcases List.mem_cons.mp (h.mem_iff.mp (List.mem_cons_self (a := a) (l := l))) with e | hb
      · rw [e]; unfold leE; omega
      · exact List.rel_of_pairwise_cons hm hb
    have e : a = b := by
      unfold leE at h1 h2
      obtain ⟨a1, a2⟩ := a
      obtain ⟨b1, b2⟩ := b
      simp only at h1 h2
      rw [Prod.mk.injEq]
      omega
    subst e
    rw [leE_uniq (List.pairwise_cons.mp hl).2 (List.pairwise_cons.mp hm).2 h.cons_inv]
end
/-! piece CN -/
section
section
variable {X : Cx} {K : PySem.W.Frag} {o a : Expr} {apos cpos : Pos} {to : TE} {t : TA}
theorem pe_cntK (_ : KMark K) (h : X.K = K) (ho : PE X o to) (ha : PA X [a] t) (hbase : attributeBase o "count" X.env (eval o X.env) = eval o X.env := by rfl)
    (hfew : ((backTo cpos (starEach [a] X.env)).all (fun x => !x.1) && (backToKw cpos (keywordEach [] X.env)).all (fun x => x.1.isSome)
      && decide (([a] : List Expr).length + ([] : List Keyword).length + (if ([] : List Keyword).isEmpty then 0 else 1) < 30)) = true := by rfl)
    (hline : (apos.endLine == cpos.line) = true := by rfl) (hs : starEach [a] X.env = (false, eval a X.env) :: starEach [] X.env := by rfl) (hplain : (backTo cpos (starEach [] X.env)).any (·.1) = false := by rfl) :
    PE X (.Call (.Attribute o "count" apos) [a] [] cpos) (tBM K "list" (rCnt K) to t) :=
  h ▸ pe_bm PySem.F.plainAttrs_list PySem.F.slot_list_count PySem.F.type_list_count mt_cnt ho ha hbase hfew hline hs hplain
end
theorem cr_sortedB {X : Cx} {K : PySem.W.Frag} (hKM : KMark K) (h : X.K = K) (hu : X.A.units + 64 < cLine) : CallR X (.builtin "sorted") (fun xs H Q => rSorted K xs H Q ∨ rSortedL K xs H Q) := by
  intro pins s σ H xs us Q I r q
  rcases q with q | q
  · exact cr_sortedK hKM h pins s σ H xs us Q I r q
  · exact cr_sortedLK hKM h hu pins s σ H xs us Q I r q
end
/-! piece CA -/
section
theorem Simp.pos {n : Int} {es : List Edge} (h : Simp n es) : ∀ e ∈ es, 1 ≤ e.1 ∧ 1 ≤ e.2 ∧ e.1 ≠ e.2 := fun e he => by
  have := h.rng e he
  omega
theorem near_lot' {n : Nat} {es : List Edge} (hS : Simp n es) {p : Nat} (h1 : 1 ≤ p) (h2 : p ≤ n) : ∃ u, (nearB n es)[p]? = some u ∧ (∀ k : Nat, u.testBit k = decide (Adj es (p : Int) k)) ∧ LotIs u (besideM n es p) := by
  obtain ⟨u, hu, hb⟩ := nearB_bit hS.pos h1 h2
  refine ⟨u, hu, hb, fun k => ?_⟩
  rw [hb]
  apply decide_eq_decide.mpr
  exact (besideM_mem hS (by omega) (by omega) _).symm
theorem lot_and {v u : Nat} {a b : List Int} (hv : LotIs v a) (hu : LotIs u b) : LotIs (v &&& u) (a.filter fun x => decide (x ∈ b)) := fun k => by
  rw [Nat.testBit_and, hv, hu, ← Bool.decide_and]
  apply decide_eq_decide.mpr
  rw [List.mem_filter, decide_eq_true_eq]
theorem LotIs.congr {v : Nat} {a b : List Int} (h : LotIs v a) (e : ∀ x, x ∈ a ↔ x ∈ b) : LotIs v b := fun k => by
  rw [h]
  exact decide_eq_decide.mpr (e _)
/-! ### one who seeks and one who flees -/
/-- whether the seeker surely catches within k turns -/
def wB (n : Nat) (es : List Edge) : Nat → Int → Int → Bool
  | 0, h, t => decide (h = t)
  | k + 1, h, t => (besideM n es h).any fun g => decide (g = t) || (besideM n es t).all fun s => wB n es k g s
/-- where the seeker may go so as to catch at once, or surely in k turns behind any answer -/
def trB (n : Nat) (es : List Edge) (k : Nat) (t g : Int) : Bool := decide (g = t) || (besideM n es t).all fun s => wB n es k g s
theorem wB_succ (n : Nat) (es : List Edge) (k : Nat) (h t : Int) : wB n es (k + 1) h t = (besideM n es h).any (trB n es k t) := rfl
theorem wB_iff {n : Nat} {es : List Edge} {k : Nat} {h t : Int} : wB n es (k + 1) h t = true ↔ ∃ g ∈ besideM n es h, g = t ∨ ∀ s ∈ besideM n es t, wB n es k g s = true := by
  rw [wB_succ, List.any_eq_true]
  constructor
  · rintro ⟨g, hg, h⟩
    unfold trB at h
    rw [Bool.or_eq_true, decide_eq_true_eq, List.all_eq_true] at h
    exact ⟨g, hg, h⟩
  · rintro ⟨g, hg, h⟩
    refine ⟨g, hg, ?_⟩
    unfold trB
    rw [Bool.or_eq_true, decide_eq_true_eq, List.all_eq_true]
    exact h
theorem trB_iff {n : Nat} {es : List Edge} {k : Nat} {t g : Int} : trB n es k t g = true ↔ g = t ∨ ∀ s ∈ besideM n es t, wB n es k g s = true := by
  unfold trB
  rw [Bool.or_eq_true, decide_eq_true_eq, List.all_eq_true]
theorem beside_self {n : Nat} {es : List Edge} (hS : Simp n es) {h : Int} (h1 : 1 ≤ h) (h2 : h ≤ n) : h ∈ besideM n es h := (besideM_mem hS h1 h2 h).mpr (List.mem_cons_self ..)
theorem wB_mono {n : Nat} {es : List Edge} (hS : Simp n es) : ∀ (k : Nat) {h t : Int}, 1 ≤ h → h ≤ n → 1 ≤ t → t ≤ n → wB n es k h t = true → wB n es (k + 1) h t = true
  | 0, h, t, h1, h2, _, _, e => wB_iff.mpr ⟨h, beside_self hS h1 h2, .inl (of_decide_eq_true e)⟩
  | k + 1, h, t, h1, h2, t1, t2, e => by
    obtain ⟨g, hg, hc⟩ := wB_iff.mp e
    refine wB_iff.mpr ⟨g, hg, ?_⟩
    rcases hc with hc | hc
    · exact .inl hc
    · refine .inr fun s hs => ?_
      have gr := besideM_rng hg
      have sr := besideM_rng hs
      exact wB_mono hS k gr.1 gr.2 sr.1 sr.2 (hc s hs)
theorem wB_le {n : Nat} {es : List Edge} (hS : Simp n es) {h t : Int} (h1 : 1 ≤ h) (h2 : h ≤ n) (t1 : 1 ≤ t) (t2 : t ≤ n) {j k : Nat} (hjk : j ≤ k) (e : wB n es j h t = true) : wB n es k h t = true := by
  induction hjk with
  | refl => exact e
  | step _ ih => exact wB_mono hS _ h1 h2 t1 t2 ih
/-- the same from all places: then for ever -/
def Still (n : Nat) (es : List Edge) (k : Nat) : Prop := ∀ h t : Int, 1 ≤ h → h ≤ n → 1 ≤ t → t ≤ n → wB n es (k + 1) h t = wB n es k h t
theorem Still.next {n : Nat} {es : List Edge} {k : Nat} (s : Still n es k) : Still n es (k + 1) := fun h t h1 h2 t1 t2 => by
  rw [Bool.eq_iff_iff, wB_iff, wB_iff]
  have e : ∀ g ∈ besideM n es h, ((∀ x ∈ besideM n es t, wB n es (k + 1) g x = true) ↔ ∀ x ∈ besideM n es t, wB n es k g x = true) := fun g hg => by
    have gr := besideM_rng hg
    constructor
    · intro a x hx
      have xr := besideM_rng hx
      rw [← s g x gr.1 gr.2 xr.1 xr.2]
      exact a x hx
    · intro a x hx
      have xr := besideM_rng hx
      rw [s g x gr.1 gr.2 xr.1 xr.2]
      exact a x hx
  constructor
  · rintro ⟨g, hg, hc⟩
    exact ⟨g, hg, hc.imp id (e g hg).mp⟩
  · rintro ⟨g, hg, hc⟩
    exact ⟨g, hg, hc.imp id (e g hg).mpr⟩
theorem Still.all {n : Nat} {es : List Edge} {k j : Nat} (s : Still n es k) (hkj : k ≤ j) : Still n es j := by
  induction hkj with
  | refl => exact s
  | step _ ih => exact ih.next
theorem Still.eq {n : Nat} {es : List Edge} {k j : Nat} (s : Still n es k) (hkj : k ≤ j) {h t : Int} (h1 : 1 ≤ h) (h2 : h ≤ n) (t1 : 1 ≤ t) (t2 : t ≤ n) : wB n es j h t = wB n es k h t := by
  induction hkj with
  | refl => rfl
  | step hle ih => rw [s.all hle h t h1 h2 t1 t2]; exact ih
/-- the pairs from which it catches within k turns -/
def pairsW (n : Nat) (es : List Edge) (k : Nat) : List (Int × Int) := ((allM n).flatMap fun h => (allM n).map fun t => (h, t)).filter fun p => wB n es k p.1 p.2
theorem all_pairs_len (n : Nat) : ((allM n).flatMap fun h => (allM n).map fun t => (h, t)).length = n * n := by
  have h : ∀ l : List Int, (l.flatMap fun h => (allM n).map fun t => (h, t)).length = l.length * n := fun l => by
    induction l with
    | nil => simp
    | cons a l ih => rw [List.flatMap_cons, List.length_append, ih, List.length_map, all_len, List.length_cons, Nat.succ_mul, Nat.add_comm]
  rw [h, all_len]
theorem all_pairs_mem {n : Nat} {p : Int × Int} : p ∈ ((allM n).flatMap fun h => (allM n).map fun t => (h, t)) ↔ (1 ≤ p.1 ∧ p.1 ≤ n) ∧ 1 ≤ p.2 ∧ p.2 ≤ n := by
  rw [List.mem_flatMap]
  constructor
  · rintro ⟨h, hh, hp⟩
    obtain ⟨t, ht, rfl⟩ := List.mem_map.mp hp
    exact ⟨allM_mem.mp hh, allM_mem.mp ht⟩
  · rintro ⟨h1, h2⟩
    exact ⟨p.1, allM_mem.mpr h1, List.mem_map.mpr ⟨p.2, allM_mem.mpr h2, rfl⟩⟩
theorem filter_lt {α : Type} (p q : α → Bool) : ∀ (l : List α), (∀ x ∈ l, p x = true → q x = true) → (∃ x ∈ l, q x = true ∧ p x = false) → (l.filter p).length < (l.filter q).length
  | [], _, h => by obtain ⟨x, hx, _⟩ := h; cases hx
  | a :: l, hm, he => by
    have le : ∀ l : List α, (∀ x ∈ l, p x = true → q x = true) → (l.filter p).length ≤ (l.filter q).length := fun l => by
      induction l with
      | nil => exact fun _ => Nat.le_refl _
      | cons b m ih =>
        intro h
        have h2 := ih fun x hx => h x (List.mem_cons_of_mem _ hx)
        have h3 := h b (List.mem_cons_self ..)
        rw [List.filter_cons, List.filter_cons]
        by_cases hp : p b = true
        · rw [if_pos hp, if_pos (h3 hp), List.length_cons, List.length_cons]; omega
        · rw [if_neg hp]
          split
          · rw [List.length_cons]; omega
          · exact h2
    have hl := le l fun x hx => hm x (List.mem_cons_of_mem _ hx)
    obtain ⟨x, hx, hq, hpx⟩ := he
    rw [List.filter_cons, List.filter_cons]
    rcases List.mem_cons.mp hx with rfl | hx
    · rw [if_neg (by rw [hpx]; exact Bool.false_ne_true), if_pos hq, List.length_cons]
      omega
    · have ih := filter_lt p q l (fun y hy => hm y (List.mem_cons_of_mem _ hy)) ⟨x, hx, hq, hpx⟩
      by_cases hp : p a = true
      · rw [if_pos hp, if_pos (hm a (List.mem_cons_self ..) hp), List.length_cons, List.length_cons]; omega
      · rw [if_neg hp]
        split
        · rw [List.length_cons]; omega
        · exact ih
theorem pairs_lt {n : Nat} {es : List Edge} (hS : Simp n es) {k : Nat} (h : ¬ Still n es k) : (pairsW n es k).length < (pairsW n es (k + 1)).length := by
  unfold pairsW
  refine filter_lt _ _ _ (fun p hp e => ?_) ?_
  · have := all_pairs_mem.mp hp
    exact wB_mono hS k this.1.1 this.1.2 this.2.1 this.2.2 e
  · apply Classical.byContradiction
    intro hno
    apply h
    intro a t h1 h2 t1 t2
    cases e1 : wB n es k a t with
    | true => exact wB_mono hS k h1 h2 t1 t2 e1
    | false =>
      cases e2 : wB n es (k + 1) a t with
      | false => rfl
      | true => exact absurd ⟨(a, t), all_pairs_mem.mpr ⟨⟨h1, h2⟩, t1, t2⟩, e2, e1⟩ hno
theorem steps_le {n : Nat} {es : List Edge} (hS : Simp n es) : ∀ k, (∀ j, j < k → ¬ Still n es j) → k ≤ (pairsW n es k).length
  | 0, _ => Nat.zero_le _
  | k + 1, h => by
    have h1 := steps_le hS k fun j hj => h j (by omega)
    have h2 := pairs_lt hS (h k (Nat.lt_succ_self k))
    omega
theorem pairs_le (n : Nat) (es : List Edge) (k : Nat) : (pairsW n es k).length ≤ n * n := by
  unfold pairsW
  exact Nat.le_trans (List.length_filter_le ..) (by rw [all_pairs_len]; exact Nat.le_refl _)
theorem steps_bound {n : Nat} {es : List Edge} (hS : Simp n es) {k : Nat} (h : ∀ j, j < k → ¬ Still n es j) : k ≤ n * n := Nat.le_trans (steps_le hS k h) (pairs_le n es k)
theorem still_last {n : Nat} {es : List Edge} (hS : Simp n es) : Still n es (n * n) := by
  apply Classical.byContradiction
  intro hno
  have h : ∀ j, j < n * n + 1 → ¬ Still n es j := fun j hj s => hno (s.all (by omega))
  have := steps_bound hS h
  omega
/-! the program's lists of lots -/
def commonM (lots : List Nat) (ps : List Int) : Nat := ps.foldl (fun a p => a &&& lots.getD p.toNat 0) (lots.getD (ps.headD 0).toNat 0)
def sameM (n : Nat) : List Nat := 0 :: (List.range n).map fun i => 2 ^ (i + 1)
def trapsM (n : Nat) (es : List Edge) (sure : List Nat) : List Nat := 0 :: (List.range n).map fun (i : Nat) => 2 ^ (i + 1) ||| commonM sure (besideM n es ((i : Int) + 1))
def besideL (n : Nat) (es : List Edge) (ps : List Int) : Nat := ps.foldl (fun b p => b ||| (nearB n es).getD p.toNat 0) 0
def aheadM (n : Nat) (es : List Edge) (traps : List Nat) : List Nat := traps.map fun lot => besideL n es (membersM lot)
def sureM (n : Nat) (es : List Edge) : Nat → List Nat
  | 0 => sameM n
  | k + 1 => aheadM n es (trapsM n es (sureM n es k))
theorem and_fold (lots : List Nat) (k : Nat) : ∀ (ps : List Int) (a : Nat), (ps.foldl (fun a p => a &&& lots.getD p.toNat 0) a).testBit k = (a.testBit k && ps.all fun p => (lots.getD p.toNat 0).testBit k)
  | [], a => by simp
  | p :: ps, a => by rw [List.foldl_cons, and_fold lots k ps, Nat.testBit_and, List.all_cons, Bool.and_assoc]
theorem common_bit (lots : List Nat) {ps : List Int} (h : ps ≠ []) (k : Nat) : (commonM lots ps).testBit k = ps.all fun p => (lots.getD p.toNat 0).testBit k := by
  unfold commonM
  rw [and_fold]
  cases ps with
  | nil => exact absurd rfl h
  | cons p l =>
    show ((lots.getD p.toNat 0).testBit k && (p :: l).all _) = _
    rw [List.all_cons, ← Bool.and_assoc, Bool.and_self]
theorem or_fold (n : Nat) (es : List Edge) (k : Nat) : ∀ (ps : List Int) (a : Nat), (ps.foldl (fun b p => b ||| (nearB n es).getD p.toNat 0) a).testBit k = (a.testBit k || ps.any fun p => ((nearB n es).getD p.toNat 0).testBit k)
  | [], a => by simp
  | p :: ps, a => by rw [List.foldl_cons, or_fold n es k ps, Nat.testBit_or, List.any_cons, Bool.or_assoc]
theorem same_len (n : Nat) : (sameM n).length = n + 1 := by simp [sameM]
theorem traps_len (n : Nat) (es : List Edge) (l : List Nat) : (trapsM n es l).length = n + 1 := by simp [trapsM]
theorem sure_len (n : Nat) (es : List Edge) : ∀ k, (sureM n es k).length = n + 1
  | 0 => same_len n
  | k + 1 => by show (aheadM n es _).length = _; unfold aheadM; rw [List.length_map, traps_len]
theorem getD_row {f : Nat → Nat} {n : Nat} {t : Int} (h1 : 1 ≤ t) (h2 : t ≤ n) : (0 :: (List.range n).map f).getD t.toNat 0 = f (t.toNat - 1) := by
  rw [List.getD_eq_getElem?_getD, show t.toNat = (t.toNat - 1) + 1 by omega, List.getElem?_cons_succ, List.getElem?_map, List.getElem?_range (by omega)]
  rfl
theorem beside_ne {n : Nat} {es : List Edge} (hS : Simp n es) {h : Int} (h1 : 1 ≤ h) (h2 : h ≤ n) : besideM n es h ≠ [] := fun e => by
  have := beside_self hS h1 h2
  rw [e] at this
  cases this
/-- the lots of `sure` and of `traps` -/
theorem sure_is {n : Nat} {es : List Edge} (hS : Simp n es) : ∀ (k : Nat) {t : Int}, 1 ≤ t → t ≤ n → LotIs ((sureM n es k).getD t.toNat 0) ((allM n).filter fun h => wB n es k h t)
  | 0, t, t1, t2 => fun j => by
    show ((sameM n).getD t.toNat 0).testBit j = _
    unfold sameM
    rw [getD_row t1 t2, show t.toNat - 1 + 1 = t.toNat by omega, Nat.testBit_two_pow]
    apply decide_eq_decide.mpr
    rw [List.mem_filter, allM_mem]
    show _ ↔ _ ∧ decide ((j : Int) = t) = true
    rw [decide_eq_true_eq]
    omega
  | k + 1, t, t1, t2 => by
    have ht : LotIs ((trapsM n es (sureM n es k)).getD t.toNat 0) ((allM n).filter (trB n es k t)) := fun j => by
      unfold trapsM
      rw [getD_row t1 t2, show t.toNat - 1 + 1 = t.toNat by omega, show ((t.toNat - 1 : Nat) : Int) + 1 = t by omega, Nat.testBit_or, Nat.testBit_two_pow, common_bit _ (beside_ne hS t1 t2)]
      rw [Bool.eq_iff_iff, Bool.or_eq_true, decide_eq_true_eq, decide_eq_true_eq, List.all_eq_true, List.mem_filter, allM_mem, trB_iff]
      constructor
      · rintro (e | e)
        · exact ⟨by omega, .inl (by omega)⟩
        · have h0 := e t (beside_self hS t1 t2)
          rw [sure_is hS k t1 t2, decide_eq_true_eq, List.mem_filter, allM_mem] at h0
          refine ⟨h0.1, .inr fun s hs => ?_⟩
          have sr := besideM_rng hs
          have h2 := e s hs
          rw [sure_is hS k sr.1 sr.2, decide_eq_true_eq, List.mem_filter] at h2
          exact h2.2
      · rintro ⟨hr, e | e⟩
        · exact .inl (by omega)
        · refine .inr fun s hs => ?_
          have sr := besideM_rng hs
          rw [sure_is hS k sr.1 sr.2, decide_eq_true_eq, List.mem_filter, allM_mem]
          exact ⟨hr, e s hs⟩
    have hm := members_lot ht (List.Pairwise.filter _ (allM_lt n)) fun x hx => (allM_mem.mp (List.mem_filter.mp hx).1).1
    intro j
    show ((aheadM n es (trapsM n es (sureM n es k))).getD t.toNat 0).testBit j = _
    unfold aheadM
    have hl : t.toNat < (trapsM n es (sureM n es k)).length := by rw [traps_len]; omega
    rw [List.getD_eq_getElem?_getD, List.getElem?_map, List.getElem?_eq_getElem hl]
    show (besideL n es (membersM ((trapsM n es (sureM n es k))[t.toNat]))).testBit j = _
    rw [List.getD_eq_getElem?_getD, List.getElem?_eq_getElem hl] at hm
    rw [show membersM ((trapsM n es (sureM n es k))[t.toNat]) = _ from hm]
    unfold besideL
    rw [or_fold, Nat.zero_testBit, Bool.false_or, Bool.eq_iff_iff, List.any_eq_true, decide_eq_true_eq, List.mem_filter, allM_mem, wB_succ, List.any_eq_true]
    constructor
    · rintro ⟨g, hg, hb⟩
      obtain ⟨h1, h2⟩ := List.mem_filter.mp hg
      have gr := allM_mem.mp h1
      obtain ⟨u, hu, hub, hul⟩ := near_lot' hS (p := g.toNat) (by omega) (by omega)
      rw [List.getD_eq_getElem?_getD, hu] at hb
      have hb : u.testBit j = true := hb
      rw [hub, decide_eq_true_eq, show ((g.toNat : Nat) : Int) = g by omega] at hb
      have hj : 1 ≤ (j : Int) ∧ (j : Int) ≤ n := by
        have := (besideM_mem hS gr.1 gr.2 (j : Int)).mpr hb
        exact besideM_rng this
      exact ⟨hj, g, (besideM_mem hS hj.1 hj.2 g).mpr (adj_symm _ _ hb), h2⟩
    · rintro ⟨hj, g, hg, h2⟩
      have gr := besideM_rng hg
      refine ⟨g, List.mem_filter.mpr ⟨allM_mem.mpr gr, h2⟩, ?_⟩
      obtain ⟨u, hu, hub, hul⟩ := near_lot' hS (p := g.toNat) (by omega) (by omega)
      rw [List.getD_eq_getElem?_getD, hu]
      show u.testBit j = true
      rw [hub, decide_eq_true_eq, show ((g.toNat : Nat) : Int) = g by omega]
      exact adj_symm _ _ ((besideM_mem hS hj.1 hj.2 g).mp hg)
end
/-! piece CB -/
section
/-! ### who catches from everywhere -/
section
variable {adj : Int → Int → Prop}
inductive Cw (adj : Int → Int → Prop) (S : Int → Prop) : Int → Int → Prop where
  | take {h t : Int} (a : S h) (b : S t) (c : adj h t) : Cw adj S h t
  | go {h t g : Int} (a : S h) (b : S t) (c : S g) (d : adj h g) (e : ∀ s, S s → adj t s → Cw adj S g s) : Cw adj S h t
theorem cw_lift (rf : ∀ x, adj x x) (sy : ∀ x y, adj x y → adj y x) {S : Int → Prop} {p q : Int} (st : StepOk adj S p q) {h t' : Int} (c : Cw adj (fun x => S x ∧ x ≠ p) h t') :
    ∀ t, S t → (if t = p then q else t) = t' → Cw adj S h t := by
  obtain ⟨sp, sq, hne, hn⟩ := st
  induction c with
  | @take h t' a b c =>
    intro t ht e
    by_cases hp : t = p
    · rw [if_pos hp] at e
      subst hp e
      exact .go a.1 ht sq c fun s hs ha => .take sq hs (hn s hs ha)
    · rw [if_neg hp] at e
      subst e
      exact .take a.1 ht c
  | @go h t' g a b c d e ih =>
    intro t ht er
    refine .go a.1 ht c.1 d fun s hs ha => ?_
    have hat : adj t' (if s = p then q else s) := by
      rw [← er]
      by_cases h1 : t = p
      · rw [if_pos h1]
        rw [h1] at ha
        by_cases h2 : s = p
        · rw [if_pos h2]; exact rf q
        · rw [if_neg h2]; exact hn s hs ha
      · rw [if_neg h1]
        by_cases h2 : s = p
        · rw [if_pos h2]
          rw [h2] at ha
          exact sy _ _ (hn t ht (sy _ _ ha))
        · rw [if_neg h2]; exact ha
    refine ih (if s = p then q else s) ?_ hat s hs rfl
    by_cases h2 : s = p
    · rw [if_pos h2]; exact ⟨sq, fun e => hne e.symm⟩
    · rw [if_neg h2]; exact ⟨hs, h2⟩
theorem cw_more (rf : ∀ x, adj x x) (sy : ∀ x y, adj x y → adj y x) {S : Int → Prop} {p q : Int} (st : StepOk adj S p q) (all : ∀ h t, (S h ∧ h ≠ p) → (S t ∧ t ≠ p) → Cw adj (fun x => S x ∧ x ≠ p) h t) : ∀ h t, S h → S t → Cw adj S h t := by
  have st0 := st
  obtain ⟨sp, sq, hne, hn⟩ := st
  have hr : ∀ t, S t → S (if t = p then q else t) ∧ (if t = p then q else t) ≠ p := fun t ht => by
    by_cases h : t = p
    · rw [if_pos h]; exact ⟨sq, fun e => hne e.symm⟩
    · rw [if_neg h]; exact ⟨ht, h⟩
  intro h t hh ht
  by_cases hp : h = p
  · subst hp
    exact .go hh ht sq (sy _ _ (hn _ hh (rf _))) fun s hs _ => cw_lift rf sy st0 (all q _ ⟨sq, fun e => hne e.symm⟩ (hr s hs)) s hs rfl
  · exact cw_lift rf sy st0 (all h _ ⟨hh, hp⟩ (hr t ht)) t ht rfl
/-- if one place is left at last -/
theorem cw_all (rf : ∀ x, adj x x) (sy : ∀ x y, adj x y → adj y x) {S E : Int → Prop} {l : List Edge} (r : Run adj S l E) {c : Int} (one : ∀ x, E x → x = c) : ∀ h t, S h → S t → Cw adj S h t := by
  induction r with
  | nil T =>
    intro h t hh ht
    rw [one h hh, one t ht]
    exact .take (one h hh ▸ hh) (one h hh ▸ hh) (rf c)
  | cons h r ih => exact cw_more rf sy h fun a b ha hb => ih one a b ha hb
/-- one who flees on an end is not caught -/
theorem cw_near (sy : ∀ x y, adj x y → adj y x) {S E : Int → Prop} {l : List Edge} (r : Run adj S l E) (st : Stiff adj E) {h t : Int} (c : Cw adj S h t) : E t → adj (mapR l h) t := by
  induction c with
  | take a b c =>
    intro ht
    have := mapR_hom sy r a b c
    rwa [mapR_fix r ht] at this
  | @go h t g a b c d e ih =>
    intro ht
    apply Classical.byContradiction
    intro hno
    have hmg : adj (mapR l h) (mapR l g) := mapR_hom sy r a c d
    refine st t (mapR l g) ⟨ht, mapR_in r c, fun e => hno (e ▸ hmg), fun z hz ha => ih z (run_sub r hz).1 ha hz⟩
theorem cw_not (rf : ∀ x, adj x x) (sy : ∀ x y, adj x y → adj y x) {S E : Int → Prop} {l : List Edge} (r : Run adj S l E) (st : Stiff adj E) {a b : Int} (ha : E a) (hb : E b) (hab : a ≠ b) {h : Int} (hh : S h) : ∃ t, S t ∧ ¬ Cw adj S h t := by
  obtain ⟨t0, ht0, hne⟩ : ∃ t0, E t0 ∧ t0 ≠ mapR l h := by
    by_cases e : a = mapR l h
    · exact ⟨b, hb, fun e2 => hab (e.trans e2.symm)⟩
    · exact ⟨a, ha, e⟩
  apply Classical.byContradiction
  intro hno
  refine st t0 (mapR l h) ⟨ht0, mapR_in r hh, hne, fun z hz _ => ?_⟩
  apply Classical.byContradiction
  intro hz2
  exact hno ⟨z, (run_sub r hz).1, fun c => hz2 (cw_near sy r st c hz)⟩
end
/-! ### in numbers of turns -/
theorem cw_wB {n : Nat} {es : List Edge} (hS : Simp n es) {h t : Int} (c : Cw (Adj es) (fun x => 1 ≤ x ∧ x ≤ n) h t) : wB n es (n * n) h t = true := by
  induction c with
  | @take h t a b c =>
    rw [← still_last hS h t a.1 a.2 b.1 b.2]
    exact wB_iff.mpr ⟨t, (besideM_mem hS a.1 a.2 t).mpr c, .inl rfl⟩
  | @go h t g a b c d e ih =>
    rw [← still_last hS h t a.1 a.2 b.1 b.2]
    refine wB_iff.mpr ⟨g, (besideM_mem hS a.1 a.2 g).mpr d, .inr fun s hs => ?_⟩
    exact ih s (besideM_rng hs) ((besideM_mem hS b.1 b.2 s).mp hs)
theorem wB_cw {n : Nat} {es : List Edge} (hS : Simp n es) : ∀ (k : Nat) {h t : Int}, (1 ≤ h ∧ h ≤ n) → (1 ≤ t ∧ t ≤ n) → wB n es k h t = true → Cw (Adj es) (fun x => 1 ≤ x ∧ x ≤ n) h t
  | 0, h, t, hh, ht, e => .take hh ht (by rw [of_decide_eq_true e]; exact adj_refl es t)
  | k + 1, h, t, hh, ht, e => by
    obtain ⟨g, hg, hc⟩ := wB_iff.mp e
    have gr := besideM_rng hg
    have ha := (besideM_mem hS hh.1 hh.2 g).mp hg
    rcases hc with rfl | hc
    · exact .take hh ht ha
    · exact .go hh ht gr ha fun s hs hts => wB_cw hS k gr hs (hc s ((besideM_mem hS ht.1 ht.2 s).mpr hts))
theorem run_all {n : Nat} {es ps : List Edge} {left : List Int} (r : RunL es (allM n) ps left) : Run (Adj es) (fun x => 1 ≤ x ∧ x ≤ (n : Int)) ps (· ∈ left) := by
  have h := r.run
  have e : (fun x => x ∈ allM n) = fun x => 1 ≤ x ∧ x ≤ (n : Int) := funext fun x => propext allM_mem
  rwa [e] at h
/-- all are caught, if one place is left; otherwise there is one for each start who isn't -/
theorem catch_one {n : Nat} {es ps : List Edge} {left : List Int} (hS : Simp n es) (r : RunL es (allM n) ps left) (h1 : left.length = 1) {h t : Int} (hh : 1 ≤ h ∧ h ≤ n) (ht : 1 ≤ t ∧ t ≤ n) : wB n es (n * n) h t = true := by
  match left, h1 with
  | [c], _ => exact cw_wB hS (cw_all (adj_refl _) adj_symm (run_all r) (c := c) (fun x hx => List.mem_singleton.mp hx) h t hh ht)
theorem catch_not {n : Nat} {es ps : List Edge} {left : List Int} (hS : Simp n es) (r : RunL es (allM n) ps left) (st : foldableM es left = []) (h2 : 2 ≤ left.length) (nd : left.Nodup) {h : Int} (hh : 1 ≤ h ∧ h ≤ n) : ∃ t, (1 ≤ t ∧ t ≤ (n : Int)) ∧ ∀ k, wB n es k h t = false := by
  have e0 : left[0]? = some left[0] := List.getElem?_eq_getElem (by omega)
  have e1 : left[1]? = some left[1] := List.getElem?_eq_getElem (by omega)
  have hne : left[0] ≠ left[1] := fun e => by
    rw [← e] at e1
    have := nd_ix nd e0 e1
    omega
  obtain ⟨t, ht, hc⟩ := cw_not (adj_refl _) adj_symm (run_all r) (stiff_of st) (List.getElem_mem (by omega : 0 < left.length)) (List.getElem_mem (by omega : 1 < left.length)) hne hh
  refine ⟨t, ht, fun k => ?_⟩
  cases e : wB n es k h t with
  | false => rfl
  | true => exact absurd (wB_cw hS k hh ht e) hc
end
/-! piece CC -/
section
/-! ### lists of lots, and numbers of turns -/
theorem traps_is {n : Nat} {es : List Edge} (hS : Simp n es) (k : Nat) {t : Int} (t1 : 1 ≤ t) (t2 : t ≤ n) : LotIs ((trapsM n es (sureM n es k)).getD t.toNat 0) ((allM n).filter (trB n es k t)) := fun j => by
  unfold trapsM
  rw [getD_row t1 t2, show t.toNat - 1 + 1 = t.toNat by omega, show ((t.toNat - 1 : Nat) : Int) + 1 = t by omega, Nat.testBit_or, Nat.testBit_two_pow, common_bit _ (beside_ne hS t1 t2)]
  rw [Bool.eq_iff_iff, Bool.or_eq_true, decide_eq_true_eq, decide_eq_true_eq, List.all_eq_true, List.mem_filter, allM_mem, trB_iff]
  constructor
  · rintro (e | e)
    · exact ⟨by omega, .inl (by omega)⟩
    · have h0 := e t (beside_self hS t1 t2)
      rw [sure_is hS k t1 t2, decide_eq_true_eq, List.mem_filter, allM_mem] at h0
      refine ⟨h0.1, .inr fun s hs => ?_⟩
      have sr := besideM_rng hs
      have h2 := e s hs
      rw [sure_is hS k sr.1 sr.2, decide_eq_true_eq, List.mem_filter] at h2
      exact h2.2
  · rintro ⟨hr, e | e⟩
    · exact .inl (by omega)
    · refine .inr fun s hs => ?_
      have sr := besideM_rng hs
      rw [sure_is hS k sr.1 sr.2, decide_eq_true_eq, List.mem_filter, allM_mem]
      exact ⟨hr, e s hs⟩
theorem sure_bit {n : Nat} {es : List Edge} (hS : Simp n es) (k : Nat) {h t : Int} (h1 : 1 ≤ h) (h2 : h ≤ n) (t1 : 1 ≤ t) (t2 : t ≤ n) : ((sureM n es k).getD t.toNat 0).testBit h.toNat = wB n es k h t := by
  rw [sure_is hS k t1 t2, Bool.eq_iff_iff, decide_eq_true_eq, List.mem_filter, allM_mem, show ((h.toNat : Nat) : Int) = h by omega]
  exact ⟨fun a => a.2, fun a => ⟨⟨h1, h2⟩, a⟩⟩
theorem members_zero : membersM 0 = [] := rfl
theorem sure_zero (n : Nat) (es : List Edge) : ∀ k, (sureM n es k)[0]? = some 0
  | 0 => rfl
  | k + 1 => by
    show (aheadM n es (trapsM n es (sureM n es k)))[0]? = some 0
    unfold aheadM trapsM
    rw [List.map_cons, List.getElem?_cons_zero, members_zero]
    rfl
theorem sure_eq {n : Nat} {es : List Edge} (hS : Simp n es) {k : Nat} : sureM n es (k + 1) = sureM n es k ↔ Still n es k := by
  constructor
  · intro e h t h1 h2 t1 t2
    rw [← sure_bit hS (k + 1) h1 h2 t1 t2, e, sure_bit hS k h1 h2 t1 t2]
  · intro s
    apply List.ext_getElem?
    intro i
    by_cases h0 : i = 0
    · rw [h0, sure_zero, sure_zero]
    by_cases hi : i ≤ n
    · have e1 : (sureM n es (k + 1))[i]? = some ((sureM n es (k + 1)).getD ((i : Int)).toNat 0) := by
        rw [List.getD_eq_getElem?_getD, show ((i : Int)).toNat = i by omega, List.getElem?_eq_getElem (by rw [sure_len]; omega)]
        rfl
      have e2 : (sureM n es k)[i]? = some ((sureM n es k).getD ((i : Int)).toNat 0) := by
        rw [List.getD_eq_getElem?_getD, show ((i : Int)).toNat = i by omega, List.getElem?_eq_getElem (by rw [sure_len]; omega)]
        rfl
      rw [e1, e2]
      congr 1
      apply Nat.eq_of_testBit_eq
      intro j
      rw [sure_is hS (k + 1) (t := (i : Int)) (by omega) (by omega), sure_is hS k (t := (i : Int)) (by omega) (by omega)]
      apply decide_eq_decide.mpr
      rw [List.mem_filter, List.mem_filter, allM_mem]
      constructor
      · rintro ⟨a, b⟩
        exact ⟨a, by rw [← s j i a.1 a.2 (by omega) (by omega)]; exact b⟩
      · rintro ⟨a, b⟩
        exact ⟨a, by rw [s j i a.1 a.2 (by omega) (by omega)]; exact b⟩
    · rw [List.getElem?_eq_none (by rw [sure_len]; omega), List.getElem?_eq_none (by rw [sure_len]; omega)]
theorem traps_bits {n : Nat} {es : List Edge} (hS : Simp n es) (k : Nat) : ∀ l ∈ trapsM n es (sureM n es k), ∀ j : Nat, l.testBit j = true → 1 ≤ j ∧ j ≤ n := fun l hl j hj => by
  obtain ⟨i, hi⟩ := List.getElem?_of_mem hl
  have hlt : i < n + 1 := by
    have := (List.getElem?_eq_some_iff.mp hi).1
    rwa [traps_len] at this
  by_cases h0 : i = 0
  · subst h0
    have : (trapsM n es (sureM n es k))[0]? = some 0 := rfl
    rw [this] at hi
    cases hi
    rw [Nat.zero_testBit] at hj
    cases hj
  · have e := traps_is hS k (t := (i : Int)) (by omega) (by omega) j
    rw [List.getD_eq_getElem?_getD, show ((i : Int)).toNat = i by omega, hi] at e
    rw [show (some l).getD 0 = l from rfl, hj] at e
    have := allM_mem.mp (List.mem_filter.mp (of_decide_eq_true e.symm)).1
    omega
/-- where to go now -/
def goalsM (n : Nat) (es : List Edge) (k : Nat) (h t : Int) : List Int := ((allM n).filter (trB n es k t)).filter fun x => decide (x ∈ besideM n es h)
theorem goals_mem {n : Nat} {es : List Edge} {k : Nat} {h t g : Int} : g ∈ goalsM n es k h t ↔ g ∈ besideM n es h ∧ trB n es k t g = true := by
  unfold goalsM
  rw [List.mem_filter, List.mem_filter, decide_eq_true_eq, allM_mem]
  constructor
  · rintro ⟨⟨_, b⟩, c⟩; exact ⟨c, b⟩
  · rintro ⟨c, b⟩; exact ⟨⟨besideM_rng c, b⟩, c⟩
theorem goals_none {n : Nat} {es : List Edge} {k : Nat} {h t : Int} : goalsM n es k h t = [] ↔ wB n es (k + 1) h t = false := by
  rw [wB_succ]
  constructor
  · intro e
    rw [List.any_eq_false]
    intro g hg hc
    have : g ∈ goalsM n es k h t := goals_mem.mpr ⟨hg, hc⟩
    rw [e] at this
    cases this
  · intro e
    rw [List.any_eq_false] at e
    apply List.eq_nil_iff_forall_not_mem.mpr
    intro g hg
    have := goals_mem.mp hg
    exact e g this.1 this.2
theorem goals_members {n : Nat} {es : List Edge} (hS : Simp n es) {k : Nat} {h t : Int} (h1 : 1 ≤ h) (h2 : h ≤ n) (t1 : 1 ≤ t) (t2 : t ≤ n) : membersM ((trapsM n es (sureM n es k)).getD t.toNat 0 &&& (nearB n es).getD h.toNat 0) = goalsM n es k h t := by
  obtain ⟨u, hu, hub, hul⟩ := near_lot' hS (p := h.toNat) (by omega) (by omega)
  have e : (nearB n es).getD h.toNat 0 = u := by rw [List.getD_eq_getElem?_getD, hu]; rfl
  rw [e]
  have hl := lot_and (traps_is hS k t1 t2) hul
  rw [show ((h.toNat : Nat) : Int) = h by omega] at hl
  refine members_lot hl (List.Pairwise.filter _ (List.Pairwise.filter _ (allM_lt n))) fun x hx => ?_
  exact (allM_mem.mp (List.mem_filter.mp (List.mem_filter.mp hx).1).1).1
end
/-! piece RG -/
section
/-! ### the list of all places -/
theorem rgV_all (n : Nat) : rgV 1 ((n : Int) + 1) = (allM n).map V.int := by
  unfold rgV allM
  rw [List.map_map, show ((n : Int) + 1 - 1).toNat = n by omega]
  apply List.map_congr_left
  intro i _
  show V.int (1 + (i : Int)) = V.int ((i : Int) + 1)
  rw [Int.add_comm]
end
/-! piece XM -/
section
theorem eqv_ints_dec : ∀ xs ys : List Int, PyData.eqv (.list (xs.map .int)) (.list (ys.map .int)) = decide (xs = ys) := fun xs ys => by
  have h : ∀ xs ys : List Int, PyData.eqvAll (xs.map .int) (ys.map .int) = decide (xs = ys) := fun xs => by
    induction xs with
    | nil => intro ys; cases ys <;> simp [PyData.eqvAll]
    | cons x r ih =>
      intro ys
      cases ys with
      | nil => simp [PyData.eqvAll]
      | cons y q =>
        rw [List.map_cons, List.map_cons, PyData.eqvAll, ih]
        by_cases e : x = y
        · by_cases e2 : r = q <;> simp [PyData.eqv, e, e2]
        · simp [PyData.eqv, e]
  rw [PyData.eqv, h]
end
/-! piece PL -/
section
/-! ### the product, told row by row -/
def rowsM (n : Nat) (es : List Edge) (m a : Nat) : List Int := ((besideM n es ((a : Int) + 1)).filter fun one => decide (((a : Int) + 1) ≤ one)).map fun one => (one - 1) * m
def highsM (n : Nat) (es : List Edge) (m : Nat) (fs : List Edge) (a b : Nat) : List Int :=
  (rowsM n es m a).flatMap fun r => ((besideM m fs ((b : Int) + 1)).filter fun (two : Int) => decide (((a * m + b + 1 : Nat) : Int) < r + two)).map fun two => r + two
def rowE (n : Nat) (es : List Edge) (m : Nat) (fs : List Edge) (a b : Nat) : List Edge := (highsM n es m fs a b).map fun h => (((a * m + b + 1 : Nat) : Int), h)
def prodL (n : Nat) (es : List Edge) (m : Nat) (fs : List Edge) : List Edge := (List.range n).flatMap fun a => (List.range m).flatMap fun b => rowE n es m fs a b
theorem range_mul {α : Type} (m : Nat) (F : Nat → List α) : ∀ n : Nat, (List.range (n * m)).flatMap F = (List.range n).flatMap fun a => (List.range m).flatMap fun b => F (a * m + b)
  | 0 => by simp
  | n + 1 => by
    rw [Nat.succ_mul, List.range_add, List.flatMap_append, range_mul m F n, List.range_succ, List.flatMap_append, List.flatMap_map]
    simp
theorem partsM_get {n m a b : Nat} (ha : a < n) (hb : b < m) : (partsM n m)[a * m + b]? = some ((a : Int) + 1, (b : Int) + 1) := by
  induction n with
  | zero => omega
  | succ n ih =>
    have hs : partsM (n + 1) m = partsM n m ++ (List.range m).map fun (b : Nat) => ((n : Int) + 1, (b : Int) + 1) := by
      unfold partsM
      rw [List.range_succ, List.flatMap_append]
      simp
    rw [hs]
    by_cases h : a < n
    · rw [List.getElem?_append_left ?_]
      · exact ih h
      · rw [partsM_length]
        have : (a + 1) * m ≤ n * m := Nat.mul_le_mul_right m h
        rw [Nat.succ_mul] at this
        omega
    · have e : a = n := by omega
      subst e
      rw [List.getElem?_append_right (by rw [partsM_length]; omega), partsM_length, Nat.add_sub_cancel_left, List.getElem?_map, List.getElem?_range hb]
      rfl
theorem rowsM_lt {n m : Nat} {es : List Edge} {a : Nat} (hm : 1 ≤ m) : (rowsM n es m a).Pairwise fun (x y : Int) => x + (m : Int) ≤ y := by
  unfold rowsM
  rw [List.pairwise_map]
  refine (List.Pairwise.filter _ (besideM_lt n es _)).imp ?_
  intro x y h
  have h1 : x ≤ y - 1 := by omega
  have h2 : x * (m : Int) ≤ (y - 1) * m := Int.mul_le_mul_of_nonneg_right h1 (by omega)
  have h3 : x * (m : Int) = (x - 1) * m + m := by rw [Int.sub_mul]; omega
  omega
theorem highsM_lt {n m : Nat} {es fs : List Edge} {a b : Nat} (hm : 1 ≤ m) (h2 : Simp m fs) (hb : b < m) : (highsM n es m fs a b).Pairwise (· < ·) := by
  unfold highsM
  rw [List.pairwise_flatMap]
  constructor
  · intro r _
    rw [List.pairwise_map]
    refine (List.Pairwise.filter _ (besideM_lt m fs _)).imp ?_
    intro x y h
    omega
  · refine (rowsM_lt hm).imp ?_
    intro r s hrs x hx y hy
    obtain ⟨t, ht, rfl⟩ := List.mem_map.mp hx
    obtain ⟨u, hu, rfl⟩ := List.mem_map.mp hy
    have h3 := (besideM_mem h2 (p := (b : Int) + 1) (by omega) (by omega) t).mp (List.mem_filter.mp ht).1
    have h4 := (besideM_mem h2 (p := (b : Int) + 1) (by omega) (by omega) u).mp (List.mem_filter.mp hu).1
    have h5 : t ≤ m := by
      rcases List.mem_cons.mp h3 with e | e
      · omega
      · exact (mates_rng h2 t e).2.1
    have h6 : 1 ≤ u := by
      rcases List.mem_cons.mp h4 with e | e
      · omega
      · exact (mates_rng h2 u e).1
    omega
theorem mem_highs {n m : Nat} {es fs : List Edge} {a b : Nat} (h1 : Simp n es) (h2 : Simp m fs) (ha : a < n) (hb : b < m) (h : Int) :
    h ∈ highsM n es m fs a b ↔ ∃ c d : Nat, c < n ∧ d < m ∧ h = ((c * m + d + 1 : Nat) : Int) ∧ a * m + b < c * m + d ∧ (c : Int) + 1 ∈ ((a : Int) + 1) :: mates ((a : Int) + 1) es ∧ (d : Int) + 1 ∈ ((b : Int) + 1) :: mates ((b : Int) + 1) fs := by
  unfold highsM rowsM
  rw [List.mem_flatMap]
  constructor
  · rintro ⟨r, hr, hx⟩
    obtain ⟨one, ho, rfl⟩ := List.mem_map.mp hr
    obtain ⟨two, ht, rfl⟩ := List.mem_map.mp hx
    obtain ⟨ho1, ho2⟩ := List.mem_filter.mp ho
    obtain ⟨ht1, ht2⟩ := List.mem_filter.mp ht
    have ho3 := (besideM_mem h1 (p := (a : Int) + 1) (by omega) (by omega) one).mp ho1
    have ht3 := (besideM_mem h2 (p := (b : Int) + 1) (by omega) (by omega) two).mp ht1
    have ht4 := of_decide_eq_true ht2
    have r1 : 1 ≤ one ∧ one ≤ n := by
      rcases List.mem_cons.mp ho3 with e | e
      · omega
      · have := mates_rng h1 _ e; omega
    have r2 : 1 ≤ two ∧ two ≤ m := by
      rcases List.mem_cons.mp ht3 with e | e
      · omega
      · have := mates_rng h2 _ e; omega
    obtain ⟨c, rfl⟩ : ∃ c : Nat, one = (c : Int) + 1 := ⟨(one - 1).toNat, by omega⟩
    obtain ⟨d, rfl⟩ : ∃ d : Nat, two = (d : Int) + 1 := ⟨(two - 1).toNat, by omega⟩
    have e1 : ((c : Int) + 1 - 1) * m = ((c * m : Nat) : Int) := by rw [Int.add_sub_cancel, Int.natCast_mul]
    rw [e1] at ht4 ⊢
    exact ⟨c, d, by omega, by omega, by omega, by omega, ho3, ht3⟩
  · rintro ⟨c, d, hc, hd, rfl, hlt, h3, h4⟩
    have e1 : ((c : Int) + 1 - 1) * m = ((c * m : Nat) : Int) := by rw [Int.add_sub_cancel, Int.natCast_mul]
    have hca : a ≤ c := by
      rcases Nat.lt_or_ge c a with h | h
      · have : (c + 1) * m ≤ a * m := Nat.mul_le_mul_right m h
        rw [Nat.succ_mul] at this
        omega
      · exact h
    refine ⟨((c : Int) + 1 - 1) * m, List.mem_map.mpr ⟨(c : Int) + 1, List.mem_filter.mpr ⟨(besideM_mem h1 (by omega) (by omega) _).mpr h3, decide_eq_true (by omega)⟩, rfl⟩, ?_⟩
    refine List.mem_map.mpr ⟨(d : Int) + 1, List.mem_filter.mpr ⟨(besideM_mem h2 (by omega) (by omega) _).mpr h4, decide_eq_true ?_⟩, ?_⟩
    · rw [e1]; omega
    · rw [e1]; omega
def joinH (es fs : List Edge) (ps : List Edge) (i j : Nat) : Option Int :=
  match ps[i]?, ps[j]? with
  | some x, some y => if i < j ∧ y.1 ∈ x.1 :: mates x.1 es ∧ y.2 ∈ x.2 :: mates x.2 fs then some ((j : Int) + 1) else none
  | _, _ => none
theorem join_high {es fs ps : List Edge} (i j : Nat) : joinM es fs ps i j = (joinH es fs ps i j).map fun h => ((i : Int) + 1, h) := by
  unfold joinM joinH
  cases ps[i]? with
  | none => rfl
  | some x => cases ps[j]? with
    | none => rfl
    | some y =>
      simp only
      split <;> rfl
theorem joinH_lt {es fs ps : List Edge} (i k : Nat) : ((List.range k).filterMap fun j => joinH es fs ps i j).Pairwise (· < ·) := by
  rw [List.pairwise_filterMap]
  refine List.pairwise_lt_range.imp ?_
  intro x y hxy u hu v hv
  have e : ∀ {x : Nat} {u : Int}, joinH es fs ps i x = some u → u = (x : Int) + 1 := by
    intro x u h
    unfold joinH at h
    split at h
    · split at h
      · exact (Option.some.inj h).symm
      · cases h
    · cases h
  rw [e hu, e hv]
  omega
theorem joinH_mem {n m : Nat} {es fs : List Edge} {a b : Nat} (ha : a < n) (hb : b < m) (h : Int) :
    h ∈ ((List.range (n * m)).filterMap fun j => joinH es fs (partsM n m) (a * m + b) j) ↔ ∃ c d : Nat, c < n ∧ d < m ∧ h = ((c * m + d + 1 : Nat) : Int) ∧ a * m + b < c * m + d ∧ (c : Int) + 1 ∈ ((a : Int) + 1) :: mates ((a : Int) + 1) es ∧ (d : Int) + 1 ∈ ((b : Int) + 1) :: mates ((b : Int) + 1) fs := by
  rw [List.mem_filterMap]
  constructor
  · rintro ⟨j, hj, hx⟩
    have hj := List.mem_range.mp hj
    have hm0 : 0 < m := by omega
    have hc : j / m < n := Nat.div_lt_of_lt_mul (by rw [Nat.mul_comm]; exact hj)
    have hd := Nat.mod_lt j hm0
    have hjm : j / m * m + j % m = j := by rw [Nat.mul_comm]; exact Nat.div_add_mod j m
    have hg := partsM_get hc hd
    rw [hjm] at hg
    unfold joinH at hx
    rw [partsM_get ha hb, hg] at hx
    simp only at hx
    split at hx
    · rename_i hif
      have hx := Option.some.inj hx
      exact ⟨j / m, j % m, hc, hd, by omega, by omega, hif.2.1, hif.2.2⟩
    · cases hx
  · rintro ⟨c, d, hc, hd, rfl, hlt, h3, h4⟩
    refine ⟨c * m + d, List.mem_range.mpr ?_, ?_⟩
    · have : (c + 1) * m ≤ n * m := Nat.mul_le_mul_right m hc
      rw [Nat.succ_mul] at this
      omega
    · unfold joinH
      rw [partsM_get ha hb, partsM_get hc hd]
      simp only
      rw [if_pos ⟨hlt, h3, h4⟩]
      congr 1
theorem flatMap_eq {α β : Type} {f g : α → List β} : ∀ {l : List α}, (∀ x ∈ l, f x = g x) → l.flatMap f = l.flatMap g
  | [], _ => rfl
  | x :: l, h => by rw [List.flatMap_cons, List.flatMap_cons, h x (List.mem_cons_self ..), flatMap_eq fun y hy => h y (List.mem_cons_of_mem _ hy)]
theorem filterMap_eq {α β : Type} {f g : α → Option β} : ∀ {l : List α}, (∀ x ∈ l, f x = g x) → l.filterMap f = l.filterMap g
  | [], _ => rfl
  | x :: l, h => by rw [List.filterMap_cons, List.filterMap_cons, h x (List.mem_cons_self ..), filterMap_eq fun y hy => h y (List.mem_cons_of_mem _ hy)]
theorem prodL_eq {n m : Nat} {es fs : List Edge} (h1 : Simp n es) (h2 : Simp m fs) : prodL n es m fs = prodM n es m fs := by
  unfold prodL prodM
  rw [partsM_length, range_mul]
  refine flatMap_eq fun a ha => flatMap_eq fun b hb => ?_
  have ha := List.mem_range.mp ha
  have hb := List.mem_range.mp hb
  unfold rowE
  have e : highsM n es m fs a b = (List.range (n * m)).filterMap fun j => joinH es fs (partsM n m) (a * m + b) j :=
    lt_unique (highsM_lt (by omega) h2 hb) (joinH_lt _ _) fun x => (mem_highs h1 h2 ha hb x).trans (joinH_mem ha hb x).symm
  rw [e, List.map_filterMap]
  refine filterMap_eq fun j _ => ?_
  rw [join_high]
  rfl
end
/-! piece PRm -/
section
/-! ### products: the two parts of a place -/
def p1 (m : Nat) (x : Int) : Int := (x - 1) / m + 1
def p2 (m : Nat) (x : Int) : Int := (x - 1) % m + 1
def cod (m : Nat) (a b : Int) : Int := (a - 1) * m + b
theorem cod_rng {n m : Nat} {a b : Int} (a1 : 1 ≤ a) (a2 : a ≤ n) (b1 : 1 ≤ b) (b2 : b ≤ m) : 1 ≤ cod m a b ∧ cod m a b ≤ ((n * m : Nat) : Int) := by
  unfold cod
  have h1 : 0 ≤ (a - 1) * (m : Int) := Int.mul_nonneg (by omega) (by omega)
  have h2 : (a - 1) * (m : Int) ≤ ((n : Int) - 1) * m := Int.mul_le_mul_of_nonneg_right (by omega) (by omega)
  have h3 : ((n : Int) - 1) * m = (n : Int) * m - m := by rw [Int.sub_mul, Int.one_mul]
  rw [Int.natCast_mul]
  omega
theorem p1_cod {m : Nat} {a b : Int} (b1 : 1 ≤ b) (b2 : b ≤ m) : p1 m (cod m a b) = a := by
  unfold p1 cod
  rw [show (a - 1) * (m : Int) + b - 1 = (b - 1) + (a - 1) * m by omega, Int.add_mul_ediv_right _ _ (by omega), Int.ediv_eq_zero_of_lt (by omega) (by omega)]
  omega
theorem p2_cod {m : Nat} {a b : Int} (b1 : 1 ≤ b) (b2 : b ≤ m) : p2 m (cod m a b) = b := by
  unfold p2 cod
  rw [show (a - 1) * (m : Int) + b - 1 = (b - 1) + (a - 1) * m by omega, Int.add_mul_emod_self_right, Int.emod_eq_of_lt (by omega) (by omega)]
  omega
theorem cod_parts {m : Nat} (x : Int) : cod m (p1 m x) (p2 m x) = x := by
  unfold cod p1 p2
  have := Int.mul_ediv_add_emod (x - 1) m
  rw [Int.mul_comm] at this
  rw [show (x - 1) / (m : Int) + 1 - 1 = (x - 1) / m by omega]
  omega
theorem parts_rng {n m : Nat} (hm : 1 ≤ m) {x : Int} (h1 : 1 ≤ x) (h2 : x ≤ ((n * m : Nat) : Int)) : 1 ≤ p1 m x ∧ p1 m x ≤ n ∧ 1 ≤ p2 m x ∧ p2 m x ≤ m := by
  unfold p1 p2
  have a1 : 0 ≤ (x - 1) / (m : Int) := Int.ediv_nonneg (by omega) (by omega)
  have a2 : (x - 1) / (m : Int) < n := Int.ediv_lt_of_lt_mul (by omega) (by rw [← Int.natCast_mul]; omega)
  have a3 := Int.emod_nonneg (x - 1) (show (m : Int) ≠ 0 by omega)
  have a4 := Int.emod_lt_of_pos (x - 1) (show (0 : Int) < m by omega)
  omega
theorem cod_inj {m : Nat} {a b c d : Int} (b1 : 1 ≤ b) (b2 : b ≤ m) (d1 : 1 ≤ d) (d2 : d ≤ m) (e : cod m a b = cod m c d) : a = c ∧ b = d := by
  have h1 := p1_cod (a := a) b1 b2
  have h2 := p2_cod (a := a) b1 b2
  rw [e, p1_cod d1 d2] at h1
  rw [e, p2_cod d1 d2] at h2
  exact ⟨h1.symm, h2.symm⟩
theorem parts_at {n m i : Nat} (hm : 1 ≤ m) (hi : i < n * m) : (partsM n m)[i]? = some (p1 m ((i : Int) + 1), p2 m ((i : Int) + 1)) := by
  have h1 : i / m < n := Nat.div_lt_of_lt_mul (by rw [Nat.mul_comm]; exact hi)
  have h2 : i % m < m := Nat.mod_lt _ hm
  have e : i / m * m + i % m = i := by rw [Nat.mul_comm]; exact Nat.div_add_mod i m
  have := partsM_get h1 h2
  rw [e] at this
  rw [this]
  unfold p1 p2
  rw [show (i : Int) + 1 - 1 = (i : Int) by omega, Int.natCast_ediv, Int.natCast_emod]
theorem prodM_mem {n m : Nat} {es fs : List Edge} (hm : 1 ≤ m) {x y : Int} : (x, y) ∈ prodM n es m fs ↔ 1 ≤ x ∧ x < y ∧ y ≤ ((n * m : Nat) : Int) ∧ Adj es (p1 m x) (p1 m y) ∧ Adj fs (p2 m x) (p2 m y) := by
  unfold prodM
  rw [List.mem_flatMap]
  constructor
  · rintro ⟨i, hi, h⟩
    obtain ⟨j, hj, h⟩ := List.mem_filterMap.mp h
    have hi := List.mem_range.mp hi
    have hj := List.mem_range.mp hj
    rw [partsM_length] at hi hj
    unfold joinM at h
    rw [parts_at hm hi, parts_at hm hj] at h
    simp only at h
    split at h
    · rename_i hc
      have h := Option.some.inj h
      rw [Prod.mk.injEq] at h
      obtain ⟨rfl, rfl⟩ := h
      exact ⟨by omega, by omega, by omega, hc.2.1, hc.2.2⟩
    · cases h
  · rintro ⟨h1, h2, h3, h4, h5⟩
    refine ⟨x.toNat - 1, List.mem_range.mpr (by rw [partsM_length]; omega), List.mem_filterMap.mpr ⟨y.toNat - 1, List.mem_range.mpr (by rw [partsM_length]; omega), ?_⟩⟩
    unfold joinM
    rw [parts_at hm (by omega), parts_at hm (by omega)]
    have ex : ((x.toNat - 1 : Nat) : Int) + 1 = x := by omega
    have ey : ((y.toNat - 1 : Nat) : Int) + 1 = y := by omega
    rw [ex, ey]
    simp only
    rw [if_pos ⟨by omega, h4, h5⟩]
/-- two places of a product are beside one another just if their parts are -/
theorem adj_prod {n m : Nat} {es fs : List Edge} (hm : 1 ≤ m) {x y : Int} (hx : 1 ≤ x ∧ x ≤ ((n * m : Nat) : Int)) (hy : 1 ≤ y ∧ y ≤ ((n * m : Nat) : Int)) : Adj (prodM n es m fs) x y ↔ Adj es (p1 m x) (p1 m y) ∧ Adj fs (p2 m x) (p2 m y) := by
  unfold Adj
  rw [List.mem_cons, mem_mates, prodM_mem hm, prodM_mem hm]
  constructor
  · rintro (e | h | h)
    · subst e
      exact ⟨adj_refl _ _, adj_refl _ _⟩
    · exact h.2.2.2
    · exact ⟨adj_symm _ _ h.2.2.2.1, adj_symm _ _ h.2.2.2.2⟩
  · rintro ⟨h1, h2⟩
    rcases Int.lt_trichotomy x y with h | h | h
    · exact .inr (.inl ⟨hx.1, h, hy.2, h1, h2⟩)
    · exact .inl h.symm
    · exact .inr (.inr ⟨hy.1, h, hx.2, adj_symm _ _ h1, adj_symm _ _ h2⟩)
theorem prod_simp {n m : Nat} {es fs : List Edge} (hm : 1 ≤ m) : Simp ((n * m : Nat) : Int) (prodM n es m fs) := by
  refine ⟨fun e he => ?_, ?_⟩
  · have := (prodM_mem (x := e.1) (y := e.2) hm).mp he
    omega
  · have hlt : (prodM n es m fs).Pairwise fun a b => a.1 < b.1 ∨ (a.1 = b.1 ∧ a.2 < b.2) := by
      unfold prodM
      rw [List.pairwise_flatMap]
      refine ⟨fun i _ => ?_, ?_⟩
      · rw [List.pairwise_filterMap]
        refine List.pairwise_lt_range.imp fun {j k} hjk x hx y hy => ?_
        unfold joinM at hx hy
        split at hx
        · split at hx
          · split at hy
            · split at hy
              · cases Option.some.inj hx
                cases Option.some.inj hy
                exact .inr ⟨rfl, by simp; omega⟩
              · cases hy
            · cases hy
          · cases hx
        · cases hx
      · refine List.pairwise_lt_range.imp fun {i k} hik x hx y hy => ?_
        obtain ⟨j, _, hx⟩ := List.mem_filterMap.mp hx
        obtain ⟨j2, _, hy⟩ := List.mem_filterMap.mp hy
        unfold joinM at hx hy
        split at hx
        · split at hx
          · split at hy
            · split at hy
              · cases Option.some.inj hx
                cases Option.some.inj hy
                exact .inl (by simp; omega)
              · cases hy
            · cases hy
          · cases hx
        · cases hx
    refine hlt.imp_of_mem fun {a b} ha hb h => ?_
    have ha := (prodM_mem (x := a.1) (y := a.2) hm).mp ha
    have hb := (prodM_mem (x := b.1) (y := b.2) hm).mp hb
    refine ⟨fun e => ?_, fun e => ?_⟩
    · subst e; omega
    · have e1 := congrArg Prod.fst e
      have e2 := congrArg Prod.snd e
      simp only at e1 e2
      omega
end
/-! piece MP -/
section
/-! ### products of lots -/
def prodS (m : Nat) (S T : List Int) : List Int := S.flatMap fun a => T.map fun b => cod m a b
def SubM (es : List Edge) (S : List Int) (a b : Int) : Prop := ∀ z ∈ S, Adj es a z → Adj es b z
theorem prodS_mem {n m : Nat} {S T : List Int} (hS : InNet n S) (hT : InNet m T) (x : Int) : x ∈ prodS m S T ↔ p1 m x ∈ S ∧ p2 m x ∈ T := by
  unfold prodS
  rw [List.mem_flatMap]
  constructor
  · rintro ⟨a, ha, h⟩
    obtain ⟨b, hb, rfl⟩ := List.mem_map.mp h
    have hbr := hT.rng b hb
    rw [p1_cod hbr.1 hbr.2, p2_cod hbr.1 hbr.2]
    exact ⟨ha, hb⟩
  · rintro ⟨ha, hb⟩
    exact ⟨_, ha, List.mem_map.mpr ⟨_, hb, cod_parts x⟩⟩
theorem prodS_cod {n m : Nat} {S T : List Int} (hS : InNet n S) (hT : InNet m T) {a b : Int} (ha : a ∈ S) (hb : b ∈ T) : cod m a b ∈ prodS m S T :=
  List.mem_flatMap.mpr ⟨a, ha, List.mem_map.mpr ⟨b, hb, rfl⟩⟩
theorem cod_lt {m : Nat} {a b c d : Int} (h : a < c) (hb : b ≤ m) (hd : 1 ≤ d) : cod m a b < cod m c d := by
  unfold cod
  have h1 : (a - 1 + 1) * (m : Int) ≤ (c - 1) * m := Int.mul_le_mul_of_nonneg_right (by omega) (by omega)
  rw [Int.add_mul, Int.one_mul] at h1
  omega
theorem prodS_net {n m : Nat} {S T : List Int} (hS : InNet n S) (hT : InNet m T) : InNet (n * m) (prodS m S T) := by
  constructor
  · unfold prodS
    rw [List.pairwise_flatMap]
    constructor
    · intro a _
      rw [List.pairwise_map]
      refine hT.lt.imp ?_
      intro x y h
      unfold cod
      omega
    · refine hS.lt.imp ?_
      intro a c h x hx y hy
      obtain ⟨b, hb, rfl⟩ := List.mem_map.mp hx
      obtain ⟨d, hd, rfl⟩ := List.mem_map.mp hy
      exact cod_lt h (hT.rng b hb).2 (hT.rng d hd).1
  · intro x hx
    obtain ⟨a, ha, h⟩ := List.mem_flatMap.mp hx
    obtain ⟨b, hb, rfl⟩ := List.mem_map.mp h
    have h1 := hS.rng a ha
    have h2 := hT.rng b hb
    exact cod_rng h1.1 h1.2 h2.1 h2.2
theorem all_prod {n m : Nat} (hm : 1 ≤ m) : allM (n * m) = prodS m (allM n) (allM m) := by
  refine lt_unique (allM_lt _) (prodS_net (inNet_all n) (inNet_all m)).lt fun x => ?_
  rw [allM_mem, prodS_mem (inNet_all n) (inNet_all m), allM_mem, allM_mem]
  constructor
  · rintro ⟨h1, h2⟩
    have := parts_rng hm h1 h2
    omega
  · rintro ⟨⟨a1, a2⟩, b1, b2⟩
    have := cod_rng (n := n) (m := m) a1 a2 b1 b2
    rwa [cod_parts] at this
theorem prodS_len {m : Nat} (S T : List Int) : (prodS m S T).length = S.length * T.length := by
  unfold prodS
  induction S with
  | nil => simp
  | cons a S ih =>
    rw [List.flatMap_cons, List.length_append, ih, List.length_map, List.length_cons, Nat.succ_mul, Nat.add_comm]
theorem sub_prod {n m : Nat} {es fs : List Edge} {S T : List Int} (hm : 1 ≤ m) (hS : InNet n S) (hT : InNet m T) {p q : Int} (hp : p ∈ prodS m S T) (hq : q ∈ prodS m S T) :
    SubM (prodM n es m fs) (prodS m S T) p q ↔ SubM es S (p1 m p) (p1 m q) ∧ SubM fs T (p2 m p) (p2 m q) := by
  have hI := prodS_net hS hT
  have hpr := hI.rng p hp
  have hqr := hI.rng q hq
  obtain ⟨pa, pb⟩ := (prodS_mem hS hT p).mp hp
  have hb := hT.rng _ pb
  constructor
  · intro h
    constructor
    · intro z hz ha
      have hm2 := prodS_cod (m := m) hS hT hz pb
      have hr := hI.rng _ hm2
      have := h _ hm2 ((adj_prod hm hpr hr).mpr (by rw [p1_cod hb.1 hb.2, p2_cod hb.1 hb.2]; exact ⟨ha, adj_refl _ _⟩))
      rw [adj_prod hm hqr hr, p1_cod hb.1 hb.2, p2_cod hb.1 hb.2] at this
      exact this.1
    · intro z hz ha
      have hzr := hT.rng _ hz
      have hm2 := prodS_cod (m := m) hS hT pa hz
      have hr := hI.rng _ hm2
      have := h _ hm2 ((adj_prod hm hpr hr).mpr (by rw [p1_cod hzr.1 hzr.2, p2_cod hzr.1 hzr.2]; exact ⟨adj_refl _ _, ha⟩))
      rw [adj_prod hm hqr hr, p1_cod hzr.1 hzr.2, p2_cod hzr.1 hzr.2] at this
      exact this.2
  · rintro ⟨h1, h2⟩ z hz ha
    obtain ⟨za, zb⟩ := (prodS_mem hS hT z).mp hz
    rw [adj_prod hm hpr (hI.rng _ hz)] at ha
    exact (adj_prod hm hqr (hI.rng _ hz)).mpr ⟨h1 _ za ha.1, h2 _ zb ha.2⟩
theorem onto_iff {es : List Edge} {S : List Int} {p q : Int} (hp : p ∈ S) : q ∈ ontoM es S p ↔ q ∈ S ∧ q ≠ p ∧ SubM es S p q := by
  rw [ontoM_mem hp]
  unfold StepOk
  exact ⟨fun ⟨_, h2, h3, h4⟩ => ⟨h2, fun e => h3 e.symm, h4⟩, fun ⟨h2, h3, h4⟩ => ⟨hp, h2, fun e => h3 e.symm, h4⟩⟩
theorem first_iff {es : List Edge} {S : List Int} {p q : Int} (hp : p ∈ S) : q ∈ p :: ontoM es S p ↔ q ∈ S ∧ SubM es S p q := by
  rw [List.mem_cons, onto_iff hp]
  constructor
  · rintro (e | ⟨h1, _, h2⟩)
    · rw [e]
      exact ⟨hp, fun _ _ h => h⟩
    · exact ⟨h1, h2⟩
  · rintro ⟨h1, h2⟩
    by_cases e : q = p
    · exact .inl e
    · exact .inr ⟨h1, e, h2⟩
/-- in a product a place folds just where its parts do, or one of them and the other stays -/
theorem folds_prod {n m : Nat} {es fs : List Edge} {S T : List Int} (hm : 1 ≤ m) (hS : InNet n S) (hT : InNet m T) {p q : Int} (hp : p ∈ prodS m S T) (hq : q ∈ prodS m S T) :
    q ∈ ontoM (prodM n es m fs) (prodS m S T) p ↔ q ≠ p ∧ p1 m q ∈ p1 m p :: ontoM es S (p1 m p) ∧ p2 m q ∈ p2 m p :: ontoM fs T (p2 m p) := by
  obtain ⟨pa, pb⟩ := (prodS_mem hS hT p).mp hp
  obtain ⟨qa, qb⟩ := (prodS_mem hS hT q).mp hq
  rw [onto_iff hp, first_iff pa, first_iff pb, sub_prod hm hS hT hp hq]
  exact ⟨fun ⟨_, h2, h3, h4⟩ => ⟨h2, ⟨qa, h3⟩, qb, h4⟩, fun ⟨h2, ⟨_, h3⟩, _, h4⟩ => ⟨hq, h2, h3, h4⟩⟩
theorem foldable_nil {es : List Edge} {S : List Int} : foldableM es S = [] ↔ ∀ p ∈ S, ontoM es S p = [] := by
  unfold foldableM
  rw [List.filter_eq_nil_iff]
  exact ⟨fun h p hp => by simpa using h p hp, fun h p hp => by simpa using h p hp⟩
theorem stiff_prod {n m : Nat} {es fs : List Edge} {S T : List Int} (hm : 1 ≤ m) (hS : InNet n S) (hT : InNet m T) (h1 : foldableM es S = []) (h2 : foldableM fs T = []) : foldableM (prodM n es m fs) (prodS m S T) = [] := by
  rw [foldable_nil] at h1 h2 ⊢
  intro p hp
  obtain ⟨pa, pb⟩ := (prodS_mem hS hT p).mp hp
  refine List.eq_nil_iff_forall_not_mem.mpr fun q hq => ?_
  have hqm := ((onto_iff hp).mp hq).1
  obtain ⟨hne, ha, hb⟩ := (folds_prod hm hS hT hp hqm).mp hq
  rw [h1 _ pa, List.mem_singleton] at ha
  rw [h2 _ pb, List.mem_singleton] at hb
  apply hne
  rw [← cod_parts (m := m) q, ha, hb, cod_parts]
/-! ### rounds of a product -/
theorem goes_prod {n m : Nat} {es fs : List Edge} {S T : List Int} (hm : 1 ≤ m) (hS : InNet n S) (hT : InNet m T) {x : Int} (hx : x ∈ prodS m S T) :
    (∃ q ∈ prodS m S T, (∃ z ∈ prodS m S T, Adj (prodM n es m fs) q z ∧ ¬ Adj (prodM n es m fs) x z) ∧ SubM (prodM n es m fs) (prodS m S T) x q) ↔
      (∃ c ∈ S, (∃ z ∈ S, Adj es c z ∧ ¬ Adj es (p1 m x) z) ∧ SubM es S (p1 m x) c) ∨ (∃ d ∈ T, (∃ z ∈ T, Adj fs d z ∧ ¬ Adj fs (p2 m x) z) ∧ SubM fs T (p2 m x) d) := by
  have hI := prodS_net hS hT
  have hxr := hI.rng x hx
  obtain ⟨xa, xb⟩ := (prodS_mem hS hT x).mp hx
  have hxb := hT.rng _ xb
  constructor
  · rintro ⟨q, hq, ⟨z, hz, h1, h2⟩, h3⟩
    obtain ⟨qa, qb⟩ := (prodS_mem hS hT q).mp hq
    obtain ⟨za, zb⟩ := (prodS_mem hS hT z).mp hz
    have hzr := hI.rng z hz
    rw [adj_prod hm (hI.rng q hq) hzr] at h1
    rw [adj_prod hm hxr hzr] at h2
    obtain ⟨s1, s2⟩ := (sub_prod hm hS hT hx hq).mp h3
    by_cases hc : Adj es (p1 m x) (p1 m z)
    · exact .inr ⟨_, qb, ⟨_, zb, h1.2, fun h => h2 ⟨hc, h⟩⟩, s2⟩
    · exact .inl ⟨_, qa, ⟨_, za, h1.1, hc⟩, s1⟩
  · rintro (⟨c, hc, ⟨z, hz, h1, h2⟩, h3⟩ | ⟨d, hd, ⟨z, hz, h1, h2⟩, h3⟩)
    · have mq := prodS_cod (m := m) hS hT hc xb
      have mz := prodS_cod (m := m) hS hT hz xb
      refine ⟨_, mq, ⟨_, mz, ?_, ?_⟩, ?_⟩
      · rw [adj_prod hm (hI.rng _ mq) (hI.rng _ mz), p1_cod hxb.1 hxb.2, p2_cod hxb.1 hxb.2, p1_cod hxb.1 hxb.2, p2_cod hxb.1 hxb.2]
        exact ⟨h1, adj_refl _ _⟩
      · rw [adj_prod hm hxr (hI.rng _ mz), p1_cod hxb.1 hxb.2]
        exact fun h => h2 h.1
      · rw [sub_prod hm hS hT hx mq, p1_cod hxb.1 hxb.2, p2_cod hxb.1 hxb.2]
        exact ⟨h3, fun _ _ h => h⟩
    · have hdr := hT.rng _ hd
      have hzr := hT.rng _ hz
      have mq := prodS_cod (m := m) hS hT xa hd
      have mz := prodS_cod (m := m) hS hT xa hz
      refine ⟨_, mq, ⟨_, mz, ?_, ?_⟩, ?_⟩
      · rw [adj_prod hm (hI.rng _ mq) (hI.rng _ mz), p1_cod hdr.1 hdr.2, p2_cod hdr.1 hdr.2, p1_cod hzr.1 hzr.2, p2_cod hzr.1 hzr.2]
        exact ⟨adj_refl _ _, h1⟩
      · rw [adj_prod hm hxr (hI.rng _ mz), p2_cod hzr.1 hzr.2]
        exact fun h => h2 h.2
      · rw [sub_prod hm hS hT hx mq, p1_cod hdr.1 hdr.2, p2_cod hdr.1 hdr.2]
        exact ⟨fun _ _ h => h, h3⟩
theorem rest_prod {n m : Nat} {es fs : List Edge} {S T : List Int} (hm : 1 ≤ m) (hS : InNet n S) (hT : InNet m T) : restM (prodM n es m fs) (prodS m S T) = prodS m (restM es S) (restM fs T) := by
  refine lt_unique (restM_lt (prodS_net hS hT).lt) (prodS_net hS.rest hT.rest).lt fun x => ?_
  rw [restM_mem, prodS_mem hS.rest hT.rest, restM_mem, restM_mem]
  constructor
  · rintro ⟨hx, h⟩
    obtain ⟨xa, xb⟩ := (prodS_mem hS hT x).mp hx
    have hg := goes_prod (n := n) (es := es) (fs := fs) hm hS hT hx
    exact ⟨⟨xa, fun h2 => h (hg.mpr (.inl h2))⟩, xb, fun h2 => h (hg.mpr (.inr h2))⟩
  · rintro ⟨⟨xa, h1⟩, xb, h2⟩
    have hx := (prodS_mem hS hT x).mpr ⟨xa, xb⟩
    have hg := goes_prod (n := n) (es := es) (fs := fs) hm hS hT hx
    exact ⟨hx, fun h => (hg.mp h).elim h1 h2⟩
theorem round_prod {n m : Nat} {es fs : List Edge} {S T : List Int} (hm : 1 ≤ m) (hS : InNet n S) (hT : InNet m T) : ∀ k, roundM (prodM n es m fs) (prodS m S T) k = prodS m (roundM es S k) (roundM fs T k)
  | 0 => rfl
  | k + 1 => by
    show restM _ (roundM _ _ k) = prodS m (restM es (roundM es S k)) (restM fs (roundM fs T k))
    rw [round_prod hm hS hT k, rest_prod hm (hS.round k) (hT.round k)]
theorem mid_prod {n m : Nat} {es fs : List Edge} (hm : 1 ≤ m) : midM (n * m) (prodM n es m fs) = prodS m (midM n es) (midM m fs) := by
  unfold midM
  rw [all_prod hm, round_prod hm (inNet_all n) (inNet_all m)]
/-! ### a run of the product out of two runs -/
theorem RunL.append {es : List Edge} {S T R : List Int} {l l2 : List Edge} (r : RunL es S l T) (r2 : RunL es T l2 R) : RunL es S (l ++ l2) R := by
  induction r with
  | nil left => exact r2
  | cons hp hq r ih => exact .cons hp hq (ih r2)
theorem run_many {es : List Edge} (y : Int → Int) : ∀ (xs S : List Int), xs.Nodup → (∀ x ∈ xs, x ∈ S ∧ y x ∈ S ∧ y x ∉ xs ∧ SubM es S x (y x)) → ∃ L : List Edge, L.map (·.1) = xs ∧ RunL es S L (S.filter fun z => decide (z ∉ xs))
  | [], S, _, _ => ⟨[], rfl, by rw [List.filter_eq_self.mpr (fun _ _ => by simp)]; exact .nil S⟩
  | x :: xs, S, nd, h => by
    have hnd := List.nodup_cons.mp nd
    obtain ⟨h1, h2, h3, h4⟩ := h x (List.mem_cons_self ..)
    obtain ⟨L, hL, hr⟩ := run_many y xs (without S x) hnd.2 fun x' hx' => by
      obtain ⟨k1, k2, k3, k4⟩ := h x' (List.mem_cons_of_mem _ hx')
      rw [List.mem_cons, not_or] at k3
      exact ⟨without_mem.mpr ⟨k1, fun e => hnd.1 (e ▸ hx')⟩, without_mem.mpr ⟨k2, k3.1⟩, k3.2, fun z hz => k4 z (without_mem.mp hz).1⟩
    refine ⟨(x, y x) :: L, by rw [List.map_cons, hL], .cons h1 ((onto_iff h1).mpr ⟨h2, fun e => h3 (by rw [e]; exact List.mem_cons_self ..), h4⟩) ?_⟩
    have e : (without S x).filter (fun z => decide (z ∉ xs)) = S.filter fun z => decide (z ∉ x :: xs) := by
      unfold without
      rw [List.filter_filter]
      refine List.filter_congr fun z _ => ?_
      by_cases e1 : z = x <;> by_cases e2 : z ∈ xs <;> simp [e1, e2]
    rw [← e]
    exact hr
theorem run_rows {n m : Nat} {es fs : List Edge} {T : List Int} (hm : 1 ≤ m) (hT : InNet m T) {S left : List Int} {l : List Edge} (r : RunL es S l left) :
    InNet n S → ∃ L : List Edge, L.map (·.1) = (l.flatMap fun e => T.map fun b => cod m e.1 b) ∧ RunL (prodM n es m fs) (prodS m S T) L (prodS m left T) := by
  induction r with
  | nil left => exact fun _ => ⟨[], rfl, .nil _⟩
  | @cons S left p q l hp hq r ih =>
    intro hS
    have hS2 := hS.without p
    obtain ⟨L2, e2, r2⟩ := ih hS2
    obtain ⟨hq1, hq2, hq3⟩ := (onto_iff hp).mp hq
    obtain ⟨L1, e1, r1⟩ := run_many (es := prodM n es m fs) (fun x => cod m q (p2 m x)) (T.map fun b => cod m p b) (prodS m S T) (by
        rw [List.Nodup, List.pairwise_map]
        refine hT.lt.imp ?_
        intro a b h e
        unfold cod at e
        omega) (fun x hx => by
        obtain ⟨b, hb, rfl⟩ := List.mem_map.mp hx
        have hbr := hT.rng b hb
        have mx := prodS_cod (m := m) hS hT hp hb
        have my := prodS_cod (m := m) hS hT hq1 hb
        rw [p2_cod hbr.1 hbr.2]
        refine ⟨mx, my, fun h => ?_, ?_⟩
        · obtain ⟨b2, hb2, e⟩ := List.mem_map.mp h
          have hbr2 := hT.rng b2 hb2
          exact hq2 (cod_inj hbr2.1 hbr2.2 hbr.1 hbr.2 e).1.symm
        · rw [sub_prod hm hS hT mx my, p1_cod hbr.1 hbr.2, p2_cod hbr.1 hbr.2, p1_cod hbr.1 hbr.2, p2_cod hbr.1 hbr.2]
          exact ⟨hq3, fun _ _ h => h⟩)
    have e : (prodS m S T).filter (fun z => decide (z ∉ T.map fun b => cod m p b)) = prodS m (Fo.without S p) T := by
      refine lt_unique (List.Pairwise.filter _ (prodS_net hS hT).lt) (prodS_net hS2 hT).lt fun x => ?_
      rw [List.mem_filter, decide_eq_true_eq, prodS_mem hS hT, prodS_mem hS2 hT, without_mem]
      constructor
      · rintro ⟨⟨h1, h2⟩, h3⟩
        exact ⟨⟨h1, fun e => h3 (List.mem_map.mpr ⟨_, h2, by rw [← e, cod_parts]⟩)⟩, h2⟩
      · rintro ⟨⟨h1, h2⟩, h3⟩
        refine ⟨⟨h1, h3⟩, fun h => ?_⟩
        obtain ⟨b, hb, e⟩ := List.mem_map.mp h
        have hbr := hT.rng b hb
        apply h2
        rw [← e, p1_cod hbr.1 hbr.2]
    rw [e] at r1
    exact ⟨L1 ++ L2, by rw [List.map_append, e1, e2, List.flatMap_cons], r1.append r2⟩
theorem run_cols {n m : Nat} {es fs : List Edge} {S : List Int} (hm : 1 ≤ m) (hS : InNet n S) {T left : List Int} {l : List Edge} (r : RunL fs T l left) :
    InNet m T → ∃ L : List Edge, L.map (·.1) = (l.flatMap fun e => S.map fun a => cod m a e.1) ∧ RunL (prodM n es m fs) (prodS m S T) L (prodS m S left) := by
  induction r with
  | nil left => exact fun _ => ⟨[], rfl, .nil _⟩
  | @cons T left p q l hp hq r ih =>
    intro hT
    have hT2 := hT.without p
    obtain ⟨L2, e2, r2⟩ := ih hT2
    obtain ⟨hq1, hq2, hq3⟩ := (onto_iff hp).mp hq
    have hpr := hT.rng p hp
    have hqr := hT.rng q hq1
    obtain ⟨L1, e1, r1⟩ := run_many (es := prodM n es m fs) (fun x => cod m (p1 m x) q) (S.map fun a => cod m a p) (prodS m S T) (by
        rw [List.Nodup, List.pairwise_map]
        refine hS.lt.imp ?_
        intro a b h e
        have := (cod_inj hpr.1 hpr.2 hpr.1 hpr.2 e).1
        omega) (fun x hx => by
        obtain ⟨a, ha, rfl⟩ := List.mem_map.mp hx
        have mx := prodS_cod (m := m) hS hT ha hp
        have my := prodS_cod (m := m) hS hT ha hq1
        rw [p1_cod hpr.1 hpr.2]
        refine ⟨mx, my, fun h => ?_, ?_⟩
        · obtain ⟨a2, ha2, e⟩ := List.mem_map.mp h
          exact hq2 (cod_inj hpr.1 hpr.2 hqr.1 hqr.2 e).2.symm
        · rw [sub_prod hm hS hT mx my, p1_cod hpr.1 hpr.2, p2_cod hpr.1 hpr.2, p1_cod hqr.1 hqr.2, p2_cod hqr.1 hqr.2]
          exact ⟨fun _ _ h => h, hq3⟩)
    have e : (prodS m S T).filter (fun z => decide (z ∉ S.map fun a => cod m a p)) = prodS m S (Fo.without T p) := by
      refine lt_unique (List.Pairwise.filter _ (prodS_net hS hT).lt) (prodS_net hS hT2).lt fun x => ?_
      rw [List.mem_filter, decide_eq_true_eq, prodS_mem hS hT, prodS_mem hS hT2, without_mem]
      constructor
      · rintro ⟨⟨h1, h2⟩, h3⟩
        exact ⟨h1, h2, fun e => h3 (List.mem_map.mpr ⟨_, h1, by rw [← e, cod_parts]⟩)⟩
      · rintro ⟨h1, h2, h3⟩
        refine ⟨⟨h1, h2⟩, fun h => ?_⟩
        obtain ⟨a, ha, e⟩ := List.mem_map.mp h
        apply h3
        rw [← e, p2_cod hpr.1 hpr.2]
    rw [e] at r1
    exact ⟨L1 ++ L2, by rw [List.map_append, e1, e2, List.flatMap_cons], r1.append r2⟩
/-- each end of a product's nets, together, comes of an order of the product -/
theorem run_prod {n m : Nat} {es fs l k : List Edge} {S T : List Int} (hm : 1 ≤ m) (r1 : RunL es (allM n) l S) (r2 : RunL fs (allM m) k T) :
    ∃ L : List Edge, L.map (·.1) = (l.flatMap fun e => (allM m).map fun b => cod m e.1 b) ++ (k.flatMap fun e => S.map fun a => cod m a e.1) ∧ RunL (prodM n es m fs) (allM (n * m)) L (prodS m S T) := by
  obtain ⟨L1, e1, q1⟩ := run_rows (n := n) (fs := fs) hm (inNet_all m) r1 (inNet_all n)
  obtain ⟨L2, e2, q2⟩ := run_cols (n := n) (es := es) hm ((inNet_all n).run r1) r2 (inNet_all m)
  exact ⟨L1 ++ L2, by rw [List.map_append, e1, e2], by rw [all_prod hm]; exact q1.append q2⟩
end
/-! piece CG -/
section
/-- a def of the text whose run has no repr under way -/
structure CalG (P : Program) (w : World) (K : PySem.W.Frag) (mg : Str → Option Value) (base : Heap) (x : Str) (k : Nat) (ps : List Str) (sp : Sp) : Prop where
  ex : ∃ (f : Addr) (fd : FuncData), FnG P w K mg base CX0 k f fd ps sp ∧ mg x = some (.ref f) ∧ PySem.W.keepIn K (.ref f) = true ∧ Binds K fd ps []
section
variable {X : Cx} {x : Str} {p pos : Pos} {e : Expr} {es : List Expr} {t : TA} {k j : Nat} {ps : List Str} {sp : Sp}
theorem pe_calG (C : CalG X.prog X.w X.K X.mg X.base x k ps sp) (hr : Room j X.A) (hkj : k ≤ j) (hgd : X.A.guards = some []) (hg : Gl X x) (ha : PA X (e :: es) t)
    (hdb : (x == ("__debug__" : Str)) = false := by decide)
    (he : starEach (e :: es) X.env = (false, eval e X.env) :: starEach es X.env := by rfl)
    (hpl : (backTo pos (starEach es X.env)).any (·.1) = false := by rfl) :
    PE X (.Call (.Name x p) (e :: es) [] pos) (tCall sp [] E0 t) := by
  obtain ⟨f, fd, F, hm, hk, hb⟩ := C.ex
  exact Fo.pe_callG F (hr.mono hkj) hgd hg hm hk hb .nil pass0 ha hdb he hpl
end
def g4 {α : Type} : List α → List α → List α := fun us ws => match us, ws with
  | [], [a, b, c, d] => [d, c, b, a]
  | _, _ => []
end
/-! piece XMx -/
section
theorem call_maxK {X : Cx} {K : PySem.W.Frag} (_ : KMark K) (h : X.K = K) (hc : X.calm = true) : CallR X (.builtin "max") (rMax K) := h ▸ cr_max hc
end
/-! piece LP -/
section
/-- a comprehension of new pairs -/
theorem lc_prs {K : PySem.W.Frag} {a : Addr} {xs : List Int} {i : Nat} {te : TE} {vs : List Nat} {σ : Sl} {H1 : Hp} {D : Addr} {Qd : Hp → Prop} (f : Int → Edge)
    (hl : SqL K H1 a (xs.map V.int)) (nD : H1 D = none) (hn : xs.length ≤ 10000) (hw : ∀ v, wipe ((wipe σ vs).set i (some v)) vs = wipe σ vs)
    (he : ∀ x ∈ xs, ∀ H2, Same H1 H2 → ∀ R : V → Hp → Prop, (∀ H3 r, Same H2 H3 → H3 r = none → R (.ref r) (upd H3 r (.lst [.int (f x).1, .int (f x).2]))) → te ((wipe σ vs).set i (some (.int x))) H2 R)
    (hd : ∀ H2 rs, Same H1 H2 → PsF H1 H2 D rs (xs.map f) → Qd H2) :
    ∃ W : Nat → Nat → Hp → Prop, (∃ m, W 0 m (upd H1 D (.lst []))) ∧ ∀ i' m H, W i' m H →
      ((Itl K a).stop i' H ∧ Qd H) ∨ ((Itl K a).go i' H ∧ ∃ Nx : Hp → Prop, (∀ H', Nx H' → ∃ m', m' < m ∧ W (i' + 1) m' H') ∧ ∀ x H', (Itl K a).yld i' H x H' → gName i x (wipe σ vs) H' fun σ2 H2 => wipe σ2 vs = wipe σ vs ∧ tYes σ2 H2 fun b H3 =>
        if b = true then te σ2 H3 fun y H4 => ∃ acc, H4 D = some (.lst acc) ∧ acc.length < sizeLine ∧ Nx (upd H4 D (.lst (acc ++ [y]))) else Nx H3) := by
  refine lc_list (K := K) (xs := xs.map V.int) (fun j H2 => Same H1 H2 ∧ ∃ rs, PsF H1 H2 D rs ((xs.take j).map f)) ⟨same_upd (Same.refl _) nD, [], PsAt.nil upd_same, List.nodup_nil, fun r h => nomatch h⟩ ?_ ?_ ?_
  · rintro j H2 _ ⟨sm, _⟩
    exact sm.seq hl
  · rintro j x H2 hx ⟨sm, rs, hP⟩
    rw [List.getElem?_map] at hx
    cases hv : xs[j]? with
    | none => rw [hv] at hx; cases hx
    | some y =>
      rw [hv] at hx
      cases hx
      have hm := List.mem_of_getElem? hv
      have htk : xs.take (j + 1) = xs.take j ++ [y] := by rw [List.take_add_one, hv]; rfl
      refine ⟨hw _, ?_⟩
      refine he y hm H2 sm _ fun H3 r sm3 nr => ?_
      have hP3 : PsF H1 H3 D rs ((xs.take j).map f) := ⟨hP.ps.same sm3, hP.nd, hP.fr⟩
      have s3 := sm.trans sm3
      refine ⟨_, (upd_ne (ne_of_none hP3.ps.hD nr)).trans hP3.ps.hD, ?_, same_upd (same_upd s3 (s3.free nr)) nD, rs ++ [r], ?_⟩
      · rw [List.length_map, hP3.ps.len, List.length_map]
        exact Nat.lt_of_le_of_lt (Nat.le_trans (by rw [List.length_take]; exact Nat.min_le_right _ _) hn) (by decide)
      · rw [htk, List.map_append]
        exact hP3.push nr (s3.free nr) (f y)
  · rintro H2 ⟨sm, rs, hP⟩
    rw [List.length_map, List.take_length] at hP
    exact hd H2 rs sm hP
end
/-! piece D9p -/
section
theorem prodM_rng {n m : Nat} {es fs : List Edge} {e : Edge} (h : e ∈ prodM n es m fs) : 1 ≤ e.1 ∧ e.1 ≤ (n * m : Nat) ∧ 1 ≤ e.2 ∧ e.2 ≤ (n * m : Nat) := by
  unfold prodM at h
  obtain ⟨i, hi, h2⟩ := List.mem_flatMap.mp h
  obtain ⟨j, hj, h3⟩ := List.mem_filterMap.mp h2
  have hi' := List.mem_range.mp hi
  have hj' := List.mem_range.mp hj
  rw [partsM_length] at hi' hj'
  unfold joinM at h3
  split at h3
  · split at h3
    · cases h3
      simp only
      omega
    · cases h3
  · cases h3
theorem prodM_length {n m : Nat} {es fs : List Edge} (h : n * m ≤ 12) : (prodM n es m fs).length ≤ 144 := by
  unfold prodM
  have h1 : ∀ k, ((List.range k).flatMap fun i => (List.range (partsM n m).length).filterMap fun j => joinM es fs (partsM n m) i j).length ≤ 12 * k := fun k => by
    induction k with
    | zero => simp
    | succ k ih =>
      rw [range_flat, List.length_append]
      have : ((List.range (partsM n m).length).filterMap fun j => joinM es fs (partsM n m) k j).length ≤ 12 := by
        refine Nat.le_trans (List.length_filterMap_le ..) ?_
        rw [List.length_range, partsM_length]
        exact h
      omega
  have := h1 (partsM n m).length
  rw [partsM_length] at this ⊢
  omega
theorem dok_nets {es fs : List Edge} (h1 : es.length ≤ 200) (h2 : fs.length ≤ 200) (a : ∀ e ∈ es, e.1.natAbs < 1000 ∧ e.2.natAbs < 1000) (b : ∀ e ∈ fs, e.1.natAbs < 1000 ∧ e.2.natAbs < 1000) : DOk 3 10000 (.list [dE es, dE fs]) := by
  refine (dok_list (n := 2) (b := 4410) (xs := [dE es, dE fs]) (fun x hx => ?_)).mono (Nat.le_refl _) (by simp)
  simp only [List.mem_cons, List.not_mem_nil, or_false] at hx
  rcases hx with rfl | rfl
  · exact (dok_dE a).mono (Nat.le_refl _) (by omega)
  · exact (dok_dE b).mono (Nat.le_refl _) (by omega)
/-! ### the product's promise, as the law asks it -/
@[irreducible] def spProd : Sp := fun vs H Q _ => ∃ (q1 q2 : Addr) (n m : Nat) (es fs : List Edge), vs = [.int n, .ref q1, .int m, .ref q2] ∧ 1 ≤ n ∧ 1 ≤ m ∧ n * m ≤ 12 ∧ n ≤ 12 ∧ m ≤ 12 ∧ Pairs H q1 es ∧ Simp n es ∧ es.length ≤ 200 ∧ Pairs H q2 fs ∧ Simp m fs ∧ fs.length ≤ 200 ∧
  ∀ p l rs H', Same H H' → H p = none → H l = none → H' p = some (.tup [.int (n * m : Nat), .ref l]) → PsAt H' l rs (prodM n es m fs) → rs.Nodup → (∀ r ∈ rs, H r = none) → Q (.ref p) H'
theorem call_prod {q1 q2 : Addr} {n m : Nat} {es fs : List Edge} {H : Hp} {Q : VK} {E : XK} (h1 : 1 ≤ n) (h2 : 1 ≤ m) (h3 : n * m ≤ 12) (h4 : n ≤ 12) (h5 : m ≤ 12) (a1 : Pairs H q1 es) (a2 : Simp n es) (a3 : es.length ≤ 200) (b1 : Pairs H q2 fs) (b2 : Simp m fs) (b3 : fs.length ≤ 200)
    (fin : ∀ p l rs H', Same H H' → H p = none → H l = none → H' p = some (.tup [.int (n * m : Nat), .ref l]) → PsAt H' l rs (prodM n es m fs) → rs.Nodup → (∀ r ∈ rs, H r = none) → Q (.ref p) H') : spProd [.int n, .ref q1, .int m, .ref q2] H Q E := by
  unfold spProd
  exact ⟨q1, q2, n, m, es, fs, rfl, h1, h2, h3, h4, h5, a1, a2, a3, b1, b2, b3, fin⟩
end
/-! piece GR -/
section
/-! ### nets grown place by place shrink to one place -/
def Shrinks (m : Nat) (fs : List Edge) : Prop := ∃ l r, RunL fs (allM m) l [r]
theorem run_ren {es es2 : List Edge} (σ : Int → Int) {left left' : List Int} {l : List Edge} (r : RunL es left l left') : (∀ x ∈ left, ∀ y ∈ left, σ x = σ y → x = y) → (∀ x ∈ left, ∀ y ∈ left, (Adj es2 (σ x) (σ y) ↔ Adj es x y)) →
    ∀ left2 : List Int, left2.Nodup → (∀ y, y ∈ left2 ↔ ∃ x ∈ left, σ x = y) → ∃ l2 left2', RunL es2 left2 l2 left2' ∧ left2'.Nodup ∧ ∀ y, y ∈ left2' ↔ ∃ x ∈ left', σ x = y := by
  induction r with
  | nil left => exact fun _ _ left2 nd h => ⟨[], left2, .nil _, nd, h⟩
  | @cons left left' p q l hp hq r ih =>
    intro hi ha left2 nd h
    obtain ⟨_, hq2, hne, hn⟩ := (ontoM_mem hp).mp hq
    have hp2 : σ p ∈ left2 := (h _).mpr ⟨p, hp, rfl⟩
    have hs : StepOk (Adj es2) (· ∈ left2) (σ p) (σ q) := by
      refine ⟨hp2, (h _).mpr ⟨q, hq2, rfl⟩, fun e => hne (hi p hp q hq2 e), fun z hz hza => ?_⟩
      obtain ⟨x, hx, rfl⟩ := (h z).mp hz
      exact (ha q hq2 x hx).mpr (hn x hx ((ha p hp x hx).mp hza))
    obtain ⟨l2, left2', k1, k2, k3⟩ := ih (fun x hx y hy => hi x (without_mem.mp hx).1 y (without_mem.mp hy).1) (fun x hx y hy => ha x (without_mem.mp hx).1 y (without_mem.mp hy).1) (without left2 (σ p)) (nd.filter _) fun y => by
      rw [without_mem, h y]
      constructor
      · rintro ⟨⟨x, hx, rfl⟩, hxp⟩
        exact ⟨x, without_mem.mpr ⟨hx, fun e => hxp (by rw [e])⟩, rfl⟩
      · rintro ⟨x, hx, rfl⟩
        obtain ⟨a, b⟩ := without_mem.mp hx
        exact ⟨⟨x, a, rfl⟩, fun e => b (hi x a p hp e)⟩
    exact ⟨(σ p, σ q) :: l2, left2', .cons hp2 ((ontoM_mem hp2).mpr hs) k1, k2, k3⟩
theorem all_nodup (n : Nat) : (allM n).Nodup := (allM_lt n).imp fun h => by omega
theorem nodup_one {l : List Int} {c : Int} (nd : l.Nodup) (h : ∀ y, y ∈ l ↔ y = c) : l = [c] := by
  match l, nd, h with
  | [], _, h => exact absurd ((h c).mpr rfl) (by simp)
  | [a], _, h => rw [(h a).mp (List.mem_cons_self ..)]
  | a :: b :: l, nd, h =>
    have h1 := (h a).mp (List.mem_cons_self ..)
    have h2 := (h b).mp (List.mem_cons_of_mem _ (List.mem_cons_self ..))
    exact absurd (List.nodup_cons.mp nd).1 (by rw [h1, h2]; simp)
theorem shrinks_ren {n : Nat} {es es2 : List Edge} (σ : Int → Int) (hs : Shrinks n es) (hr : ∀ x : Int, 1 ≤ x → x ≤ n → 1 ≤ σ x ∧ σ x ≤ n) (hi : ∀ x y : Int, 1 ≤ x → x ≤ n → 1 ≤ y → y ≤ n → σ x = σ y → x = y)
    (ha : ∀ x y : Int, 1 ≤ x → x ≤ n → 1 ≤ y → y ≤ n → (Adj es2 (σ x) (σ y) ↔ Adj es x y)) : Shrinks n es2 := by
  obtain ⟨l, r, hR⟩ := hs
  have him : ∀ y, y ∈ allM n ↔ ∃ x ∈ allM n, σ x = y := by
    have hnd : ((allM n).map σ).Nodup := List.pairwise_map.mpr ((all_nodup n).imp_of_mem fun {x y} hx hy hne e => hne (hi x y (allM_mem.mp hx).1 (allM_mem.mp hx).2 (allM_mem.mp hy).1 (allM_mem.mp hy).2 e))
    have hsub : ∀ y ∈ (allM n).map σ, y ∈ allM n := fun y hy => by
      obtain ⟨x, hx, rfl⟩ := List.mem_map.mp hy
      have := allM_mem.mp hx
      exact allM_mem.mpr (hr x this.1 this.2)
    intro y
    constructor
    · intro hy
      apply Classical.byContradiction
      intro hno
      have hno2 : y ∉ (allM n).map σ := fun h => by
        obtain ⟨x, hx, e⟩ := List.mem_map.mp h
        exact hno ⟨x, hx, e⟩
      have hle := nodup_le n (y :: (allM n).map σ) (List.nodup_cons.mpr ⟨hno2, hnd⟩) fun x hx => by
        rcases List.mem_cons.mp hx with rfl | hx
        · exact allM_mem.mp hy
        · exact allM_mem.mp (hsub x hx)
      rw [List.length_cons, List.length_map] at hle
      have : (allM n).length = n := by unfold allM; simp
      omega
    · rintro ⟨x, hx, rfl⟩
      exact hsub _ (List.mem_map.mpr ⟨x, hx, rfl⟩)
  obtain ⟨l2, left2, k1, k2, k3⟩ := run_ren (es2 := es2) σ hR (fun x hx y hy => hi x y (allM_mem.mp hx).1 (allM_mem.mp hx).2 (allM_mem.mp hy).1 (allM_mem.mp hy).2)
    (fun x hx y hy => ha x y (allM_mem.mp hx).1 (allM_mem.mp hx).2 (allM_mem.mp hy).1 (allM_mem.mp hy).2) (allM n) (all_nodup n) him
  have e := nodup_one k2 (c := σ r) fun y => by
    rw [k3 y]
    constructor
    · rintro ⟨x, hx, rfl⟩
      rw [List.mem_singleton.mp hx]
    · rintro rfl
      exact ⟨r, List.mem_cons_self .., rfl⟩
  exact ⟨l2, σ r, e ▸ k1⟩
theorem shrinks_same {n : Nat} {es es2 : List Edge} (hs : Shrinks n es) (ha : ∀ x y : Int, y ∈ mates x es2 ↔ y ∈ mates x es) : Shrinks n es2 :=
  shrinks_ren (fun x => x) hs (fun _ h1 h2 => ⟨h1, h2⟩) (fun _ _ _ _ _ _ e => e) fun x y _ _ _ _ => by
    unfold Adj
    rw [List.mem_cons, List.mem_cons, ha x y]
theorem mates_perm {es es2 : List Edge} (h : es2.Perm es) (x y : Int) : y ∈ mates x es2 ↔ y ∈ mates x es := by
  rw [mem_mates, mem_mates, h.mem_iff, h.mem_iff]
theorem mates_ren {n : Nat} {es : List Edge} (hS : Simp n es) (σ : Int → Int) (hi : ∀ x y : Int, 1 ≤ x → x ≤ n → 1 ≤ y → y ≤ n → σ x = σ y → x = y) {x y : Int} (h1 : 1 ≤ x) (h2 : x ≤ n) (h3 : 1 ≤ y) (h4 : y ≤ n) :
    Adj (es.map fun e => (σ e.1, σ e.2)) (σ x) (σ y) ↔ Adj es x y := by
  have one : ∀ a b : Int, 1 ≤ a → a ≤ n → 1 ≤ b → b ≤ n → ((σ a, σ b) ∈ (es.map fun e => (σ e.1, σ e.2)) ↔ (a, b) ∈ es) := fun a b a1 a2 b1 b2 => by
    rw [List.mem_map]
    constructor
    · rintro ⟨e, he, h⟩
      have q := hS.rng e he
      rw [Prod.mk.injEq] at h
      rw [← hi _ _ q.1 q.2.1 a1 a2 h.1, ← hi _ _ q.2.2.1 q.2.2.2.1 b1 b2 h.2]
      exact he
    · exact fun h => ⟨_, h, rfl⟩
  unfold Adj
  rw [List.mem_cons, List.mem_cons, mem_mates, mem_mates, one x y h1 h2 h3 h4, one y x h3 h4 h1 h2]
  constructor
  · rintro (e | h)
    · exact .inl (hi _ _ h3 h4 h1 h2 e)
    · exact .inr h
  · rintro (e | h)
    · exact .inl (by rw [e])
    · exact .inr h
theorem flips_symm : ∀ {as bs : List Edge}, Flips as bs → Flips bs as
  | [], [], _ => trivial
  | a :: as, b :: bs, h => ⟨by
      rcases h.1 with e | e
      · exact .inl e.symm
      · exact .inr (by rw [e]), flips_symm h.2⟩
theorem flips_mates {as bs : List Edge} (h : Flips as bs) (i j : Int) : j ∈ mates i bs ↔ j ∈ mates i as := by
  have one : ∀ {as bs : List Edge}, Flips as bs → j ∈ mates i bs → j ∈ mates i as := fun h hm => by
    rcases mem_mates.mp hm with hb | hb
    · obtain ⟨a, ha, e | e⟩ := flips_mem h _ hb
      · exact mem_mates.mpr (.inl (e ▸ ha))
      · exact mem_mates.mpr (.inr (by rw [Prod.mk.injEq] at e; rw [e.1, e.2]; exact ha))
    · obtain ⟨a, ha, e | e⟩ := flips_mem h _ hb
      · exact mem_mates.mpr (.inr (e ▸ ha))
      · exact mem_mates.mpr (.inl (by rw [Prod.mk.injEq] at e; rw [e.1, e.2]; exact ha))
  exact ⟨one h, one (flips_symm h)⟩
/-- grown place by place, each one onto a place that is there and some of the mates of this one -/
inductive Grw (es : List Edge) : Int → Int → List Edge → Prop where
  | base (s : Int) : Grw es s s es
  | more {s t g : Int} {es' : List Edge} {fs : List Int} (h : Grw es s t es') (g1 : 1 ≤ g) (g2 : g ≤ t) (hf : fs.Sublist (mates g es')) : Grw es s (t + 1) (es' ++ (g, t + 1) :: fs.map fun m => (m, t + 1))
theorem grw_shrinks {s t : Int} {es : List Edge} (h : Grw [] s t es) : s = 1 → 1 ≤ t ∧ Simp t es ∧ Shrinks t.toNat es := by
  induction h with
  | base =>
    intro e
    subst e
    exact ⟨Int.le_refl _, simp_nil 1, [], 1, .nil _⟩
  | @more t g es' fs h g1 g2 hf ih =>
    intro e
    obtain ⟨ht, hS, l, r, hR⟩ := ih e
    have hS2 : Simp (t + 1) (es' ++ (g, t + 1) :: fs.map fun m => (m, t + 1)) := simp_grow (by rw [show t + 1 - 1 = t by omega]; exact hS) g1 (by omega) hf
    refine ⟨by omega, hS2, ?_⟩
    have hin : ∀ z : Int, z ∈ allM t.toNat ↔ 1 ≤ z ∧ z ≤ t := fun z => by rw [allM_mem]; omega
    have hin2 : ∀ z : Int, z ∈ allM (t + 1).toNat ↔ 1 ≤ z ∧ z ≤ t + 1 := fun z => by rw [allM_mem]; omega
    have hnew : ∀ a b : Int, (a, b) ∈ (es' ++ (g, t + 1) :: fs.map fun m => (m, t + 1)) ↔ (a, b) ∈ es' ∨ (b = t + 1 ∧ (a = g ∨ a ∈ fs)) := fun a b => by
      rw [List.mem_append, List.mem_cons, List.mem_map, Prod.mk.injEq]
      constructor
      · rintro (h | ⟨e1, e2⟩ | ⟨m, hm, e⟩)
        · exact .inl h
        · exact .inr ⟨e2, .inl e1⟩
        · rw [Prod.mk.injEq] at e
          exact .inr ⟨e.2.symm, .inr (e.1 ▸ hm)⟩
      · rintro (h | ⟨e2, e1 | h⟩)
        · exact .inl h
        · exact .inr (.inl ⟨e1, e2⟩)
        · exact .inr (.inr ⟨a, h, by rw [e2]⟩)
    have hold : ∀ a b : Int, (a, b) ∈ es' → 1 ≤ a ∧ a ≤ t ∧ 1 ≤ b ∧ b ≤ t := fun a b hab => by have := hS.rng _ hab; simp only at this; omega
    have hfr : ∀ m ∈ fs, 1 ≤ m ∧ m ≤ t ∧ (Adj es' g m) := fun m hm => by
      have h1 := hf.subset hm
      have := mates_rng hS m h1
      exact ⟨this.1, this.2.1, List.mem_cons_of_mem _ h1⟩
    -- among the old places nothing is new
    have hadj : ∀ x ∈ allM t.toNat, ∀ y ∈ allM t.toNat, (Adj (es' ++ (g, t + 1) :: fs.map fun m => (m, t + 1)) x y ↔ Adj es' x y) := fun x hx y hy => by
      have hx := (hin x).mp hx
      have hy := (hin y).mp hy
      unfold Adj
      rw [List.mem_cons, List.mem_cons, mem_mates, mem_mates, hnew, hnew]
      constructor
      · rintro (h | (h | ⟨e, _⟩) | (h | ⟨e, _⟩))
        · exact .inl h
        · exact .inr (.inl h)
        · omega
        · exact .inr (.inr h)
        · omega
      · rintro (h | h | h)
        · exact .inl h
        · exact .inr (.inl (.inl h))
        · exact .inr (.inr (.inl h))
    have hst : StepOk (Adj (es' ++ (g, t + 1) :: fs.map fun m => (m, t + 1))) (· ∈ allM (t + 1).toNat) (t + 1) g := by
      refine ⟨(hin2 _).mpr (by omega), (hin2 _).mpr (by omega), by omega, fun z hz hza => ?_⟩
      have key : ∀ z, z = g ∨ z ∈ fs → Adj (es' ++ (g, t + 1) :: fs.map fun m => (m, t + 1)) g z := fun z hz => by
        rcases hz with rfl | hz
        · exact adj_refl _ _
        · have := hfr z hz
          exact (hadj g ((hin g).mpr ⟨g1, g2⟩) z ((hin z).mpr ⟨this.1, this.2.1⟩)).mpr this.2.2
      rcases List.mem_cons.mp hza with rfl | hm
      · exact List.mem_cons_of_mem _ (mem_mates.mpr (.inl ((hnew _ _).mpr (.inr ⟨rfl, .inl rfl⟩))))
      · rcases mem_mates.mp hm with h | h
        · rcases (hnew _ _).mp h with h | ⟨e, h | h⟩
          · have := hold _ _ h; omega
          · omega
          · have := hfr _ h; omega
        · rcases (hnew _ _).mp h with h | ⟨_, h⟩
          · have := hold _ _ h; omega
          · exact key z h
    obtain ⟨l2, left2, k1, k2, k3⟩ := run_ren (es2 := es' ++ (g, t + 1) :: fs.map fun m => (m, t + 1)) (fun x => x) hR (fun _ _ _ _ e => e) hadj (without (allM (t + 1).toNat) (t + 1)) ((all_nodup _).filter _) fun y => by
      rw [without_mem, hin2]
      constructor
      · rintro ⟨h, hne⟩
        exact ⟨y, (hin y).mpr (by omega), rfl⟩
      · rintro ⟨x, hx, rfl⟩
        have := (hin x).mp hx
        omega
    have e := nodup_one k2 (c := r) fun y => by
      rw [k3 y]
      constructor
      · rintro ⟨x, hx, rfl⟩
        exact List.mem_singleton.mp hx
      · rintro rfl
        exact ⟨y, List.mem_cons_self .., rfl⟩
    exact ⟨(t + 1, g) :: l2, r, .cons hst.1 ((ontoM_mem hst.1).mpr hst) (e ▸ k1)⟩
end
/-! piece XS -/
section
/-- a list, alone or written, whose object is known -/
def SqLw (K : PySem.W.Frag) (H : Hp) (a : Addr) (xs : List V) : Prop := Rd H a (.lst xs) ∨ ∃ (vs : List Value) (n : Nat), K.lookup a = some { cls := .type "list", data := .seq vs.toArray n } ∧ xs.length ≤ sizeLine ∧ Vals xs vs
theorem SqLw.seq {K : PySem.W.Frag} {H : Hp} {a : Addr} {xs : List V} (h : SqLw K H a xs) : SqL K H a xs := by
  rcases h with h | ⟨vs, n, hk, hz, r⟩
  · exact .inl h
  · exact .inr ⟨_, vs.toArray, n, hk, rfl, rfl, rfl, by rw [List.size_toArray, ← r.length]; exact hz, by simpa using r⟩
theorem SqLw.same {K : PySem.W.Frag} {H H' : Hp} {a : Addr} {xs : List V} (h : SqLw K H a xs) (s : Same H H') : SqLw K H' a xs := by
  rcases h with (h | ⟨o, h⟩) | h
  · exact .inl (.inl (s _ _ h))
  · exact .inl (.inr ⟨o, s _ _ h⟩)
  · exact .inr h
section
variable {X : Cx} {K : PySem.W.Frag}
/-- list + list, the first one written too -/
def rCatK (K : PySem.W.Frag) : R2 := fun x y H Q => ∃ l b xs zs, x = .ref l ∧ y = .ref b ∧ SqLw K H l xs ∧ H b = some (.lst zs) ∧ xs.length + zs.length ≤ sizeLine ∧ ∀ p, H p = none → Q (.ref p) (upd H p (.lst (xs ++ zs)))
theorem op_catK (_ : KMark K) (h : X.K = K) : OpR X (binaryOp .Add) (rCatK K) := by
  subst h
  intro pins s σ H x y v u Q I rx ry h
  obtain ⟨l, b, xs, zs, rfl, rfl, hH, hB, hz, q⟩ := h
  cases rx
  cases ry
  obtain ⟨its, n, r, e⟩ : ∃ (its : List Value) (n : Nat), Vals xs its ∧ s.heap.get? l = some { cls := .type "list", data := .seq its.toArray n } := by
    rcases hH with hH | ⟨vs, n, hk, _, r⟩
    · obtain ⟨z, its, n, r, e⟩ := hH.ok I.hok
      exact ⟨its, n, r, e⟩
    · exact ⟨vs, n, r, I.kIn l _ hk⟩
  obtain ⟨z2, its2, n2, r2, hl2, e2⟩ := I.lstM hB
  have hl := r.length
  refine PySem.P.add_list e e2 ?_ (by rw [List.size_toArray, List.size_toArray]; omega)
  have ea : its.toArray ++ its2.toArray = (its ++ its2).toArray := by simp
  rw [ea]
  exact ⟨.ref _, _, I.lnew (t' := s.toks) (r.append r2) (by rw [List.length_append]; omega), rfl, q _ I.fresh⟩
def rAddK (K : PySem.W.Frag) : R2 := fun x y H Q => rAddB x y H Q ∨ rCatK K x y H Q
theorem op_addK (m : KMark K) (h : X.K = K) : OpR X (binaryOp .Add) (rAddK K) := opAddB.or (op_catK m h)
end
theorem law_callW {P : Program} {w : World} {K : PySem.W.Frag} {mg mb : Str → Option Value} {k : Nat} {fa a : Addr} {fd : FuncData} {x : Str} {sp : Sp} {s1 : Shared}
    {vs : List Value} {ns : List Int} (inK : K.In s1.heap) (gn : s1.heap.Ns mainGlobals mg) (bn : s1.heap.Ns builtinsNs mb)
    (bb : ∀ x : Str, x ≠ "__name__" → mb x = bootBuiltins x) (nl : s1.heap.NoLimit) (g0 : s1.gens = #[])
    (ha : s1.heap.get? a = some { cls := .type "list", data := .seq vs.toArray }) (hi : IntsAre vs ns) (hl : ns.length ≤ sizeLine) (hr : Room k callerA)
    (F : ∀ base : Heap, K.In base → base.Ns mainGlobals mg → FnG P w K mg base CX0 k fa fd [x] sp)
    (bnd : ∀ (s : Shared) (u : Value), BindsTo s fd ⟨[u], []⟩ [(x, u)])
    (hsp : ∀ H : Hp, Only H → SqLw K H a (ns.map V.int) → sp [.ref a] H (fun v _ => v = .bl true) fun _ _ _ => False) :
    codeAny (model P w) callerA (.call (.ref fa) ⟨[.ref a], []⟩) (fun r s' => r = .ok (.ret (.bool true)) ∧ OldK s1.heap s'.heap ∧ s'.os = s1.os ∧ AllBare s'.gens) s1 := by
  have rel := vals_ints hi
  have vlen := hi.length
  have main : ∀ H : Hp, Only H → SqLw K H a (ns.map V.int) → HOk P w H s1.heap → (∀ b u, H b = some u → b = a ∧ K.lookup a = none) →
      codeAny (model P w) callerA (.call (.ref fa) ⟨[.ref a], []⟩) (fun r s' => r = .ok (.ret (.bool true)) ∧ OldK s1.heap s'.heap ∧ s'.os = s1.os ∧ AllBare s'.gens) s1 := by
    intro H only hS hok own
    have undict : ∀ {b : Addr} {o : Obj} {es : Array DictEntry} {ep : Nat}, s1.heap.get? b = some o → o.data = .dict es ep → H b = none := by
      intro b o es ep e d
      match q : H b with
      | none => rfl
      | some u =>
        obtain ⟨rfl, _⟩ := own b u q
        rw [ha] at e
        cases e
        have d' : Data.seq vs.toArray _ = Data.dict es ep := d
        cases d'
    have nsOf : ∀ {b : Addr} {m : Str → Option Value}, s1.heap.Ns b m → (hidT s1.heap H).Ns b m :=
      fun ⟨o, es, ep, e, d, r⟩ => ⟨o, es, ep, hidT_get e (undict e d), d, r⟩
    have kIn : K.In (hidT s1.heap H) := by
      intro b o e
      refine hidT_get (inK b o e) ?_
      match q : H b with
      | none => rfl
      | some u =>
        obtain ⟨rfl, hk⟩ := own b u q
        rw [hk] at e
        cases e
    have modOk : Mod K mg (hidT s1.heap H) :=
      ⟨kIn, nsOf gn, ⟨mb, nsOf bn, bb⟩, let ⟨mc, h1, h2⟩ := nl; ⟨mc, nsOf h1, h2⟩⟩
    have env0 : Env0 P w K mg (hidT s1.heap H) callerA [] s1 H :=
      ⟨rfl, modOk, fun b o e => of_hidT e, Nat.le_of_eq (hidT_size _ _), trivial, fun b hb => absurd (show b ∈ ([] : List Addr) from hb) (by simp), hok, .of_eq g0⟩
    refine codeAny_mono ((F _ kIn (nsOf gn)).go callerA [] s1 H ⟨[.ref a], []⟩ [.ref a] [.ref a] _ _ hr rfl env0 (bnd s1 (.ref a)) (.cons rfl .nil) (hsp H only hS)) ?_
    intro r s' h
    match r, h with
    | .error e, h => exact h.elim
    | .ok .next, h => exact h.elim
    | .ok .brk, h => exact h.elim
    | .ok .cont, h => exact h.elim
    | .ok (.ret u), h =>
      obtain ⟨v, H', os, bare, un, hok', r', q⟩ := h
      obtain rfl : v = .bl true := q
      obtain rfl : u = Value.bool true := r'
      refine ⟨rfl, OldK.of_keep ?_, os, bare⟩
      intro b o e
      match q : H b with
      | none => exact un.keep b o e q (by intro z; exact absurd (show b ∈ ([] : List Addr) from z) (by simp)) (by simp)
      | some u =>
        rcases only b with z | ⟨ob, xs, z⟩
        · rw [q] at z; cases z
        · have e1 := (hok b _ z).1
          have e2 := (hok' b _ (un.frzs b ob _ z)).1
          rw [e] at e1
          cases e1
          exact e2
  match hk : K.lookup a with
  | some o =>
    have e := inK a o hk
    rw [ha] at e
    cases e
    refine main (fun _ => none) (fun _ => .inl rfl) (.inr ⟨vs, _, hk, by rw [List.length_map]; exact hl, rel⟩) ?_ ?_
    · intro b u z
      have z' : (none : Option HO) = some u := z
      cases z'
    · intro b u z
      have z' : (none : Option HO) = some u := z
      cases z'
  | none =>
    let ob : Obj := { cls := .type "list", data := .seq vs.toArray }
    have at_a : ∀ {b : Addr} {u : HO}, (if b = a then some (HO.frz ob (.lst (ns.map V.int))) else none) = some u → b = a ∧ u = .frz ob (.lst (ns.map V.int)) := by
      intro b u z
      by_cases hb : b = a
      · rw [if_pos hb] at z
        exact ⟨hb, (Option.some.inj z).symm⟩
      · rw [if_neg hb] at z
        cases z
    refine main (fun b => if b = a then some (.frz ob (.lst (ns.map V.int))) else none) ?_ (.inl (.inr ⟨ob, if_pos rfl⟩)) ?_ ?_
    · intro b
      by_cases hb : b = a
      · exact .inr ⟨_, _, if_pos hb⟩
      · exact .inl (if_neg hb)
    · intro b u z
      obtain ⟨rfl, rfl⟩ := at_a z
      exact ⟨ha, by rw [List.length_map]; exact hl, vs, _, rel, ha⟩
    · intro b u z
      exact ⟨(at_a z).1, hk⟩

theorem walkW {l : PySem.W.OpenLaw} {n k : Nat} {q : Program} {loose : List Str} {XP : (Str → Option Value) → Heap → Prop} {YP : World → Heap → Prop} {d : DefRec} {K : Params → PySem.W.Frag} {sp : World → Sp} {x : Str}
    (hn : l.most = some n) (hn2 : n ≤ sizeLine) (hdf : d.params.defaults = []) (hr : Room k callerA)
    (hY : ∀ (w : World) (h : Heap), YP w h → (K w.params).In h)
    (F : ∀ (w : World) (mg : Str → Option Value) (fa : Addr) (h : Heap), (K w.params).In h → h.Ns mainGlobals mg → mg d.name = some (.ref fa) →
      ∃ fd : FuncData, (∀ (s : Shared) (u : Value), BindsTo s fd ⟨[u], []⟩ [(x, u)]) ∧
        ∀ base : Heap, (K w.params).In base → base.Ns mainGlobals mg → FnG l.prog w (K w.params) mg base CX0 k fa fd [x] (sp w))
    (hsp : ∀ (w : World) (H : Hp) (a : Addr) (ns : List Int), ns.length ≤ n → Only H → SqLw (K w.params) H a (ns.map V.int) → sp w [.ref a] H (fun v _ => v = .bl true) fun _ _ _ => False) :
    PySem.W.WalkO q loose XP YP l.row.toRowW d [] (fun f vs => PySem.call f vs) := by
  apply Att.attach_call hn hdf
  intro w s0 s1 mg mb fa o pm cd doc a vs ns G Y ho hd hcd hmg hobj hints hlen hg
  obtain ⟨fd, hb, hF⟩ := F w mg fa _ (hY w _ Y) G.T.g hmg
  exact law_callW (hY w _ Y) G.T.g G.T.b G.T.builtins G.T.nolimit hg hobj hints (Nat.le_trans hlen hn2) hr hF hb fun H hO hS => hsp w H a ns hlen hO hS
end
/-! piece WH -/
section
theorem cut5 (ns : List Int) : (cutV (ns.map V.int) none (some 5)).length ≤ 5 := by
  unfold cutV
  rw [List.length_take]
  refine Nat.le_trans (Nat.min_le_left _ _) (Nat.le_trans (Nat.sub_le _ _) ?_)
  unfold HT.sIx
  simp only [show ¬ (5 : Int) < 0 by decide, if_false]
  omega
theorem cutInt {ns : List Int} {lo hi : Option Int} {x : V} (h : x ∈ cutV (ns.map V.int) lo hi) : ∃ i, x = V.int i := by
  unfold cutV at h
  obtain ⟨i, _, rfl⟩ := List.mem_map.mp (List.mem_of_mem_drop (List.mem_of_mem_take h))
  exact ⟨i, rfl⟩
/-! ### nets written in the text -/
structure RowAt (H : Hp) (rs : List Addr) (es : List Edge) : Prop where
  len : rs.length = es.length
  at_ : ∀ (i : Nat) (r : Addr) (e : Edge), rs[i]? = some r → es[i]? = some e → H r = some (.lst [.int e.1, .int e.2])
theorem RowAt.nil (H : Hp) : RowAt H [] [] := ⟨rfl, fun i r e h _ => by simp at h⟩
theorem RowAt.same {H H' : Hp} {rs : List Addr} {es : List Edge} (h : RowAt H rs es) (s : Same H H') : RowAt H' rs es := ⟨h.len, fun i r e a b => s _ _ (h.at_ i r e a b)⟩
theorem RowAt.snoc {H : Hp} {rs : List Addr} {es : List Edge} {r : Addr} {a b : Int} (h : RowAt H rs es) (nr : H r = none) : RowAt (upd H r (.lst [.int a, .int b])) (rs ++ [r]) (es ++ [(a, b)]) := by
  have hs := h.same (same_upd (o := .lst [.int a, .int b]) (Same.refl _) nr)
  refine ⟨by simp [h.len], fun i r2 e h1 h2 => ?_⟩
  by_cases hi : i < rs.length
  · rw [List.getElem?_append_left hi] at h1
    rw [List.getElem?_append_left (by rw [← h.len]; exact hi)] at h2
    exact hs.at_ i r2 e h1 h2
  · have hlt : i < (rs ++ [r]).length := (List.getElem?_eq_some_iff.mp h1).1
    have hi2 : i = rs.length := by rw [List.length_append, List.length_singleton] at hlt; omega
    subst hi2
    rw [List.getElem?_concat_length] at h1
    rw [h.len, List.getElem?_concat_length] at h2
    cases h1
    cases h2
    exact upd_same
theorem RowAt.net {H : Hp} {rs : List Addr} {es : List Edge} {q : Addr} (h : RowAt H rs es) (nq : H q = none) : PsAt (upd H q (.lst (rs.map V.ref))) q rs es :=
  let hs := h.same (same_upd (o := .lst (rs.map V.ref)) (Same.refl _) nq)
  ⟨upd_same, hs.len, hs.at_⟩
theorem simp_of {n : Int} {es : List Edge} (h1 : ∀ e ∈ es, 1 ≤ e.1 ∧ e.1 ≤ n ∧ 1 ≤ e.2 ∧ e.2 ≤ n ∧ e.1 ≠ e.2) (h2 : es.Pairwise fun a b => a ≠ b ∧ a ≠ (b.2, b.1)) : Simp n es := ⟨h1, h2⟩
theorem eqv_dI (xs : List Int) : PyData.eqv (dI xs) (dI xs) = true := by
  unfold dI
  induction xs with
  | nil => simp [PyData.eqv, PyData.eqvAll]
  | cons a l ih => simp_all [PyData.eqv, PyData.eqvAll]
@[irreducible] def spLaw (K : PySem.W.Frag) : Sp := fun vs H Q _ => ∃ (a : Addr) (ns : List Int), vs = [.ref a] ∧ SqL K H a (ns.map V.int) ∧ ns.length ≤ sizeLine ∧ ∀ H', Q (.bl true) H'
theorem PsAt.take {H : Hp} {D c : Addr} {rs : List Addr} {es : List Edge} (h : PsAt H D rs es) (k : Nat) (nc : H c = none) : PsAt (upd H c (.lst ((rs.map V.ref).take k))) c (rs.take k) (es.take k) := by
  have sm : Same H (upd H c (.lst ((rs.map V.ref).take k))) := same_upd (Same.refl _) nc
  refine ⟨by rw [upd_same, List.map_take], by rw [List.length_take, List.length_take, h.len], fun i r e hr he => ?_⟩
  rw [List.getElem?_take] at hr he
  by_cases hi : i < k
  · rw [if_pos hi] at hr he
    exact sm _ _ (h.at_ i r e hr he)
  · rw [if_neg hi] at hr
    cases hr
theorem same_draw {A B C : Hp} {d : Addr} {o : HO} (h : Same A B) (n : B d = none) (s : SameBut d (upd B d o) C) : Same A C := fun b ob e => by
  have h1 := h b ob e
  have hne : b ≠ d := ne_of_none h1 n
  exact s b ob hne (by rw [upd_ne hne]; exact h1)
end
/-! piece D11 -/
section
theorem call_isiK' {X : Cx} {K : PySem.W.Frag} (_ : KMark K) (h : X.K = K) : CallR X (.builtin "isinstance") (rIsi K) := h ▸ call_isi
local macro_rules | `(tactic| wtm_at "fo v") => `(tactic| first
  | ((with_reducible show PE _ (.Name (Str.ofString "int") _) _); exact pe_bltn (v := .ty "int") (by rfl) (by assumption) (by decide +kernel) rfl)
  | ((with_reducible show PE _ (.Name (Str.ofString "list") _) _); exact pe_bltn (v := .ty "list") (by rfl) (by assumption) (by decide +kernel) rfl)
  | ((with_reducible show PE _ (.Name (Str.ofString "MOST_PLACES") _) _); exact pe_glob (v := .int 12) (by rfl) (by assumption) ⟨_, rfl⟩)
  | fail "no")
local macro_rules | `(tactic| wtm_at "fo e") => `(tactic| first
  | ((with_reducible show PE _ (.BoolOp .And [_] _) _); apply pe_one; wtm_at "fo e")
  | ((with_reducible show PE _ (.BoolOp .And _ _) _); apply pe_and; (· wtm_at "fo e"); (· wtm_at "fo e"))
  | ((with_reducible show PE _ (.Compare _ [.IsNot] [.Constant (.bool true) _ _] _) _); refine' pe_cmpR op_notT ?ka ?kb (nomark _); (case ka => wtm_at "fo e"); (case kb => wtm_at "fo e"))
  | ((with_reducible show PE _ (.Compare _ [.LtE, .LtE] _ _) _); refine' pe_chain op_le op_le ?ka ?kb ?kc; (case ka => wtm_at "fo e"); (case kb => wtm_at "fo e"); (case kc => wtm_at "fo e"))
  | ((with_reducible show PE _ (.Call (.Name (Str.ofString "isinstance") _) _ _ _) _); refine' pe_callB (call_isiK' (by assumption) (by exact rfl)) (by rfl) (by assumption) (by decide +kernel) ?ka; (case ka => wtm_at "fo a"))
  | ((with_reducible show PE _ (.Call (.Attribute _ (Str.ofString "bit_length") _) [] [] _) _); refine' pe_bits ?ka; (case ka => wtm_at "fo e"))
  | fail "no")
local macro_rules | `(tactic| wtm_at "fo t") => `(tactic| first
  | ((with_reducible show PT _ (.Compare _ [.IsNot] [.Constant (.bool true) _ _] _) _); refine' pt_cmpR op_notT ?ka ?kb (nomark _); (case ka => wtm_at "fo e"); (case kb => wtm_at "fo e"))
  | ((with_reducible show PT _ (.Compare _ [.Lt, .Lt, .LtE] _ _) _); refine' pt_chain3 op_lt op_lt op_le ?ka ?kb ?kc ?kd; (case ka => wtm_at "fo e"); (case kb => wtm_at "fo e"); (case kc => wtm_at "fo e"); (case kd => wtm_at "fo e"))
  | fail "no")
local macro_rules | `(tactic| wtm_at "fo s") => `(tactic| first
  | ((with_reducible show PS _ (.Raise _ _ _) _); exact ps_never)
  | ((with_reducible show PS _ (.Continue _) _); exact ps_continue)
  | ((with_reducible show PS _ (.AugAssign (.Subscript _ _ _) .BitOr _ _) _); refine' ps_augS ?ka ?kb get_list ?kc ip_or set_list; (case ka => wtm_at "fo e"); (case kb => wtm_at "fo e"); (case kc => wtm_at "fo e"))
  | ((with_reducible show PS _ (.Assign [.Tuple _ _ _] (.Name _ _) _) _); refine' ps_asg ?ka ?kb; (case ka => wtm_at "fo e"); (case kb => wtm_at "fo g"))
  | fail "no")
variable {P : Program} {w : World} {K : PySem.W.Frag} {mg : Str → Option Value} {base : Heap}
/-! ### is_place, members -/
@[irreducible] def spIsPlace : Sp := fun vs H Q _ => ∃ i n : Int, vs = [.int i, .int n] ∧ Q (.bl (decide (1 ≤ i ∧ i ≤ n))) H
theorem call_isplace {i n : Int} {H : Hp} {Q : VK} {E : XK} (q : Q (.bl (decide (1 ≤ i ∧ i ≤ n))) H) : spIsPlace [.int i, .int n] H Q E := by
  unfold spIsPlace
  exact ⟨i, n, rfl, q⟩
set_option maxHeartbeats 2000000 in
theorem ok_isplace {f : Addr} {fd : FuncData} (F : Fun K "is_place" "is_place" s_is_place f fd) (mi : mg "isinstance" = none) (mt : mg "int" = none) :
    FnOk P w K mg base CX0 1 f fd ["place", "places"] spIsPlace := by
  refine F.ok sc_is_place (fun vs H Q E h => ?_) (fun cdv A outer s H vs Q E hr h => ?_)
  · unfold spIsPlace at h
    obtain ⟨i, n, rfl, _⟩ := h
    rfl
  · have nd := sc_is_place.nd
    have hS := sc_is_place
    have hKM : KMark K := ⟨⟩
    refine' mk_body ?body ?rd
    case body =>
      show PSs _ [_] _
      wtm_at "fo ss"
    case rd =>
     unfold spIsPlace at h
     obtain ⟨i, n, rfl, q⟩ := h
     wtm_at "fo r"
     refine ⟨.int i, .ty "int", _, _, true, rfl, .ty "int", .base (.int i), kit_ty (by decide +kernel), ?_⟩
     refine ⟨_, rfl, ?_⟩
     refine ifT rfl ?_
     refine ⟨_, rfl, rfl, _, rfl, ifT rfl ?_⟩
     refine ⟨_, rfl, _, _, rfl, rfl, _, rfl, ?_⟩
     by_cases h1 : 1 ≤ i
     · refine ifT (decide_eq_true h1) ?_
       refine ⟨_, rfl, _, _, rfl, rfl, ?_⟩
       rw [show decide (1 ≤ i ∧ i ≤ n) = decide (i ≤ n) by simp [h1]] at q
       exact q
     · refine ifF (decide_eq_false h1) ?_
       rw [show decide (1 ≤ i ∧ i ≤ n) = false by simp [h1]] at q
       exact q

@[irreducible] def spMembers : Sp := fun vs H Q _ => ∃ v : Nat, vs = [.int v] ∧ v < 2 ^ 20 ∧ ∀ p H', Same H H' → H p = none → H' p = some (.lst ((membersM v).map V.int)) → Q (.ref p) H'
theorem call_members {v : Nat} {H : Hp} {Q : VK} {E : XK} (hv : v < 2 ^ 20) (q : ∀ p H', Same H H' → H p = none → H' p = some (.lst ((membersM v).map V.int)) → Q (.ref p) H') : spMembers [.int v] H Q E := by
  unfold spMembers
  exact ⟨v, rfl, hv, q⟩
theorem bitLen_eq (v : Nat) : Builtin.Int.intBits (v : Int) = bitLen v := by
  unfold Builtin.Int.intBits bitLen
  by_cases h : v = 0
  · subst h; rfl
  · rw [if_neg h, if_neg (by simp; omega)]
    rfl
theorem bitLen_le {v k : Nat} (h : v < 2 ^ k) : bitLen v ≤ k := by
  unfold bitLen
  by_cases e : v = 0
  · rw [if_pos e]; omega
  · rw [if_neg e]
    have := (Nat.log2_lt e).mpr h
    omega
set_option maxHeartbeats 2000000 in
theorem ok_members {f : Addr} {fd : FuncData} (F : Fun K "members" "members" s_members f fd) (mr : mg "range" = none) :
    FnOk P w K mg base CX0 1 f fd ["lot"] spMembers := by
  refine F.ok sc_members (fun vs H Q E h => ?_) (fun cdv A outer s H vs Q E hr h => ?_)
  · unfold spMembers at h
    obtain ⟨v, rfl, _⟩ := h
    rfl
  · have nd := sc_members.nd
    have hS := sc_members
    have hKM : KMark K := ⟨⟩
    refine' mk_body ?body ?rd
    case body =>
      show PSs _ [_] _
      wtm_at "fo ss"
    case rd =>
     unfold spMembers at h
     obtain ⟨v, rfl, hv, q⟩ := h
     wtm_at "fo r"
     rw [bitLen_eq]
     have hb := bitLen_le hv
     refine ⟨1, (bitLen v : Int), rfl, ⟨by decide, by decide, by omega, by omega⟩, fun D nD => ?_⟩
     have hN : ((bitLen v : Int) - 1).toNat = bitLen v - 1 := by omega
     refine lc_range (fun i H1 => i ≤ bitLen v - 1 ∧ H1 = upd H D (.lst ((((List.range i).map fun (i : Nat) => (i : Int) + 1).filter fun x => v.testBit x.toNat).map V.int))) ⟨Nat.zero_le _, rfl⟩ ?_ ?_
     · rintro i H1 hi ⟨hi2, rfl⟩
       rw [hN] at hi
       refine ⟨rfl, ?_⟩
       wtm_at "fo r"
       rw [show (1 + (i : Int)).toNat = i + 1 by omega, bit_test]
       have hlen : ((((List.range i).map fun (i : Nat) => (i : Int) + 1).filter fun x => v.testBit x.toNat).map V.int).length ≤ i := by
         rw [List.length_map]
         exact Nat.le_trans (List.length_filter_le ..) (by simp)
       have hr1 : ((List.range (i + 1)).map fun (i : Nat) => (i : Int) + 1).filter (fun x => v.testBit x.toNat) = ((List.range i).map fun (i : Nat) => (i : Int) + 1).filter (fun x => v.testBit x.toNat) ++ (if v.testBit (i + 1) then [(i : Int) + 1] else []) := by
         rw [List.range_succ, List.map_append, List.filter_append]
         congr 1
         show List.filter _ [(i : Int) + 1] = _
         rw [List.filter_cons, show ((i : Int) + 1).toNat = i + 1 by omega]
         rfl
       rw [hr1]
       cases hb1 : v.testBit (i + 1) with
       | true =>
         refine ifT rfl ⟨_, rfl, _, upd_same, Nat.lt_of_le_of_lt (m := 20) (by omega) (by decide), by omega, ?_⟩
         rw [upd_upd, if_pos rfl, List.map_append, show (1 + (i : Int)) = (i : Int) + 1 by omega]
         rfl
       | false =>
         refine ifF rfl ⟨by omega, ?_⟩
         rw [if_neg (by decide), List.append_nil]
     · rintro H1 ⟨_, rfl⟩
       rw [hN]
       exact q D _ (same_upd (Same.refl _) nD) nD upd_same
end
/-! piece DN -/
section
theorem take_apart {es : List Edge} (h : es.Pairwise Apart) {i : Nat} (hi : i < es.length) : ∀ e ∈ es.take i, Apart e es[i] := by
  intro e he
  obtain ⟨j, hj⟩ := List.getElem?_of_mem he
  rw [List.getElem?_take] at hj
  split at hj
  · rename_i hji
    have hjl : j < es.length := by omega
    rw [List.getElem?_eq_getElem hjl] at hj
    cases hj
    exact List.pairwise_iff_getElem.mp h j i hjl hi hji
  · cases hj
theorem at_nb {t : List Nat} {p u : Nat} (h : t[p]? = some u) : atI (t.map fun (v : Nat) => V.int v) (p : Int) = some (.int u) :=
  at_of (j := p) rfl (by rw [List.getElem?_map, h]; rfl)
theorem get_nb {t : List Nat} {p u : Nat} (h : t[p]? = some u) : (t.map fun (v : Nat) => V.int v)[p]? = some (.int u) := by
  rw [List.getElem?_map, h]
  rfl
theorem get_nb2 {t : List Nat} {p q u : Nat} {x : V} (hq : q ≠ p) (h : t[p]? = some u) : ((t.map fun (v : Nat) => V.int v).set q x)[p]? = some (.int u) := by
  rw [List.getElem?_set_ne hq, get_nb h]
theorem at_pw {n p : Nat} (h : p ≤ n) : atI ((List.range (n + 1)).map fun (k : Nat) => V.int ((2 ^ k : Nat) : Int)) (p : Int) = some (.int ((2 ^ p : Nat) : Int)) :=
  at_of (j := p) rfl (by rw [List.getElem?_map, List.getElem?_range (by omega)]; rfl)
theorem ix_n {n j : Nat} (h : j < n) : ixN n (j : Int) = some j := by
  unfold ixN
  rw [if_pos (Int.natCast_nonneg j), if_pos (by omega)]
  rfl
theorem set_addB {t : List Nat} {a b u w : Nat} (hu : t[a]? = some u) (hw : t[b]? = some w) (hne : a ≠ b) :
    (((t.map fun (v : Nat) => V.int v).set a (.int (Builtin.bitOr u (2 ^ b : Nat)))).set b (.int (Builtin.bitOr w (2 ^ a : Nat)))) = (addB t ((a : Int), (b : Int))).map fun (v : Nat) => V.int v := by
  rw [bOr, bOr]
  have ha := (List.getElem?_eq_some_iff.mp hu).1
  have hb := (List.getElem?_eq_some_iff.mp hw).1
  apply List.ext_getElem?
  intro i
  unfold addB
  rw [List.getElem?_map, List.getElem?_modify, List.getElem?_modify, List.getElem?_set, List.getElem?_set, List.getElem?_map]
  simp only [List.length_set, List.length_map, Int.toNat_natCast]
  by_cases h1 : b = i
  · subst h1
    simp [hb, hne, (List.getElem?_eq_some_iff.mp hw).2]
  · by_cases h2 : a = i
    · subst h2
      simp [ha, h1, (List.getElem?_eq_some_iff.mp hu).2]
    · simp [h1, h2]
variable {P : Program} {w : World} {K : PySem.W.Frag} {mg : Str → Option Value} {base : Heap}
/-! ### read_net, where all is right -/
def nLst (t : List Nat) : HO := .lst (t.map fun (v : Nat) => V.int v)
end
/-! piece D5 -/
section
@[irreducible] def spGrown : Sp := fun vs H Q _ => ∃ (d q : Addr) (k st : Int) (n : Nat) (es : List Edge), vs = [.ref d, .int n, .ref q, .int st] ∧ Dr H d k ∧ k ≤ 1000000 ∧ n ≤ 12 ∧ 2 ≤ st ∧ st ≤ n + 1 ∧
  Pairs H q es ∧ Simp (st - 1) es ∧ es.length ≤ 10 ∧
  ∀ p H' k' fs, Simp n fs → Grw es (st - 1) n fs → fs.length ≤ 200 → SameBut d H H' → H p = none → Pairs H' p fs → Dr H' d k' → k' ≤ k + 500 → Q (.ref p) H'
theorem call_grown {d q : Addr} {k st : Int} {n : Nat} {es : List Edge} {H : Hp} {Q : VK} {E : XK} (hd : Dr H d k) (hk : k ≤ 1000000) (hn : n ≤ 12) (h2 : 2 ≤ st) (hs : st ≤ n + 1) (hp : Pairs H q es) (hS : Simp (st - 1) es) (hl : es.length ≤ 10)
    (fin : ∀ p H' k' fs, Simp n fs → Grw es (st - 1) n fs → fs.length ≤ 200 → SameBut d H H' → H p = none → Pairs H' p fs → Dr H' d k' → k' ≤ k + 500 → Q (.ref p) H') : spGrown [.ref d, .int n, .ref q, .int st] H Q E := by
  unfold spGrown
  exact ⟨d, q, k, st, n, es, rfl, hd, hk, hn, h2, hs, hp, hS, hl, fin⟩
variable {P : Program} {w : World} {K : PySem.W.Frag} {mg : Str → Option Value} {base : Heap}
set_option maxHeartbeats 8000000 in
theorem ok_grown {f : Addr} {fd : FuncData} (F : Fun K "_law_grown" "_law_grown" s_law_grown f fd) (mr : mg "range" = none) (ml : mg "list" = none) (mi : mg "int" = none)
    (C : Cal P w K mg base "_law_next" 1 ["_law_draws_here"] spNext) :
    FnOk P w K mg base CX0 2 f fd ["_law_draws_here", "_law_size", "_law_sides", "_law_start"] spGrown := by
  refine F.ok sc_law_grown (fun vs H Q E h => ?_) (fun cdv A outer s H vs Q E hr h => ?_)
  · unfold spGrown at h
    obtain ⟨d, q, k, st, n, es, rfl, _⟩ := h
    rfl
  · have nd := sc_law_grown.nd
    have hS := sc_law_grown
    have hKM : KMark K := ⟨⟩
    refine' mk_body ?body ?rd
    case body =>
      show PSs _ [_, _, _] _
      wtm_at "fo ss"
    case rd =>
     unfold spGrown at h
     obtain ⟨d, q, k, st, n, es, rfl, hd, hk, hn, h2, hst, hq, hSi, hl, fin⟩ := h
     wtm_at "fo r"
     obtain ⟨qs, hq0⟩ := PsAt.of hq
     refine ⟨⟨_, SqL.of hq0.hD⟩, fun D nD => ?_⟩
     refine lc_list (K := K) (xs := qs.map V.ref) (fun i H1 => Same H H1 ∧ ∃ rs, PsAt H1 D rs (es.take i)) ?_ ?_ ?_ ?_
     · exact ⟨same_upd (Same.refl H) nD, [], PsAt.nil upd_same⟩
     · rintro i H1 _ ⟨sm, _⟩
       exact SqL.of (sm _ _ hq0.hD)
     · rintro i x H1 hx ⟨sm, rs, hp⟩
       obtain ⟨r, hr, rfl⟩ := ref_at hx
       have hi : i < es.length := by rw [← hq0.len]; exact (List.getElem?_eq_some_iff.mp hr).1
       have hes : es[i]? = some es[i] := List.getElem?_eq_getElem hi
       have hre := sm _ _ (hq0.at_ i r _ hr hes)
       refine ⟨rfl, ?_⟩
       wtm_at "fo r"
       intro l nl
       refine ⟨rs.map V.ref, ?_, ?_, ?_⟩
       · rw [upd_ne (ne_of_none hp.hD nl)]
         exact hp.hD
       · rw [List.length_map, hp.len]
         exact Nat.lt_of_le_of_lt (m := 100) (Nat.le_trans (List.length_take_le ..) (by omega)) (by decide)
       · refine ⟨same_upd (same_upd sm (sm.free nl)) nD, rs ++ [l], ?_⟩
         rw [List.take_add_one, hes]
         exact hp.push nl es[i]
     rintro H1 ⟨sm, rs, hp⟩
     rw [List.length_map, hq0.len, List.take_length] at hp
     have nDd : D ≠ d := by
       obtain ⟨a, b, e, _⟩ := hd
       exact (ne_of_none e nD).symm
     have sb1 : SameBut d H H1 := fun b o _ e => sm b o e
     have hd1 : Dr H1 d k := by
       obtain ⟨a, b, e, h0⟩ := hd
       exact ⟨a, b, sm _ _ e, h0⟩
     wtm_at "fo r"
     have hN : ((n : Int) + 1 - st).toNat ≤ 11 := by omega
     refine for_range (fun i σ H2 => ∃ t rs es' k' y6 y7 y8, σ = [some (.ref d), some (.int n), some (.ref q), some (.int st), some (.ref t), none, y6, y7, y8, none, none, none] ∧
       PsAt H2 t rs es' ∧ Simp (st - 1 + i) es' ∧ Grw es (st - 1) (st - 1 + i) es' ∧ es'.length ≤ 10 + 13 * i ∧ SameBut d H H2 ∧ H t = none ∧ Dr H2 d k' ∧ k' ≤ k + 20 * i ∧ 0 ≤ k') ?_ ?_ ?_
     · refine ⟨D, rs, es, k, none, none, none, rfl, hp, ?_, by simpa using Grw.base (es := es) (st - 1), by omega, sb1, nD, hd1, by omega, ?_⟩
       · simpa using hSi
       · exact hd1.elim fun a ⟨b, _, h0⟩ => h0
     · rintro i σ H2 hi ⟨t, rs2, es2, k2, y6, y7, y8, rfl, hp2, hS2, hG2, hl2, sb2, nt, hd2, hk2, hk0⟩
       wtm_at "fo r"
       refine call_next hd2 (by omega) (fun n1 H3 hn1 sb3 hd3 => ?_)
       have hp3 := hp2.but sb3 hd2
       have ht3 := hp3.hD
       wtm_at "fo r"
       have gg1 := Int.emod_nonneg n1 (show st + (i : Int) - 1 ≠ 0 by omega)
       have gg2 := Int.emod_lt_of_pos n1 (show (0 : Int) < st + (i : Int) - 1 by omega)
       let g : Int := 1 + n1 % (st + (i : Int) - 1)
       have g1 : 1 ≤ g := by
         show 1 ≤ 1 + n1 % (st + (i : Int) - 1)
         omega
       have g2 : g ≤ st + i - 1 := by
         show 1 + n1 % (st + (i : Int) - 1) ≤ st + i - 1
         omega
       refine ⟨⟨_, SqL.of ht3⟩, fun D1 nD1 => ?_⟩
       refine lc_list (K := K) (xs := rs2.map V.ref) (fun i2 H4 => Same H3 H4 ∧ H4 D1 = some (.lst ((mates g (es2.take i2)).map V.int))) ?_ ?_ ?_ ?_
       · exact ⟨same_upd (Same.refl _) nD1, upd_same⟩
       · rintro i2 H4 _ ⟨sm4, _⟩
         exact SqL.of (sm4 _ _ ht3)
       · rintro i2 x H4 hx ⟨sm4, h4⟩
         obtain ⟨r, hr, rfl⟩ := ref_at hx
         have hi2 : i2 < es2.length := by rw [← hp3.len]; exact (List.getElem?_eq_some_iff.mp hr).1
         have hes : es2[i2]? = some es2[i2] := List.getElem?_eq_getElem hi2
         have hre := sm4 _ _ (hp3.at_ i2 r _ hr hes)
         have htk : mates g (es2.take (i2 + 1)) = mates g (es2.take i2) ++ (if es2[i2].1 = g ∨ es2[i2].2 = g then [es2[i2].1 + es2[i2].2 - g] else []) := by
           rw [List.take_add_one, hes]
           exact mates_snoc g _ _
         have hml : (mates g (es2.take i2)).length ≤ 200 := Nat.le_trans (mates_length ..) (Nat.le_trans (List.length_take_le ..) (by omega))
         rw [htk]
         generalize mates g (es2.take i2) = ms0 at *
         generalize es2[i2] = e at *
         obtain ⟨ea, eb⟩ := e
         simp only at hre
         refine Or.inr ⟨r, [.int ea, .int eb], rfl, SqL.of hre, rfl, .int ea, [.int eb], rfl, .int eb, [], rfl, rfl, rfl, ?_⟩
         wtm_at "fo r"
         rename_i p np
         refine ⟨rfl, rfl, _, rfl, ?_⟩
         have h4' : (upd H4 p (HO.lst [.int ea, .int eb])) D1 = some (.lst (ms0.map V.int)) := by
           rw [upd_ne (ne_of_none h4 np)]
           exact h4
         have sm5 : Same H3 (upd H4 p (HO.lst [.int ea, .int eb])) := same_upd sm4 (sm4.free np)
         by_cases hgm : ea = g ∨ eb = g
         · refine ifT (by show inV (.int g) [.int ea, .int eb] = true; rw [inV2]; exact decide_eq_true hgm) ?_
           wtm_at "fo r"
           refine ⟨ms0.map V.int, h4', ?_, same_upd sm5 nD1, ?_⟩
           · rw [List.length_map]
             exact Nat.lt_of_le_of_lt hml (by decide)
           · rw [upd_same, if_pos hgm, List.map_append]
             rfl
         · refine ifF (by show inV (.int g) [.int ea, .int eb] = false; rw [inV2]; exact decide_eq_false hgm) ?_
           refine ⟨sm5, ?_⟩
           rw [if_neg hgm, List.append_nil]
           exact h4'
       rintro H4 ⟨sm4, h4⟩
       rw [List.length_map, hp3.len, List.take_length] at h4
       have hnm := mates_len (g := g) (s := st + i) (by rw [show st + (i : Int) - 1 = st - 1 + i by omega]; exact hS2) (by omega) (List.Sublist.refl _)
       have hgrow : ∀ fs : List Int, fs.Sublist (mates g es2) → Simp (st + i) (es2 ++ (g, st + i) :: fs.map fun m => (m, st + i)) := fun fs hf =>
         simp_grow (by rw [show st + (i : Int) - 1 = st - 1 + i by omega]; exact hS2) g1 g2 hf
       have hgg : ∀ fs : List Int, fs.Sublist (mates g es2) → Grw es (st - 1) (st + i) (es2 ++ (g, st + i) :: fs.map fun m => (m, st + i)) := fun fs hf => by
         have := Grw.more hG2 g1 (by omega) hf
         rw [show st - 1 + (i : Int) + 1 = st + i by omega] at this
         exact this
       generalize mates g es2 = ms at *
       have hp4 := hp3.same sm4
       have ht4 := hp4.hD
       wtm_at "fo r"
       rename_i p1 np1 p2 np2
       have hne12 : p1 ≠ p2 := ne_of_none upd_same np2
       have np2' : H4 p2 = none := by rw [upd_ne hne12.symm] at np2; exact np2
       have hp5 : PsAt (upd (upd H4 p1 (.lst [.int g, .int (st + i)])) p2 (.lst [.ref p1])) t rs2 es2 := hp4.same (same_upd (same_upd (Same.refl _) np1) np2')
       have one5 : PsAt (upd (upd H4 p1 (.lst [.int g, .int (st + i)])) p2 (.lst [.ref p1])) p2 [p1] [(g, st + i)] := PsAt.one upd_same (by rw [upd_ne hne12]; exact upd_same)
       have hlen2 : rs2.length ≤ 200 := by rw [hp2.len]; omega
       refine Or.inr ⟨t, p2, rs2.map V.ref, [V.ref p1], rfl, rfl, hp5.hD, upd_same, ?_, fun c1 nc1 => ?_⟩
       · rw [List.length_map]
         exact Nat.le_trans (m := 1000) (show rs2.length + 1 ≤ 1000 by omega) (by decide)
       have hp6 : PsAt (upd (upd (upd H4 p1 (.lst [.int g, .int (st + i)])) p2 (.lst [.ref p1])) c1 (.lst (rs2.map V.ref ++ [V.ref p1]))) c1 (rs2 ++ [p1]) (es2 ++ [(g, st + i)]) := hp5.cat one5 nc1
       have sm5 : Same H4 (upd (upd H4 p1 (.lst [.int g, .int (st + i)])) p2 (.lst [.ref p1])) := same_upd (same_upd (Same.refl _) np1) np2'
       have sm6 : Same H4 (upd (upd (upd H4 p1 (.lst [.int g, .int (st + i)])) p2 (.lst [.ref p1])) c1 (.lst (rs2.map V.ref ++ [V.ref p1]))) := same_upd sm5 (sm5.free nc1)
       have h6D := sm6 _ _ h4
       have hd6 := (hd3.same sm4).same sm6
       have sb6 : SameBut d H (upd (upd (upd H4 p1 (.lst [.int g, .int (st + i)])) p2 (.lst [.ref p1])) c1 (.lst (rs2.map V.ref ++ [V.ref p1]))) := ((sb2.trans sb3).trans (Same.but d sm4)).trans (Same.but d sm6)
       refine ⟨_, rfl, _, rfl, ⟨_, SqL.of h6D⟩, fun D2 nD2 => ?_⟩
       refine lc_list (K := K) (xs := ms.map V.int) (fun i3 H7 => ∃ (fs : List Int) (rs3 : List Addr) (k7 : Int), fs.Sublist (ms.take i3) ∧ PsAt H7 D2 rs3 (fs.map fun m => (m, st + i)) ∧
         SameBut d (upd (upd (upd H4 p1 (.lst [.int g, .int (st + i)])) p2 (.lst [.ref p1])) c1 (.lst (rs2.map V.ref ++ [V.ref p1]))) H7 ∧ Dr H7 d k7 ∧ k7 ≤ k2 + 1 + i3 ∧ 0 ≤ k7) ?_ ?_ ?_ ?_
       · exact ⟨[], [], k2 + 1, List.Sublist.refl _, PsAt.nil upd_same, SameBut.new (SameBut.refl d _) nD2, hd6.same (same_upd (Same.refl _) nD2), by omega, by omega⟩
       · rintro i3 H7 _ ⟨fs, rs3, k7, hsub, hp7, sb7, hd7, hk7, h07⟩
         exact SqL.of (sb7 _ _ (hd6.ne_ints h6D) h6D)
       · rintro i3 x H7 hx ⟨fs, rs3, k7, hsub, hp7, sb7, hd7, hk7, h07⟩
         obtain ⟨m, hm, rfl⟩ := int_at hx
         have hi3 : i3 < ms.length := (List.getElem?_eq_some_iff.mp hm).1
         refine ⟨rfl, ?_⟩
         wtm_at "fo r"
         refine call_next hd7 (by omega) (fun n2 H8 hn2 sb8 hd8 => ?_)
         wtm_at "fo r"
         have hp8 := hp7.but sb8 hd7
         have nD2d : D2 ≠ d := hd8.ne_refs hp8.hD
         have hfl : fs.length ≤ 12 := Nat.le_trans hsub.length_le (Nat.le_trans (List.take_sublist i3 ms).length_le hnm)
         refine ite2 (fun hb => ?_) (fun hb => ?_)
         · wtm_at "fo r"
           rename_i r nr
           refine ⟨rs3.map V.ref, ?_, ?_, fs ++ [m], rs3 ++ [r], k7 + 1, ?_, ?_, ?_, ?_, by omega, by omega⟩
           · rw [upd_ne (ne_of_none hp8.hD nr)]
             exact hp8.hD
           · rw [List.length_map, hp8.len, List.length_map]
             exact Nat.lt_of_le_of_lt hfl (by decide)
           · rw [List.take_add_one, hm]
             exact hsub.append (List.Sublist.refl _)
           · rw [List.map_append]
             exact hp8.push nr (m, st + i)
           · have nr0 := (sb7.trans sb8).none hd8 nr
             exact ((sb7.trans sb8).new nr0).new nD2
           · have hrd : r ≠ d := by
               obtain ⟨a, b, e, _⟩ := hd8
               exact (ne_of_none e nr).symm
             obtain ⟨a, b, e, h0⟩ := hd8
             exact ⟨a, b, by rw [upd_ne nD2d.symm, upd_ne hrd.symm]; exact e, h0⟩
         · refine ⟨fs, rs3, k7 + 1, ?_, hp8, sb7.trans sb8, hd8, by omega, by omega⟩
           rw [List.take_add_one]
           exact hsub.trans (List.sublist_append_left ..)
       rintro H7 ⟨fs, rs3, k7, hsub, hp7, sb7, hd7, hk7, h07⟩
       rw [List.length_map, List.take_length] at hsub
       rw [List.length_map] at hk7
       have hp6' := hp6.but sb7 hd6
       have hfl : fs.length ≤ 12 := Nat.le_trans hsub.length_le hnm
       refine Or.inr ⟨c1, D2, (rs2 ++ [p1]).map V.ref, rs3.map V.ref, rfl, rfl, hp6'.hD, hp7.hD, ?_, fun c2 nc2 => ?_⟩
       · rw [List.length_map, List.length_map, hp7.len, List.length_map, List.length_append]
         exact Nat.le_trans (m := 1000) (show rs2.length + 1 + fs.length ≤ 1000 by omega) (by decide)
       have hp9 := hp6'.cat hp7 nc2
       have nc2' : H c2 = none := (sb6.trans sb7).none hd7 nc2
       refine ⟨c2, _, _, k7, _, _, _, rfl, hp9, ?_, ?_, ?_, ?_, nc2', hd7.same (same_upd (Same.refl _) nc2), by omega, by omega⟩
       · have := hgrow fs hsub
         rw [List.append_assoc]
         rw [show st - 1 + ((i + 1 : Nat) : Int) = st + i by omega]
         exact this
       · have := hgg fs hsub
         rw [List.append_assoc]
         rw [show st - 1 + ((i + 1 : Nat) : Int) = st + i by omega]
         exact this
       · rw [List.length_append, List.length_append, List.length_map]
         show es2.length + 1 + fs.length ≤ _
         omega
       · exact (sb6.trans sb7).new nc2'
     · rintro σ H2 ⟨t, rs2, es2, k2, y6, y7, y8, rfl, hp2, hS2, hG2, hl2, sb2, nt, hd2, hk2, hk0⟩
       wtm_at "fo r"
       have e : st - 1 + (((n : Int) + 1 - st).toNat : Int) = n := by omega
       refine fin t H2 k2 es2 ?_ ?_ (by omega) sb2 nt hp2.pairs hd2 (by omega)
       · rw [e] at hS2
         exact hS2
       · rw [e] at hG2
         exact hG2
end
/-! piece D6 -/
section
def ringM (f : Nat) : List Edge := (List.range f).map fun (i : Nat) => ((i : Int) + 1, ((i : Int) + 1) % (f : Int) + 1)
theorem ring_simp : ∀ f : Nat, 3 ≤ f → f ≤ 7 → Simp f (ringM f) := by
  intro f h1 h2
  have h : f = 3 ∨ f = 4 ∨ f = 5 ∨ f = 6 ∨ f = 7 := by omega
  rcases h with rfl | rfl | rfl | rfl | rfl <;> exact ⟨by decide, by unfold Apart; decide⟩
@[irreducible] def spWeb : Sp := fun vs H Q _ => ∃ (d : Addr) (k kd : Int) (n : Nat), vs = [.ref d, .int n, .int kd] ∧ Dr H d k ∧ k ≤ 900000 ∧ 1 ≤ n ∧ n ≤ 12 ∧ 0 ≤ kd ∧ kd ≤ 2 ∧
  ∀ p H' k' fs, Simp n fs → (kd = 1 → Shrinks n fs) → fs.length ≤ 200 → SameBut d H H' → H p = none → Pairs H' p fs → Dr H' d k' → k' ≤ k + 2000 → Q (.ref p) H'
theorem call_web {d : Addr} {k kd : Int} {n : Nat} {H : Hp} {Q : VK} {E : XK} (hd : Dr H d k) (hk : k ≤ 900000) (hn : 1 ≤ n) (hn2 : n ≤ 12) (h0 : 0 ≤ kd) (h2 : kd ≤ 2)
    (fin : ∀ p H' k' fs, Simp n fs → (kd = 1 → Shrinks n fs) → fs.length ≤ 200 → SameBut d H H' → H p = none → Pairs H' p fs → Dr H' d k' → k' ≤ k + 2000 → Q (.ref p) H') : spWeb [.ref d, .int n, .int kd] H Q E := by
  unfold spWeb
  exact ⟨d, k, kd, n, rfl, hd, hk, hn, hn2, h0, h2, fin⟩
variable {P : Program} {w : World} {K : PySem.W.Frag} {mg : Str → Option Value} {base : Heap}
set_option maxHeartbeats 8000000 in
theorem ok_web {f : Addr} {fd : FuncData} (F : Fun K "_law_web" "_law_web" s_law_web f fd) (mr : mg "range" = none) (ml : mg "list" = none) (mi : mg "int" = none) (mm : mg "min" = none)
    (C1 : Cal P w K mg base "_law_next" 1 ["_law_draws_here"] spNext) (C2 : Cal P w K mg base "_law_shuffled" 2 ["_law_draws_here", "_law_things"] spShuf)
    (C3 : Cal P w K mg base "_law_grown" 2 ["_law_draws_here", "_law_size", "_law_sides", "_law_start"] spGrown) :
    FnOk P w K mg base CX0 3 f fd ["_law_draws_here", "_law_size", "_law_kind"] spWeb := by
  refine F.ok sc_law_web (fun vs H Q E h => ?_) (fun cdv A outer s H vs Q E hr h => ?_)
  · unfold spWeb at h
    obtain ⟨d, k, kd, n, rfl, _⟩ := h
    rfl
  · have nd := sc_law_web.nd
    have hS := sc_law_web
    have hKM : KMark K := ⟨⟩
    refine' mk_body ?body ?rd
    case body =>
      show PSs _ [_, _, _, _, _, _] _
      apply C8.pss_cut
      · wtm_at "fo s"
      apply C8.pss_cut
      · wtm_at "fo s"
      apply C8.pss_cut
      · wtm_at "fo s"
      wtm_at "fo ss"
    case rd =>
     unfold spWeb at h
     obtain ⟨d, k, kd, n, rfl, hd, hk, hn1, hn, hk0, hk2, fin⟩ := h
     have hk' : 0 ≤ k := hd.elim fun a ⟨b, _, h0⟩ => h0
     let Done : Sl → Hp → Prop := fun σ H1 => ∃ t y3 y5 y6 y7 y8 y9 es k1, σ = [some (.ref d), some (.int n), some (.int kd), y3, some (.ref t), y5, y6, y7, y8, y9, none, none] ∧ Pairs H1 t es ∧ Simp n es ∧ (kd = 1 → Shrinks n es) ∧
       es.length ≤ 200 ∧ SameBut d H H1 ∧ H t = none ∧ Dr H1 d k1 ∧ k1 ≤ k + 600 ∧ 0 ≤ k1
     let Undone : Sl → Hp → Prop := fun σ H1 => σ = [some (.ref d), some (.int n), some (.int kd), none, none, none, none, none, none, none, none, none] ∧ H1 = H
     refine ⟨fun σ H1 => (kd = 0 ∧ Done σ H1) ∨ (kd ≠ 0 ∧ Undone σ H1), ?_, ?_⟩
     · wtm_at "fo r"
       by_cases hkd : kd = 0
       · refine ifT (by rw [hkd]; rfl) ?_
         wtm_at "fo r"
         refine call_next hd (by omega) (fun n1 H1 hn1 sb1 hd1 => ?_)
         wtm_at "fo r"
         rename_i t0 nt0
         have gg1 := Int.emod_nonneg n1 (show (3 : Int) ≠ 0 by decide)
         have nt00 : H t0 = none := sb1.none hd1 nt0
         have hN : ((n : Int) + 1 - 1).toNat = n := by omega
         refine for_range (fun i σ H2 => ∃ t rs es' k' y5, σ = [some (.ref d), some (.int n), some (.int kd), some (.int (2 + n1 % 3)), some (.ref t), y5, none, none, none, none, none, none] ∧
           PsAt H2 t rs es' ∧ Simp n es' ∧ (∀ e ∈ es', e.1 < 1 + (i : Int) ∧ e.1 < e.2) ∧ es'.length ≤ 12 * i ∧ SameBut d H H2 ∧ H t = none ∧ Dr H2 d k' ∧ k' ≤ k + 1 + 12 * i ∧ 0 ≤ k') ?_ ?_ ?_
         · exact ⟨t0, [], [], k + 1, none, rfl, PsAt.nil upd_same, simp_nil _, (fun e h => nomatch h), by simp, sb1.new nt00, nt00, hd1.same (same_upd (Same.refl _) nt0), by omega, by omega⟩
         · rintro i σ H2 hi ⟨t, rs2, es2, k2, y5, rfl, hp2, hS2, hlt, hl2, sb2, nt, hd2, hk2, hk02⟩
           rw [hN] at hi
           wtm_at "fo r"
           refine fun D nD => ?_
           have hNN : ((n : Int) + 1 - (1 + (i : Int) + 1)).toNat ≤ 12 := by omega
           have nDd : D ≠ d := by
             obtain ⟨a, b, e, _⟩ := hd2
             exact (ne_of_none e nD).symm
           refine lc_range (fun i3 H4 => ∃ (bs : List Int) (rs3 : List Addr) (k7 : Int), bs.Nodup ∧ (∀ b ∈ bs, 1 + (i : Int) < b ∧ b < 1 + (i : Int) + 1 + (i3 : Int) ∧ b ≤ n) ∧ bs.length ≤ i3 ∧
             PsAt H4 D rs3 (bs.map fun b => (1 + (i : Int), b)) ∧ SameBut d H2 H4 ∧ Dr H4 d k7 ∧ k7 ≤ k2 + i3 ∧ 0 ≤ k7) ?_ ?_ ?_
           · exact ⟨[], [], k2, List.nodup_nil, (fun b h => nomatch h), Nat.le_refl _, PsAt.nil upd_same, SameBut.new (SameBut.refl d _) nD, hd2.same (same_upd (Same.refl _) nD), by omega, hk02⟩
           · rintro i3 H4 hi3 ⟨bs, rs3, k7, hbn, hbr, hbl, hp4, sb4, hd4, hk7, h07⟩
             refine ⟨rfl, ?_⟩
             wtm_at "fo r"
             refine call_next hd4 (by omega) (fun n2 H8 hn2 sb8 hd8 => ?_)
             wtm_at "fo r"
             have hp8 := hp4.but sb8 hd4
             refine ite2 (fun hb => ?_) (fun hb => ?_)
             · wtm_at "fo r"
               rename_i r nr
               have nr0 := (sb4.trans sb8).none hd8 nr
               have hrd : r ≠ d := by
                 obtain ⟨a, b, e, _⟩ := hd8
                 exact (ne_of_none e nr).symm
               refine ⟨rs3.map V.ref, ?_, ?_, bs ++ [1 + (i : Int) + 1 + (i3 : Int)], rs3 ++ [r], k7 + 1, ?_, ?_, ?_, ?_, ?_, ?_, by omega, by omega⟩
               · rw [upd_ne (ne_of_none hp8.hD nr)]
                 exact hp8.hD
               · rw [List.length_map, hp8.len, List.length_map]
                 exact Nat.lt_of_le_of_lt (m := 100) (by omega) (by decide)
               · rw [List.nodup_append]
                 refine ⟨hbn, by simp, ?_⟩
                 intro a ha b hb2
                 simp at hb2
                 have := hbr a ha
                 omega
               · intro b hb2
                 rcases List.mem_append.mp hb2 with hb2 | hb2
                 · have := hbr b hb2
                   omega
                 · simp at hb2
                   omega
               · rw [List.length_append]
                 simp
                 omega
               · rw [List.map_append]
                 exact hp8.push nr (1 + (i : Int), 1 + (i : Int) + 1 + (i3 : Int))
               · exact ((sb4.trans sb8).new nr0).new nD
               · obtain ⟨a, b, e, h0⟩ := hd8
                 exact ⟨a, b, by rw [upd_ne nDd.symm, upd_ne hrd.symm]; exact e, h0⟩
             · exact ⟨bs, rs3, k7 + 1, hbn, fun b hb2 => by have := hbr b hb2; omega, by omega, hp8, sb4.trans sb8, hd8, by omega, by omega⟩
           · rintro H4 ⟨bs, rs3, k7, hbn, hbr, hbl, hp4, sb4, hd4, hk7, h07⟩
             have hp5 := hp2.but sb4 hd2
             refine Or.inr ⟨t, D, rs2.map V.ref, rs3.map V.ref, rfl, rfl, hp5.hD, hp4.hD, ?_, fun c nc => ?_⟩
             · rw [List.length_map, List.length_map, hp2.len, hp4.len, List.length_map]
               exact Nat.le_trans (m := 1000) (by omega) (by decide)
             have hp6 := hp5.cat hp4 nc
             have nc0 : H c = none := (sb2.trans sb4).none hd4 nc
             refine ⟨c, _, _, k7, _, rfl, hp6, ?_, ?_, ?_, (sb2.trans sb4).new nc0, nc0, hd4.same (same_upd (Same.refl _) nc), by omega, by omega⟩
             · exact simp_rows hS2 hlt (by omega) (by omega) (fun b hb2 => by have := hbr b hb2; omega) hbn
             · intro e he
               rcases List.mem_append.mp he with he | he
               · have := hlt e he
                 omega
               · obtain ⟨b, hb2, rfl⟩ := List.mem_map.mp he
                 have := hbr b hb2
                 simp only
                 omega
             · rw [List.length_append, List.length_map]
               omega
         · rintro σ H2 ⟨t, rs2, es2, k2, y5, rfl, hp2, hS2, hlt, hl2, sb2, nt, hd2, hk2, hk02⟩
           rw [hN] at hl2 hk2
           exact Or.inl ⟨hkd, t, _, _, _, _, _, _, es2, k2, rfl, hp2.pairs, hS2, (fun e1 => absurd (e1.symm.trans hkd) (by decide)), by omega, sb2, nt, hd2, by omega, hk02⟩
       · refine ifF (by simp [hkd]) ?_
         exact Or.inr ⟨hkd, rfl, rfl⟩
     refine fun σ1 H1 m1 => ⟨fun σ H1 => (kd ≤ 1 ∧ Done σ H1) ∨ (kd = 2 ∧ Undone σ H1), ?_, fun σ2 H2 m2 => ⟨Done, ?_, fun σ3 H3 m3 => ?_⟩⟩
     · rcases m1 with ⟨hkd, dn⟩ | ⟨hkd, rfl, rfl⟩
       · obtain ⟨t, y3, y5, y6, y7, y8, y9, es, k1, rfl, rest⟩ := id dn
         wtm_at "fo r"
         refine ifF (by rw [hkd]; rfl) ?_
         exact Or.inl ⟨by omega, dn⟩
       · wtm_at "fo r"
         by_cases h1 : kd = 1
         · refine ifT (by rw [h1]; rfl) ?_
           wtm_at "fo r"
           rename_i p np
           refine call_grown (es := []) (hd.same (same_upd (Same.refl _) np)) (by omega) hn (by decide) (by omega) (PsAt.pairs (PsAt.nil upd_same)) (simp_nil _) (by simp) ?_
           intro q H4 k4 fs hS4 hG4 hl4 sb4 nq hp4 hd4 hk4
           have hqp : H1 q = none := (Same.but d (same_upd (Same.refl H1) np)).none (hd.same (same_upd (Same.refl _) np)) nq
           refine Or.inl ⟨by omega, q, _, _, _, _, _, _, fs, k4, rfl, hp4, hS4, (fun _ => (grw_shrinks hG4 (by decide)).2.2), hl4, (Same.but d (same_upd (Same.refl _) np)).trans sb4, hqp, hd4, by omega, ?_⟩
           exact hd4.elim fun a ⟨b, _, h0⟩ => h0
         · refine ifF (by simp [h1]) ?_
           exact Or.inr ⟨by omega, rfl, rfl⟩
     · rcases m2 with ⟨hkd, dn⟩ | ⟨hkd, rfl, rfl⟩
       · obtain ⟨t, y3, y5, y6, y7, y8, y9, es, k1, rfl, rest⟩ := id dn
         wtm_at "fo r"
         refine ifF (by simp; omega) ?_
         exact dn
       · wtm_at "fo r"
         refine ifT (by rw [hkd]; rfl) ?_
         wtm_at "fo r"
         refine call_next hd (by omega) (fun n1 H4 hn1 sb1 hd1 => ?_)
         wtm_at "fo r"
         have gg1 := Int.emod_nonneg n1 (show (4 : Int) ≠ 0 by decide)
         have gg2 := Int.emod_lt_of_pos n1 (show (0 : Int) < 4 by decide)
         let far : Int := if 4 + n1 % 4 < (n : Int) then 4 + n1 % 4 else n
         have f1 : 1 ≤ far := by
           show 1 ≤ (if 4 + n1 % 4 < (n : Int) then 4 + n1 % 4 else n)
           split <;> omega
         have f2 : far ≤ n := by
           show (if 4 + n1 % 4 < (n : Int) then 4 + n1 % 4 else (n : Int)) ≤ n
           split <;> omega
         have f3 : far ≤ 7 := by
           show (if 4 + n1 % 4 < (n : Int) then 4 + n1 % 4 else (n : Int)) ≤ 7
           split <;> omega
         refine ⟨_, _, rfl, ?_⟩
         wtm_at "fo r"
         have f0 : (0 : Int) < (if 4 + n1 % 4 < (n : Int) then 4 + n1 % 4 else n) := f1
         have hfN : ((far.toNat : Nat) : Int) = far := by omega
         have hk4 : 0 ≤ k + 1 := by omega
         refine ite2 (fun hc => ?_) (fun hc => ?_)
         · have hc2 : 2 < far := of_decide_eq_true hc
           refine ⟨_, rfl, Or.inl ⟨_, _, rfl, rfl, 1, far + 1, rfl, ⟨by omega, by omega, by omega, by omega⟩, fun D nD => ?_⟩⟩
           have hN : (far + 1 - 1).toNat = far.toNat := by omega
           refine lc_range (fun i H5 => Same H4 H5 ∧ ∃ rs, PsAt H5 D rs ((List.range i).map fun (i : Nat) => ((i : Int) + 1, ((i : Int) + 1) % ((far.toNat : Nat) : Int) + 1))) ?_ ?_ ?_
           · exact ⟨same_upd (Same.refl _) nD, [], PsAt.nil upd_same⟩
           · rintro i H5 hi ⟨sm, rs, hp⟩
             rw [hN] at hi
             refine ⟨rfl, ?_⟩
             wtm_at "fo r"
             rename_i r nr
             refine ⟨rs.map V.ref, ?_, ?_, same_upd (same_upd sm (sm.free nr)) nD, rs ++ [r], ?_⟩
             · rw [upd_ne (ne_of_none hp.hD nr)]
               exact hp.hD
             · rw [List.length_map, hp.len, List.length_map, List.length_range]
               exact Nat.lt_of_le_of_lt (m := 100) (by omega) (by decide)
             · refine (hp.push nr (1 + (i : Int), (1 + (i : Int)) % far + 1)).cong ?_
               rw [List.range_succ, List.map_append, hfN, Int.add_comm 1 (i : Int)]
               rfl
           · rintro H5 ⟨sm, rs, hp⟩
             rw [hN] at hp
             wtm_at "fo r"
             refine call_grown (st := far + 1) (es := ringM far.toNat) (hd1.same sm) (by omega) hn (by omega) (by omega) hp.pairs ?_ ?_ ?_
             · have := ring_simp far.toNat (by omega) (by omega)
               rw [hfN] at this
               rw [show far + 1 - 1 = far by omega]
               exact this
             · rw [ringM, List.length_map, List.length_range]
               omega
             · intro q H6 k6 fs hS6 _ hl6 sb6 nq hp6 hd6 hk6
               have nq0 : H2 q = none := (sb1.trans (Same.but d sm)).none (hd1.same sm) nq
               refine ⟨q, _, _, _, _, _, _, fs, k6, rfl, hp6, hS6, (fun e1 => absurd (e1.symm.trans hkd) (by decide)), hl6, (sb1.trans (Same.but d sm)).trans sb6, nq0, hd6, by omega, ?_⟩
               exact hd6.elim fun a ⟨b, _, h0⟩ => h0
         · wtm_at "fo r"
           rename_i p np
           refine call_grown (st := far + 1) (es := []) (hd1.same (same_upd (Same.refl _) np)) (by omega) hn (by omega) (by omega) (PsAt.pairs (PsAt.nil upd_same)) (simp_nil _) (by simp) ?_
           intro q H6 k6 fs hS6 _ hl6 sb6 nq hp6 hd6 hk6
           have nq0 : H2 q = none := (sb1.trans (Same.but d (same_upd (Same.refl _) np))).none (hd1.same (same_upd (Same.refl _) np)) nq
           refine ⟨q, _, _, _, _, _, _, fs, k6, rfl, hp6, hS6, (fun e1 => absurd (e1.symm.trans hkd) (by decide)), hl6, (sb1.trans (Same.but d (same_upd (Same.refl _) np))).trans sb6, nq0, hd6, by omega, ?_⟩
           exact hd6.elim fun a ⟨b, _, h0⟩ => h0
     · obtain ⟨t, y3, y5, y6, y7, y8, y9, es, k1, rfl, hp, hSi, hZ, hl, sb, nt, hd1, hk1, hk01⟩ := m3
       obtain ⟨rs, hp0⟩ := PsAt.of hp
       wtm_at "fo r"
       rename_i p np
       refine fun l nl => ?_
       have hpl : p ≠ l := ne_of_none upd_same nl
       have nl0 : H3 l = none := by rw [upd_ne hpl.symm] at nl; exact nl
       have sm3 : Same H3 (upd (upd H3 p (.lst [.int 0])) l (.lst (rgV 1 ((n : Int) + 1)))) := same_upd (same_upd (Same.refl _) np) nl0
       have hrg : rgV 1 ((n : Int) + 1) = ((List.range n).map fun (i : Nat) => (1 : Int) + i).map V.int := by
         unfold rgV
         rw [show ((n : Int) + 1 - 1).toNat = n by omega, List.map_map]
         rfl
       have hpv : (upd (upd H3 p (.lst [.int 0])) l (.lst (rgV 1 ((n : Int) + 1)))) p = some (.lst [.int 0]) := by rw [upd_ne hpl]; exact upd_same
       refine call_shuf (hd1.same sm3) (by omega) upd_same ?_ ?_ ?_
       · rw [rgV_length]
         omega
       · intro x hx
         rw [hrg] at hx
         obtain ⟨z, hz, rfl⟩ := List.mem_map.mp hx
         obtain ⟨i, hi, rfl⟩ := List.mem_map.mp hz
         have := List.mem_range.mp hi
         exact .inl ⟨_, rfl, by omega⟩
       intro p2 ys H5 k5 hperm sb5 np2 hp2 hd5 hk5
       obtain ⟨zs, hz, rfl⟩ := perm_lift V.int hperm _ hrg
       have hk05 : 0 ≤ k5 := hd5.elim fun a ⟨b, _, h0⟩ => h0
       have hzl : zs.length = n := by rw [hz.length_eq]; simp
       have hd3' := hd1.same sm3
       have hpd : p ≠ d := hd3'.ne_ints (xs := [0]) hpv
       have hp5v := sb5 p _ hpd hpv
       refine Or.inr ⟨p, p2, [.int 0], zs.map V.int, rfl, rfl, hp5v, hp2, ?_, fun c nc => ?_⟩
       · rw [List.length_map, hzl]
         exact Nat.le_trans (m := 100) (show 1 + n ≤ 100 by omega) (by decide)
       have hp5 := (hp0.same sm3).but sb5 hd3'
       have sm6 : Same H5 (upd H5 c (.lst ([V.int 0] ++ zs.map V.int))) := same_upd (Same.refl _) nc
       have hp6 := hp5.same sm6
       have hc6 : (upd H5 c (.lst ([V.int 0] ++ zs.map V.int))) c = some (.lst ([V.int 0] ++ zs.map V.int)) := upd_same
       have sbA : SameBut d H (upd H5 c (.lst ([V.int 0] ++ zs.map V.int))) := ((sb.trans (Same.but d sm3)).trans sb5).trans (Same.but d sm6)
       have hdA := hd5.same sm6
       refine ⟨_, rfl, _, rfl, ⟨_, SqL.of hp6.hD⟩, fun D nD => ?_⟩
       refine lc_list (K := K) (xs := rs.map V.ref) (fun i H7 => Same (upd H5 c (.lst ([V.int 0] ++ zs.map V.int))) H7 ∧ ∃ rs7, PsAt H7 D rs7 ((es.take i).map fun e => (nameOf zs e.1, nameOf zs e.2))) ?_ ?_ ?_ ?_
       · exact ⟨same_upd (Same.refl _) nD, [], PsAt.nil upd_same⟩
       · rintro i H7 _ ⟨sm7, _⟩
         exact SqL.of (sm7 _ _ hp6.hD)
       · rintro i x H7 hx ⟨sm7, rs7, hp7⟩
         obtain ⟨r, hr, rfl⟩ := ref_at hx
         have hi : i < es.length := by rw [← hp0.len]; exact (List.getElem?_eq_some_iff.mp hr).1
         have hes : es[i]? = some es[i] := List.getElem?_eq_getElem hi
         have hre := sm7 _ _ (hp6.at_ i r _ hr hes)
         have htk : (es.take (i + 1)).map (fun e => (nameOf zs e.1, nameOf zs e.2)) = (es.take i).map (fun e => (nameOf zs e.1, nameOf zs e.2)) ++ [(nameOf zs es[i].1, nameOf zs es[i].2)] := by
           rw [List.take_add_one, hes, List.map_append]
           rfl
         have hq := hSi.rng _ (List.getElem_mem hi)
         have hml : ((es.take i).map fun e => (nameOf zs e.1, nameOf zs e.2)).length ≤ 200 := by
           rw [List.length_map]
           exact Nat.le_trans (List.take_sublist i es).length_le hl
         rw [htk]
         generalize (es.take i).map (fun e => (nameOf zs e.1, nameOf zs e.2)) = es0 at *
         generalize es[i] = e at *
         obtain ⟨ea, eb⟩ := e
         simp only at hre hq
         have hc7 := sm7 _ _ hc6
         have ga := name_at hz hq.1 hq.2.1
         have gb := name_at hz hq.2.2.1 hq.2.2.2.1
         refine Or.inr ⟨r, [.int ea, .int eb], rfl, SqL.of hre, rfl, .int ea, [.int eb], rfl, .int eb, [], rfl, rfl, rfl, ?_⟩
         refine ⟨_, rfl, _, rfl, Or.inl ⟨c, _, ea, .int (nameOf zs ea), rfl, rfl, SqL.of hc7, at_of (j := (ea - 1).toNat + 1) (by omega) ?_, ?_⟩⟩
         · show (V.int 0 :: zs.map V.int)[(ea - 1).toNat + 1]? = _
           rw [List.getElem?_cons_succ, List.getElem?_map, ga.1]
           rfl
         refine ⟨_, rfl, _, rfl, Or.inl ⟨c, _, eb, .int (nameOf zs eb), rfl, rfl, SqL.of hc7, at_of (j := (eb - 1).toNat + 1) (by omega) ?_, ?_⟩⟩
         · show (V.int 0 :: zs.map V.int)[(eb - 1).toNat + 1]? = _
           rw [List.getElem?_cons_succ, List.getElem?_map, gb.1]
           rfl
         wtm_at "fo r"
         rename_i r2 nr2
         refine ⟨rs7.map V.ref, ?_, ?_, same_upd (same_upd sm7 (sm7.free nr2)) nD, rs7 ++ [r2], hp7.push nr2 (nameOf zs ea, nameOf zs eb)⟩
         · rw [upd_ne (ne_of_none hp7.hD nr2)]
           exact hp7.hD
         · rw [List.length_map, hp7.len]
           exact Nat.lt_of_le_of_lt hml (by decide)
       rintro H7 ⟨sm7, rs7, hp7⟩
       rw [List.length_map, hp0.len, List.take_length] at hp7
       have hS7 : Simp n (es.map fun e => (nameOf zs e.1, nameOf zs e.2)) := simp_map hSi (nameOf zs) (fun x h1 h2 => (name_at hz h1 h2).2) (fun x y h1 h2 h3 h4 e => name_inj hz h1 h2 h3 h4 e)
       have hZ7 : kd = 1 → Shrinks n (es.map fun e => (nameOf zs e.1, nameOf zs e.2)) := fun e1 => shrinks_ren (nameOf zs) (hZ e1) (fun x h1 h2 => (name_at hz h1 h2).2) (fun x y h1 h2 h3 h4 e => name_inj hz h1 h2 h3 h4 e)
         fun x y h1 h2 h3 h4 => mates_ren hSi (nameOf zs) (fun x y h1 h2 h3 h4 e => name_inj hz h1 h2 h3 h4 e) h1 h2 h3 h4
       have hl7 : (es.map fun e => (nameOf zs e.1, nameOf zs e.2)).length ≤ 200 := by rw [List.length_map]; exact hl
       generalize es.map (fun e => (nameOf zs e.1, nameOf zs e.2)) = es7 at *
       have hd7 := hdA.same sm7
       have sbB := sbA.trans (Same.but d sm7)
       refine ⟨_, rfl, _, rfl, _, rfl, ⟨_, SqL.of hp7.hD⟩, fun D2 nD2 => ?_⟩
       refine lc_list (K := K) (xs := rs7.map V.ref) (fun i H8 => ∃ (fs : List Edge) (rs8 : List Addr) (k8 : Int), Flips (es7.take i) fs ∧ PsAt H8 D2 rs8 fs ∧ SameBut d H7 H8 ∧ Dr H8 d k8 ∧ k8 ≤ k5 + i ∧ 0 ≤ k8) ?_ ?_ ?_ ?_
       · exact ⟨[], [], k5, trivial, PsAt.nil upd_same, SameBut.new (SameBut.refl d _) nD2, hd7.same (same_upd (Same.refl _) nD2), by omega, hk05⟩
       · rintro i H8 _ ⟨fs, rs8, k8, hf, hp8, sb8, hd8, hk8, h08⟩
         exact SqL.of (sb8 _ _ (hd7.ne_refs hp7.hD) hp7.hD)
       · rintro i x H8 hx ⟨fs, rs8, k8, hf, hp8, sb8, hd8, hk8, h08⟩
         obtain ⟨r, hr, rfl⟩ := ref_at hx
         have hi : i < es7.length := by rw [← hp7.len]; exact (List.getElem?_eq_some_iff.mp hr).1
         have hes : es7[i]? = some es7[i] := List.getElem?_eq_getElem hi
         have hre := hp7.at_ i r _ hr hes
         have hrd := hd7.ne_pair hre
         have hfl := flips_length hf
         have hfl2 : (es7.take i).length ≤ 200 := Nat.le_trans (List.take_sublist i es7).length_le hl7
         have htk : es7.take (i + 1) = es7.take i ++ [es7[i]] := by
           rw [List.take_add_one, hes]
           rfl
         rw [htk]
         generalize es7.take i = es0 at *
         generalize es7[i] = e at *
         obtain ⟨ea, eb⟩ := e
         simp only at hre
         refine ⟨rfl, ?_⟩
         wtm_at "fo r"
         rename_i q nq
         have hd8q := hd8.same (same_upd (o := HO.lst [V.int 1, V.int (-1)]) (Same.refl _) nq)
         refine call_next hd8q (by omega) (fun n2 H9 hn2 sb9 hd9 => ?_)
         have hqd : q ≠ d := by
           obtain ⟨a, b, e, _⟩ := hd8
           exact (ne_of_none e nq).symm
         have hq9 : H9 q = some (.lst [.int 1, .int (-1)]) := sb9 q _ hqd upd_same
         have sb79 : SameBut d H7 H9 := (sb8.trans (Same.but d (same_upd (Same.refl _) nq))).trans sb9
         have hre9 := sb79 r _ hrd hre
         have hp9 : PsAt H9 D2 rs8 fs := (hp8.same (same_upd (Same.refl _) nq)).but sb9 hd8q
         wtm_at "fo r"
         have m1' := Int.emod_nonneg n2 (show (2 : Int) ≠ 0 by decide)
         have m2' := Int.emod_lt_of_pos n2 (show (0 : Int) < 2 by decide)
         have fin2 : ∀ (e2 : Edge), (e2 = (ea, eb) ∨ e2 = (eb, ea)) → ∀ r2, H9 r2 = none → ∃ acc, (upd H9 r2 (.lst [.int e2.1, .int e2.2])) D2 = some (.lst acc) ∧ acc.length < sizeLine ∧
             ∃ (fs : List Edge) (rs8 : List Addr) (k8 : Int), Flips (es0 ++ [(ea, eb)]) fs ∧ PsAt (upd (upd H9 r2 (.lst [.int e2.1, .int e2.2])) D2 (.lst (acc ++ [V.ref r2]))) D2 rs8 fs ∧
               SameBut d H7 (upd (upd H9 r2 (.lst [.int e2.1, .int e2.2])) D2 (.lst (acc ++ [V.ref r2]))) ∧ Dr (upd (upd H9 r2 (.lst [.int e2.1, .int e2.2])) D2 (.lst (acc ++ [V.ref r2]))) d k8 ∧ k8 ≤ k5 + ((i + 1 : Nat) : Int) ∧ 0 ≤ k8 := by
           intro e2 he2 r2 nr2
           have hD2d : D2 ≠ d := hd9.ne_refs hp9.hD
           have hr2d : r2 ≠ d := by
             obtain ⟨a, b, e, _⟩ := hd9
             exact (ne_of_none e nr2).symm
           refine ⟨rs8.map V.ref, ?_, ?_, fs ++ [e2], rs8 ++ [r2], k8 + 1, flips_snoc hf he2, hp9.push nr2 e2, ?_, ?_, by omega, by omega⟩
           · rw [upd_ne (ne_of_none hp9.hD nr2)]
             exact hp9.hD
           · rw [List.length_map, hp9.len, hfl]
             exact Nat.lt_of_le_of_lt hfl2 (by decide)
           · exact (sb79.new (sb79.none hd9 nr2)).new nD2
           · obtain ⟨a, b, e, h0⟩ := hd9
             exact ⟨a, b, by rw [upd_ne hD2d.symm, upd_ne hr2d.symm]; exact e, h0⟩
         have hcase : n2 % 2 = 0 ∨ n2 % 2 = 1 := by omega
         rcases hcase with hm | hm
         · refine Or.inl ⟨q, _, _, .int 1, rfl, rfl, SqL.of hq9, ?_, ?_⟩
           · show atI _ (n2 % 2) = _
             rw [hm]
             rfl
           refine ⟨_, rfl, r, _, rfl, Or.inl rfl, SqL.of hre9, fun r2 nr2 => ?_⟩
           exact fin2 (ea, eb) (.inl rfl) r2 nr2
         · refine Or.inl ⟨q, _, _, .int (-1), rfl, rfl, SqL.of hq9, ?_, ?_⟩
           · show atI _ (n2 % 2) = _
             rw [hm]
             rfl
           refine ⟨_, rfl, r, _, rfl, Or.inr rfl, SqL.of hre9, fun r2 nr2 => ?_⟩
           exact fin2 (eb, ea) (.inr rfl) r2 nr2
       rintro H8 ⟨fs, rs8, k8, hf, hp8, sb8, hd8, hk8, h08⟩
       rw [List.length_map, hp7.len, List.take_length] at hf
       rw [List.length_map, hp7.len] at hk8
       have hS8 := simp_flips hS7 hf
       have hl8 := flips_length hf
       refine call_shuf hd8 (by omega) hp8.hD ?_ ?_ ?_
       · rw [List.length_map, hp8.len, hl8]
         exact hl7
       · intro x hx
         obtain ⟨r, hr, rfl⟩ := List.mem_map.mp hx
         obtain ⟨e, he, hre⟩ := hp8.mem hr
         have := hS8.rng e he
         exact .inr ⟨r, _, _, rfl, hre, by omega, by omega⟩
       intro p9 ys H9 k9 hperm sb9 np9 hp9 hd9 hk9
       obtain ⟨fs9, rs9, hq1, hq2⟩ := hp8.perm hperm hp9 (fun r e hr he => sb9 r _ (hd8.ne_pair he) he)
       have sbC := (sbB.trans sb8).trans sb9
       have np0 : H p9 = none := (sbB.trans sb8).none hd8 np9
       exact fin p9 H9 k9 fs9 (simp_perm hS8 hq1) (fun e1 => shrinks_same (hZ7 e1) fun x y => (mates_perm hq1 x y).trans (flips_mates hf x y)) (by rw [hq1.length_eq, hl8]; exact hl7) sbC np0 hq2.pairs hd9 (by omega)
end
/-! tactics TAC2 -/
local macro_rules | `(tactic| wtm_at "fo v") => `(tactic| first
  | ((with_reducible show PE _ (.Name (Str.ofString "int") _) _); exact pe_bltn (v := .ty "int") (by rfl) (by assumption) (by decide +kernel) rfl)
  | ((with_reducible show PE _ (.Name (Str.ofString "list") _) _); exact pe_bltn (v := .ty "list") (by rfl) (by assumption) (by decide +kernel) rfl)
  | ((with_reducible show PE _ (.Name (Str.ofString "MOST_PLACES") _) _); exact pe_glob (v := .int 12) (by rfl) (by assumption) ⟨_, rfl⟩)
  | fail "no")
local macro_rules | `(tactic| wtm_at "fo e") => `(tactic| first
  | ((with_reducible show PE _ (.BoolOp .And [_] _) _); apply pe_one; wtm_at "fo e")
  | ((with_reducible show PE _ (.BoolOp .And _ _) _); apply pe_and; (· wtm_at "fo e"); (· wtm_at "fo e"))
  | ((with_reducible show PE _ (.Compare _ [.IsNot] [.Constant (.bool true) _ _] _) _); refine' pe_cmpR op_notT ?ka ?kb (nomark _); (case ka => wtm_at "fo e"); (case kb => wtm_at "fo e"))
  | ((with_reducible show PE _ (.Compare _ [.LtE, .LtE] _ _) _); refine' pe_chain op_le op_le ?ka ?kb ?kc; (case ka => wtm_at "fo e"); (case kb => wtm_at "fo e"); (case kc => wtm_at "fo e"))
  | ((with_reducible show PE _ (.Call (.Name (Str.ofString "isinstance") _) _ _ _) _); refine' pe_callB (call_isiK' (by assumption) (by exact rfl)) (by rfl) (by assumption) (by decide +kernel) ?ka; (case ka => wtm_at "fo a"))
  | ((with_reducible show PE _ (.Call (.Attribute _ (Str.ofString "bit_length") _) [] [] _) _); refine' pe_bits ?ka; (case ka => wtm_at "fo e"))
  | fail "no")
local macro_rules | `(tactic| wtm_at "fo t") => `(tactic| first
  | ((with_reducible show PT _ (.Compare _ [.IsNot] [.Constant (.bool true) _ _] _) _); refine' pt_cmpR op_notT ?ka ?kb (nomark _); (case ka => wtm_at "fo e"); (case kb => wtm_at "fo e"))
  | ((with_reducible show PT _ (.Compare _ [.Lt, .Lt, .LtE] _ _) _); refine' pt_chain3 op_lt op_lt op_le ?ka ?kb ?kc ?kd; (case ka => wtm_at "fo e"); (case kb => wtm_at "fo e"); (case kc => wtm_at "fo e"); (case kd => wtm_at "fo e"))
  | fail "no")
local macro_rules | `(tactic| wtm_at "fo s") => `(tactic| first
  | ((with_reducible show PS _ (.Raise _ _ _) _); exact ps_never)
  | ((with_reducible show PS _ (.Continue _) _); exact ps_continue)
  | ((with_reducible show PS _ (.AugAssign (.Subscript _ _ _) .BitOr _ _) _); refine' ps_augS ?ka ?kb get_list ?kc ip_or set_list; (case ka => wtm_at "fo e"); (case kb => wtm_at "fo e"); (case kc => wtm_at "fo e"))
  | ((with_reducible show PS _ (.Assign [.Tuple _ _ _] (.Name _ _) _) _); refine' ps_asg ?ka ?kb; (case ka => wtm_at "fo e"); (case kb => wtm_at "fo g"))
  | fail "no")
/-! piece D12 -/
section
variable {P : Program} {w : World} {K : PySem.W.Frag} {mg : Str → Option Value} {base : Heap}
@[irreducible] def spRead : Sp := fun vs H Q _ => ∃ (q : Addr) (n : Nat) (es : List Edge), vs = [.int n, .ref q] ∧ 1 ≤ n ∧ n ≤ 12 ∧ Pairs H q es ∧ Simp n es ∧ es.length ≤ 200 ∧
  ∀ r H', Same H H' → H r = none → H' r = some (nLst (nearB n es)) → Q (.ref r) H'
theorem call_read {q : Addr} {n : Nat} {es : List Edge} {H : Hp} {Q : VK} {E : XK} (h1 : 1 ≤ n) (h2 : n ≤ 12) (hq : Pairs H q es) (hS : Simp n es) (hl : es.length ≤ 200)
    (fin : ∀ r H', Same H H' → H r = none → H' r = some (nLst (nearB n es)) → Q (.ref r) H') : spRead [.int n, .ref q] H Q E := by
  unfold spRead
  exact ⟨q, n, es, rfl, h1, h2, hq, hS, hl, fin⟩
set_option maxHeartbeats 4000000 in
theorem ok_read {f : Addr} {fd : FuncData} (F : Fun K "read_net" "read_net" s_read_net f fd) (mi : mg "isinstance" = none) (mt : mg "int" = none) (ml : mg "list" = none) (mr : mg "range" = none) (me : mg "enumerate" = none) (mn : mg "len" = none)
    {tk : Tok} (mP : mg "MOST_PLACES" = some (.int 12 tk)) (C : Cal P w K mg base "is_place" 1 ["place", "places"] spIsPlace) :
    FnOk P w K mg base CX0 2 f fd ["places", "lines"] spRead := by
  refine F.ok sc_read_net (fun vs H Q E h => ?_) (fun cdv A outer s H vs Q E hr h => ?_)
  · unfold spRead at h
    obtain ⟨q, n, es, rfl, _⟩ := h
    rfl
  · have nd := sc_read_net.nd
    have hS := sc_read_net
    have hKM : KMark K := ⟨⟩
    refine' mk_body ?body ?rd
    case body =>
      show PSs _ [_, _, _, _, _, _] _
      wtm_at "fo ss"
    case rd =>
     unfold spRead at h
     obtain ⟨q, n, es, rfl, h1, h2, hq, hSi, hl, fin⟩ := h
     wtm_at "fo r"
     refine call_isplace ⟨_, rfl, ?_⟩
     refine ifF (by rw [decide_eq_true (by omega)]; rfl) ?_
     obtain ⟨rs, hD, hrl, hat⟩ := hq
     wtm_at "fo r"
     refine ⟨.ref q, .ty "list", _, _, true, rfl, .ty "list", .base (.lst hD), kit_ty (by decide +kernel), ?_⟩
     wtm_at "fo r"
     refine fun D nD => ?_
     have hN : (((n : Int) + 1)).toNat = n + 1 := by omega
     refine lc_range (fun i H1 => i ≤ n + 1 ∧ H1 = upd H D (.lst ((List.range i).map fun (k : Nat) => V.int ((2 ^ k : Nat) : Int)))) ⟨Nat.zero_le _, rfl⟩ ?_ ?_
     · rintro i H1 hi ⟨hi2, rfl⟩
       rw [hN] at hi
       refine ⟨rfl, ?_⟩
       wtm_at "fo r"
       have hlen : ((List.range i).map fun (k : Nat) => V.int ((2 ^ k : Nat) : Int)).length = i := by simp
       refine ⟨_, upd_same, by rw [hlen]; exact Nat.lt_of_le_of_lt (m := 20) (by omega) (by decide), by omega, ?_⟩
       rw [upd_upd, List.range_succ, List.map_append]
       have ev : V.int (1 * 2 ^ (0 + (i : Int)).toNat) = V.int ((2 ^ i : Nat) : Int) := by
         rw [show (0 + (i : Int)).toNat = i by omega, Int.one_mul, Int.natCast_pow]
         rfl
       show upd H D (HO.lst (_ ++ [V.int (1 * 2 ^ (0 + (i : Int)).toNat)])) = _
       rw [ev]
       rfl
     · rintro H1 ⟨_, rfl⟩
       rw [hN]
       wtm_at "fo r"
       rename_i p np
       have sm1 : Same H (upd H D (.lst ((List.range (n + 1)).map fun (k : Nat) => V.int ((2 ^ k : Nat) : Int)))) := same_upd (Same.refl _) nD
       have hD1 : (upd H D (.lst ((List.range (n + 1)).map fun (k : Nat) => V.int ((2 ^ k : Nat) : Int)))) D = some (.lst ((List.range (n + 1)).map fun (k : Nat) => V.int ((2 ^ k : Nat) : Int))) := upd_same
       generalize upd H D (.lst ((List.range (n + 1)).map fun (k : Nat) => V.int ((2 ^ k : Nat) : Int))) = H1 at *
       have sm2 : Same H (upd H1 p (.lst [.int 0])) := same_upd sm1 (sm1.free np)
       have hp2 : (upd H1 p (.lst [.int 0])) p = some (.lst [.int 0]) := upd_same
       have hD2 : (upd H1 p (.lst [.int 0])) D = some (.lst ((List.range (n + 1)).map fun (k : Nat) => V.int ((2 ^ k : Nat) : Int))) := (upd_ne (ne_of_none hD1 np)).trans hD1
       generalize upd H1 p (.lst [.int 0]) = H2 at *
       refine ⟨D, _, rfl, SqL.of hD2, fun c nc => ?_⟩
       rw [cut_1]
       have sm3 : Same H2 (upd H2 c (.lst (((List.range (n + 1)).map fun (k : Nat) => V.int ((2 ^ k : Nat) : Int)).drop 1))) := same_upd (Same.refl _) nc
       have hc3 : (upd H2 c (.lst (((List.range (n + 1)).map fun (k : Nat) => V.int ((2 ^ k : Nat) : Int)).drop 1))) c = some (.lst (((List.range (n + 1)).map fun (k : Nat) => V.int ((2 ^ k : Nat) : Int)).drop 1)) := upd_same
       generalize upd H2 c (.lst (((List.range (n + 1)).map fun (k : Nat) => V.int ((2 ^ k : Nat) : Int)).drop 1)) = H3 at *
       refine Or.inr ⟨p, c, _, _, rfl, rfl, sm3 _ _ hp2, hc3, ?_, fun r nr => ?_⟩
       · rw [List.length_drop, List.length_map, List.length_range]
         exact Nat.le_trans (m := 20) (by simp; omega) (by decide)
       have e0 : [V.int 0] ++ ((List.range (n + 1)).map fun (k : Nat) => V.int ((2 ^ k : Nat) : Int)).drop 1 = (nearB n []).map fun (v : Nat) => V.int v := by
         show _ = (nb0 n).map _
         unfold nb0
         rw [List.range_succ_eq_map, List.map_cons, List.drop_succ_cons, List.drop_zero, List.map_map, List.map_cons, List.map_map]
         rfl
       rw [e0]
       have sm03 : Same H H3 := sm2.trans sm3
       have sm4 : Same H (upd H3 r (.lst ((nearB n []).map fun (v : Nat) => V.int v))) := same_upd sm03 (sm03.free nr)
       have hD4 : (upd H3 r (.lst ((nearB n []).map fun (v : Nat) => V.int v))) D = some (.lst ((List.range (n + 1)).map fun (k : Nat) => V.int ((2 ^ k : Nat) : Int))) := (upd_ne (ne_of_none (sm3 _ _ hD2) nr)).trans (sm3 _ _ hD2)
       have hr4 : (upd H3 r (.lst ((nearB n []).map fun (v : Nat) => V.int v))) r = some (nLst (nearB n [])) := upd_same
       have nr0 : H r = none := sm03.free nr
       have hDr0 : D ≠ r := ne_of_none (sm3 _ _ hD2) nr
       generalize upd H3 r (.lst ((nearB n []).map fun (v : Nat) => V.int v)) = H4 at *
       refine ⟨_, rfl, q, rs.map V.ref, rfl, SqL.of (sm4 _ _ hD), ?_⟩
       refine for_enum (K := K) (xs := rs.map V.ref) (fun i σ H5 => ∃ y5 y6 y7 y8, σ = [some (.int n), some (.ref q), some (.ref D), none, some (.ref r), y5, y6, y7, y8] ∧ Same H H5 ∧
         H5 D = some (.lst ((List.range (n + 1)).map fun (k : Nat) => V.int ((2 ^ k : Nat) : Int))) ∧ H5 r = some (nLst (nearB n (es.take i)))) ?_ ?_ ?_ ?_
       · exact ⟨none, none, none, none, rfl, sm4, hD4, hr4⟩
       · rintro i σ H5 _ ⟨y5, y6, y7, y8, rfl, sm5, hD5, hr5⟩
         exact SqL.of (sm5 _ _ hD)
       · rintro i x T σ H5 hx ⟨y5, y6, y7, y8, rfl, sm5, hD5, hr5⟩ nT
         obtain ⟨ri, hri, rfl⟩ := ref_at hx
         have hi : i < es.length := by rw [← hrl]; exact (List.getElem?_eq_some_iff.mp hri).1
         have hei : es[i]? = some es[i] := List.getElem?_eq_getElem hi
         have hti := hat i ri _ hri hei
         have hrg := hSi.rng _ (List.getElem_mem hi)
         have hap : ∀ e ∈ es.take i, Apart e es[i] := take_apart hSi.ap hi
         have htk : es.take (i + 1) = es.take i ++ [es[i]] := by rw [List.take_add_one, hei]; rfl
         have hpos : ∀ e ∈ es.take i, 1 ≤ e.1 ∧ 1 ≤ e.2 ∧ e.1 ≠ e.2 := fun e he => by
           have := hSi.rng e (List.mem_of_mem_take he)
           omega
         generalize hee : es[i] = e at *
         obtain ⟨a, b⟩ := e
         simp only at hti hrg
         obtain ⟨a, rfl⟩ : ∃ k : Nat, a = (k : Int) := ⟨a.toNat, by omega⟩
         obtain ⟨b, rfl⟩ : ∃ k : Nat, b = (k : Int) := ⟨b.toNat, by omega⟩
         have sm6 : Same H (upd H5 T (.tup [.int (i : Nat), .ref ri])) := same_upd sm5 (sm5.free nT)
         have hD6 : (upd H5 T (.tup [.int (i : Nat), .ref ri])) D = _ := (upd_ne (ne_of_none hD5 nT)).trans hD5
         have hnr6 : (upd H5 T (.tup [.int (i : Nat), .ref ri])) r = _ := (upd_ne (ne_of_none hr5 nT)).trans hr5
         refine Or.inl ⟨T, [.int (i : Nat), .ref ri], rfl, SqT.of upd_same, rfl, .int (i : Nat), [.ref ri], rfl, .ref ri, [], rfl, rfl, ?_⟩
         generalize upd H5 T (.tup [.int (i : Nat), .ref ri]) = H6 at *
         have hti6 := sm6 _ _ hti
         wtm_at "fo r"
         refine ⟨.ref ri, .ty "list", _, _, true, rfl, .ty "list", .base (.lst hti6), kit_ty (by decide +kernel), ?_⟩
         refine ⟨true, rfl, ifT rfl ?_⟩
         refine ⟨_, rfl, ri, _, rfl, Or.inl (SqL.of hti6), Or.inl ⟨rfl, _, rfl, ifT (by rfl) ?_⟩⟩
         refine ⟨_, rfl, Or.inr ⟨ri, [.int a, .int b], rfl, SqL.of hti6, rfl, .int a, [.int b], rfl, .int b, [], rfl, rfl, ?_⟩⟩
         refine ⟨_, rfl, .int a, .ty "int", _, _, true, rfl, .ty "int", .base (.int a), kit_ty (by decide +kernel), true, rfl, ifT rfl ?_⟩
         refine ⟨_, rfl, .int b, .ty "int", _, _, true, rfl, .ty "int", .base (.int b), kit_ty (by decide +kernel), true, rfl, ifT rfl ?_⟩
         refine ⟨_, rfl, _, rfl, _, _, rfl, rfl, _, rfl, ?_⟩
         refine ite2 (fun hc => ?_) (fun hc => ?_)
         · refine ⟨_, rfl, Or.inr ⟨ri, [.int a, .int b], rfl, SqL.of hti6, rfl, .int a, [.int b], rfl, .int b, [], rfl, rfl, ?_⟩⟩
           have hba := of_decide_eq_true hc
           have hfr : ∀ e ∈ es.take i, Apart e ((b : Nat), (a : Nat)) := fun e he => ⟨fun h => (hap e he).2 (by rw [h]), fun h => (hap e he).1 (by rw [h])⟩
           have hfr2 : ∀ e ∈ es.take i, Apart e ((a : Nat), (b : Nat)) := fun e he => ⟨fun h => (hfr e he).2 (by rw [h]), fun h => (hfr e he).1 (by rw [h])⟩
           obtain ⟨u, hu, hu0⟩ := fresh_bit (n := n) hpos (a := b) (b := a) (by omega) (by omega) (by omega) hfr
           obtain ⟨u2, hu2, _⟩ := fresh_bit (n := n) hpos (a := a) (b := b) (by omega) (by omega) (by omega) hfr2
           refine ⟨_, rfl, rfl, _, rfl, ifT rfl ?_⟩
           refine ⟨_, rfl, _, _, rfl, rfl, _, rfl, ifT (decide_eq_true (by omega)) ?_⟩
           refine ⟨_, rfl, _, _, rfl, rfl, _, rfl, ifT (decide_eq_true (by omega)) ?_⟩
           refine ⟨_, rfl, _, _, rfl, rfl, _, rfl, ifT (decide_eq_true (by omega)) ?_⟩
           refine ⟨_, rfl, _, rfl, Or.inl ⟨r, _, (b : Nat), _, rfl, rfl, SqL.of hnr6, at_nb hu, ?_⟩⟩
           refine ⟨_, rfl, _, rfl, Or.inl ⟨D, _, (a : Nat), _, rfl, rfl, SqL.of hD6, at_pw (by omega), ?_⟩⟩
           refine ⟨_, _, rfl, rfl, _, rfl, ifT (by rw [bAnd, hu0]; rfl) ?_⟩
           refine ⟨_, rfl, _, rfl, r, _, _, b, _, rfl, rfl, hnr6, by omega, by omega, get_nb hu, ?_⟩
           refine ⟨_, rfl, _, rfl, Or.inl ⟨D, _, (a : Nat), _, rfl, rfl, SqL.of hD6, at_pw (by omega), ?_⟩⟩
           refine ⟨_, _, rfl, rfl, r, _, _, b, rfl, rfl, hnr6, ix_n (by rw [List.length_map]; exact (List.getElem?_eq_some_iff.mp hu).1), ?_⟩
           have hDr : D ≠ r := hDr0
           have hr7 : (upd H6 r (.lst (((nearB n (es.take i)).map fun (v : Nat) => V.int v).set b (.int (Builtin.bitOr u (2 ^ a : Nat)))))) r = some (.lst (((nearB n (es.take i)).map fun (v : Nat) => V.int v).set b (.int (Builtin.bitOr u (2 ^ a : Nat))))) := upd_same
           have hD7 : (upd H6 r (.lst (((nearB n (es.take i)).map fun (v : Nat) => V.int v).set b (.int (Builtin.bitOr u (2 ^ a : Nat)))))) D = some (.lst ((List.range (n + 1)).map fun (k : Nat) => V.int ((2 ^ k : Nat) : Int))) := (upd_ne hDr).trans hD6
           refine ⟨_, rfl, _, rfl, r, _, _, a, _, rfl, rfl, hr7, by omega, by omega, get_nb2 (by omega) hu2, ?_⟩
           refine ⟨_, rfl, _, rfl, Or.inl ⟨D, _, (b : Nat), _, rfl, rfl, SqL.of hD7, at_pw (by omega), ?_⟩⟩
           refine ⟨_, _, rfl, rfl, r, _, _, a, rfl, rfl, hr7, ix_n (by rw [List.length_set, List.length_map]; exact (List.getElem?_eq_some_iff.mp hu2).1), ?_⟩
           refine ⟨_, _, _, _, rfl, same_upd (same_upd sm6 nr0) nr0, ?_, ?_⟩
           · rw [upd_ne hDr]
             exact hD7
           · rw [upd_same, set_addB hu hu2 (by omega), htk]
             unfold nearB nLst
             rw [List.foldl_append]
             rw [addB_swap _ (by show ((b : Int)).toNat ≠ ((a : Int)).toNat; omega)]; rfl

         · skip
           have hba : ¬ ((b : Int) < a) := fun h => hc (decide_eq_true h)
           have hfr : ∀ e ∈ es.take i, Apart e ((a : Nat), (b : Nat)) := hap
           have hfr2 : ∀ e ∈ es.take i, Apart e ((b : Nat), (a : Nat)) := fun e he => ⟨fun h => (hfr e he).2 (by rw [h]), fun h => (hfr e he).1 (by rw [h])⟩
           obtain ⟨u, hu, hu0⟩ := fresh_bit (n := n) hpos (a := a) (b := b) (by omega) (by omega) (by omega) hfr
           obtain ⟨u2, hu2, _⟩ := fresh_bit (n := n) hpos (a := b) (b := a) (by omega) (by omega) (by omega) hfr2
           refine ⟨_, rfl, rfl, _, rfl, ifT rfl ?_⟩
           refine ⟨_, rfl, _, _, rfl, rfl, _, rfl, ifT (decide_eq_true (by omega)) ?_⟩
           refine ⟨_, rfl, _, _, rfl, rfl, _, rfl, ifT (decide_eq_true (by omega)) ?_⟩
           refine ⟨_, rfl, _, _, rfl, rfl, _, rfl, ifT (decide_eq_true (by omega)) ?_⟩
           refine ⟨_, rfl, _, rfl, Or.inl ⟨r, _, (a : Nat), _, rfl, rfl, SqL.of hnr6, at_nb hu, ?_⟩⟩
           refine ⟨_, rfl, _, rfl, Or.inl ⟨D, _, (b : Nat), _, rfl, rfl, SqL.of hD6, at_pw (by omega), ?_⟩⟩
           refine ⟨_, _, rfl, rfl, _, rfl, ifT (by rw [bAnd, hu0]; rfl) ?_⟩
           refine ⟨_, rfl, _, rfl, r, _, _, a, _, rfl, rfl, hnr6, by omega, by omega, get_nb hu, ?_⟩
           refine ⟨_, rfl, _, rfl, Or.inl ⟨D, _, (b : Nat), _, rfl, rfl, SqL.of hD6, at_pw (by omega), ?_⟩⟩
           refine ⟨_, _, rfl, rfl, r, _, _, a, rfl, rfl, hnr6, ix_n (by rw [List.length_map]; exact (List.getElem?_eq_some_iff.mp hu).1), ?_⟩
           have hDr : D ≠ r := hDr0
           have hr7 : (upd H6 r (.lst (((nearB n (es.take i)).map fun (v : Nat) => V.int v).set a (.int (Builtin.bitOr u (2 ^ b : Nat)))))) r = some (.lst (((nearB n (es.take i)).map fun (v : Nat) => V.int v).set a (.int (Builtin.bitOr u (2 ^ b : Nat))))) := upd_same
           have hD7 : (upd H6 r (.lst (((nearB n (es.take i)).map fun (v : Nat) => V.int v).set a (.int (Builtin.bitOr u (2 ^ b : Nat)))))) D = some (.lst ((List.range (n + 1)).map fun (k : Nat) => V.int ((2 ^ k : Nat) : Int))) := (upd_ne hDr).trans hD6
           refine ⟨_, rfl, _, rfl, r, _, _, b, _, rfl, rfl, hr7, by omega, by omega, get_nb2 (by omega) hu2, ?_⟩
           refine ⟨_, rfl, _, rfl, Or.inl ⟨D, _, (a : Nat), _, rfl, rfl, SqL.of hD7, at_pw (by omega), ?_⟩⟩
           refine ⟨_, _, rfl, rfl, r, _, _, b, rfl, rfl, hr7, ix_n (by rw [List.length_set, List.length_map]; exact (List.getElem?_eq_some_iff.mp hu2).1), ?_⟩
           refine ⟨_, _, _, _, rfl, same_upd (same_upd sm6 nr0) nr0, ?_, ?_⟩
           · rw [upd_ne hDr]
             exact hD7
           · rw [upd_same, set_addB hu hu2 (by omega), htk]
             unfold nearB nLst
             rw [List.foldl_append]
             rfl

       · rintro σ H5 ⟨y5, y6, y7, y8, rfl, sm5, hD5, hr5⟩
         refine ⟨_, rfl, ?_⟩
         rw [List.length_map, hrl, List.take_length] at hr5
         exact fin r H5 sm5 nr0 hr5
end
/-! piece D14 -/
section
local macro_rules | `(tactic| wtm_at "fo e") => `(tactic| (with_reducible show PE _ (.ListComp _ [_, _] _ _) _); wtm_at "fo lc2")
local macro_rules | `(tactic| wtm_at "fo lc2") => `(tactic| (refine' pe_lc2O (vs1 := [13]) (by assumption) (by exact rfl) (by exact rfl) (by wtm_at "fo own") (by rfl) (by decide +kernel) rfl ?ki ?kg ?kt ?ki1 ?kg1 ?kt1 ?ke; (case ki => wtm_at "fo i"); (case kg => (intro _ _ _ _ _; wtm_at "fo g")); (case kt => (intro _ _ _ _ _; wtm_at "fo ts")); (case ki1 => (intro _ _ _ _ _; wtm_at "fo i")); (case kg1 => (intro _ _ _ _ _; wtm_at "fo g")); (case kt1 => (intro _ _ _ _ _; wtm_at "fo ts")); (case ke => (intro _ _ _ _ _; wtm_at "fo e"))))
local macro_rules | `(tactic| wtm_at "fo meth") => `(tactic| ((with_reducible show PE _ (.Call (.Attribute _ (Str.ofString "extend") _) _ _ _) _); refine' pe_bm PySem.F.plainAttrs_list PySem.F.slot_list_extend PySem.F.type_list_extend mt_extend ?ka ?kb; (case ka => wtm_at "fo e"); (case kb => wtm_at "fo a")))

theorem LsAt.pushS {H0 H H2 : Hp} {D r : Addr} {rs : List Addr} {ts : List (List Int)} {t : List Int} (L : LsAt H0 H D rs ts) (s : Same H H2) (nr : H r = none) (hr : H2 r = some (.lst (t.map V.int))) (n0 : H0 r = none) :
    LsAt H0 (upd H2 D (.lst (rs.map V.ref ++ [V.ref r]))) D (rs ++ [r]) (ts ++ [t]) := by
  have hDr : D ≠ r := ne_of_none L.hD nr
  have hrn : r ∉ rs := fun h => by
    obtain ⟨o, e⟩ := L.trk h
    rw [nr] at e
    cases e
  refine ⟨?_, ?_, ?_, ?_, ?_, ?_⟩
  · rw [upd_same, List.map_append]
    rfl
  · rw [List.nodup_append]
    refine ⟨L.nd, by simp, ?_⟩
    intro a ha b hb
    simp at hb
    subst hb
    rintro rfl
    exact hrn ha
  · rw [List.length_append, List.length_append, L.len]
    rfl
  · intro i a u ha hu
    by_cases hi : i < rs.length
    · rw [List.getElem?_append_left hi] at ha
      rw [List.getElem?_append_left (by rw [← L.len]; exact hi)] at hu
      have hm := List.mem_of_getElem? ha
      rw [upd_ne (show a ≠ D from fun e => L.nD (by rw [← e]; exact hm))]
      exact s _ _ (L.at_ i a u ha hu)
    · rw [List.getElem?_append_right (by omega)] at ha
      rw [List.getElem?_append_right (by rw [← L.len]; omega), ← L.len] at hu
      have e0 : i - rs.length = 0 := by
        have := (List.getElem?_eq_some_iff.mp ha).1
        simp at this
        omega
      rw [e0] at ha hu
      simp at ha hu
      subst ha hu
      rw [upd_ne hDr.symm]
      exact hr
  · intro a ha
    rcases List.mem_append.mp ha with ha | ha
    · exact L.fr a ha
    · simp at ha
      subst ha
      exact n0
  · intro h
    rcases List.mem_append.mp h with h | h
    · exact L.nD h
    · simp at h
      exact hDr h
/-- lines of our own, all new -/
theorem rows_head {n m : Nat} {es : List Edge} {a : Nat} (h : Simp n es) (ha : a < n) : (rowsM n es m a)[0]? = some ((a * m : Nat) : Int) := by
  unfold rowsM
  have hm : ((a : Int) + 1) ∈ (besideM n es ((a : Int) + 1)).filter fun one => decide (((a : Int) + 1) ≤ one) :=
    List.mem_filter.mpr ⟨(besideM_mem h (by omega) (by omega) _).mpr (List.mem_cons_self ..), decide_eq_true (Int.le_refl _)⟩
  have hs : ((besideM n es ((a : Int) + 1)).filter fun one => decide (((a : Int) + 1) ≤ one)).Pairwise (· < ·) := List.Pairwise.filter _ (besideM_lt n es _)
  have hge : ∀ x ∈ (besideM n es ((a : Int) + 1)).filter fun one => decide (((a : Int) + 1) ≤ one), (a : Int) + 1 ≤ x := fun x hx => of_decide_eq_true (List.mem_filter.mp hx).2
  cases hl : (besideM n es ((a : Int) + 1)).filter fun one => decide (((a : Int) + 1) ≤ one) with
  | nil => rw [hl] at hm; cases hm
  | cons y r =>
    rw [hl] at hm hs hge
    have : y = (a : Int) + 1 := by
      rcases List.mem_cons.mp hm with e | e
      · exact e.symm
      · have h1 := List.rel_of_pairwise_cons hs e
        have h2 := hge y (List.mem_cons_self ..)
        omega
    subst this
    rw [List.map_cons, List.getElem?_cons_zero, Int.add_sub_cancel, Int.natCast_mul]
theorem len_flat {α : Type} {f : Nat → List α} {k : Nat} (h : ∀ x, (f x).length ≤ k) : ∀ a : Nat, ((List.range a).flatMap f).length ≤ k * a
  | 0 => by simp
  | a + 1 => by
    rw [range_flat, List.length_append, Nat.mul_succ]
    have := len_flat h a
    have := h a
    omega
theorem len_flatL {α β : Type} {f : α → List β} {k : Nat} (h : ∀ x, (f x).length ≤ k) : ∀ l : List α, (l.flatMap f).length ≤ k * l.length
  | [] => by simp
  | x :: l => by
    rw [List.flatMap_cons, List.length_append, List.length_cons, Nat.mul_succ]
    have := len_flatL h l
    have := h x
    omega
theorem rowE_len {n m : Nat} {es fs : List Edge} (h4 : n ≤ 12) (h5 : m ≤ 12) (a b : Nat) : (rowE n es m fs a b).length ≤ 144 := by
  unfold rowE highsM rowsM
  rw [List.length_map]
  refine Nat.le_trans (len_flatL (k := 12) (fun r => ?_) _) ?_
  · rw [List.length_map]
    exact Nat.le_trans (List.length_filter_le ..) (besideM_length h5)
  · rw [List.length_map]
    have := Nat.le_trans (List.length_filter_le (fun one => decide (((a : Int) + 1) ≤ one)) (besideM n es ((a : Int) + 1))) (besideM_length h4)
    omega
variable {P : Program} {w : World} {K : PySem.W.Frag} {mg : Str → Option Value} {base : Heap}
@[irreducible] def spPLines : Sp := fun vs H Q _ => ∃ (r1 r2 : Addr) (n m : Nat) (es fs : List Edge), vs = [.ref r1, .ref r2] ∧ 1 ≤ n ∧ 1 ≤ m ∧ n * m ≤ 12 ∧ n ≤ 12 ∧ m ≤ 12 ∧ Simp n es ∧ Simp m fs ∧ H r1 = some (nLst (nearB n es)) ∧ H r2 = some (nLst (nearB m fs)) ∧
  ∀ l rs H', Same H H' → H l = none → PsAt H' l rs (prodM n es m fs) → rs.Nodup → (∀ r ∈ rs, H r = none) → Q (.ref l) H'
theorem call_plines {r1 r2 : Addr} {n m : Nat} {es fs : List Edge} {H : Hp} {Q : VK} {E : XK} (h1 : 1 ≤ n) (h2 : 1 ≤ m) (h3 : n * m ≤ 12) (h4 : n ≤ 12) (h5 : m ≤ 12) (hS : Simp n es) (hS2 : Simp m fs) (a : H r1 = some (nLst (nearB n es))) (b : H r2 = some (nLst (nearB m fs)))
    (fin : ∀ l rs H', Same H H' → H l = none → PsAt H' l rs (prodM n es m fs) → rs.Nodup → (∀ r ∈ rs, H r = none) → Q (.ref l) H') : spPLines [.ref r1, .ref r2] H Q E := by
  unfold spPLines
  exact ⟨r1, r2, n, m, es, fs, rfl, h1, h2, h3, h4, h5, hS, hS2, a, b, fin⟩
set_option maxHeartbeats 8000000 in
theorem ok_plines {f : Addr} {fd : FuncData} (F : Fun K "_product_lines" "_product_lines" s_product_lines f fd) (mn : mg "len" = none) (mr : mg "range" = none) (C3 : Cal P w K mg base "members" 1 ["lot"] spMembers) :
    FnOk P w K mg base CX0 2 f fd ["near", "near_more"] spPLines := by
  refine F.ok sc_product_lines (fun vs H Q E h => ?_) (fun cdv A outer s H vs Q E hr h => ?_)
  · unfold spPLines at h
    obtain ⟨r1, r2, n, m, es, fs, rfl, _⟩ := h
    rfl
  · have nd := sc_product_lines.nd
    have hS := sc_product_lines
    have hKM : KMark K := ⟨⟩
    refine' mk_body ?body ?rd
    case body =>
      show PSs _ [_, _, _, _, _, _] _
      wtm_at "fo ss"
    case rd =>
     unfold spPLines at h
     obtain ⟨r1, r2, n, m, es, fs, rfl, h1, h2, h3, h4, h5, hS1, hS2, ha, hb, fin⟩ := h
     wtm_at "fo r"
     have hla : ((nearB n es).map fun (v : Nat) => V.int v).length = n + 1 := by rw [List.length_map, nearB_length]
     have hlb : ((nearB m fs).map fun (v : Nat) => V.int v).length = m + 1 := by rw [List.length_map, nearB_length]
     refine ⟨⟨_, SqL.of ha⟩, fun D1 nD1 => ?_⟩
     refine lc_list (K := K) (a := r1) (xs := (nearB n es).map fun (v : Nat) => V.int v) (fun i H1 => Same H H1 ∧ ∃ rs, LsAt H H1 D1 rs (((nearB n es).take i).map membersM)) ⟨same_upd (Same.refl _) nD1, [], LsAt.nil upd_same⟩ ?_ ?_ ?_
     · rintro i H1 _ ⟨sm, _⟩
       exact SqL.of (sm _ _ ha)
     · rintro i x H1 hx ⟨sm, rs, hL⟩
       rw [List.getElem?_map] at hx
       cases hv : (nearB n es)[i]? with
       | none => rw [hv] at hx; cases hx
       | some v =>
         rw [hv] at hx
         cases hx
         refine ⟨rfl, _, rfl, ?_⟩
         refine call_members (Nat.lt_of_lt_of_le (nearB_small hS1 hv) (Nat.pow_le_pow_right (by decide) (by omega))) (fun p H2 sm2 np hp => ?_)
         refine ⟨rs.map V.ref, sm2 _ _ hL.hD, ?_, same_upd (sm.trans sm2) nD1, rs ++ [p], ?_⟩
         · rw [List.length_map, hL.len, List.length_map, List.length_take, nearB_length]
           exact Nat.lt_of_le_of_lt (m := 20) (by omega) (by decide)
         · rw [List.take_add_one, hv, List.map_append]
           exact hL.pushS sm2 np hp (sm.free np)
     rintro H1 ⟨sm1, rs1, hL1⟩
     rw [hla, List.take_of_length_le (by rw [nearB_length]; exact Nat.le_refl _), nearB_members hS1] at hL1
     wtm_at "fo r"
     refine ⟨⟨_, SqL.of (sm1 _ _ hb)⟩, fun D2 nD2 => ?_⟩
     refine lc_list (K := K) (a := r2) (xs := (nearB m fs).map fun (v : Nat) => V.int v) (fun i H2 => Same H1 H2 ∧ ∃ rs, LsAt H1 H2 D2 rs (((nearB m fs).take i).map membersM)) ⟨same_upd (Same.refl _) nD2, [], LsAt.nil upd_same⟩ ?_ ?_ ?_
     · rintro i H2 _ ⟨sm, _⟩
       exact SqL.of (sm _ _ (sm1 _ _ hb))
     · rintro i x H2 hx ⟨sm, rs, hL⟩
       rw [List.getElem?_map] at hx
       cases hv : (nearB m fs)[i]? with
       | none => rw [hv] at hx; cases hx
       | some v =>
         rw [hv] at hx
         cases hx
         refine ⟨rfl, _, rfl, ?_⟩
         refine call_members (Nat.lt_of_lt_of_le (nearB_small hS2 hv) (Nat.pow_le_pow_right (by decide) (by omega))) (fun p H3 sm2 np hp => ?_)
         refine ⟨rs.map V.ref, sm2 _ _ hL.hD, ?_, same_upd (sm.trans sm2) nD2, rs ++ [p], ?_⟩
         · rw [List.length_map, hL.len, List.length_map, List.length_take, nearB_length]
           exact Nat.lt_of_le_of_lt (m := 20) (by omega) (by decide)
         · rw [List.take_add_one, hv, List.map_append]
           exact hL.pushS sm2 np hp (sm.free np)
     rintro H2 ⟨sm2, rs2, hL2⟩
     rw [hlb, List.take_of_length_le (by rw [nearB_length]; exact Nat.le_refl _), nearB_members hS2] at hL2
     have hL1' := hL1.same sm2
     have s2 := sm1.trans sm2
     refine ⟨(Nat.le_of_ble_eq_true rfl : _ ≤ sizeLine), fun L nL => ?_⟩
     have nL0 : H L = none := s2.free nL
     have sL : Same H2 (upd H2 L (.lst [])) := same_upd (Same.refl _) nL
     have hLL : (upd H2 L (.lst [])) L = some (.lst []) := upd_same
     generalize upd H2 L (.lst []) = H3 at *
     wtm_at "fo r"
     refine ⟨r1, _, rfl, Or.inl (SqL.of (sL _ _ (s2 _ _ ha))), _, _, rfl, ⟨by decide, by decide, by omega, by omega⟩, ?_⟩
     have hN : ((((nearB n es).map fun (v : Nat) => V.int v).length : Int) - 1).toNat = n := by rw [hla]; omega
     refine for_range (fun i σ H4 => ∃ mm y7 y8 y10 y11 rs, mm = (m : Int) ∧ σ = [some (.ref r1), some (.ref r2), some (.int mm), some (.ref D1), none, some (.ref D2), some (.ref L), y7, y8, none, y10, y11, none, none] ∧ Same H2 H4 ∧
       PsF H H4 L rs ((List.range i).flatMap fun a => (List.range m).flatMap fun b => rowE n es m fs a b)) ?_ ?_ ?_
     · exact ⟨_, none, none, none, none, [], by rw [hlb]; omega, rfl, sL, PsAt.nil hLL, List.nodup_nil, fun r h => nomatch h⟩
     · rintro a σ H4 hi ⟨mm, y7, y8, y10, y11, rs, rfl, rfl, sm4, hP⟩
       rw [hN] at hi
       have hA4 := hL1'.same sm4
       have hB4 := hL2.same sm4
       have hl1 : rs1.length = n + 1 := by rw [hL1.len]; simp
       have hl2 : rs2.length = m + 1 := by rw [hL2.len]; simp
       have hra : rs1[a + 1]? = some rs1[a + 1] := List.getElem?_eq_getElem _
       have hlst : H4 rs1[a + 1] = some (.lst ((besideM n es ((a : Int) + 1)).map V.int)) := hA4.at_ (a + 1) _ _ hra (by rw [List.getElem?_cons_succ, List.getElem?_map, List.getElem?_range hi]; rfl)
       generalize rs1[a + 1] = ra at *
       wtm_at "fo r"
       refine Or.inl ⟨D1, _, 1 + (a : Int), .ref ra, rfl, rfl, SqL.of hA4.hD, at_of (j := a + 1) (by omega) (by rw [List.getElem?_map, hra]; rfl), ?_⟩
       refine ⟨ra, rfl, ⟨_, SqL.of hlst⟩, fun R nR => ?_⟩
       have nR2 : H2 R = none := sm4.free nR
       refine lc_list (K := K) (a := ra) (xs := (besideM n es ((a : Int) + 1)).map V.int) (fun j H5 => H5 = upd H4 R (.lst (((((besideM n es ((a : Int) + 1)).take j).filter fun one => decide (((a : Int) + 1) ≤ one)).map fun one => (one - 1) * (m : Int)).map V.int))) rfl ?_ ?_ ?_
       · rintro j H5 _ rfl
         exact SqL.of ((upd_ne (ne_of_none hlst nR)).trans hlst)
       · rintro j x H5 hx rfl
         rw [List.getElem?_map] at hx
         cases hv : (besideM n es ((a : Int) + 1))[j]? with
         | none => rw [hv] at hx; cases hx
         | some one =>
           rw [hv] at hx
           cases hx
           have hj : j < (besideM n es ((a : Int) + 1)).length := (List.getElem?_eq_some_iff.mp hv).1
           have hbl := besideM_length (es := es) (p := (a : Int) + 1) h4
           have hor := besideM_rng (List.mem_of_getElem? hv)
           have htk : (besideM n es ((a : Int) + 1)).take (j + 1) = (besideM n es ((a : Int) + 1)).take j ++ [one] := by rw [List.take_add_one, hv]; rfl
           refine ⟨rfl, _, rfl, _, rfl, _, _, rfl, rfl, _, rfl, ?_⟩
           refine ite2 (fun hc => ?_) (fun hc => ?_)
           · have hc := of_decide_eq_true hc
             refine ⟨_, rfl, _, _, rfl, rfl, _, rfl, _, _, rfl, rfl, Or.inr ⟨by omega, by omega⟩, _, upd_same, ?_, ?_⟩
             · rw [List.length_map, List.length_map]
               exact Nat.lt_of_le_of_lt (Nat.le_trans (List.length_filter_le ..) (by rw [List.length_take]; exact Nat.le_trans (Nat.min_le_left _ _) (show j ≤ 20 by omega))) (by decide)
             · rw [upd_upd, htk, List.filter_append, List.map_append, List.map_append]
               simp only [List.filter_cons, List.filter_nil]
               rw [if_pos (decide_eq_true (by omega))]
               rfl
           · rw [htk, List.filter_append, List.map_append, List.map_append]
             simp only [List.filter_cons, List.filter_nil]
             rw [if_neg (fun h => hc (decide_eq_true (by have := of_decide_eq_true h; omega)))]
             simp
       rintro H5 rfl
       rw [List.length_map, List.take_length]
       have hR5 : (upd H4 R (.lst ((((besideM n es ((a : Int) + 1)).filter fun one => decide (((a : Int) + 1) ≤ one)).map fun one => (one - 1) * (m : Int)).map V.int))) R = some (.lst ((rowsM n es m a).map V.int)) := upd_same
       have smR : Same H4 (upd H4 R (.lst ((((besideM n es ((a : Int) + 1)).filter fun one => decide (((a : Int) + 1) ≤ one)).map fun one => (one - 1) * (m : Int)).map V.int))) := same_upd (Same.refl _) nR
       generalize upd H4 R (.lst ((((besideM n es ((a : Int) + 1)).filter fun one => decide (((a : Int) + 1) ≤ one)).map fun one => (one - 1) * (m : Int)).map V.int)) = H5 at *
       have sm5 := sm4.trans smR
       wtm_at "fo r"
       refine ⟨r2, _, rfl, Or.inl (SqL.of (sm5 _ _ (s2 _ _ hb))), _, _, rfl, ⟨by decide, by decide, by omega, by omega⟩, ?_⟩
       have hM : ((((nearB m fs).map fun (v : Nat) => V.int v).length : Int) - 1).toNat = m := by rw [hlb]; omega
       have hP5 : PsF H H5 L rs ((List.range a).flatMap fun a => (List.range m).flatMap fun b => rowE n es m fs a b) := ⟨hP.ps.same smR, hP.nd, hP.fr⟩
       refine for_range (fun j σ H6 => ∃ y10 y11 rt, σ = [some (.ref r1), some (.ref r2), some (.int (m : Int)), some (.ref D1), none, some (.ref D2), some (.ref L), some (.int (1 + (a : Int))), some (.ref R), none, y10, y11, none, none] ∧ Same H2 H6 ∧ H6 R = some (.lst ((rowsM n es m a).map V.int)) ∧
         PsF H H6 L rt (((List.range a).flatMap fun a => (List.range m).flatMap fun b => rowE n es m fs a b) ++ (List.range j).flatMap fun b => rowE n es m fs a b)) ?_ ?_ ?_
       · exact ⟨_, _, rs, rfl, sm5, hR5, by simpa using hP5⟩
       · rintro b σ H6 hb2 ⟨y10, y11, rt, rfl, sm6, hR6, hP6⟩
         rw [hM] at hb2
         have hA6 := hL2.same sm6
         have hrb : rs2[b + 1]? = some rs2[b + 1] := List.getElem?_eq_getElem _
         have hlst2 : H6 rs2[b + 1] = some (.lst ((besideM m fs ((b : Int) + 1)).map V.int)) := hA6.at_ (b + 1) _ _ hrb (by rw [List.getElem?_cons_succ, List.getElem?_map, List.getElem?_range hb2]; rfl)
         generalize rs2[b + 1] = rb at *
         wtm_at "fo r"
         refine Or.inl ⟨R, _, 0, .int ((a * m : Nat) : Int), rfl, rfl, SqL.of hR6, at_of (j := 0) rfl (by rw [List.getElem?_map, rows_head hS1 hi]; rfl), ?_⟩
         wtm_at "fo r"
         have hlow : ((a * m : Nat) : Int) + (1 + (b : Int)) = ((a * m + b + 1 : Nat) : Int) := by omega
         refine ⟨.inl ⟨rfl, _, SqL.of hP6.ps.hD⟩, ?_⟩
         refine ⟨_, rfl, R, rfl, ⟨_, SqL.of hR6⟩, fun D nD => ?_⟩
         have nD2 : H2 D = none := sm6.free nD
         have hrl : (rowsM n es m a).length ≤ 12 := by
           unfold rowsM
           rw [List.length_map]
           exact Nat.le_trans (List.length_filter_le ..) (besideM_length h4)
         have hbl := besideM_length (es := fs) (p := (b : Int) + 1) h5
         have hsz : ∀ {k : Nat} {rd : List Addr} {l : List Edge} {X : Hp}, PsF H6 X D rd l → l.length ≤ k → k ≤ 1000 → (rd.map V.ref).length < sizeLine := fun h1 h2 h3 => by
           rw [List.length_map, h1.ps.len]
           exact Nat.lt_of_le_of_lt (Nat.le_trans h2 h3) (by decide)
         let pt : Int → List Int → List Edge := fun row tw => ((tw.filter fun two => decide (((a * m + b + 1 : Nat) : Int) < row + two)).map fun two => row + two).map fun h => (((a * m + b + 1 : Nat) : Int), h)
         have hpt : ∀ row tw, (pt row tw).length ≤ tw.length := fun row tw => by
           show (List.map _ (List.map _ _)).length ≤ _
           rw [List.length_map, List.length_map]
           exact List.length_filter_le ..
         have hcut : ∀ i, i ≤ 12 → (((rowsM n es m a).take i).flatMap fun row => pt row (besideM m fs ((b : Int) + 1))).length ≤ 12 * 12 := fun i hi12 => by
           rw [List.length_flatMap]
           have : ∀ l : List Int, l.length ≤ 12 → (l.map fun row => (pt row (besideM m fs ((b : Int) + 1))).length).sum ≤ 12 * l.length := fun l _ => by
             induction l with
             | nil => simp
             | cons y r ih =>
               rw [List.map_cons, List.sum_cons, List.length_cons]
               have := hpt y (besideM m fs ((b : Int) + 1))
               have := ih (by simp at *; omega)
               omega
           have h := this ((rowsM n es m a).take i) (by rw [List.length_take]; omega)
           rw [List.length_take] at h
           omega
         refine lc2_list (K := K) (a := R) (xs := (rowsM n es m a).map V.int) (fun i H7 => ∃ rd, Same H6 H7 ∧ PsF H6 H7 D rd (((rowsM n es m a).take i).flatMap fun row => pt row (besideM m fs ((b : Int) + 1)))) ?_ ?_ ?_ ?_
         · exact ⟨[], same_upd (Same.refl _) nD, PsAt.nil upd_same, List.nodup_nil, fun r h => nomatch h⟩
         · rintro i H7 _ ⟨rd, sm7, _⟩
           exact SqL.of (sm7 _ _ hR6)
         · rintro i x H7 hx ⟨rd, sm7, hP7⟩
           rw [List.getElem?_map] at hx
           cases hv : (rowsM n es m a)[i]? with
           | none => rw [hv] at hx; cases hx
           | some row =>
             rw [hv] at hx
             cases hx
             have hi12 : i < 12 := Nat.lt_of_lt_of_le (List.getElem?_eq_some_iff.mp hv).1 hrl
             have hci := hcut i (by omega)
             refine ⟨rfl, _, rfl, _, rfl, Or.inl ⟨D2, _, 1 + (b : Int), .ref rb, rfl, rfl, SqL.of (sm7 _ _ hA6.hD), at_of (j := b + 1) (by omega) (by rw [List.getElem?_map, hrb]; rfl), ?_⟩⟩
             refine ⟨rb, rfl, ⟨_, SqL.of (sm7 _ _ hlst2)⟩, ?_⟩
             have ht : (rowsM n es m a).take (i + 1) = (rowsM n es m a).take i ++ [row] := by rw [List.take_add_one, hv]; rfl
             refine lc2_in (K := K) (a := rb) (xs := (besideM m fs ((b : Int) + 1)).map V.int) (fun j H8 => ∃ rd, Same H6 H8 ∧ PsF H6 H8 D rd ((((rowsM n es m a).take i).flatMap fun row => pt row (besideM m fs ((b : Int) + 1))) ++ pt row ((besideM m fs ((b : Int) + 1)).take j))) ?_ ?_ ?_ ?_
             · exact ⟨rd, sm7, by simpa [pt] using hP7⟩
             · rintro j H8 _ ⟨rd, sm8, _⟩
               exact SqL.of (sm8 _ _ hlst2)
             · rintro j y H8 hy ⟨rd8, sm8, hP8⟩
               rw [List.getElem?_map] at hy
               cases hw : (besideM m fs ((b : Int) + 1))[j]? with
               | none => rw [hw] at hy; cases hy
               | some two =>
                 rw [hw] at hy
                 cases hy
                 have ht2 : (besideM m fs ((b : Int) + 1)).take (j + 1) = (besideM m fs ((b : Int) + 1)).take j ++ [two] := by rw [List.take_add_one, hw]; rfl
                 have hpp : pt row ((besideM m fs ((b : Int) + 1)).take (j + 1)) = pt row ((besideM m fs ((b : Int) + 1)).take j) ++ (if ((a * m + b + 1 : Nat) : Int) < row + two then [(((a * m + b + 1 : Nat) : Int), row + two)] else []) := by
                   show List.map _ (List.map _ (List.filter _ _)) = _
                   rw [ht2, List.filter_append, List.map_append, List.map_append]
                   congr 1
                   by_cases hc : ((a * m + b + 1 : Nat) : Int) < row + two
                   · rw [if_pos hc, List.filter_cons, if_pos (decide_eq_true hc)]
                     rfl
                   · rw [if_neg hc, List.filter_cons, if_neg (fun h => hc (of_decide_eq_true h))]
                     rfl
                 refine ⟨rfl, _, rfl, _, rfl, Or.inl ⟨_, _, rfl, rfl, _, rfl, _, _, rfl, rfl, _, rfl, ?_⟩⟩
                 rw [hlow]
                 refine ite2 (fun hc => ?_) (fun hc => ?_)
                 · have hc := of_decide_eq_true hc
                   refine ⟨_, rfl, _, rfl, _, rfl, Or.inl ⟨_, _, rfl, rfl, (Nat.le_of_ble_eq_true rfl : _ ≤ sizeLine), fun p np => ?_⟩⟩
                   have hDp : D ≠ p := ne_of_none hP8.ps.hD np
                   refine ⟨_, (upd_ne hDp).trans hP8.ps.hD, hsz (k := 300) hP8 ?_ (by decide), rd8 ++ [p], ?_, ?_⟩
                   · rw [List.length_append]
                     have := hpt row ((besideM m fs ((b : Int) + 1)).take j)
                     rw [List.length_take] at this
                     omega
                   · exact same_upd (same_upd sm8 (sm8.free np)) nD
                   · rw [hpp, if_pos hc, ← List.append_assoc]
                     show PsF H6 (upd (upd H8 p (.lst [V.int (((a * m : Nat) : Int) + (1 + (b : Int))), V.int (row + two)])) D (.lst (rd8.map V.ref ++ [V.ref p]))) D (rd8 ++ [p]) _
                     rw [hlow]
                     exact hP8.push np (sm8.free np) (((a * m + b + 1 : Nat) : Int), row + two)
                 · refine ⟨rd8, sm8, ?_⟩
                   rw [hpp, if_neg (fun h => hc (decide_eq_true h)), List.append_nil]
                   exact hP8
             · rintro H8 ⟨rd8, sm8, hP8⟩
               refine ⟨rd8, sm8, ?_⟩
               rw [List.length_map, List.take_length] at hP8
               rw [ht, List.flatMap_append]
               simpa using hP8
         · rintro H7 ⟨rd, sm7, hP7⟩
           rw [List.length_map, List.take_length] at hP7
           have hrow : ((rowsM n es m a).flatMap fun row => pt row (besideM m fs ((b : Int) + 1))) = rowE n es m fs a b := by
             unfold rowE highsM
             rw [List.map_flatMap]
           rw [hrow] at hP7
           have hL7 := sm7 _ _ hP6.ps.hD
           refine ⟨L, D, _, _, rfl, rfl, hL7, hP7.ps.hD, ?_, ?_⟩
           · rw [List.length_map, List.length_map, hP6.ps.len, hP7.ps.len]
             have hk : ∀ a b, (rowE n es m fs a b).length ≤ 144 := rowE_len h4 h5
             have k1 := len_flat (f := fun b => rowE n es m fs a b) (k := 144) (fun b => hk a b) b
             have k2 := len_flat (f := fun a => (List.range m).flatMap fun b => rowE n es m fs a b) (k := 144 * m) (fun a => len_flat (fun b => hk a b) m) a
             have k3 := hk a b
             have k4 : 144 * m * a ≤ 144 * 12 * 12 := Nat.mul_le_mul (Nat.mul_le_mul (Nat.le_refl _) h5) (by omega)
             rw [List.length_append]
             exact Nat.le_trans (m := 100000) (by omega) (by decide)
           · refine ⟨_, _, rt ++ rd, rfl, same_upd (sm6.trans sm7) nL, ?_, ?_⟩
             · rw [upd_ne (ne_of_none hP.ps.hD nR).symm]
               exact sm7 _ _ hR6
             · rw [range_flat, ← List.append_assoc]
               exact hP6.ext sm7 hP7 (s2.trans sm6) nL0
       · rintro σ H6 ⟨y10, y11, rt, rfl, sm6, hR6, hP6⟩
         rw [hM] at hP6
         refine ⟨_, _, _, _, _, rt, rfl, rfl, sm6, ?_⟩
         rw [range_flat]
         exact hP6
     · rintro σ H4 ⟨mm, y7, y8, y10, y11, rs, rfl, rfl, sm4, hP⟩
       rw [hN] at hP
       refine ⟨_, rfl, ?_⟩
       have hp := hP.ps
       rw [show ((List.range n).flatMap fun a => (List.range m).flatMap fun b => rowE n es m fs a b) = prodM n es m fs from prodL_eq hS1 hS2] at hp
       exact fin L rs H4 (s2.trans sm4) nL0 hp hP.nd hP.fr
end
/-! piece D15 -/
section
variable {P : Program} {w : World} {K : PySem.W.Frag} {mg : Str → Option Value} {base : Heap}
/-! ### product -/
set_option maxHeartbeats 4000000 in
theorem ok_product {f : Addr} {fd : FuncData} (F : Fun K "product" "product" s_product f fd) {tk : Tok} (mP : mg "MOST_PLACES" = some (.int 12 tk))
    (C : Cal P w K mg base "read_net" 2 ["places", "lines"] spRead) (C2 : Cal P w K mg base "_product_lines" 2 ["near", "near_more"] spPLines) :
    FnOk P w K mg base CX0 3 f fd ["places", "lines", "more", "ties"] spProd := by
  refine F.ok sc_product (fun vs H Q E h => ?_) (fun cdv A outer s H vs Q E hr h => ?_)
  · unfold spProd at h
    obtain ⟨q1, q2, n, m, es, fs, rfl, _⟩ := h
    rfl
  · have nd := sc_product.nd
    have hS := sc_product
    have hKM : KMark K := ⟨⟩
    refine' mk_body ?body ?rd
    case body =>
      show PSs _ [_, _, _, _] _
      wtm_at "fo ss"
    case rd =>
     unfold spProd at h
     obtain ⟨q1, q2, n, m, es, fs, rfl, h1, h2, h3, h4, h5, a1, a2, a3, b1, b2, b3, fin⟩ := h
     wtm_at "fo r"
     refine call_read h1 h4 a1 a2 a3 (fun r H1 sm1 nr hr1 => ?_)
     wtm_at "fo r"
     refine call_read h2 h5 (b1.same sm1) b2 b3 (fun r2 H2 sm2 nr2 hr2 => ?_)
     wtm_at "fo r"
     refine ifF (decide_eq_false (by rw [← Int.natCast_mul]; omega)) ?_
     refine ⟨_, rfl, _, rfl, _, _, rfl, rfl, Or.inl ⟨by omega, by omega⟩, ?_⟩
     refine ⟨_, rfl, _, rfl, ?_⟩
     refine call_plines h1 h2 h3 h4 h5 a2 b2 (sm2 _ _ hr1) hr2 (fun l rs H3 sm3 nl hP hnd hfr => ?_)
     refine ⟨(Nat.le_of_ble_eq_true rfl : _ ≤ sizeLine), fun p np => ?_⟩
     have s2 := sm1.trans sm2
     have s3 := s2.trans sm3
     have e : ((n : Int) * (m : Int)) = ((n * m : Nat) : Int) := (Int.natCast_mul n m).symm
     show Q (V.ref p) (upd H3 p (.tup [.int ((n : Int) * (m : Int)), .ref l]))
     rw [e]
     have s4 := same_upd (o := .tup [.int ((n * m : Nat) : Int), .ref l]) s3 (s3.free np)
     exact fin p l rs _ s4 (s3.free np) (s2.free nl) upd_same (hP.same (same_upd (Same.refl _) np)) hnd (fun r hr => s2.free (hfr r hr))
end
/-! tactics TAC3 -/
local macro_rules | `(tactic| wtm_at "fo lc") => `(tactic| (refine' pe_lcN (by assumption) (by exact rfl) (by exact rfl) (by wtm_at "fo own") (by kernel_rfl!) rfl ?ki ?kg ?kt ?ke; (case ki => wtm_at "fo i"); (case kg => (intro _ _ _ _ _; wtm_at "fo g")); (case kt => (intro _ _ _ _ _; wtm_at "fo ts")); (case ke => (intro _ _ _ _ _; wtm_at "fo e"))))
local macro_rules | `(tactic| wtm_at "fo s") => `(tactic| ((with_reducible show PS _ (.Assign [.Tuple _ _ _] (.Call _ _ _ _) _) _); refine' ps_asg ?ka ?kb; (case ka => wtm_at "fo e"); (case kb => wtm_at "fo g")))
local macro_rules | `(tactic| wtm_at "fo cmp") => `(tactic| ((with_reducible show PE _ (.Compare _ [.In] _ _) _); refine' pe_cmpR (op_inK (by assumption) (by exact rfl)) ?ka ?kb rfl; (case ka => wtm_at "fo e"); (case kb => wtm_at "fo e")))
local macro_rules | `(tactic| wtm_at "fo call") => `(tactic| ((with_reducible show PE _ (.Call (.Name (Str.ofString "list") _) [.Call (.Name (Str.ofString "range") _) [_] _ _] _ _) _); refine' pe_listRg rfl (by rfl) (by assumption) (prg_1 (by rfl) (by assumption) ?ka); (case ka => wtm_at "fo e")))
local macro_rules | `(tactic| wtm_at "fo call") => `(tactic| ((with_reducible show PE _ (.Call (.Name (Str.ofString "min") _) [_] _ _) _); refine' pe_callB (call_minK (by assumption) (by exact rfl) rfl) (by rfl) (by assumption) (by decide +kernel) ?ka; (case ka => wtm_at "fo a")))
local macro_rules | `(tactic| wtm_at "fo i") => `(tactic| ((with_reducible show PI _ _ (.Call (.Name (Str.ofString "reversed") _) [_] _ _) _); refine' pi_reversed (by rfl) (by assumption) ?ka; (case ka => wtm_at "fo a")))
local macro_rules | `(tactic| wtm_at "fo s") => `(tactic| ((with_reducible show PS _ (.AugAssign (.Name _ _) .BitXor _ _) _); first | (refine' ps_aug (i := 2) (by assumption) rfl (by first | exact Or.inl rfl | exact Or.inr rfl) ?ka ip_xor; (case ka => wtm_at "fo e")) | fail "no"))
local macro_rules | `(tactic| wtm_at "fo call") => `(tactic| (refine' pe_calG (by assumption) (by assumption) (by decide) (by assumption) (by rfl) ?ka; (case ka => wtm_at "fo a")))
local macro_rules | `(tactic| wtm_at "fo meth") => `(tactic| ((with_reducible show PE _ (.Call (.Attribute _ (Str.ofString "count") _) _ _ _) _); refine' pe_cntK (by assumption) (by exact rfl) ?ka ?kb; (case ka => wtm_at "fo e"); (case kb => wtm_at "fo a")))
local macro_rules | `(tactic| wtm_at "fo call") => `(tactic| ((with_reducible show PE _ (.Call (.Name (Str.ofString "sorted") _) [_] _ _) _); refine' pe_callB (cr_sortedB (by assumption) (by exact rfl) (Room.units (by assumption))) (by rfl) (by assumption) (by decide +kernel) ?ka; (case ka => wtm_at "fo a")))
local macro_rules | `(tactic| wtm_at "fo v") => `(tactic| first
  | exact pv 16
  | exact pv 17
  | exact pv 18
  | exact pv 19
  | fail "no")
local macro_rules | `(tactic| wtm_at "fo own") => `(tactic| first
  | ((show _ = [16]); kernel_rfl!)
  | ((show _ = [17]); kernel_rfl!)
  | ((show _ = [18]); kernel_rfl!)
  | ((show _ = [19]); kernel_rfl!)
  | ((show _ = [15, 16]); kernel_rfl!)
  | ((show _ = [16, 17]); kernel_rfl!)
  | ((show _ = [17, 18]); kernel_rfl!)
  | ((show _ = [18, 19]); kernel_rfl!)
  | fail "no")
local macro_rules | `(tactic| wtm_at "fo set") => `(tactic| first
  | (refine' ps_set (i := 14) (by assumption) rfl (by first | exact Or.inl rfl | exact Or.inr rfl) ?ka; (case ka => wtm_at "fo e"))
  | (refine' ps_set (i := 15) (by assumption) rfl (by first | exact Or.inl rfl | exact Or.inr rfl) ?ka; (case ka => wtm_at "fo e"))
  | (refine' ps_set (i := 16) (by assumption) rfl (by first | exact Or.inl rfl | exact Or.inr rfl) ?ka; (case ka => wtm_at "fo e"))
  | (refine' ps_set (i := 17) (by assumption) rfl (by first | exact Or.inl rfl | exact Or.inr rfl) ?ka; (case ka => wtm_at "fo e"))
  | (refine' ps_set (i := 18) (by assumption) rfl (by first | exact Or.inl rfl | exact Or.inr rfl) ?ka; (case ka => wtm_at "fo e"))
  | (refine' ps_set (i := 19) (by assumption) rfl (by first | exact Or.inl rfl | exact Or.inr rfl) ?ka; (case ka => wtm_at "fo e"))
  | fail "no")
local macro_rules | `(tactic| wtm_at "fo setlc") => `(tactic| first
  | (refine' ps_setLcO (i := 16) (by assumption) (by exact rfl) (by exact rfl) (by wtm_at "fo own") (by decide +kernel) rfl rfl rfl (sw_true rfl rfl rfl (by decide +kernel)) ?ki ?kg ?kt ?ke; (case ki => wtm_at "fo i"); (case kg => (intro _ _ _ _ _; wtm_at "fo g")); (case kt => (intro _ _ _ _ _; wtm_at "fo ts")); (case ke => (intro _ _ _ _ _; wtm_at "fo e")))
  | (refine' ps_setLcO (i := 17) (by assumption) (by exact rfl) (by exact rfl) (by wtm_at "fo own") (by decide +kernel) rfl rfl rfl (sw_true rfl rfl rfl (by decide +kernel)) ?ki ?kg ?kt ?ke; (case ki => wtm_at "fo i"); (case kg => (intro _ _ _ _ _; wtm_at "fo g")); (case kt => (intro _ _ _ _ _; wtm_at "fo ts")); (case ke => (intro _ _ _ _ _; wtm_at "fo e")))
  | (refine' ps_setLcO (i := 18) (by assumption) (by exact rfl) (by exact rfl) (by wtm_at "fo own") (by decide +kernel) rfl rfl rfl (sw_true rfl rfl rfl (by decide +kernel)) ?ki ?kg ?kt ?ke; (case ki => wtm_at "fo i"); (case kg => (intro _ _ _ _ _; wtm_at "fo g")); (case kt => (intro _ _ _ _ _; wtm_at "fo ts")); (case ke => (intro _ _ _ _ _; wtm_at "fo e")))
  | (refine' ps_setLcO (i := 19) (by assumption) (by exact rfl) (by exact rfl) (by wtm_at "fo own") (by decide +kernel) rfl rfl rfl (sw_true rfl rfl rfl (by decide +kernel)) ?ki ?kg ?kt ?ke; (case ki => wtm_at "fo i"); (case kg => (intro _ _ _ _ _; wtm_at "fo g")); (case kt => (intro _ _ _ _ _; wtm_at "fo ts")); (case ke => (intro _ _ _ _ _; wtm_at "fo e")))
  | fail "no")
local macro_rules | `(tactic| wtm_at "fo gn") => `(tactic| first
  | exact pg_name (i := 16) (by assumption) rfl (by first | exact Or.inl rfl | exact Or.inr rfl)
  | exact pg_name (i := 17) (by assumption) rfl (by first | exact Or.inl rfl | exact Or.inr rfl)
  | exact pg_name (i := 18) (by assumption) rfl (by first | exact Or.inl rfl | exact Or.inr rfl)
  | exact pg_name (i := 19) (by assumption) rfl (by first | exact Or.inl rfl | exact Or.inr rfl)
  | fail "no")
local macro_rules | `(tactic| wtm_at "fo s") => `(tactic| ((with_reducible show PS _ (.Assign [.Tuple _ _ _] (.Tuple _ _ _) _) _); refine' ps_asg ?ka ?kb; (case ka => wtm_at "fo e"); (case kb => wtm_at "fo g")))
/-! piece E6a -/
section
variable {P : Program} {w : World} {K : PySem.W.Frag} {mg : Str → Option Value} {base : Heap}
theorem for_rev {K : PySem.W.Frag} {a : Addr} {xs : List V} {g : TG} {tb : TS} {D : Ends} {σ : Sl} {H : Hp} (Pv : Nat → Sl → Hp → Prop) (h0 : Pv 0 σ H) (hl : ∀ i σ H, i ≤ xs.length → Pv i σ H → SqL K H a xs)
    (hs : ∀ (i : Nat) x σ H, i < xs.length → xs[xs.length - 1 - i]? = some x → Pv i σ H → g x σ H fun σ2 H2 => tb { D with nx := Pv (i + 1), ct := Pv (i + 1), bk := D.nx } σ2 H2)
    (hd : ∀ σ H, Pv xs.length σ H → D.nx σ H) :
    ∃ W : Nat → Nat → Sl → Hp → Prop, (∃ m, W 0 m σ H) ∧ ∀ i m σ H, W i m σ H →
      ((Itv K a xs.length).stop i H ∧ D.nx σ H) ∨ ((Itv K a xs.length).go i H ∧ ∃ N : Sl → Hp → Prop, (∀ σ' H', N σ' H' → ∃ m', m' < m ∧ W (i + 1) m' σ' H') ∧
        ∀ x H', (Itv K a xs.length).yld i H x H' → g x σ H' fun σ2 H2 => tb { D with nx := N, ct := N, bk := D.nx } σ2 H2) := by
  refine ⟨fun i m σ H => m = xs.length - i ∧ i ≤ xs.length ∧ Pv i σ H, ⟨xs.length, by simp, Nat.zero_le _, h0⟩, ?_⟩
  rintro i m σ H ⟨rfl, hi, p⟩
  have q := hl i σ H hi p
  by_cases hlt : i < xs.length
  · have hg : xs[xs.length - 1 - i]? = some (xs[xs.length - 1 - i]'(by omega)) := List.getElem?_eq_getElem _
    refine Or.inr ⟨⟨hlt, xs, _, q, hg⟩, Pv (i + 1), fun σ' H' p' => ⟨xs.length - (i + 1), by omega, rfl, hlt, p'⟩, ?_⟩
    rintro x H' ⟨rfl, hx⟩
    exact hs i x σ _ hlt (hx xs q) p
  · obtain rfl : i = xs.length := by omega
    exact Or.inl ⟨Nat.le_refl _, hd σ H p⟩
/-! ### whole_lot, first_target -/
@[irreducible] def spWhole : Sp := fun vs H Q _ => ∃ (r : Addr) (xs : List V) (n : Nat), vs = [.ref r] ∧ H r = some (.lst xs) ∧ xs.length = n + 1 ∧ n ≤ 100 ∧ Q (.int ((2 ^ (n + 1) - 2 : Nat) : Int)) H
theorem call_whole {r : Addr} {xs : List V} {n : Nat} {H : Hp} {Q : VK} {E : XK} (hr : H r = some (.lst xs)) (hl : xs.length = n + 1) (hn : n ≤ 100) (q : Q (.int ((2 ^ (n + 1) - 2 : Nat) : Int)) H) : spWhole [.ref r] H Q E := by
  unfold spWhole
  exact ⟨r, xs, n, rfl, hr, hl, hn, q⟩
set_option maxHeartbeats 2000000 in
theorem ok_whole {f : Addr} {fd : FuncData} (F : Fun K "whole_lot" "whole_lot" s_whole_lot f fd) (mn : mg "len" = none) : FnOk P w K mg base CX0 1 f fd ["near"] spWhole := by
  refine F.ok sc_whole_lot (fun vs H Q E h => ?_) (fun cdv A outer s H vs Q E hr h => ?_)
  · unfold spWhole at h
    obtain ⟨r, xs, n, rfl, _⟩ := h
    rfl
  · have nd := sc_whole_lot.nd
    have hS := sc_whole_lot
    have hKM : KMark K := ⟨⟩
    refine' mk_body ?body ?rd
    case body =>
      show PSs _ [_] _
      wtm_at "fo ss"
    case rd =>
     unfold spWhole at h
     obtain ⟨r, xs, n, rfl, hr0, hl, hn, q⟩ := h
     refine ⟨_, rfl, r, _, rfl, Or.inl (SqL.of hr0), _, _, rfl, rfl, ⟨by omega, by omega, by decide⟩, _, _, rfl, rfl, ?_⟩
     have e : V.int (1 * 2 ^ ((xs.length : Int)).toNat - 2) = V.int ((2 ^ (n + 1) - 2 : Nat) : Int) := by
       rw [hl, Int.one_mul, Int.toNat_natCast]
       have h2 : (2 : Nat) ≤ 2 ^ (n + 1) := by
         rw [Nat.pow_succ]
         have := Nat.one_le_two_pow (n := n)
         omega
       rw [Int.natCast_sub h2, Int.natCast_pow]
       rfl
     show Q (V.int (1 * 2 ^ ((xs.length : Int)).toNat - 2)) H
     rw [e]
     exact q
@[irreducible] def spFirst : Sp := fun vs H Q _ => ∃ (r : Addr) (n v p : Nat) (es : List Edge) (left : List Int), vs = [.ref r, .int v, .int p] ∧ n ≤ 12 ∧ Simp n es ∧ H r = some (nLst (nearB n es)) ∧ LotIs v left ∧ InNet n left ∧ 1 ≤ p ∧ p ≤ n ∧ ∀ H', Same H H' → Q (.int (ftM es left p)) H'
theorem call_first {r : Addr} {n v p : Nat} {es : List Edge} {left : List Int} {H : Hp} {Q : VK} {E : XK} (hn : n ≤ 12) (hS : Simp n es) (hr : H r = some (nLst (nearB n es))) (hv : LotIs v left) (hI : InNet n left) (h1 : 1 ≤ p) (h2 : p ≤ n)
    (q : ∀ H', Same H H' → Q (.int (ftM es left p)) H') : spFirst [.ref r, .int v, .int p] H Q E := by
  unfold spFirst
  exact ⟨r, n, v, p, es, left, rfl, hn, hS, hr, hv, hI, h1, h2, q⟩
set_option maxHeartbeats 4000000 in
theorem ok_first {f : Addr} {fd : FuncData} (F : Fun K "first_target" "first_target" s_first_target f fd) (me : mg "enumerate" = none) : FnOk P w K mg base CX0 1 f fd ["near", "lot", "place"] spFirst := by
  refine F.ok sc_first_target (fun vs H Q E h => ?_) (fun cdv A outer s H vs Q E hr h => ?_)
  · unfold spFirst at h
    obtain ⟨r, n, v, p, es, left, rfl, _⟩ := h
    rfl
  · have nd := sc_first_target.nd
    have hS := sc_first_target
    have hKM : KMark K := ⟨⟩
    refine' mk_body ?body ?rd
    case body =>
      show PSs _ [_, _, _, _] _
      wtm_at "fo ss"
    case rd =>
     unfold spFirst at h
     obtain ⟨r, n, v, p, es, left, rfl, hn, hSi, hr0, hv, hI, h1, h2, fin⟩ := h
     wtm_at "fo r"
     rw [show ((p : Int)).toNat = p by omega, bit_test, hv]
     by_cases hp : (p : Int) ∈ left
     · refine ifF (by rw [decide_eq_true hp]; rfl) ?_
       have hrE : ∀ e ∈ es, 1 ≤ e.1 ∧ 1 ≤ e.2 ∧ e.1 ≠ e.2 := fun e he => by have := hSi.rng e he; omega
       obtain ⟨m, hm, bm⟩ := nearB_bit hrE (p := p) (n := n) (by omega) (by omega)
       refine ⟨_, rfl, _, rfl, Or.inl ⟨r, _, (p : Nat), _, rfl, rfl, SqL.of hr0, at_nb hm, ?_⟩⟩
       refine ⟨_, rfl, _, _, rfl, rfl, ?_⟩
       refine ⟨_, rfl, r, _, rfl, SqL.of hr0, ?_⟩
       refine for_enum (K := K) (xs := (nearB n es).map fun (v : Nat) => V.int v) (fun i σ H3 => ∃ y4 y5, σ = [some (.ref r), some (.int v), some (.int p), some (.int (Builtin.bitAnd (m : Int) (v : Int))), y4, y5] ∧ Same H H3 ∧ ∀ j, j < i → ¬ Good es n v p j) ?_ ?_ ?_ ?_
       · exact ⟨none, none, rfl, Same.refl _, fun j h => by omega⟩
       · rintro i σ H3 _ ⟨y4, y5, rfl, sm, _⟩
         exact SqL.of (sm _ _ hr0)
       · rintro i x T σ H3 hx ⟨y4, y5, rfl, sm, hng⟩ nT
         rw [List.getElem?_map] at hx
         cases hu : (nearB n es)[i]? with
         | none => rw [hu] at hx; cases hx
         | some u =>
           rw [hu] at hx
           cases hx
           have hi : i ≤ n := by
             have := (List.getElem?_eq_some_iff.mp hu).1
             rw [nearB_length] at this
             omega
           have smT : Same H (upd H3 T (.tup [.int (i : Nat), .int u])) := same_upd sm (sm.free nT)
           refine Or.inl ⟨T, [.int (i : Nat), .int u], rfl, SqT.of upd_same, rfl, .int (i : Nat), [.int u], rfl, .int u, [], rfl, rfl, ?_⟩
           generalize upd H3 T (.tup [.int (i : Nat), .int u]) = H4 at *
           have hno : ∀ h : ¬ Good es n v p i, ∀ j, j < i + 1 → ¬ Good es n v p j := fun h j hj => by
             by_cases e : j = i
             · rw [e]; exact h
             · exact hng j (by omega)
           refine ⟨_, rfl, _, rfl, _, _, rfl, rfl, _, rfl, Or.inl ⟨rfl, _, rfl, ?_⟩⟩
           refine ite2 (fun hc => ?_) (fun hc => ?_)
           · have hc1 : u &&& (m &&& v) = m &&& v := by
               have := of_decide_eq_true hc
               simp only [bAnd] at this
               injection this with this
               exact Int.ofNat.inj this
             refine ⟨_, rfl, _, rfl, Or.inl ⟨rfl, _, rfl, ?_⟩⟩
             refine ite2 (fun hc2 => ?_) (fun hc2 => ?_)
             · have hc2 : i ≠ p := fun e => by
                 subst e
                 simp at hc2
               refine ⟨_, rfl, _, rfl, _, _, rfl, rfl, by omega, _, _, rfl, rfl, _, rfl, ?_⟩
               rw [show ((i : Int)).toNat = i by omega, bit_test]
               refine ite2 (fun hc3 => ?_) (fun hc3 => ?_)
               · have hg : Good es n v p i := ⟨u, m, hu, hm, hc1, hc2, hc3⟩
                 refine ⟨_, rfl, ?_⟩
                 have hmem := (good_iff hSi hv hI.rng hp hi).mp hg
                 have hft : ftM es left p = (i : Int) := ftM_some hp hmem fun x hx => by
                   apply Classical.byContradiction
                   intro hlt
                   have hxr := hI.rng x (onto_sub x hx)
                   refine hng x.toNat (by omega) ((good_iff hSi hv hI.rng hp (by omega)).mpr ?_)
                   rwa [show ((x.toNat : Nat) : Int) = x by omega]
                 have := fin H4 smT
                 rw [hft] at this
                 exact this
               · refine ⟨_, _, rfl, smT, hno ?_⟩
                 rintro ⟨_, _, _, _, _, _, hb⟩
                 exact hc3 hb
             · have hc2 : i = p := by
                 apply Classical.byContradiction
                 intro e
                 exact hc2 (by simp; omega)
               refine ifF rfl ⟨_, _, rfl, smT, hno ?_⟩
               rintro ⟨_, _, _, _, _, h, _⟩
               exact h hc2
           · refine ifF rfl ⟨_, _, rfl, smT, hno ?_⟩
             rintro ⟨u2, m2, hu2, hm2, h, _, _⟩
             rw [hu] at hu2
             rw [hm] at hm2
             cases hu2
             cases hm2
             exact hc (by simp only [bAnd]; rw [h]; simp)
       · rintro σ H3 ⟨y4, y5, rfl, sm, hng⟩
         rw [List.length_map, nearB_length] at hng
         have hft : ftM es left p = 0 := ftM_none fun x hx => by
           have hxr := hI.rng x (onto_sub x hx)
           refine hng x.toNat (by omega) ((good_iff hSi hv hI.rng hp (by omega)).mpr ?_)
           rwa [show ((x.toNat : Nat) : Int) = x by omega]
         have := fin H3 sm
         rw [hft] at this
         exact this
     · refine ifT (by rw [decide_eq_false hp]; rfl) ?_
       have := fin H (Same.refl _)
       rw [show ftM es left p = 0 by unfold ftM; rw [if_neg hp]] at this
       exact this
end
/-! tactics TAC4 -/
local macro_rules | `(tactic| wtm_at "fo e") => `(tactic| first
  | ((with_reducible show PE _ (.UnaryOp .Invert _ _) _); apply pe_un un_inv; wtm_at "fo e")
  | ((with_reducible show PE _ (.BoolOp .Or [_] _) _); apply pe_one; wtm_at "fo e")
  | ((with_reducible show PE _ (.BoolOp .Or _ _) _); apply pe_or; (· wtm_at "fo e"); (· wtm_at "fo e"))
  | ((with_reducible show PE _ (.BinOp _ .Mult _ _) _); apply pe_op opMulB <;> wtm_at "fo e")
  | ((with_reducible show PE _ (.BinOp _ .BitOr _ _) _); apply pe_op op_or <;> wtm_at "fo e")
  | ((with_reducible show PE _ (.Compare _ [.Is] [.Constant .none _ _] _) _); refine' pe_cmpR op_isN ?ka ?kb (nomark _); (case ka => wtm_at "fo e"); (case kb => wtm_at "fo e"))
  | fail "no")
local macro_rules | `(tactic| wtm_at "fo t") => `(tactic| first
  | ((with_reducible show PT _ (.Compare _ [.Is] [.Constant .none _ _] _) _); refine' pt_cmpR op_isN ?ka ?kb (nomark _); (case ka => wtm_at "fo e"); (case kb => wtm_at "fo e"))
  | ((with_reducible show PT _ (.Compare _ [.IsNot] [.Constant .none _ _] _) _); refine' pt_cmpR op_notN ?ka ?kb (nomark _); (case ka => wtm_at "fo e"); (case kb => wtm_at "fo e"))
  | fail "no")
local macro_rules | `(tactic| wtm_at "fo i") => `(tactic| first
  | ((with_reducible show PI _ _ (.Call (.Name (Str.ofString "enumerate") _) [_, _] [] _) _); refine' pi_enumC (by assumption) (by exact rfl) (by rfl) (by assumption) ?ka; (case ka => wtm_at "fo a"))
  | ((with_reducible show PI _ _ (.Call (.Name (Str.ofString "enumerate") _) [_] [_] _) _); refine' pi_enumS (by assumption) (by exact rfl) (by rfl) (by assumption) ?ka ?kb; (case ka => wtm_at "fo a"); (case kb => wtm_at "fo k"))
  | fail "no")
local macro_rules | `(tactic| wtm_at "fo own") => `(tactic| first
  | ((show _ = [2, 4]); kernel_rfl!)
  | ((show _ = [4, 2]); kernel_rfl!)
  | fail "no")
local macro_rules | `(tactic| wtm_at "fo v") => `(tactic| ((with_reducible show PE _ (.Name (Str.ofString "tuple") _) _); exact pe_bltn (v := .ty "tuple") (by rfl) (by assumption) (by decide +kernel) rfl))
/-! piece PA -/
section
local macro_rules | `(tactic| wtm_at "fo e") => `(tactic| ((with_reducible show PE _ (.UnaryOp .Invert _ _) _); apply pe_un un_inv; wtm_at "fo e"))
/-! ### fold_around -/
theorem sub_and : ∀ (k v h : Nat), (v - (v &&& h)).testBit k = (v.testBit k && !h.testBit k)
  | 0, v, h => by
    have h1 := Nat.and_mod_two_eq_one (a := v) (b := h)
    have h2 : v &&& h ≤ v := Nat.and_le_left
    rw [Nat.testBit_zero, Nat.testBit_zero, Nat.testBit_zero, ← decide_not, ← Bool.decide_and]
    apply decide_eq_decide.mpr
    generalize v &&& h = m at *
    omega
  | k + 1, v, h => by
    have h1 := Nat.and_mod_two_eq_one (a := v) (b := h)
    have h2 : v &&& h ≤ v := Nat.and_le_left
    have h3 : (v &&& h) / 2 = v / 2 &&& h / 2 := Nat.and_div_two
    have h4 : (v - (v &&& h)) / 2 = v / 2 - (v / 2 &&& h / 2) := by
      rw [← h3]
      clear h3
      generalize v &&& h = m at *
      omega
    rw [Nat.testBit_succ, Nat.testBit_succ, Nat.testBit_succ, h4]
    exact sub_and k (v / 2) (h / 2)
theorem and_not_lot {v h : Nat} {left hs : List Int} (hv : LotIs v left) (hh : LotIs h hs) : ∃ u : Nat, Builtin.bitAnd (v : Int) (Builtin.bitNot (h : Int)) = (u : Int) ∧ LotIs u (left.filter fun x => decide (x ∉ hs)) := by
  have h1 : v &&& h ≤ v := Nat.and_le_left
  refine ⟨v - (v &&& h), ?_, fun k => ?_⟩
  · have e1 : Builtin.bitNot (h : Int) = -(h : Int) - 1 := rfl
    have e2 : Builtin.bitNot (Builtin.bitNot (h : Int)) = (h : Int) := by show -(-(h : Int) - 1) - 1 = (h : Int); omega
    unfold Builtin.bitAnd
    rw [decide_eq_true (Int.natCast_nonneg v), decide_eq_false (show ¬ (0 ≤ Builtin.bitNot (h : Int)) by rw [e1]; omega)]
    show (v : Int) - (((v : Int).toNat &&& (Builtin.bitNot (Builtin.bitNot (h : Int))).toNat : Nat) : Int) = _
    rw [e2, Int.toNat_natCast, Int.toNat_natCast]
    omega
  · rw [sub_and, hv, hh, ← decide_not, ← Bool.decide_and]
    apply decide_eq_decide.mpr
    rw [List.mem_filter, decide_eq_true_eq]
@[irreducible] def spAround : Sp := fun vs H Q _ => ∃ (r : Addr) (n h : Nat) (es : List Edge) (hs : List Int), vs = [.ref r, .int h] ∧ n ≤ 12 ∧ Simp n es ∧ H r = some (nLst (nearB n es)) ∧ LotIs h hs ∧
  ∀ p q rs (v : Nat) ps left H', aroundA n es hs = (left, ps) → Same H H' → H p = none → H q = none → H' p = some (.tup [.int v, .ref q]) → TsAt H' q rs ps → LotIs v left → RunL es (allM n) ps left → (∀ e ∈ ps, e.1 ∉ hs) → (∀ x ∈ left, x ∉ hs → ontoM es left x = []) → Q (.ref p) H'
theorem call_around {r : Addr} {n h : Nat} {es : List Edge} {hs : List Int} {H : Hp} {Q : VK} {E : XK} (hn : n ≤ 12) (hS : Simp n es) (hr : H r = some (nLst (nearB n es))) (hh : LotIs h hs)
    (fin : ∀ p q rs (v : Nat) ps left H', aroundA n es hs = (left, ps) → Same H H' → H p = none → H q = none → H' p = some (.tup [.int v, .ref q]) → TsAt H' q rs ps → LotIs v left → RunL es (allM n) ps left → (∀ e ∈ ps, e.1 ∉ hs) → (∀ x ∈ left, x ∉ hs → ontoM es left x = []) → Q (.ref p) H') : spAround [.ref r, .int h] H Q E := by
  unfold spAround
  exact ⟨r, n, h, es, hs, rfl, hn, hS, hr, hh, fin⟩
variable {P : Program} {w : World} {K : PySem.W.Frag} {mg : Str → Option Value} {base : Heap}
set_option maxHeartbeats 4000000 in
theorem ok_around {f : Addr} {fd : FuncData} (F : Fun K "fold_around" "fold_around" s_fold_around f fd)
    (C1 : Cal P w K mg base "whole_lot" 1 ["near"] spWhole) (C2 : Cal P w K mg base "first_target" 1 ["near", "lot", "place"] spFirst) (C3 : Cal P w K mg base "members" 1 ["lot"] spMembers) :
    FnOk P w K mg base CX0 2 f fd ["near", "held"] spAround := by
  refine F.ok sc_fold_around (fun vs H Q E h => ?_) (fun cdv A outer s H vs Q E hr h => ?_)
  · unfold spAround at h
    obtain ⟨r, n, h, es, hs, rfl, _⟩ := h
    rfl
  · have nd := sc_fold_around.nd
    have hS := sc_fold_around
    have hKM : KMark K := ⟨⟩
    refine' mk_body ?body ?rd
    case body =>
      show PSs _ [_, _, _, _, _] _
      wtm_at "fo ss"
    case rd =>
     unfold spAround at h
     obtain ⟨r, n, h, es, hs, rfl, hn, hSi, hr0, hh, fin⟩ := h
     have hrl : ((nearB n es).map fun (v : Nat) => V.int v).length = n + 1 := by rw [List.length_map, nearB_length]
     refine ⟨_, rfl, ?_⟩
     refine call_whole hr0 hrl (by omega) ?_
     refine ⟨(Nat.le_of_ble_eq_true rfl : _ ≤ sizeLine), fun q nq => ?_⟩
     have sm1 : Same H (upd H q (.lst [])) := same_upd (Same.refl _) nq
     have hq1 : (upd H q (.lst [])) q = some (.lst []) := upd_same
     generalize upd H q (.lst []) = H1 at *
     let W : Nat → Sl → Hp → Prop := fun m σ H2 => ∃ (v : Nat) (left : List Int) (ps : List Edge) (rs : List Addr) (b : Bool) (y5 y6 : Option V), σ = [some (.ref r), some (.int h), some (.int v), some (.ref q), some (.bl b), y5, y6] ∧ m = left.length + (if b then 1 else 0) ∧ Same H H2 ∧ LotIs v left ∧ TsAt H2 q rs ps ∧ RunL es (allM n) ps left ∧ (∀ e ∈ ps, e.1 ∉ hs) ∧ (b = false → ∀ x ∈ left, x ∉ hs → ontoM es left x = []) ∧ ∃ k, iterA n es hs k = (left, ps) ∧ k + left.length ≤ n ∧ (b = false → passA es hs (left, ps) = (left, ps))
     refine ⟨W, ⟨_, _, allM n, [], [], true, none, none, rfl, rfl, sm1, whole_is n, TsAt.nil hq1, .nil _, (fun e he => nomatch he), (fun hh => nomatch hh), 0, rfl, by simp [allM], (fun hh => nomatch hh)⟩, fun m σ H2 hW => ?_⟩
     obtain ⟨v, left, ps, rs, b, y5, y6, rfl, rfl, sm2, hv, hT, hR, hke, hst, kk, hkk, hkl, hpf⟩ := hW
     have hI : InNet n left := (inNet_all n).run hR
     refine ⟨_, rfl, b, rfl, ?_⟩
     cases b with
     | false =>
       refine ifF rfl ?_
       refine ⟨_, rfl, _, rfl, (Nat.le_of_ble_eq_true rfl : _ ≤ sizeLine), fun t nt => ?_⟩
       have smt : Same H2 (upd H2 t (.tup [.int v, .ref q])) := same_upd (Same.refl _) nt
       exact fin t q rs v ps left _ (by rw [aroundA_is (k := kk) (by omega) (by rw [hkk]; exact hpf rfl), hkk]) (sm2.trans smt) (sm2.free nt) nq upd_same (hT.same smt) hv hR hke (hst rfl)
     | true =>
       refine ifT rfl ?_
       refine ⟨fun σ' H' => ∃ m', m' < left.length + 1 ∧ W m' σ' H', fun _ _ h => h, ?_⟩
       obtain ⟨u, hu, hul⟩ := and_not_lot hv hh
       refine ⟨_, rfl, _, rfl, _, rfl, _, _, rfl, rfl, ?_⟩
       have hmm : ∀ Q E, spMembers [.int (u : Int)] H2 Q E → spMembers [.int (Builtin.bitAnd (v : Int) (Builtin.bitNot (h : Int)))] H2 Q E := fun _ _ hx => by rw [hu]; exact hx
       refine hmm _ _ ?_
       generalize hxs : (left.filter fun x => decide (x ∉ hs)) = xs at *
       have hxl : xs.Pairwise (· < ·) := by rw [← hxs]; exact List.Pairwise.filter _ hI.lt
       have hxm : ∀ x ∈ xs, x ∈ left ∧ x ∉ hs := fun x hx => by
         rw [← hxs] at hx
         obtain ⟨h1, h2⟩ := List.mem_filter.mp hx
         exact ⟨h1, of_decide_eq_true h2⟩
       refine call_members (Nat.lt_of_lt_of_le (lot_small hul fun x hx => (hI.rng x (hxm x hx).1).2) (Nat.pow_le_pow_right (by decide) (by omega))) (fun p H3 sm3 np hp => ?_)
       rw [members_lot hul hxl fun x hx => (hI.rng x (hxm x hx).1).1] at hp
       have hqp : q ≠ p := ne_of_none hT.hD np
       refine ⟨p, rfl, ⟨_, SqL.of hp⟩, ?_⟩
       refine for_list (K := K) (xs := xs.map V.int) (fun i σ H4 => ∃ (v2 : Nat) (left2 : List Int) (ps2 : List Edge) (rs2 : List Addr) (b2 : Bool) (y5 y6 : Option V), σ = [some (.ref r), some (.int h), some (.int v2), some (.ref q), some (.bl b2), y5, y6] ∧ Same H H4 ∧ H4 p = some (iL xs) ∧ LotIs v2 left2 ∧ TsAt H4 q rs2 ps2 ∧ RunL es (allM n) ps2 left2 ∧ (∀ e ∈ ps2, e.1 ∉ hs) ∧
         (xs.take i).foldl (stepA es) (left, ps) = (left2, ps2) ∧ (b2 = false → (left2 = left ∧ ps2 = ps) ∧ ∀ k x, k < i → xs[k]? = some x → ontoM es left x = []) ∧ (b2 = true → left2.length < left.length) ∧ (∀ k x, i ≤ k → xs[k]? = some x → x ∈ left2)) ?_ ?_ ?_ ?_
       · exact ⟨v, left, ps, rs, false, y5, y6, rfl, sm2.trans sm3, hp, hv, hT.same sm3, hR, hke, rfl, fun _ => ⟨⟨rfl, rfl⟩, fun k x hk => absurd hk (Nat.not_lt_zero k)⟩, (fun e => nomatch e), fun k x _ hx => (hxm x (List.mem_of_getElem? hx)).1⟩
       · rintro i σ H4 _ ⟨v2, left2, ps2, rs2, b2, y5, y6, rfl, sm, hp4, _⟩
         exact SqL.of hp4
       · rintro i x σ H4 hx ⟨v2, left2, ps2, rs2, b2, y5, y6, rfl, sm4, hp4, hv2, hT4, hR4, hke4, hfd, hf4, ht4, hm4⟩
         have htk : (xs.take (i + 1)).foldl (stepA es) (left, ps) = stepA es (left2, ps2) ((xs[i]?).getD 0) := by
           rw [List.take_add_one, List.foldl_append, hfd]
           cases hq : xs[i]? with
           | none => rw [List.getElem?_map, hq] at hx; cases hx
           | some r => rfl
         obtain ⟨z, hz, rfl⟩ : ∃ z, xs[i]? = some z ∧ x = V.int z := by
           rw [List.getElem?_map] at hx
           cases hq : xs[i]? with
           | none => rw [hq] at hx; cases hx
           | some r => rw [hq] at hx; exact ⟨r, rfl, (Option.some.inj hx).symm⟩
         have hI2 : InNet n left2 := (inNet_all n).run hR4
         have hz2 := hm4 i z (Nat.le_refl i) hz
         have hzr := hI2.rng z hz2
         have hzh := (hxm z (List.mem_of_getElem? hz)).2
         have hl4 := (hR4.length ((allM_lt n).imp fun h => by omega)).1
         rw [show (allM n).length = n by simp [allM]] at hl4
         obtain ⟨z, rfl⟩ : ∃ k : Nat, z = (k : Int) := ⟨z.toNat, by omega⟩
         refine ⟨_, rfl, _, rfl, _, rfl, ?_⟩
         refine call_first hn hSi (sm4 _ _ hr0) hv2 hI2 (by omega) (by omega) (fun H5 sm5 => ?_)
         have s5 := sm4.trans sm5
         have hT5 := hT4.same sm5
         have hp5 := sm5 _ _ hp4
         refine ⟨_, rfl, _, rfl, ?_⟩
         have hzero := ftM_zero (es := es) (fun x hx => (hI2.rng x hx).1) hz2
         by_cases h0 : ftM es left2 (z : Int) = 0
         · refine ifF (by rw [h0]; rfl) ?_
           refine ⟨v2, left2, ps2, rs2, b2, _, _, rfl, s5, hp5, hv2, hT5, hR4, hke4, ?_, fun e => ?_, ht4, fun k x hk => hm4 k x (by omega)⟩
           · rw [htk, hz]
             show stepA es (left2, ps2) (z : Int) = _
             unfold stepA
             rw [if_pos (hzero.mp h0)]
           obtain ⟨e1, e2⟩ := hf4 e
           refine ⟨e1, fun k x hk hx2 => ?_⟩
           by_cases hki : k = i
           · rw [hki, hz] at hx2
             cases hx2
             rw [← e1.1]
             exact hzero.mp h0
           · exact e2 k x (by omega) hx2
         · refine ifT (by simp [h0]) ?_
           have hft : ftM es left2 (z : Int) = minL (ontoM es left2 (z : Int)) := by unfold ftM; rw [if_pos hz2]
           have hgo : ftM es left2 (z : Int) ∈ ontoM es left2 (z : Int) := by
             rw [hft]
             exact minL_mem fun e => h0 (hzero.mpr e)
           have hst2 : stepA es (left2, ps2) (z : Int) = (without left2 z, ps2 ++ [((z : Int), ftM es left2 (z : Int))]) := by
             unfold stepA
             rw [if_neg (fun e => h0 (hzero.mpr e)), ← hft]
           generalize ftM es left2 (z : Int) = g at *
           refine ⟨_, rfl, .inl ⟨rfl, _, SqL.of hT5.hD⟩, ?_⟩
           refine ⟨_, rfl, _, rfl, (Nat.le_of_ble_eq_true rfl : _ ≤ sizeLine), fun c nc => ?_⟩
           have hqc : q ≠ c := ne_of_none hT5.hD nc
           have hpc : p ≠ c := ne_of_none hp5 nc
           refine ⟨q, _, _, rfl, rfl, (upd_ne hqc).trans hT5.hD, ?_, ?_⟩
           · rw [List.length_map, hT5.len]
             exact Nat.lt_of_le_of_lt (m := 20) (by omega) (by decide)
           have hT6 := hT5.push nc ((z : Int), g)
           have hR6 := hR4.snoc hz2 hgo
           have hl6 := (hR6.length ((allM_lt n).imp fun h => by omega)).1
           rw [show (allM n).length = n by simp [allM], List.length_append, List.length_singleton] at hl6
           refine ⟨_, rfl, _, rfl, _, _, rfl, rfl, ⟨by omega, by omega, by decide⟩, _, _, rfl, rfl, ?_⟩
           refine ⟨v2 ^^^ 2 ^ z, without left2 z, ps2 ++ [((z : Int), g)], rs2 ++ [c], true, some (.int z), some (.int g), ?_, same_upd (same_upd s5 (s5.free nc)) nq, ?_, xor_pow hv2 hz2, hT6, hR6, ?_, ?_, (fun e => nomatch e), fun _ => ?_, fun k x hk hx => ?_⟩
           · have e : Builtin.bitXor (v2 : Int) (1 * 2 ^ ((z : Int)).toNat) = ((v2 ^^^ 2 ^ z : Nat) : Int) := by
               rw [← bXor, Int.one_mul, Int.toNat_natCast, Int.natCast_pow]
               rfl
             show [some (V.ref r), some (V.int h), some (V.int (Builtin.bitXor (v2 : Int) (1 * 2 ^ ((z : Int)).toNat))), some (V.ref q), some (V.bl true), some (V.int z), some (V.int g)] = _
             rw [e]
           · exact (upd_ne hqp.symm).trans ((upd_ne hpc).trans hp5)
           · intro e he
             rcases List.mem_append.mp he with he | he
             · exact hke4 e he
             · rw [List.mem_singleton.mp he]
               exact hzh
           · rw [htk, hz]
             exact hst2
           · have : left2.length ≤ left.length := by
               cases b2 with
               | false => rw [(hf4 rfl).1.1]; exact Nat.le_refl _
               | true => exact Nat.le_of_lt (ht4 rfl)
             omega
           · refine without_mem.mpr ⟨hm4 k x (by omega) hx, fun e => ?_⟩
             rw [e] at hx
             have := nd_ix (hxl.imp fun h => by omega : xs.Nodup) hx hz
             omega
       · rintro σ H4 ⟨v2, left2, ps2, rs2, b2, y5, y6, rfl, sm4, hp4, hv2, hT4, hR4, hke4, hfd, hf4, ht4, hm4⟩
         rw [List.length_map, List.take_length] at hfd
         have hpp : passA es hs (left, ps) = (left2, ps2) := by unfold passA; rw [hxs]; exact hfd
         refine ⟨left2.length + (if b2 then 1 else 0), ?_, v2, left2, ps2, rs2, b2, y5, y6, rfl, rfl, sm4, hv2, hT4, hR4, hke4, fun e x hx hxh => ?_, ?_⟩
         · cases b2 with
           | false => rw [(hf4 rfl).1.1]; exact Nat.lt_succ_self _
           | true =>
             have := ht4 rfl
             simp only [if_true]
             omega
         · obtain ⟨e1, e2⟩ := hf4 e
           rw [e1.1] at hx ⊢
           obtain ⟨k, hk⟩ := List.getElem?_of_mem (show x ∈ xs by rw [← hxs]; exact List.mem_filter.mpr ⟨hx, decide_eq_true hxh⟩)
           exact e2 k x (by rw [List.length_map]; exact (List.getElem?_eq_some_iff.mp hk).1) hk
         · cases b2 with
           | false =>
             obtain ⟨e1, e2⟩ := (hf4 rfl).1
             subst e1
             subst e2
             exact ⟨kk, hkk, hkl, fun _ => hpp⟩
           | true =>
             have := ht4 rfl
             exact ⟨kk + 1, by show passA es hs (iterA n es hs kk) = _; rw [hkk]; exact hpp, by omega, (fun e => nomatch e)⟩
end
/-! piece PB -/
section
variable {P : Program} {w : World} {K : PySem.W.Frag} {mg : Str → Option Value} {base : Heap}
theorem lot_nil : LotIs 0 [] := fun k => by simp
/-- a comprehension over pairs, tuples, that filters and tells -/
theorem lc_ts {K : PySem.W.Frag} {q : Addr} {rs : List Addr} {ps : List Edge} {i j : Nat} {tt : TT} {te : TE} {vs : List Nat} {σ : Sl} {H1 : Hp} {D : Addr} {Qd : Hp → Prop} (f : Edge → Bool) (e : Edge → V)
    (hT : TsAt H1 q rs ps) (nD : H1 D = none) (hn : ps.length ≤ 10000) (hw : ∀ u v, wipe (((wipe σ vs).set i (some u)).set j (some v)) vs = wipe σ vs)
    (ht : ∀ x ∈ ps, ∀ H2, Same H1 H2 → ∀ R : Bool → Hp → Prop, (∀ H3, Same H2 H3 → R (f x) H3) → tt (((wipe σ vs).set i (some (.int x.1))).set j (some (.int x.2))) H2 R)
    (he : ∀ x ∈ ps, f x = true → ∀ H2, Same H1 H2 → ∀ R : V → Hp → Prop, (∀ H3, Same H2 H3 → R (e x) H3) → te (((wipe σ vs).set i (some (.int x.1))).set j (some (.int x.2))) H2 R)
    (hd : ∀ H2, Same H1 H2 → H2 D = some (.lst ((ps.filter f).map e)) → Qd H2) :
    ∃ W : Nat → Nat → Hp → Prop, (∃ m, W 0 m (upd H1 D (.lst []))) ∧ ∀ i' m H, W i' m H →
      ((Itl K q).stop i' H ∧ Qd H) ∨ ((Itl K q).go i' H ∧ ∃ Nx : Hp → Prop, (∀ H', Nx H' → ∃ m', m' < m ∧ W (i' + 1) m' H') ∧ ∀ x H', (Itl K q).yld i' H x H' → gOr (gTup K 2 (gCons (gName i) (gCons (gName j) gNil))) (gUnl K 2 (gCons (gName i) (gCons (gName j) gNil))) x (wipe σ vs) H' fun σ2 H2 => wipe σ2 vs = wipe σ vs ∧ tt σ2 H2 fun b H3 =>
        if b = true then te σ2 H3 fun y H4 => ∃ acc, H4 D = some (.lst acc) ∧ acc.length < sizeLine ∧ Nx (upd H4 D (.lst (acc ++ [y]))) else Nx H3) := by
  refine lc_list (K := K) (xs := rs.map V.ref) (fun k H2 => Same H1 H2 ∧ H2 D = some (.lst (((ps.take k).filter f).map e))) ⟨same_upd (Same.refl _) nD, upd_same⟩ ?_ ?_ ?_
  · rintro k H2 _ ⟨sm, _⟩
    exact SqL.of (sm _ _ hT.hD)
  · rintro k x H2 hx ⟨sm, hD⟩
    rw [List.getElem?_map] at hx
    cases hc : rs[k]? with
    | none => rw [hc] at hx; cases hx
    | some c =>
      rw [hc] at hx
      cases hx
      have hkl : k < ps.length := by rw [← hT.len]; exact (List.getElem?_eq_some_iff.mp hc).1
      have hv : ps[k]? = some ps[k] := List.getElem?_eq_getElem hkl
      have hce := sm _ _ (hT.at_ _ _ _ hc hv)
      have hm := List.getElem_mem hkl
      have htk : ps.take (k + 1) = ps.take k ++ [ps[k]] := by rw [List.take_add_one, hv]; rfl
      generalize ps[k] = y at *
      refine Or.inl ⟨c, [.int y.1, .int y.2], rfl, SqT.of hce, rfl, .int y.1, [.int y.2], rfl, .int y.2, [], rfl, rfl, ?_⟩
      refine ⟨hw _ _, ht y hm H2 sm _ fun H3 sm3 => ?_⟩
      cases hf : f y with
      | false =>
        refine ifF rfl ⟨sm.trans sm3, ?_⟩
        rw [htk, List.filter_append, List.filter_cons, hf]
        simpa using sm3 _ _ hD
      | true =>
        refine ifT rfl (he y hm hf H3 (sm.trans sm3) _ fun H4 sm4 => ?_)
        refine ⟨_, sm4 _ _ (sm3 _ _ hD), ?_, same_upd ((sm.trans sm3).trans sm4) nD, ?_⟩
        · rw [List.length_map]
          exact Nat.lt_of_le_of_lt (Nat.le_trans (List.length_filter_le ..) (Nat.le_trans (by rw [List.length_take]; exact Nat.min_le_right _ _) hn)) (by decide)
        · rw [upd_same, htk, List.filter_append, List.filter_cons, hf, List.map_append]
          simp
  · rintro H2 ⟨sm, hD⟩
    rw [List.length_map, hT.len, List.take_length] at hD
    exact hd H2 sm hD
/-! ### _order_around, full_order, end_size, all_lead -/
@[irreducible] def spOA : Sp := fun vs H Q _ => ∃ (r : Addr) (n h : Nat) (es : List Edge) (hs : List Int), vs = [.ref r, .int h] ∧ n ≤ 12 ∧ Simp n es ∧ H r = some (nLst (nearB n es)) ∧ LotIs h hs ∧
  ∀ p ps left H', aroundA n es hs = (left, ps) → Same H H' → H p = none → H' p = some (iL (ps.map (·.1))) → RunL es (allM n) ps left → (∀ e ∈ ps, e.1 ∉ hs) → (∀ x ∈ left, x ∉ hs → ontoM es left x = []) → Q (.ref p) H'
theorem call_oa {r : Addr} {n h : Nat} {es : List Edge} {hs : List Int} {H : Hp} {Q : VK} {E : XK} (hn : n ≤ 12) (hS : Simp n es) (hr : H r = some (nLst (nearB n es))) (hh : LotIs h hs)
    (fin : ∀ p ps left H', aroundA n es hs = (left, ps) → Same H H' → H p = none → H' p = some (iL (ps.map (·.1))) → RunL es (allM n) ps left → (∀ e ∈ ps, e.1 ∉ hs) → (∀ x ∈ left, x ∉ hs → ontoM es left x = []) → Q (.ref p) H') : spOA [.ref r, .int h] H Q E := by
  unfold spOA
  exact ⟨r, n, h, es, hs, rfl, hn, hS, hr, hh, fin⟩
set_option maxHeartbeats 4000000 in
theorem ok_oa {f : Addr} {fd : FuncData} (F : Fun K "_order_around" "_order_around" s_order_around f fd) (C : Cal P w K mg base "fold_around" 2 ["near", "held"] spAround) :
    FnOk P w K mg base CX0 3 f fd ["near", "held"] spOA := by
  refine F.ok sc_order_around (fun vs H Q E h => ?_) (fun cdv A outer s H vs Q E hr h => ?_)
  · unfold spOA at h
    obtain ⟨r, n, h, es, hs, rfl, _⟩ := h
    rfl
  · have nd := sc_order_around.nd
    have hS := sc_order_around
    have hKM : KMark K := ⟨⟩
    refine' mk_body ?body ?rd
    case body =>
      show PSs _ [_, _] _
      wtm_at "fo ss"
    case rd =>
     unfold spOA at h
     obtain ⟨r, n, h, es, hs, rfl, hn, hSi, hr0, hh, fin⟩ := h
     wtm_at "fo r"
     refine call_around hn hSi hr0 hh (fun p q rs v ps left H1 hA sm1 np nq hp hT hv hR hke hst => ?_)
     refine Or.inl ⟨p, [.int v, .ref q], rfl, SqT.of hp, rfl, .int v, [.ref q], rfl, .ref q, [], rfl, rfl, ?_⟩
     refine ⟨_, rfl, q, rfl, ⟨_, SqL.of hT.hD⟩, fun D nD => ?_⟩
     have hl := hR.len12
     refine lc_ts (fun _ => true) (fun e => V.int e.1) hT nD (by omega) (fun _ _ => rfl) (fun x _ H2 _ R hR => hR H2 (Same.refl _)) (fun x _ _ H2 _ R hR => ⟨_, rfl, hR H2 (Same.refl _)⟩) ?_
     intro H2 sm2 hD2
     rw [List.filter_eq_self.mpr (fun _ _ => rfl)] at hD2
     refine fin D ps left H2 hA (sm1.trans sm2) (sm1.free nD) ?_ hR hke hst
     rw [hD2]
     unfold iL
     rw [List.map_map]
     rfl
/-! what is left at last -/
structure EndOf (n : Nat) (es ps : List Edge) (left : List Int) : Prop where
  is : aroundA n es [] = (left, ps)
  run : RunL es (allM n) ps left
  st : foldableM es left = []
theorem EndOf.of {n : Nat} {es ps : List Edge} {left : List Int} (hA : aroundA n es [] = (left, ps)) (hR : RunL es (allM n) ps left) (hst : ∀ x ∈ left, x ∉ ([] : List Int) → ontoM es left x = []) : EndOf n es ps left := by
  refine ⟨hA, hR, ?_⟩
  unfold foldableM
  rw [List.filter_eq_nil_iff]
  intro x hx
  simp [hst x hx (by simp)]
@[irreducible] def spFull : Sp := fun vs H Q _ => ∃ (q : Addr) (n : Nat) (es : List Edge), vs = [.int n, .ref q] ∧ 1 ≤ n ∧ n ≤ 12 ∧ Pairs H q es ∧ Simp n es ∧ es.length ≤ 200 ∧
  ∀ p ps left H', EndOf n es ps left → Same H H' → H p = none → H' p = some (iL (ps.map (·.1))) → Q (.ref p) H'
theorem call_full {q : Addr} {n : Nat} {es : List Edge} {H : Hp} {Q : VK} {E : XK} (h1 : 1 ≤ n) (hn : n ≤ 12) (hq : Pairs H q es) (hS : Simp n es) (hl : es.length ≤ 200)
    (fin : ∀ p ps left H', EndOf n es ps left → Same H H' → H p = none → H' p = some (iL (ps.map (·.1))) → Q (.ref p) H') : spFull [.int n, .ref q] H Q E := by
  unfold spFull
  exact ⟨q, n, es, rfl, h1, hn, hq, hS, hl, fin⟩
set_option maxHeartbeats 4000000 in
theorem ok_full {f : Addr} {fd : FuncData} (F : Fun K "full_order" "full_order" s_full_order f fd) (C : Cal P w K mg base "read_net" 2 ["places", "lines"] spRead) (C2 : Cal P w K mg base "_order_around" 3 ["near", "held"] spOA) :
    FnOk P w K mg base CX0 4 f fd ["places", "lines"] spFull := by
  refine F.ok sc_full_order (fun vs H Q E h => ?_) (fun cdv A outer s H vs Q E hr h => ?_)
  · unfold spFull at h
    obtain ⟨q, n, es, rfl, _⟩ := h
    rfl
  · have nd := sc_full_order.nd
    have hS := sc_full_order
    have hKM : KMark K := ⟨⟩
    refine' mk_body ?body ?rd
    case body =>
      show PSs _ [_] _
      wtm_at "fo ss"
    case rd =>
     unfold spFull at h
     obtain ⟨q, n, es, rfl, h1, hn, hq, hSi, hl, fin⟩ := h
     wtm_at "fo r"
     refine call_read h1 hn hq hSi hl (fun r H1 sm1 nr hr1 => ?_)
     exact call_oa hn hSi hr1 lot_nil (fun p ps left H2 hA sm2 np hp hR hke hst => fin p ps left H2 (.of hA hR hst) (sm1.trans sm2) (sm1.free np) hp)
@[irreducible] def spSize : Sp := fun vs H Q _ => ∃ (q : Addr) (n : Nat) (es : List Edge), vs = [.int n, .ref q] ∧ 1 ≤ n ∧ n ≤ 12 ∧ Pairs H q es ∧ Simp n es ∧ es.length ≤ 200 ∧
  ∀ ps left H', EndOf n es ps left → Same H H' → Q (.int (left.length : Nat)) H'
theorem call_size {q : Addr} {n : Nat} {es : List Edge} {H : Hp} {Q : VK} {E : XK} (h1 : 1 ≤ n) (hn : n ≤ 12) (hq : Pairs H q es) (hS : Simp n es) (hl : es.length ≤ 200)
    (fin : ∀ ps left H', EndOf n es ps left → Same H H' → Q (.int (left.length : Nat)) H') : spSize [.int n, .ref q] H Q E := by
  unfold spSize
  exact ⟨q, n, es, rfl, h1, hn, hq, hS, hl, fin⟩
set_option maxHeartbeats 4000000 in
theorem ok_size {f : Addr} {fd : FuncData} (F : Fun K "end_size" "end_size" s_end_size f fd) (mn : mg "len" = none) (C : Cal P w K mg base "full_order" 4 ["places", "lines"] spFull) :
    FnOk P w K mg base CX0 5 f fd ["places", "lines"] spSize := by
  refine F.ok sc_end_size (fun vs H Q E h => ?_) (fun cdv A outer s H vs Q E hr h => ?_)
  · unfold spSize at h
    obtain ⟨q, n, es, rfl, _⟩ := h
    rfl
  · have nd := sc_end_size.nd
    have hS := sc_end_size
    have hKM : KMark K := ⟨⟩
    refine' mk_body ?body ?rd
    case body =>
      show PSs _ [_] _
      wtm_at "fo ss"
    case rd =>
     unfold spSize at h
     obtain ⟨q, n, es, rfl, h1, hn, hq, hSi, hl, fin⟩ := h
     wtm_at "fo r"
     refine call_full h1 hn hq hSi hl (fun p ps left H1 hE sm1 np hp => ?_)
     refine ⟨p, _, rfl, Or.inl (SqL.of hp), _, _, rfl, rfl, ?_⟩
     have hl2 := hE.run.len12
     have e : ((n : Int) - (((ps.map (·.1)).map V.int).length : Nat)) = ((left.length : Nat) : Int) := by rw [List.length_map, List.length_map]; omega
     show Q (.int ((n : Int) - (((ps.map (·.1)).map V.int).length : Nat))) H1
     rw [e]
     exact fin ps left H1 hE sm1
end
/-! piece PFm -/
section
/-! ### rows of numbers in a list -/
structure RwAt (H : Hp) (D : Addr) (rs : List Addr) (ts : List (List Int)) : Prop where
  hD : H D = some (.lst (rs.map V.ref))
  len : rs.length = ts.length
  at_ : ∀ (i : Nat) (r : Addr) (t : List Int), rs[i]? = some r → ts[i]? = some t → H r = some (iL t)
theorem RwAt.mem {H : Hp} {D : Addr} {rs : List Addr} {ts : List (List Int)} (h : RwAt H D rs ts) {r : Addr} (hr : r ∈ rs) : ∃ t ∈ ts, H r = some (iL t) := by
  obtain ⟨i, hi⟩ := List.getElem?_of_mem hr
  have hl : i < ts.length := by rw [← h.len]; exact (List.getElem?_eq_some_iff.mp hi).1
  exact ⟨ts[i], List.getElem_mem hl, h.at_ i r _ hi (List.getElem?_eq_getElem hl)⟩
theorem iL_ne_refs {t : List Int} {rs : List Addr} (h : t ≠ [] ∨ rs ≠ []) : iL t ≠ .lst (rs.map V.ref) := by
  intro e
  unfold iL at e
  injection e with e
  cases t with
  | nil => cases rs with
    | nil => rcases h with h | h <;> exact h rfl
    | cons b r => simp at e
  | cons a l => cases rs with
    | nil => simp at e
    | cons b r => simp at e
theorem RwAt.nil {H : Hp} {D : Addr} (h : H D = some (.lst [])) : RwAt H D [] [] := ⟨h, rfl, fun i r t h _ => by simp at h⟩
theorem RwAt.same {H H' : Hp} {D : Addr} {rs : List Addr} {ts : List (List Int)} (h : RwAt H D rs ts) (s : Same H H') : RwAt H' D rs ts :=
  ⟨s _ _ h.hD, h.len, fun i r t a b => s _ _ (h.at_ i r t a b)⟩
/-- one more row, that is not the list itself -/
theorem RwAt.push {H : Hp} {D r : Addr} {rs : List Addr} {ts : List (List Int)} {t : List Int} (h : RwAt H D rs ts) (hr : H r = some (iL t)) (hrD : r ≠ D) (hnD : D ∉ rs) :
    RwAt (upd H D (.lst (rs.map V.ref ++ [V.ref r]))) D (rs ++ [r]) (ts ++ [t]) := by
  refine ⟨?_, ?_, ?_⟩
  · rw [upd_same, List.map_append]
    rfl
  · rw [List.length_append, List.length_append, h.len]
    rfl
  · intro i a u ha hu
    by_cases hi : i < rs.length
    · rw [List.getElem?_append_left hi] at ha
      rw [List.getElem?_append_left (by rw [← h.len]; exact hi)] at hu
      rw [upd_ne (fun e => hnD (by rw [← e]; exact List.mem_of_getElem? ha))]
      exact h.at_ i a u ha hu
    · rw [List.getElem?_append_right (by omega)] at ha
      rw [List.getElem?_append_right (by rw [← h.len]; omega), ← h.len] at hu
      have e0 : i - rs.length = 0 := by
        have := (List.getElem?_eq_some_iff.mp ha).1
        simp at this
        omega
      rw [e0] at ha hu
      simp at ha hu
      subst ha hu
      rw [upd_ne hrD]
      exact hr
/-- a comprehension of new rows, with a test -/
theorem lc_rows {K : PySem.W.Frag} {a : Addr} {α : Type} {inj : α → V} {xs : List α} {i : Nat} {tt : TT} {te : TE} {vs : List Nat} {σ : Sl} {H1 : Hp} {D : Addr} {Qd : Hp → Prop} (f : α → Prop) (e : α → List Int)
    (hl : SqL K H1 a (xs.map inj)) (nD : H1 D = none) (hn : xs.length ≤ 10000) (hw : ∀ v, wipe ((wipe σ vs).set i (some v)) vs = wipe σ vs)
    (ht : ∀ x ∈ xs, ∀ H2, Same H1 H2 → ∀ R : Bool → Hp → Prop, (∀ b H3, Same H2 H3 → (b = true ↔ f x) → R b H3) → tt ((wipe σ vs).set i (some (inj x))) H2 R)
    (he : ∀ x ∈ xs, f x → ∀ H2, Same H1 H2 → ∀ R : V → Hp → Prop, (∀ H3 r, Same H2 H3 → H2 r = none → H3 r = some (iL (e x)) → R (.ref r) H3) → te ((wipe σ vs).set i (some (inj x))) H2 R)
    (hd : ∀ (H2 : Hp) (rs : List Addr) (ys : List α), Same H1 H2 → RwAt H2 D rs (ys.map e) → (∀ r ∈ rs, H1 r = none) → D ∉ rs → (∀ x, x ∈ ys ↔ x ∈ xs ∧ f x) → ys.Sublist xs → Qd H2) :
    ∃ W : Nat → Nat → Hp → Prop, (∃ m, W 0 m (upd H1 D (.lst []))) ∧ ∀ i' m H, W i' m H →
      ((Itl K a).stop i' H ∧ Qd H) ∨ ((Itl K a).go i' H ∧ ∃ Nx : Hp → Prop, (∀ H', Nx H' → ∃ m', m' < m ∧ W (i' + 1) m' H') ∧ ∀ x H', (Itl K a).yld i' H x H' → gName i x (wipe σ vs) H' fun σ2 H2 => wipe σ2 vs = wipe σ vs ∧ tt σ2 H2 fun b H3 =>
        if b = true then te σ2 H3 fun y H4 => ∃ acc, H4 D = some (.lst acc) ∧ acc.length < sizeLine ∧ Nx (upd H4 D (.lst (acc ++ [y]))) else Nx H3) := by
  refine lc_list (K := K) (xs := xs.map inj) (fun j H2 => Same H1 H2 ∧ ∃ (rs : List Addr) (ys : List α), RwAt H2 D rs (ys.map e) ∧ (∀ r ∈ rs, H1 r = none) ∧ D ∉ rs ∧ (∀ x, x ∈ ys ↔ x ∈ xs.take j ∧ f x) ∧ ys.Sublist (xs.take j)) ⟨same_upd (Same.refl _) nD, [], [], RwAt.nil upd_same, (fun _ h => nomatch h), (fun h => nomatch h), (fun x => by simp), List.Sublist.refl _⟩ ?_ ?_ ?_
  · rintro j H2 _ ⟨sm, _⟩
    exact sm.seq hl
  · rintro j x H2 hx ⟨sm, rs, ys, hP, hfr, hnD, hys, hsb⟩
    rw [List.getElem?_map] at hx
    cases hv : xs[j]? with
    | none => rw [hv] at hx; cases hx
    | some y =>
      rw [hv] at hx
      cases hx
      have hm := List.mem_of_getElem? hv
      have htk : xs.take (j + 1) = xs.take j ++ [y] := by rw [List.take_add_one, hv]; rfl
      have hyl : ys.length ≤ xs.length := Nat.le_trans hsb.length_le (by rw [List.length_take]; exact Nat.min_le_right _ _)
      refine ⟨hw _, ht y hm H2 sm _ fun b H3 sm3 hb => ?_⟩
      cases b with
      | false =>
        have hf : ¬ f y := fun h => nomatch hb.mpr h
        refine ifF rfl ⟨sm.trans sm3, rs, ys, hP.same sm3, hfr, hnD, fun x => ?_, ?_⟩
        · rw [hys, htk, List.mem_append, List.mem_singleton]
          constructor
          · exact fun h => ⟨.inl h.1, h.2⟩
          · rintro ⟨h | h, h2⟩
            · exact ⟨h, h2⟩
            · exact absurd (h ▸ h2) hf
        · rw [htk]
          exact hsb.trans (List.sublist_append_left _ _)
      | true =>
        have hf : f y := hb.mp rfl
        refine ifT rfl (he y hm hf H3 (sm.trans sm3) _ fun H4 r sm4 nr hr => ?_)
        have hP4 := (hP.same sm3).same sm4
        have s3 := sm.trans sm3
        have hrD : r ≠ D := fun h => by
          have := (hP.same sm3).hD
          rw [← h, nr] at this
          cases this
        refine ⟨_, hP4.hD, ?_, same_upd (s3.trans sm4) nD, rs ++ [r], ys ++ [y], ?_, ?_, ?_, fun x => ?_, ?_⟩
        · rw [List.length_map, hP4.len, List.length_map]
          exact Nat.lt_of_le_of_lt (Nat.le_trans hyl hn) (by decide)
        · rw [List.map_append]
          exact hP4.push hr hrD hnD
        · intro c hc
          rcases List.mem_append.mp hc with hc | hc
          · exact hfr c hc
          · rw [List.mem_singleton.mp hc]
            exact s3.free nr
        · intro hc
          rcases List.mem_append.mp hc with hc | hc
          · exact hnD hc
          · exact hrD (List.mem_singleton.mp hc).symm
        · rw [List.mem_append, List.mem_singleton, hys, htk, List.mem_append, List.mem_singleton]
          constructor
          · rintro (h | h)
            · exact ⟨.inl h.1, h.2⟩
            · exact ⟨.inr h, h ▸ hf⟩
          · rintro ⟨h | h, h2⟩
            · exact .inl ⟨h, h2⟩
            · exact .inr h
        · rw [htk]
          exact hsb.append (List.Sublist.refl _)
  · rintro H2 ⟨sm, rs, ys, hP, hfr, hnD, hys, hsb⟩
    rw [List.length_map, List.take_length] at hys hsb
    exact hd H2 rs ys sm hP hfr hnD hys hsb
end
/-! piece PCm -/
section
/-! ### _can_be_left -/
theorem RunL.keep {es : List Edge} {left left' : List Int} {l : List Edge} (r : RunL es left l left') {x : Int} (h : x ∈ left) (hn : ∀ e ∈ l, e.1 ≠ x) : x ∈ left' := by
  induction r with
  | nil left => exact h
  | @cons left left' p q l hp hq r ih => exact ih (without_mem.mpr ⟨h, fun e => hn _ (List.mem_cons_self ..) e.symm⟩) fun e he => hn e (List.mem_cons_of_mem _ he)
theorem lot_inj {n v u : Nat} {a b : List Int} (hv : LotIs v a) (hu : LotIs u b) (ha : InNet n a) (hb : InNet n b) : v = u ↔ a = b := by
  constructor
  · intro e
    subst e
    refine lt_unique ha.lt hb.lt fun x => ?_
    have h1 := hv x.toNat
    rw [hu] at h1
    have h2 := decide_eq_decide.mp h1
    constructor
    · intro hx
      have := ha.rng x hx
      rw [show ((x.toNat : Nat) : Int) = x by omega] at h2
      exact h2.mpr hx
    · intro hx
      have := hb.rng x hx
      rw [show ((x.toNat : Nat) : Int) = x by omega] at h2
      exact h2.mp hx
  · intro e
    subst e
    apply Nat.eq_of_testBit_eq
    intro k
    rw [hv, hu]
/-- what is left where a lot is kept is the lot just if some order leaves it -/
theorem around_iff {n : Nat} {es ps : List Edge} {hs left : List Int} (hR : RunL es (allM n) ps left) (hke : ∀ e ∈ ps, e.1 ∉ hs) (hst : ∀ x ∈ left, x ∉ hs → ontoM es left x = []) (hI : InNet n hs) : left = hs ↔ ∃ l, RunL es (allM n) l hs := by
  constructor
  · intro e
    exact ⟨ps, e ▸ hR⟩
  · rintro ⟨l, rl⟩
    have hE : ∀ x, x ∈ hs → x ∈ left := fun x hx => hR.keep (allM_mem.mpr (hI.rng x hx)) fun e he h => hke e he (h ▸ hx)
    have st : StiffH (Adj es) (· ∈ left) (· ∈ hs) := fun p q hp hs2 => by
      have h1 := (ontoM_mem hs2.1).mpr hs2
      rw [hst p hs2.1 hp] at h1
      cases h1
    refine lt_unique ((inNet_all n).run hR).lt hI.lt fun x => ⟨fun hx => ?_, hE x⟩
    exact held_is (adj_refl es) adj_symm hR.run st hE rl.run hx
/-! ### _likely_ends -/
def fibE (n : Nat) (ps : List Edge) (g : Int) : List Int := (allM n).filter fun p => decide (mapR ps p = g)
def stepE (n : Nat) (ps : List Edge) (lots : List Nat) (g : Int) : List Nat := lots.flatMap fun l => (fibE n ps g).map fun p => l ||| 2 ^ p.toNat
def lotsE (n : Nat) (ps : List Edge) (gs : List Int) : List Nat := gs.foldl (stepE n ps) [0]
theorem where_all (n : Nat) (ps : List Edge) : (whereL n ps).drop 1 = (allM n).map (mapR ps) := by
  apply List.ext_getElem?
  intro i
  rw [List.getElem?_drop]
  by_cases h : i < n
  · rw [whereL_get (by omega), List.getElem?_map]
    unfold allM
    rw [List.getElem?_map, List.getElem?_range h]
    show some (mapR ps ((1 + i : Nat) : Int)) = some (mapR ps ((i : Int) + 1))
    rw [show ((1 + i : Nat) : Int) = (i : Int) + 1 by omega]
  · rw [List.getElem?_eq_none (by rw [whereL_length]; omega), List.getElem?_eq_none (by rw [List.length_map, all_len]; omega)]
theorem fibE_len {n : Nat} (ps : List Edge) (g : Int) : (fibE n ps g).length ≤ n := by
  unfold fibE
  exact Nat.le_trans (List.length_filter_le ..) (by rw [all_len]; exact Nat.le_refl _)
theorem stepE_len {n : Nat} (ps : List Edge) (g : Int) (lots : List Nat) : (stepE n ps lots g).length = lots.length * (fibE n ps g).length := by
  unfold stepE
  induction lots with
  | nil => simp
  | cons a l ih => rw [List.flatMap_cons, List.length_append, ih, List.length_map, List.length_cons, Nat.succ_mul, Nat.add_comm]
theorem lotsE_snoc (n : Nat) (ps : List Edge) (gs : List Int) (g : Int) : lotsE n ps (gs ++ [g]) = stepE n ps (lotsE n ps gs) g := by
  unfold lotsE
  rw [List.foldl_append]
  rfl
/-- the places that the map leads to one of some goals -/
def intoE (n : Nat) (ps : List Edge) (gs : List Int) : List Int := (allM n).filter fun p => decide (mapR ps p ∈ gs)
theorem filt_split {α : Type} (f g : α → Bool) (l : List α) (h : ∀ x ∈ l, f x = true → g x = false) : (l.filter fun x => f x || g x).length = (l.filter f).length + (l.filter g).length := by
  induction l with
  | nil => rfl
  | cons a l ih =>
    have ih := ih fun x hx => h x (List.mem_cons_of_mem _ hx)
    have ha := h a (List.mem_cons_self ..)
    rw [List.filter_cons, List.filter_cons, List.filter_cons]
    cases h1 : f a with
    | true =>
      have h2 := ha h1
      simp only [h2, Bool.true_or, if_true, List.length_cons, ih]
      simp
      omega
    | false =>
      cases h2 : g a <;> simp [ih] <;> omega
theorem lots_le {n : Nat} (ps : List Edge) : ∀ {gs : List Int} (k : Nat), gs.Nodup → k ≤ gs.length → (lotsE n ps (gs.take k)).length ≤ 2 ^ (intoE n ps (gs.take k)).length
  | gs, 0, _, _ => by
    rw [List.take_zero]
    exact Nat.one_le_two_pow
  | gs, k + 1, nd, hk => by
    have ih := lots_le (n := n) ps (gs := gs) k nd (by omega)
    have hg : gs[k]? = some gs[k] := List.getElem?_eq_getElem (by omega)
    have htk : gs.take (k + 1) = gs.take k ++ [gs[k]] := by rw [List.take_add_one, hg]; rfl
    have hnm : gs[k] ∉ gs.take k := fun hm => by
      obtain ⟨j, hj⟩ := List.getElem?_of_mem hm
      rw [List.getElem?_take] at hj
      split at hj
      · have := nd_ix nd hj hg
        omega
      · cases hj
    rw [htk, lotsE_snoc, stepE_len]
    have e : (intoE n ps (gs.take k ++ [gs[k]])).length = (intoE n ps (gs.take k)).length + (fibE n ps gs[k]).length := by
      unfold intoE fibE
      rw [← filt_split]
      · congr 2
        funext x
        rw [← Bool.decide_or]
        apply decide_eq_decide.mpr
        rw [List.mem_append, List.mem_singleton]
      · intro x _ h
        apply decide_eq_false
        intro h2
        rw [h2] at h
        exact hnm (of_decide_eq_true h)
    rw [e, Nat.pow_add]
    exact Nat.mul_le_mul ih (Nat.le_of_lt Nat.lt_two_pow_self)
theorem lots_4096 {n : Nat} (hn : n ≤ 12) (ps : List Edge) {gs : List Int} (k : Nat) (nd : gs.Nodup) (hk : k ≤ gs.length) : (lotsE n ps (gs.take k)).length ≤ 4096 := by
  refine Nat.le_trans (lots_le ps k nd hk) ?_
  have : (intoE n ps (gs.take k)).length ≤ 12 := by
    unfold intoE
    exact Nat.le_trans (List.length_filter_le ..) (by rw [all_len]; exact hn)
  exact Nat.le_trans (Nat.pow_le_pow_right (by decide) this) (by decide)
theorem lots_bits {n : Nat} {ps : List Edge} : ∀ (gs : List Int) (L : List Nat), (∀ l ∈ L, ∀ k, l.testBit k = true → 1 ≤ k ∧ k ≤ n) → ∀ l ∈ gs.foldl (stepE n ps) L, ∀ k, l.testBit k = true → 1 ≤ k ∧ k ≤ n
  | [], L, h => h
  | g :: gs, L, h => by
    refine lots_bits gs (stepE n ps L g) fun l hl k hk => ?_
    unfold stepE at hl
    obtain ⟨a, ha, hl⟩ := List.mem_flatMap.mp hl
    obtain ⟨p, hp, rfl⟩ := List.mem_map.mp hl
    rw [Nat.testBit_or, Bool.or_eq_true] at hk
    rcases hk with hk | hk
    · exact h a ha k hk
    · rw [Nat.testBit_two_pow, decide_eq_true_eq] at hk
      have := allM_mem.mp (List.mem_filter.mp hp).1
      omega
theorem lots_own {n : Nat} {ps : List Edge} : ∀ (gs : List Int) (L : List Nat) (hs : List Int), (∀ g ∈ gs, 1 ≤ g ∧ g ≤ n ∧ mapR ps g = g) → (∃ l ∈ L, LotIs l hs) → ∃ l ∈ gs.foldl (stepE n ps) L, LotIs l (hs ++ gs)
  | [], L, hs, _, h => by rw [List.append_nil]; exact h
  | g :: gs, L, hs, hg, h => by
    have := lots_own gs (stepE n ps L g) (hs ++ [g]) (fun x hx => hg x (List.mem_cons_of_mem _ hx)) (by
      obtain ⟨l, hl, hb⟩ := h
      obtain ⟨h1, h2, h3⟩ := hg g (List.mem_cons_self ..)
      refine ⟨l ||| 2 ^ g.toNat, ?_, fun k => ?_⟩
      · unfold stepE
        exact List.mem_flatMap.mpr ⟨l, hl, List.mem_map.mpr ⟨g, List.mem_filter.mpr ⟨allM_mem.mpr ⟨h1, h2⟩, decide_eq_true h3⟩, rfl⟩⟩
      · rw [Nat.testBit_or, hb, Nat.testBit_two_pow, ← Bool.decide_or]
        apply decide_eq_decide.mpr
        rw [List.mem_append, List.mem_singleton]
        constructor
        · rintro (h | h)
          · exact .inl h
          · exact .inr (by omega)
        · rintro (h | h)
          · exact .inl h
          · exact .inr (by omega))
    rw [List.append_assoc] at this
    exact this
theorem lots_end {n : Nat} {es ps : List Edge} {left : List Int} (h : RunL es (allM n) ps left) : ∃ l ∈ lotsE n ps left, LotIs l left := by
  have := lots_own (n := n) (ps := ps) left [0] [] (fun g hg => by
    have := allM_mem.mp (h.sub g hg)
    exact ⟨this.1, this.2, mapR_fix h.run hg⟩) ⟨0, List.mem_singleton.mpr rfl, lot_nil⟩
  exact this
end
/-! piece PNf -/
section
local macro_rules | `(tactic| wtm_at "fo a") => `(tactic| first
  | exact pa_nil
  | (refine' pa_cons ?k1 ?k2; (case k1 => wtm_at "fo e"); (case k2 => wtm_at "fo a"))
  | fail "no")
local macro_rules | `(tactic| wtm_at "fo v") => `(tactic| first
  | exact pv 0
  | exact pv 1
  | exact pv 2
  | exact pv 3
  | exact pv 4
  | exact pv 5
  | exact pv 6
  | exact pv 7
  | exact pv 8
  | exact pv 9
  | exact pv 10
  | exact pv 11
  | exact pv 12
  | exact pv 13
  | exact pv 14
  | exact pv 15
  | fail "no")
local macro_rules | `(tactic| wtm_at "fo e") => `(tactic| first
  | with_reducible exact pe_int
  | with_reducible exact pe_bl
  | with_reducible exact pe_non
  | with_reducible exact pe_str
  | ((with_reducible show PE _ (.Name _ _) _); wtm_at "fo v")
  | ((with_reducible show PE _ (.BinOp _ .Add _ _) _); apply pe_op opAddB <;> wtm_at "fo e")
  | ((with_reducible show PE _ (.BinOp _ .Sub _ _) _); apply pe_op op_sub <;> wtm_at "fo e")
  | ((with_reducible show PE _ (.BinOp _ .Mult _ _) _); apply pe_op op_mul <;> wtm_at "fo e")
  | ((with_reducible show PE _ (.BinOp _ .Mod _ _) _); apply pe_op op_mod <;> wtm_at "fo e")
  | ((with_reducible show PE _ (.BinOp _ .FloorDiv _ _) _); apply pe_op op_fdiv <;> wtm_at "fo e")
  | ((with_reducible show PE _ (.BinOp _ .Pow _ _) _); apply pe_op op_powW <;> wtm_at "fo e")
  | ((with_reducible show PE _ (.BinOp _ .LShift _ _) _); apply pe_op op_shl <;> wtm_at "fo e")
  | ((with_reducible show PE _ (.BinOp _ .RShift _ _) _); apply pe_op op_shr <;> wtm_at "fo e")
  | ((with_reducible show PE _ (.BinOp _ .BitAnd _ _) _); apply pe_op op_and <;> wtm_at "fo e")
  | ((with_reducible show PE _ (.List _ _) _); apply pe_lst; wtm_at "fo a")
  | ((with_reducible show PE _ (.Tuple _ _ _) _); apply pe_tup; wtm_at "fo a")
  | ((with_reducible show PE _ (.ListComp _ [_] _ _) _); wtm_at "fo lc")
  | ((with_reducible show PE _ (.IfExp _ _ _ _) _); apply pe_ifExp; (· wtm_at "fo t"); (· wtm_at "fo e"); (· wtm_at "fo e"))
  | ((with_reducible show PE _ (.UnaryOp .USub _ _) _); apply pe_un un_neg; wtm_at "fo e")
  | ((with_reducible show PE _ (.Call (.Name _ _) [] (_ :: _) _) _); wtm_at "fo kcall")
  | ((with_reducible show PE _ (.Call (.Name _ _) _ _ _) _); wtm_at "fo call")
  | ((with_reducible show PE _ (.Call (.Attribute _ _ _) _ _ _) _); wtm_at "fo meth")
  | ((with_reducible show PE _ (.Compare _ _ _ _) _); wtm_at "fo cmp")
  | ((with_reducible show PE _ (.Subscript _ (.Slice _ _ _ _) _) _); wtm_at "fo slice")
  | ((with_reducible show PE _ (.Subscript _ _ _) _); refine' pe_ix (ix_seqK (by assumption) (by exact rfl)) ?ka ?kb (fun _ _ => rfl); (case ka => wtm_at "fo e"); (case kb => wtm_at "fo e"))
  | fail "no")
local macro_rules | `(tactic| wtm_at "fo own") => `(tactic| first
  | ((show _ = [0]); kernel_rfl!)
  | ((show _ = [1]); kernel_rfl!)
  | ((show _ = [2]); kernel_rfl!)
  | ((show _ = [3]); kernel_rfl!)
  | ((show _ = [4]); kernel_rfl!)
  | ((show _ = [5]); kernel_rfl!)
  | ((show _ = [6]); kernel_rfl!)
  | ((show _ = [7]); kernel_rfl!)
  | ((show _ = [8]); kernel_rfl!)
  | ((show _ = [9]); kernel_rfl!)
  | ((show _ = [10]); kernel_rfl!)
  | ((show _ = [11]); kernel_rfl!)
  | ((show _ = [12]); kernel_rfl!)
  | ((show _ = [13]); kernel_rfl!)
  | ((show _ = [14]); kernel_rfl!)
  | ((show _ = [15]); kernel_rfl!)
  | ((show _ = [0, 1]); kernel_rfl!)
  | ((show _ = [1, 2]); kernel_rfl!)
  | ((show _ = [2, 3]); kernel_rfl!)
  | ((show _ = [3, 4]); kernel_rfl!)
  | ((show _ = [4, 5]); kernel_rfl!)
  | ((show _ = [5, 6]); kernel_rfl!)
  | ((show _ = [6, 7]); kernel_rfl!)
  | ((show _ = [7, 8]); kernel_rfl!)
  | ((show _ = [8, 9]); kernel_rfl!)
  | ((show _ = [9, 10]); kernel_rfl!)
  | ((show _ = [10, 11]); kernel_rfl!)
  | ((show _ = [11, 12]); kernel_rfl!)
  | ((show _ = [12, 13]); kernel_rfl!)
  | ((show _ = [13, 14]); kernel_rfl!)
  | ((show _ = [14, 15]); kernel_rfl!)
  | fail "no")
local macro_rules | `(tactic| wtm_at "fo ts") => `(tactic| first
  | exact pts_nil
  | (apply pts_one; wtm_at "fo t")
  | fail "no")
local macro_rules | `(tactic| wtm_at "fo lc") => `(tactic| first
  | (refine' pe_lcO (by assumption) (by exact rfl) (by exact rfl) (by wtm_at "fo own") (by decide +kernel) rfl ?ki ?kg ?kt ?ke; (case ki => wtm_at "fo i"); (case kg => (intro _ _ _ _ _; wtm_at "fo g")); (case kt => (intro _ _ _ _ _; wtm_at "fo ts")); (case ke => (intro _ _ _ _ _; wtm_at "fo e")))
  | fail "no")
local macro_rules | `(tactic| wtm_at "fo part") => `(tactic| first
  | exact po_none
  | (apply po_some; wtm_at "fo e")
  | fail "no")
local macro_rules | `(tactic| wtm_at "fo slice") => `(tactic| first
  | ((with_reducible show PE _ (.Subscript _ (.Slice _ _ none _) _) _); refine' pe_slice (sl_listK (by assumption) (by exact rfl)) ?ka ?kb ?kc; (case ka => wtm_at "fo e"); (case kb => wtm_at "fo part"); (case kc => wtm_at "fo part"))
  | ((with_reducible show PE _ (.Subscript _ (.Slice none none (some _) _) _) _); refine' pe_stepK (by assumption) (by exact rfl) ?ka ?kb; (case ka => wtm_at "fo e"); (case kb => wtm_at "fo e"))
  | fail "no")
local macro_rules | `(tactic| wtm_at "fo cmp") => `(tactic| first
  | ((with_reducible show PE _ (.Compare _ [.Lt] _ _) _); refine' pe_cmpR op_lt ?ka ?kb (nomark _); (case ka => wtm_at "fo e"); (case kb => wtm_at "fo e"))
  | ((with_reducible show PE _ (.Compare _ [.LtE] _ _) _); refine' pe_cmpR op_le ?ka ?kb (nomark _); (case ka => wtm_at "fo e"); (case kb => wtm_at "fo e"))
  | ((with_reducible show PE _ (.Compare _ [.Gt] _ _) _); refine' pe_cmpR op_gt ?ka ?kb (nomark _); (case ka => wtm_at "fo e"); (case kb => wtm_at "fo e"))
  | ((with_reducible show PE _ (.Compare _ [.GtE] _ _) _); refine' pe_cmpR op_ge ?ka ?kb (nomark _); (case ka => wtm_at "fo e"); (case kb => wtm_at "fo e"))
  | ((with_reducible show PE _ (.Compare _ [.Eq] _ _) _); refine' pe_cmpR (op_eqK (by assumption) (by exact rfl) (Room.units (by assumption))) ?ka ?kb (nomark _); (case ka => wtm_at "fo e"); (case kb => wtm_at "fo e"))
  | ((with_reducible show PE _ (.Compare _ [.NotEq] _ _) _); refine' pe_cmpR (op_neK (by assumption) (by exact rfl) (Room.units (by assumption))) ?ka ?kb (nomark _); (case ka => wtm_at "fo e"); (case kb => wtm_at "fo e"))
  | fail "no")
local macro_rules | `(tactic| wtm_at "fo tcmp") => `(tactic| first
  | ((with_reducible show PT _ (.Compare _ [.Lt] _ _) _); refine' pt_cmpR op_lt ?ka ?kb (nomark _); (case ka => wtm_at "fo e"); (case kb => wtm_at "fo e"))
  | ((with_reducible show PT _ (.Compare _ [.LtE] _ _) _); refine' pt_cmpR op_le ?ka ?kb (nomark _); (case ka => wtm_at "fo e"); (case kb => wtm_at "fo e"))
  | ((with_reducible show PT _ (.Compare _ [.Gt] _ _) _); refine' pt_cmpR op_gt ?ka ?kb (nomark _); (case ka => wtm_at "fo e"); (case kb => wtm_at "fo e"))
  | ((with_reducible show PT _ (.Compare _ [.GtE] _ _) _); refine' pt_cmpR op_ge ?ka ?kb (nomark _); (case ka => wtm_at "fo e"); (case kb => wtm_at "fo e"))
  | ((with_reducible show PT _ (.Compare _ [.Eq] _ _) _); refine' pt_cmpR (op_eqK (by assumption) (by exact rfl) (Room.units (by assumption))) ?ka ?kb (nomark _); (case ka => wtm_at "fo e"); (case kb => wtm_at "fo e"))
  | ((with_reducible show PT _ (.Compare _ [.NotEq] _ _) _); refine' pt_cmpR (op_neK (by assumption) (by exact rfl) (Room.units (by assumption))) ?ka ?kb (nomark _); (case ka => wtm_at "fo e"); (case kb => wtm_at "fo e"))
  | ((with_reducible show PT _ (.Compare _ [.In] _ _) _); refine' pt_cmpR (op_inK (by assumption) (by exact rfl)) ?ka ?kb rfl; (case ka => wtm_at "fo e"); (case kb => wtm_at "fo e"))
  | ((with_reducible show PT _ (.Compare _ [.NotIn] _ _) _); refine' pt_cmpR (op_notInK (by assumption) (by exact rfl)) ?ka ?kb rfl; (case ka => wtm_at "fo e"); (case kb => wtm_at "fo e"))
  | fail "no")
local macro_rules | `(tactic| wtm_at "fo w") => `(tactic| first
  | ((with_reducible show PW _ (.BoolOp .And [_] _) _); apply pw_and1; wtm_at "fo t")
  | ((with_reducible show PW _ (.BoolOp .And _ _) _); apply pw_and; (· wtm_at "fo t"); (· wtm_at "fo w"))
  | ((with_reducible show PW _ (.BoolOp .Or [_] _) _); apply pw_or1; wtm_at "fo t")
  | ((with_reducible show PW _ (.BoolOp .Or _ _) _); apply pw_or; (· wtm_at "fo t"); (· wtm_at "fo w"))
  | fail "no")
local macro_rules | `(tactic| wtm_at "fo meth") => `(tactic| first
  | ((with_reducible show PE _ (.Call (.Attribute _ (Str.ofString "append") _) _ _ _) _); refine' pe_bm PySem.F.plainAttrs_list PySem.F.slot_list_append PySem.F.type_list_append mt_append ?ka ?kb; (case ka => wtm_at "fo e"); (case kb => wtm_at "fo a"))
  | ((with_reducible show PE _ (.Call (.Attribute _ (Str.ofString "pop") _) [_] _ _) _); refine' pe_bm PySem.F.plainAttrs_list PySem.F.slot_list_pop PySem.F.type_list_pop mt_popAt ?ka ?kb; (case ka => wtm_at "fo e"); (case kb => wtm_at "fo a"))
  | ((with_reducible show PE _ (.Call (.Attribute _ (Str.ofString "pop") _) [] _ _) _); refine' pe_bm0 PySem.F.plainAttrs_list PySem.F.slot_list_pop PySem.F.type_list_pop mt_pop ?ka; (case ka => wtm_at "fo e"))
  | fail "no")
local macro_rules | `(tactic| wtm_at "fo k") => `(tactic| first
  | exact pk_nil
  | (refine' pk_cons ?k1 ?k2; (case k1 => wtm_at "fo e"); (case k2 => wtm_at "fo k"))
  | fail "no")
local macro_rules | `(tactic| wtm_at "fo kcall") => `(tactic| first
  | (refine' pe_kcal (by assumption) (by assumption) (by decide) (by rfl) ?ka; (case ka => wtm_at "fo k"))
  | fail "no")
local macro_rules | `(tactic| wtm_at "fo call") => `(tactic| first
  | ((with_reducible show PE _ (.Call (.Name (Str.ofString "int") _) _ _ _) _); refine' pe_callTy call_intB (by rfl) (by assumption) (by decide +kernel) ?ka; (case ka => wtm_at "fo a"))
  | ((with_reducible show PE _ (.Call (.Name (Str.ofString "len") _) _ _ _) _); refine' pe_callB (call_lenK (by assumption) (by exact rfl)) (by rfl) (by assumption) PySem.boot_len ?ka; (case ka => wtm_at "fo a"))
  | ((with_reducible show PE _ (.Call (.Name (Str.ofString "list") _) [.Call (.Name (Str.ofString "range") _) [_, _] _ _] _ _) _); refine' pe_listRg rfl (by rfl) (by assumption) (prg_2 (by rfl) (by assumption) ?ka ?kb); (case ka => wtm_at "fo e"); (case kb => wtm_at "fo e"))
  | ((with_reducible show PE _ (.Call (.Name (Str.ofString "list") _) _ _ _) _); refine' pe_callTy (call_listK (by assumption) (by exact rfl)) (by rfl) (by assumption) (by decide +kernel) ?ka; (case ka => wtm_at "fo a"))
  | ((with_reducible show PE _ (.Call (.Name (Str.ofString "min") _) [_, _] _ _) _); refine' pe_callB (call_min2 rfl) (by rfl) (by assumption) (by decide +kernel) ?ka; (case ka => wtm_at "fo a"))
  | ((with_reducible show PE _ (.Call (.Name (Str.ofString "sorted") _) [_] _ _) _); refine' pe_callB (cr_sortedK (by assumption) (by exact rfl)) (by rfl) (by assumption) (by decide +kernel) ?ka; (case ka => wtm_at "fo a"))
  | ((with_reducible show PE _ (.Call (.Name (Str.ofString "repr") _) [_] _ _) _); refine' pe_callB (call_reprK (by assumption) (by exact rfl) (by assumption) (Room.units (by assumption))) (by rfl) (by assumption) (by decide +kernel) ?ka; (case ka => wtm_at "fo a"))
  | (refine' pe_cal (by assumption) (by assumption) (by decide) (by rfl) ?ka; (case ka => wtm_at "fo a"))
  | fail "no")
local macro_rules | `(tactic| wtm_at "fo setlc") => `(tactic| first
  | (refine' ps_setLcO (i := 0) (by assumption) (by exact rfl) (by exact rfl) (by wtm_at "fo own") (by decide +kernel) rfl rfl rfl (sw_true rfl rfl rfl (by decide +kernel)) ?ki ?kg ?kt ?ke; (case ki => wtm_at "fo i"); (case kg => (intro _ _ _ _ _; wtm_at "fo g")); (case kt => (intro _ _ _ _ _; wtm_at "fo ts")); (case ke => (intro _ _ _ _ _; wtm_at "fo e")))
  | (refine' ps_setLcO (i := 1) (by assumption) (by exact rfl) (by exact rfl) (by wtm_at "fo own") (by decide +kernel) rfl rfl rfl (sw_true rfl rfl rfl (by decide +kernel)) ?ki ?kg ?kt ?ke; (case ki => wtm_at "fo i"); (case kg => (intro _ _ _ _ _; wtm_at "fo g")); (case kt => (intro _ _ _ _ _; wtm_at "fo ts")); (case ke => (intro _ _ _ _ _; wtm_at "fo e")))
  | (refine' ps_setLcO (i := 2) (by assumption) (by exact rfl) (by exact rfl) (by wtm_at "fo own") (by decide +kernel) rfl rfl rfl (sw_true rfl rfl rfl (by decide +kernel)) ?ki ?kg ?kt ?ke; (case ki => wtm_at "fo i"); (case kg => (intro _ _ _ _ _; wtm_at "fo g")); (case kt => (intro _ _ _ _ _; wtm_at "fo ts")); (case ke => (intro _ _ _ _ _; wtm_at "fo e")))
  | (refine' ps_setLcO (i := 3) (by assumption) (by exact rfl) (by exact rfl) (by wtm_at "fo own") (by decide +kernel) rfl rfl rfl (sw_true rfl rfl rfl (by decide +kernel)) ?ki ?kg ?kt ?ke; (case ki => wtm_at "fo i"); (case kg => (intro _ _ _ _ _; wtm_at "fo g")); (case kt => (intro _ _ _ _ _; wtm_at "fo ts")); (case ke => (intro _ _ _ _ _; wtm_at "fo e")))
  | (refine' ps_setLcO (i := 4) (by assumption) (by exact rfl) (by exact rfl) (by wtm_at "fo own") (by decide +kernel) rfl rfl rfl (sw_true rfl rfl rfl (by decide +kernel)) ?ki ?kg ?kt ?ke; (case ki => wtm_at "fo i"); (case kg => (intro _ _ _ _ _; wtm_at "fo g")); (case kt => (intro _ _ _ _ _; wtm_at "fo ts")); (case ke => (intro _ _ _ _ _; wtm_at "fo e")))
  | (refine' ps_setLcO (i := 5) (by assumption) (by exact rfl) (by exact rfl) (by wtm_at "fo own") (by decide +kernel) rfl rfl rfl (sw_true rfl rfl rfl (by decide +kernel)) ?ki ?kg ?kt ?ke; (case ki => wtm_at "fo i"); (case kg => (intro _ _ _ _ _; wtm_at "fo g")); (case kt => (intro _ _ _ _ _; wtm_at "fo ts")); (case ke => (intro _ _ _ _ _; wtm_at "fo e")))
  | (refine' ps_setLcO (i := 6) (by assumption) (by exact rfl) (by exact rfl) (by wtm_at "fo own") (by decide +kernel) rfl rfl rfl (sw_true rfl rfl rfl (by decide +kernel)) ?ki ?kg ?kt ?ke; (case ki => wtm_at "fo i"); (case kg => (intro _ _ _ _ _; wtm_at "fo g")); (case kt => (intro _ _ _ _ _; wtm_at "fo ts")); (case ke => (intro _ _ _ _ _; wtm_at "fo e")))
  | (refine' ps_setLcO (i := 7) (by assumption) (by exact rfl) (by exact rfl) (by wtm_at "fo own") (by decide +kernel) rfl rfl rfl (sw_true rfl rfl rfl (by decide +kernel)) ?ki ?kg ?kt ?ke; (case ki => wtm_at "fo i"); (case kg => (intro _ _ _ _ _; wtm_at "fo g")); (case kt => (intro _ _ _ _ _; wtm_at "fo ts")); (case ke => (intro _ _ _ _ _; wtm_at "fo e")))
  | (refine' ps_setLcO (i := 8) (by assumption) (by exact rfl) (by exact rfl) (by wtm_at "fo own") (by decide +kernel) rfl rfl rfl (sw_true rfl rfl rfl (by decide +kernel)) ?ki ?kg ?kt ?ke; (case ki => wtm_at "fo i"); (case kg => (intro _ _ _ _ _; wtm_at "fo g")); (case kt => (intro _ _ _ _ _; wtm_at "fo ts")); (case ke => (intro _ _ _ _ _; wtm_at "fo e")))
  | (refine' ps_setLcO (i := 9) (by assumption) (by exact rfl) (by exact rfl) (by wtm_at "fo own") (by decide +kernel) rfl rfl rfl (sw_true rfl rfl rfl (by decide +kernel)) ?ki ?kg ?kt ?ke; (case ki => wtm_at "fo i"); (case kg => (intro _ _ _ _ _; wtm_at "fo g")); (case kt => (intro _ _ _ _ _; wtm_at "fo ts")); (case ke => (intro _ _ _ _ _; wtm_at "fo e")))
  | (refine' ps_setLcO (i := 10) (by assumption) (by exact rfl) (by exact rfl) (by wtm_at "fo own") (by decide +kernel) rfl rfl rfl (sw_true rfl rfl rfl (by decide +kernel)) ?ki ?kg ?kt ?ke; (case ki => wtm_at "fo i"); (case kg => (intro _ _ _ _ _; wtm_at "fo g")); (case kt => (intro _ _ _ _ _; wtm_at "fo ts")); (case ke => (intro _ _ _ _ _; wtm_at "fo e")))
  | (refine' ps_setLcO (i := 11) (by assumption) (by exact rfl) (by exact rfl) (by wtm_at "fo own") (by decide +kernel) rfl rfl rfl (sw_true rfl rfl rfl (by decide +kernel)) ?ki ?kg ?kt ?ke; (case ki => wtm_at "fo i"); (case kg => (intro _ _ _ _ _; wtm_at "fo g")); (case kt => (intro _ _ _ _ _; wtm_at "fo ts")); (case ke => (intro _ _ _ _ _; wtm_at "fo e")))
  | (refine' ps_setLcO (i := 12) (by assumption) (by exact rfl) (by exact rfl) (by wtm_at "fo own") (by decide +kernel) rfl rfl rfl (sw_true rfl rfl rfl (by decide +kernel)) ?ki ?kg ?kt ?ke; (case ki => wtm_at "fo i"); (case kg => (intro _ _ _ _ _; wtm_at "fo g")); (case kt => (intro _ _ _ _ _; wtm_at "fo ts")); (case ke => (intro _ _ _ _ _; wtm_at "fo e")))
  | (refine' ps_setLcO (i := 13) (by assumption) (by exact rfl) (by exact rfl) (by wtm_at "fo own") (by decide +kernel) rfl rfl rfl (sw_true rfl rfl rfl (by decide +kernel)) ?ki ?kg ?kt ?ke; (case ki => wtm_at "fo i"); (case kg => (intro _ _ _ _ _; wtm_at "fo g")); (case kt => (intro _ _ _ _ _; wtm_at "fo ts")); (case ke => (intro _ _ _ _ _; wtm_at "fo e")))
  | (refine' ps_setLcO (i := 14) (by assumption) (by exact rfl) (by exact rfl) (by wtm_at "fo own") (by decide +kernel) rfl rfl rfl (sw_true rfl rfl rfl (by decide +kernel)) ?ki ?kg ?kt ?ke; (case ki => wtm_at "fo i"); (case kg => (intro _ _ _ _ _; wtm_at "fo g")); (case kt => (intro _ _ _ _ _; wtm_at "fo ts")); (case ke => (intro _ _ _ _ _; wtm_at "fo e")))
  | (refine' ps_setLcO (i := 15) (by assumption) (by exact rfl) (by exact rfl) (by wtm_at "fo own") (by decide +kernel) rfl rfl rfl (sw_true rfl rfl rfl (by decide +kernel)) ?ki ?kg ?kt ?ke; (case ki => wtm_at "fo i"); (case kg => (intro _ _ _ _ _; wtm_at "fo g")); (case kt => (intro _ _ _ _ _; wtm_at "fo ts")); (case ke => (intro _ _ _ _ _; wtm_at "fo e")))
  | fail "no")
local macro_rules | `(tactic| wtm_at "fo set") => `(tactic| first
  | (refine' ps_set (i := 0) (by assumption) rfl (by first | exact Or.inl rfl | exact Or.inr rfl) ?ka; (case ka => wtm_at "fo e"))
  | (refine' ps_set (i := 1) (by assumption) rfl (by first | exact Or.inl rfl | exact Or.inr rfl) ?ka; (case ka => wtm_at "fo e"))
  | (refine' ps_set (i := 2) (by assumption) rfl (by first | exact Or.inl rfl | exact Or.inr rfl) ?ka; (case ka => wtm_at "fo e"))
  | (refine' ps_set (i := 3) (by assumption) rfl (by first | exact Or.inl rfl | exact Or.inr rfl) ?ka; (case ka => wtm_at "fo e"))
  | (refine' ps_set (i := 4) (by assumption) rfl (by first | exact Or.inl rfl | exact Or.inr rfl) ?ka; (case ka => wtm_at "fo e"))
  | (refine' ps_set (i := 5) (by assumption) rfl (by first | exact Or.inl rfl | exact Or.inr rfl) ?ka; (case ka => wtm_at "fo e"))
  | (refine' ps_set (i := 6) (by assumption) rfl (by first | exact Or.inl rfl | exact Or.inr rfl) ?ka; (case ka => wtm_at "fo e"))
  | (refine' ps_set (i := 7) (by assumption) rfl (by first | exact Or.inl rfl | exact Or.inr rfl) ?ka; (case ka => wtm_at "fo e"))
  | (refine' ps_set (i := 8) (by assumption) rfl (by first | exact Or.inl rfl | exact Or.inr rfl) ?ka; (case ka => wtm_at "fo e"))
  | (refine' ps_set (i := 9) (by assumption) rfl (by first | exact Or.inl rfl | exact Or.inr rfl) ?ka; (case ka => wtm_at "fo e"))
  | (refine' ps_set (i := 10) (by assumption) rfl (by first | exact Or.inl rfl | exact Or.inr rfl) ?ka; (case ka => wtm_at "fo e"))
  | (refine' ps_set (i := 11) (by assumption) rfl (by first | exact Or.inl rfl | exact Or.inr rfl) ?ka; (case ka => wtm_at "fo e"))
  | (refine' ps_set (i := 12) (by assumption) rfl (by first | exact Or.inl rfl | exact Or.inr rfl) ?ka; (case ka => wtm_at "fo e"))
  | (refine' ps_set (i := 13) (by assumption) rfl (by first | exact Or.inl rfl | exact Or.inr rfl) ?ka; (case ka => wtm_at "fo e"))
  | fail "no")
local macro_rules | `(tactic| wtm_at "fo t") => `(tactic| first
  | ((with_reducible show PT _ (.BoolOp _ _ _) _); apply PW.pt; wtm_at "fo w")
  | ((with_reducible show PT _ (.UnaryOp .Not _ _) _); apply pt_not; wtm_at "fo t")
  | ((with_reducible show PT _ (.Compare _ _ _ _) _); wtm_at "fo tcmp")
  | (refine' pt_truthK (by assumption) (by exact rfl) ?ka (by intro _; rfl); (case ka => wtm_at "fo e"))
  | fail "no")
local macro_rules | `(tactic| wtm_at "fo gn") => `(tactic| first
  | exact pg_name (i := 0) (by assumption) rfl (by first | exact Or.inl rfl | exact Or.inr rfl)
  | exact pg_name (i := 1) (by assumption) rfl (by first | exact Or.inl rfl | exact Or.inr rfl)
  | exact pg_name (i := 2) (by assumption) rfl (by first | exact Or.inl rfl | exact Or.inr rfl)
  | exact pg_name (i := 3) (by assumption) rfl (by first | exact Or.inl rfl | exact Or.inr rfl)
  | exact pg_name (i := 4) (by assumption) rfl (by first | exact Or.inl rfl | exact Or.inr rfl)
  | exact pg_name (i := 5) (by assumption) rfl (by first | exact Or.inl rfl | exact Or.inr rfl)
  | exact pg_name (i := 6) (by assumption) rfl (by first | exact Or.inl rfl | exact Or.inr rfl)
  | exact pg_name (i := 7) (by assumption) rfl (by first | exact Or.inl rfl | exact Or.inr rfl)
  | exact pg_name (i := 8) (by assumption) rfl (by first | exact Or.inl rfl | exact Or.inr rfl)
  | exact pg_name (i := 9) (by assumption) rfl (by first | exact Or.inl rfl | exact Or.inr rfl)
  | exact pg_name (i := 10) (by assumption) rfl (by first | exact Or.inl rfl | exact Or.inr rfl)
  | exact pg_name (i := 11) (by assumption) rfl (by first | exact Or.inl rfl | exact Or.inr rfl)
  | exact pg_name (i := 12) (by assumption) rfl (by first | exact Or.inl rfl | exact Or.inr rfl)
  | exact pg_name (i := 13) (by assumption) rfl (by first | exact Or.inl rfl | exact Or.inr rfl)
  | exact pg_name (i := 14) (by assumption) rfl (by first | exact Or.inl rfl | exact Or.inr rfl)
  | exact pg_name (i := 15) (by assumption) rfl (by first | exact Or.inl rfl | exact Or.inr rfl)
  | fail "no")
local macro_rules | `(tactic| wtm_at "fo par") => `(tactic| first
  | (refine' ps_par (i := 0) (j := 1) rfl (by assumption) rfl rfl (by decide) rfl rfl ?ka (by rfl); (case ka => wtm_at "fo a"))
  | (refine' ps_par (i := 1) (j := 2) rfl (by assumption) rfl rfl (by decide) rfl rfl ?ka (by rfl); (case ka => wtm_at "fo a"))
  | (refine' ps_par (i := 2) (j := 3) rfl (by assumption) rfl rfl (by decide) rfl rfl ?ka (by rfl); (case ka => wtm_at "fo a"))
  | (refine' ps_par (i := 3) (j := 4) rfl (by assumption) rfl rfl (by decide) rfl rfl ?ka (by rfl); (case ka => wtm_at "fo a"))
  | (refine' ps_par (i := 4) (j := 5) rfl (by assumption) rfl rfl (by decide) rfl rfl ?ka (by rfl); (case ka => wtm_at "fo a"))
  | (refine' ps_par (i := 5) (j := 6) rfl (by assumption) rfl rfl (by decide) rfl rfl ?ka (by rfl); (case ka => wtm_at "fo a"))
  | (refine' ps_par (i := 6) (j := 7) rfl (by assumption) rfl rfl (by decide) rfl rfl ?ka (by rfl); (case ka => wtm_at "fo a"))
  | (refine' ps_par (i := 7) (j := 8) rfl (by assumption) rfl rfl (by decide) rfl rfl ?ka (by rfl); (case ka => wtm_at "fo a"))
  | (refine' ps_par (i := 8) (j := 9) rfl (by assumption) rfl rfl (by decide) rfl rfl ?ka (by rfl); (case ka => wtm_at "fo a"))
  | (refine' ps_par (i := 9) (j := 10) rfl (by assumption) rfl rfl (by decide) rfl rfl ?ka (by rfl); (case ka => wtm_at "fo a"))
  | (refine' ps_par (i := 10) (j := 11) rfl (by assumption) rfl rfl (by decide) rfl rfl ?ka (by rfl); (case ka => wtm_at "fo a"))
  | (refine' ps_par (i := 11) (j := 12) rfl (by assumption) rfl rfl (by decide) rfl rfl ?ka (by rfl); (case ka => wtm_at "fo a"))
  | (refine' ps_par (i := 12) (j := 13) rfl (by assumption) rfl rfl (by decide) rfl rfl ?ka (by rfl); (case ka => wtm_at "fo a"))
  | (refine' ps_par (i := 13) (j := 14) rfl (by assumption) rfl rfl (by decide) rfl rfl ?ka (by rfl); (case ka => wtm_at "fo a"))
  | (refine' ps_par (i := 14) (j := 15) rfl (by assumption) rfl rfl (by decide) rfl rfl ?ka (by rfl); (case ka => wtm_at "fo a"))
  | fail "no")
local macro_rules | `(tactic| wtm_at "fo g") => `(tactic| first
  | ((with_reducible show PG _ (.Name _ _) _); wtm_at "fo gn")
  | ((with_reducible show PG _ (.Tuple _ _ _) _); apply PG_or; (· refine' pg_tup2 (by assumption) (by exact rfl) rfl ?kg; (case kg => wtm_at "fo gs")); (· refine' pg_unl2 (by assumption) (by exact rfl) rfl ?kg; (case kg => wtm_at "fo gs")))
  | fail "no")
local macro_rules | `(tactic| wtm_at "fo gs") => `(tactic| first
  | exact pgs_nil
  | (refine' pgs_cons ?k1 ?k2; (case k1 => wtm_at "fo g"); (case k2 => wtm_at "fo gs"))
  | fail "no")
local macro_rules | `(tactic| wtm_at "fo i") => `(tactic| first
  | ((with_reducible show PI _ _ (.Call (.Name (Str.ofString "range") _) [_] _ _) _); refine' pi_range1 (by rfl) (by assumption) ?ka; (case ka => wtm_at "fo a"))
  | ((with_reducible show PI _ _ (.Call (.Name (Str.ofString "range") _) [_, _] _ _) _); refine' pi_range2 (by rfl) (by assumption) ?ka; (case ka => wtm_at "fo a"))
  | ((with_reducible show PI _ _ (.Call (.Name (Str.ofString "enumerate") _) [_] _ _) _); refine' pi_enum (by rfl) (by assumption) ?ka; (case ka => wtm_at "fo a"))
  | (refine' pi_listK (by assumption) (by exact rfl) ?ka; (case ka => wtm_at "fo e"))
  | fail "no")
local macro_rules | `(tactic| wtm_at "fo s") => `(tactic| first
  | ((with_reducible show PS _ (.While _ _ _ _) _); refine' ps_while PassesOwn.never ?kt ?kb; (case kt => wtm_at "fo t"); (case kb => wtm_at "fo ss"))
  | ((with_reducible show PS _ (.For _ _ _ _ _) _); refine' ps_for PassesOwn.never rfl ?ki ?kg ?kb; (case ki => wtm_at "fo i"); (case kg => wtm_at "fo g"); (case kb => wtm_at "fo ss"))
  | ((with_reducible show PS _ (.Assign [.Name _ _] (.ListComp _ [_] _ _) _) _); wtm_at "fo setlc")
  | ((with_reducible show PS _ (.Assign [.Name _ _] _ _) _); wtm_at "fo set")
  | ((with_reducible show PS _ (.Assign [.Tuple [.Name _ _, .Name _ _] _ _] (.Tuple [_, _] _ _) _) _); wtm_at "fo par")
  | ((with_reducible show PS _ (.Assign [.Subscript _ _ _] _ _) _); refine' ps_asg ?ka (pg_sub ?kb ?kc set_list); (case ka => wtm_at "fo e"); (case kb => wtm_at "fo e"); (case kc => wtm_at "fo e"))
  | ((with_reducible show PS _ (.Return (some _) _) _); apply ps_ret; wtm_at "fo e")
  | ((with_reducible show PS _ (.Expr _ _) _); refine' ps_expr ?ka; (case ka => wtm_at "fo e"))
  | ((with_reducible show PS _ (.If _ _ _ _) _); apply ps_if; (· wtm_at "fo t"); (· wtm_at "fo ss"); (· wtm_at "fo ss"))
  | fail "no")
local macro_rules | `(tactic| wtm_at "fo ss") => `(tactic| first
  | with_reducible exact pss_nil
  | ((with_reducible show PSs _ [_] _); apply pss_one; wtm_at "fo s")
  | (apply pss_cons; (· wtm_at "fo s"); (· wtm_at "fo ss"))
  | fail "no")
local macro_rules | `(tactic| wtm_at "fo hp") => `(tactic| first
  | assumption
  | exact upd_same
  | (refine (upd_ne ?ne).trans ?hp; (case ne => wtm_at "fo ne"); (case hp => wtm_at "fo hp"))
  | fail "no")
local macro_rules | `(tactic| wtm_at "fo ne") => `(tactic| first
  | assumption
  | (apply Ne.symm; assumption)
  | exact ne_of_none (by assumption) (by assumption)
  | exact Ne.symm (ne_of_none (by assumption) (by assumption))
  | fail "no")
local macro_rules | `(tactic| wtm_at "fo sz") => `(tactic| first
  | exact (Nat.le_of_ble_eq_true rfl : _ ≤ sizeLine)
  | exact (Nat.le_of_ble_eq_true rfl : _ < sizeLine)
  | exact Nat.lt_of_le_of_lt (m := 100000) (by first | assumption | omega | (simp; omega)) (by decide)
  | exact Nat.le_trans (m := 100000) (by first | assumption | omega | (simp; omega)) (by decide)
  | fail "no")
local macro_rules | `(tactic| wtm_at "fo r1") => `(tactic| first
  | refine ⟨(Nat.le_of_ble_eq_true rfl : _ ≤ sizeLine), fun p np => ?_⟩
  | (refine' ⟨_, _, rfl, Or.inl (SqL.of ?h), ?_⟩; (case h => wtm_at "fo hp"))
  | refine ⟨_, rfl, ?_⟩
  | refine ⟨_, _, rfl, rfl, ?_⟩
  | refine ⟨_, _, rfl, ⟨by omega, by omega, by omega, by omega⟩, ?_⟩
  | refine ⟨_, rfl, by omega, by omega, ?_⟩
  | refine Or.inl ⟨_, rfl, ?_⟩
  | refine Or.inl ⟨rfl, ?_⟩
  | refine Or.inl ⟨_, _, rfl, rfl, ?_⟩
  | (refine' Or.inl ⟨_, _, _, _, rfl, rfl, SqL.of ?h, ?a, ?_⟩; (case h => wtm_at "fo hp"); (case a => rfl))
  | (refine' ⟨_, _, _, _, rfl, rfl, ?h, ?a, ?_⟩; (case h => wtm_at "fo hp"); (case a => rfl))
  | (refine' ⟨.inl ⟨rfl, _, SqL.of ?h⟩, ?_⟩; (case h => wtm_at "fo hp"))
  | (refine' ⟨_, _, _, rfl, rfl, ?h, ?z, ?_⟩; (case h => wtm_at "fo hp"); (case z => wtm_at "fo sz"))
  | (refine' ⟨_, rfl, ⟨_, SqL.of ?h⟩, ?_⟩; (case h => wtm_at "fo hp"))
  | fail "no")
local macro_rules | `(tactic| wtm_at "fo side") => `(tactic| ((try dsimp only [CMul, CDiv]); first
  | assumption
  | decide
  | omega
  | exact ⟨by decide, by decide⟩
  | exact ⟨by omega, by omega⟩
  | decide +kernel
  | fail "no"))
local macro_rules | `(tactic| wtm_at "fo r2") => `(tactic| first
  | wtm_at "fo r1"
  | refine And.intro (by wtm_at "fo side") ?_
  | fail "no")
local macro_rules | `(tactic| wtm_at "fo r") => `(tactic| repeat wtm_at "fo r2")
local macro_rules | `(tactic| wtm_at "fo v") => `(tactic| first
  | ((with_reducible show PE _ (.Name (Str.ofString "int") _) _); exact pe_bltn (v := .ty "int") (by rfl) (by assumption) (by decide +kernel) rfl)
  | ((with_reducible show PE _ (.Name (Str.ofString "list") _) _); exact pe_bltn (v := .ty "list") (by rfl) (by assumption) (by decide +kernel) rfl)
  | ((with_reducible show PE _ (.Name (Str.ofString "MOST_PLACES") _) _); exact pe_glob (v := .int 12) (by rfl) (by assumption) ⟨_, rfl⟩)
  | fail "no")
local macro_rules | `(tactic| wtm_at "fo e") => `(tactic| first
  | ((with_reducible show PE _ (.BoolOp .And [_] _) _); apply pe_one; wtm_at "fo e")
  | ((with_reducible show PE _ (.BoolOp .And _ _) _); apply pe_and; (· wtm_at "fo e"); (· wtm_at "fo e"))
  | ((with_reducible show PE _ (.Compare _ [.IsNot] [.Constant (.bool true) _ _] _) _); refine' pe_cmpR op_notT ?ka ?kb (nomark _); (case ka => wtm_at "fo e"); (case kb => wtm_at "fo e"))
  | ((with_reducible show PE _ (.Compare _ [.LtE, .LtE] _ _) _); refine' pe_chain op_le op_le ?ka ?kb ?kc; (case ka => wtm_at "fo e"); (case kb => wtm_at "fo e"); (case kc => wtm_at "fo e"))
  | ((with_reducible show PE _ (.Call (.Name (Str.ofString "isinstance") _) _ _ _) _); refine' pe_callB (call_isiK' (by assumption) (by exact rfl)) (by rfl) (by assumption) (by decide +kernel) ?ka; (case ka => wtm_at "fo a"))
  | ((with_reducible show PE _ (.Call (.Attribute _ (Str.ofString "bit_length") _) [] [] _) _); refine' pe_bits ?ka; (case ka => wtm_at "fo e"))
  | fail "no")
local macro_rules | `(tactic| wtm_at "fo t") => `(tactic| first
  | ((with_reducible show PT _ (.Compare _ [.IsNot] [.Constant (.bool true) _ _] _) _); refine' pt_cmpR op_notT ?ka ?kb (nomark _); (case ka => wtm_at "fo e"); (case kb => wtm_at "fo e"))
  | ((with_reducible show PT _ (.Compare _ [.Lt, .Lt, .LtE] _ _) _); refine' pt_chain3 op_lt op_lt op_le ?ka ?kb ?kc ?kd; (case ka => wtm_at "fo e"); (case kb => wtm_at "fo e"); (case kc => wtm_at "fo e"); (case kd => wtm_at "fo e"))
  | fail "no")
local macro_rules | `(tactic| wtm_at "fo s") => `(tactic| first
  | ((with_reducible show PS _ (.Raise _ _ _) _); exact ps_never)
  | ((with_reducible show PS _ (.Continue _) _); exact ps_continue)
  | ((with_reducible show PS _ (.AugAssign (.Subscript _ _ _) .BitOr _ _) _); refine' ps_augS ?ka ?kb get_list ?kc ip_or set_list; (case ka => wtm_at "fo e"); (case kb => wtm_at "fo e"); (case kc => wtm_at "fo e"))
  | ((with_reducible show PS _ (.Assign [.Tuple _ _ _] (.Name _ _) _) _); refine' ps_asg ?ka ?kb; (case ka => wtm_at "fo e"); (case kb => wtm_at "fo g"))
  | fail "no")
local macro_rules | `(tactic| wtm_at "fo lc") => `(tactic| (refine' pe_lcN (by assumption) (by exact rfl) (by exact rfl) (by wtm_at "fo own") (by kernel_rfl!) rfl ?ki ?kg ?kt ?ke; (case ki => wtm_at "fo i"); (case kg => (intro _ _ _ _ _; wtm_at "fo g")); (case kt => (intro _ _ _ _ _; wtm_at "fo ts")); (case ke => (intro _ _ _ _ _; wtm_at "fo e"))))
local macro_rules | `(tactic| wtm_at "fo s") => `(tactic| ((with_reducible show PS _ (.Assign [.Tuple _ _ _] (.Call _ _ _ _) _) _); refine' ps_asg ?ka ?kb; (case ka => wtm_at "fo e"); (case kb => wtm_at "fo g")))
local macro_rules | `(tactic| wtm_at "fo cmp") => `(tactic| ((with_reducible show PE _ (.Compare _ [.In] _ _) _); refine' pe_cmpR (op_inK (by assumption) (by exact rfl)) ?ka ?kb rfl; (case ka => wtm_at "fo e"); (case kb => wtm_at "fo e")))
local macro_rules | `(tactic| wtm_at "fo call") => `(tactic| ((with_reducible show PE _ (.Call (.Name (Str.ofString "list") _) [.Call (.Name (Str.ofString "range") _) [_] _ _] _ _) _); refine' pe_listRg rfl (by rfl) (by assumption) (prg_1 (by rfl) (by assumption) ?ka); (case ka => wtm_at "fo e")))
local macro_rules | `(tactic| wtm_at "fo call") => `(tactic| ((with_reducible show PE _ (.Call (.Name (Str.ofString "min") _) [_] _ _) _); refine' pe_callB (call_minK (by assumption) (by exact rfl) rfl) (by rfl) (by assumption) (by decide +kernel) ?ka; (case ka => wtm_at "fo a")))
local macro_rules | `(tactic| wtm_at "fo i") => `(tactic| ((with_reducible show PI _ _ (.Call (.Name (Str.ofString "reversed") _) [_] _ _) _); refine' pi_reversed (by rfl) (by assumption) ?ka; (case ka => wtm_at "fo a")))
local macro_rules | `(tactic| wtm_at "fo s") => `(tactic| ((with_reducible show PS _ (.AugAssign (.Name _ _) .BitXor _ _) _); first | (refine' ps_aug (i := 2) (by assumption) rfl (by first | exact Or.inl rfl | exact Or.inr rfl) ?ka ip_xor; (case ka => wtm_at "fo e")) | fail "no"))
local macro_rules | `(tactic| wtm_at "fo call") => `(tactic| (refine' pe_calG (by assumption) (by assumption) (by decide) (by assumption) (by rfl) ?ka; (case ka => wtm_at "fo a")))
local macro_rules | `(tactic| wtm_at "fo meth") => `(tactic| ((with_reducible show PE _ (.Call (.Attribute _ (Str.ofString "count") _) _ _ _) _); refine' pe_cntK (by assumption) (by exact rfl) ?ka ?kb; (case ka => wtm_at "fo e"); (case kb => wtm_at "fo a")))
local macro_rules | `(tactic| wtm_at "fo call") => `(tactic| ((with_reducible show PE _ (.Call (.Name (Str.ofString "sorted") _) [_] _ _) _); refine' pe_callB (cr_sortedB (by assumption) (by exact rfl) (Room.units (by assumption))) (by rfl) (by assumption) (by decide +kernel) ?ka; (case ka => wtm_at "fo a")))
local macro_rules | `(tactic| wtm_at "fo v") => `(tactic| first
  | exact pv 16
  | exact pv 17
  | exact pv 18
  | exact pv 19
  | fail "no")
local macro_rules | `(tactic| wtm_at "fo own") => `(tactic| first
  | ((show _ = [16]); kernel_rfl!)
  | ((show _ = [17]); kernel_rfl!)
  | ((show _ = [18]); kernel_rfl!)
  | ((show _ = [19]); kernel_rfl!)
  | ((show _ = [15, 16]); kernel_rfl!)
  | ((show _ = [16, 17]); kernel_rfl!)
  | ((show _ = [17, 18]); kernel_rfl!)
  | ((show _ = [18, 19]); kernel_rfl!)
  | fail "no")
local macro_rules | `(tactic| wtm_at "fo set") => `(tactic| first
  | (refine' ps_set (i := 14) (by assumption) rfl (by first | exact Or.inl rfl | exact Or.inr rfl) ?ka; (case ka => wtm_at "fo e"))
  | (refine' ps_set (i := 15) (by assumption) rfl (by first | exact Or.inl rfl | exact Or.inr rfl) ?ka; (case ka => wtm_at "fo e"))
  | (refine' ps_set (i := 16) (by assumption) rfl (by first | exact Or.inl rfl | exact Or.inr rfl) ?ka; (case ka => wtm_at "fo e"))
  | (refine' ps_set (i := 17) (by assumption) rfl (by first | exact Or.inl rfl | exact Or.inr rfl) ?ka; (case ka => wtm_at "fo e"))
  | (refine' ps_set (i := 18) (by assumption) rfl (by first | exact Or.inl rfl | exact Or.inr rfl) ?ka; (case ka => wtm_at "fo e"))
  | (refine' ps_set (i := 19) (by assumption) rfl (by first | exact Or.inl rfl | exact Or.inr rfl) ?ka; (case ka => wtm_at "fo e"))
  | fail "no")
local macro_rules | `(tactic| wtm_at "fo setlc") => `(tactic| first
  | (refine' ps_setLcO (i := 16) (by assumption) (by exact rfl) (by exact rfl) (by wtm_at "fo own") (by decide +kernel) rfl rfl rfl (sw_true rfl rfl rfl (by decide +kernel)) ?ki ?kg ?kt ?ke; (case ki => wtm_at "fo i"); (case kg => (intro _ _ _ _ _; wtm_at "fo g")); (case kt => (intro _ _ _ _ _; wtm_at "fo ts")); (case ke => (intro _ _ _ _ _; wtm_at "fo e")))
  | (refine' ps_setLcO (i := 17) (by assumption) (by exact rfl) (by exact rfl) (by wtm_at "fo own") (by decide +kernel) rfl rfl rfl (sw_true rfl rfl rfl (by decide +kernel)) ?ki ?kg ?kt ?ke; (case ki => wtm_at "fo i"); (case kg => (intro _ _ _ _ _; wtm_at "fo g")); (case kt => (intro _ _ _ _ _; wtm_at "fo ts")); (case ke => (intro _ _ _ _ _; wtm_at "fo e")))
  | (refine' ps_setLcO (i := 18) (by assumption) (by exact rfl) (by exact rfl) (by wtm_at "fo own") (by decide +kernel) rfl rfl rfl (sw_true rfl rfl rfl (by decide +kernel)) ?ki ?kg ?kt ?ke; (case ki => wtm_at "fo i"); (case kg => (intro _ _ _ _ _; wtm_at "fo g")); (case kt => (intro _ _ _ _ _; wtm_at "fo ts")); (case ke => (intro _ _ _ _ _; wtm_at "fo e")))
  | (refine' ps_setLcO (i := 19) (by assumption) (by exact rfl) (by exact rfl) (by wtm_at "fo own") (by decide +kernel) rfl rfl rfl (sw_true rfl rfl rfl (by decide +kernel)) ?ki ?kg ?kt ?ke; (case ki => wtm_at "fo i"); (case kg => (intro _ _ _ _ _; wtm_at "fo g")); (case kt => (intro _ _ _ _ _; wtm_at "fo ts")); (case ke => (intro _ _ _ _ _; wtm_at "fo e")))
  | fail "no")
local macro_rules | `(tactic| wtm_at "fo gn") => `(tactic| first
  | exact pg_name (i := 16) (by assumption) rfl (by first | exact Or.inl rfl | exact Or.inr rfl)
  | exact pg_name (i := 17) (by assumption) rfl (by first | exact Or.inl rfl | exact Or.inr rfl)
  | exact pg_name (i := 18) (by assumption) rfl (by first | exact Or.inl rfl | exact Or.inr rfl)
  | exact pg_name (i := 19) (by assumption) rfl (by first | exact Or.inl rfl | exact Or.inr rfl)
  | fail "no")
local macro_rules | `(tactic| wtm_at "fo s") => `(tactic| ((with_reducible show PS _ (.Assign [.Tuple _ _ _] (.Tuple _ _ _) _) _); refine' ps_asg ?ka ?kb; (case ka => wtm_at "fo e"); (case kb => wtm_at "fo g")))
local macro_rules | `(tactic| wtm_at "fo e") => `(tactic| first
  | ((with_reducible show PE _ (.UnaryOp .Invert _ _) _); apply pe_un un_inv; wtm_at "fo e")
  | ((with_reducible show PE _ (.BoolOp .Or [_] _) _); apply pe_one; wtm_at "fo e")
  | ((with_reducible show PE _ (.BoolOp .Or _ _) _); apply pe_or; (· wtm_at "fo e"); (· wtm_at "fo e"))
  | ((with_reducible show PE _ (.BinOp _ .Mult _ _) _); apply pe_op opMulB <;> wtm_at "fo e")
  | ((with_reducible show PE _ (.BinOp _ .BitOr _ _) _); apply pe_op op_or <;> wtm_at "fo e")
  | ((with_reducible show PE _ (.Compare _ [.Is] [.Constant .none _ _] _) _); refine' pe_cmpR op_isN ?ka ?kb (nomark _); (case ka => wtm_at "fo e"); (case kb => wtm_at "fo e"))
  | fail "no")
local macro_rules | `(tactic| wtm_at "fo t") => `(tactic| first
  | ((with_reducible show PT _ (.Compare _ [.Is] [.Constant .none _ _] _) _); refine' pt_cmpR op_isN ?ka ?kb (nomark _); (case ka => wtm_at "fo e"); (case kb => wtm_at "fo e"))
  | ((with_reducible show PT _ (.Compare _ [.IsNot] [.Constant .none _ _] _) _); refine' pt_cmpR op_notN ?ka ?kb (nomark _); (case ka => wtm_at "fo e"); (case kb => wtm_at "fo e"))
  | fail "no")
local macro_rules | `(tactic| wtm_at "fo i") => `(tactic| first
  | ((with_reducible show PI _ _ (.Call (.Name (Str.ofString "enumerate") _) [_, _] [] _) _); refine' pi_enumC (by assumption) (by exact rfl) (by rfl) (by assumption) ?ka; (case ka => wtm_at "fo a"))
  | ((with_reducible show PI _ _ (.Call (.Name (Str.ofString "enumerate") _) [_] [_] _) _); refine' pi_enumS (by assumption) (by exact rfl) (by rfl) (by assumption) ?ka ?kb; (case ka => wtm_at "fo a"); (case kb => wtm_at "fo k"))
  | fail "no")
local macro_rules | `(tactic| wtm_at "fo own") => `(tactic| first
  | ((show _ = [2, 4]); kernel_rfl!)
  | ((show _ = [4, 2]); kernel_rfl!)
  | fail "no")
local macro_rules | `(tactic| wtm_at "fo v") => `(tactic| ((with_reducible show PE _ (.Name (Str.ofString "tuple") _) _); exact pe_bltn (v := .ty "tuple") (by rfl) (by assumption) (by decide +kernel) rfl))
def rAnyK (K : PySem.W.Frag) : List V → Hp → VK → Prop := rAny K
theorem call_anyK {X : Cx} {K : PySem.W.Frag} (_ : KMark K) (h : X.K = K) (hc : X.calm = true) : CallR X (.builtin "any") (rAnyK K) := h ▸ cr_any hc
local macro_rules | `(tactic| wtm_at "fo call") => `(tactic| ((with_reducible show PE _ (.Call (.Name (Str.ofString "any") _) [_] _ _) _); refine' pe_callB (call_anyK (by assumption) (by exact rfl) rfl) (by rfl) (by assumption) (by decide +kernel) ?ka; (case ka => wtm_at "fo a")))
local macro_rules | `(tactic| wtm_at "fo i") => `(tactic| ((with_reducible show PI _ _ (.Call (.Name (Str.ofString "zip") _) [_, _] [] _) _); refine' pi_zip (by rfl) (by assumption) ?ka; (case ka => wtm_at "fo a")))
local macro_rules | `(tactic| wtm_at "fo s") => `(tactic| ((with_reducible show PS _ (.AugAssign (.Name (Str.ofString "left") _) .BitOr _ _) _); refine' ps_aug (i := 4) (by assumption) rfl (by first | exact Or.inl rfl | exact Or.inr rfl) ?ka ip_or; (case ka => wtm_at "fo e")))
variable {P : Program} {w : World} {K : PySem.W.Frag} {mg : Str → Option Value} {base : Heap}
/-! ### one round -/
@[irreducible] def spRest : Sp := fun vs H Q _ => ∃ (r : Addr) (n v : Nat) (es : List Edge) (S : List Int), vs = [.ref r, .int v] ∧ n ≤ 12 ∧ Simp n es ∧ H r = some (nLst (nearB n es)) ∧ LotIs v S ∧ InNet n S ∧
  ∀ (u : Nat) (H' : Hp), Same H H' → LotIs u (restM es S) → Q (.int u) H'
theorem call_rest {r : Addr} {n v : Nat} {es : List Edge} {S : List Int} {H : Hp} {Q : VK} {E : XK} (hn : n ≤ 12) (hS : Simp n es) (hr : H r = some (nLst (nearB n es))) (hv : LotIs v S) (hI : InNet n S)
    (fin : ∀ (u : Nat) (H' : Hp), Same H H' → LotIs u (restM es S) → Q (.int u) H') : spRest [.ref r, .int v] H Q E := by
  unfold spRest
  exact ⟨r, n, v, es, S, rfl, hn, hS, hr, hv, hI, fin⟩
set_option maxHeartbeats 4000000 in
theorem ok_rest {f : Addr} {fd : FuncData} (F : Fun K "_lot_behind_round" "_lot_behind_round" s_lot_behind_round f fd) (ma : mg "any" = none) (mz : mg "zip" = none) (C3 : Cal P w K mg base "members" 1 ["lot"] spMembers) :
    FnOk P w K mg base CX0 2 f fd ["near", "lot"] spRest := by
  refine F.ok sc_lot_behind_round (fun vs H Q E h => ?_) (fun cdv A outer s H vs Q E hr h => ?_)
  · unfold spRest at h
    obtain ⟨r, n, v, es, S, rfl, _⟩ := h
    rfl
  · have nd := sc_lot_behind_round.nd
    have hS := sc_lot_behind_round
    have hKM : KMark K := ⟨⟩
    refine' mk_body ?body ?rd
    case body =>
      show PSs _ [_, _, _, _] _
      wtm_at "fo ss"
    case rd =>
     unfold spRest at h
     obtain ⟨r, n, v, es, S, rfl, hn, hSi, hr0, hv, hI, fin⟩ := h
     have hSl : S.length ≤ 12 := Nat.le_trans hI.len hn
     have hvs : v < 2 ^ 20 := Nat.lt_of_lt_of_le (lot_small hv fun x hx => (hI.rng x hx).2) (Nat.pow_le_pow_right (by decide) (by omega))
     have hmv : membersM v = S := members_lot hv hI.lt fun x hx => (hI.rng x hx).1
     have hrE : ∀ e ∈ es, 1 ≤ e.1 ∧ 1 ≤ e.2 ∧ e.1 ≠ e.2 := fun e he => by have := hSi.rng e he; omega
     wtm_at "fo r"
     refine call_members hvs (fun p1 H1 sm1 np1 hp1 => ?_)
     rw [hmv] at hp1
     refine ⟨p1, rfl, ⟨_, SqL.of hp1⟩, fun D nD => ?_⟩
     refine lc_vals (K := K) (xs := S) (inj := V.int) (fun x => V.int (besU n es v x : Nat)) (SqL.of hp1) nD (by omega) (fun _ => rfl) ?_ ?_
     · rintro x hx H2 sm2 R hR
       have hxr := hI.rng x hx
       obtain ⟨u, hu, _⟩ := nearB_bit hrE (p := x.toNat) (n := n) (by omega) (by omega)
       refine ⟨_, rfl, _, rfl, Or.inl ⟨r, _, x, _, rfl, rfl, SqL.of (sm2 _ _ (sm1 _ _ hr0)), at_of (j := x.toNat) (by omega) (get_nb hu), ?_⟩⟩
       · refine ⟨_, rfl, _, _, rfl, rfl, ?_⟩
         have := hR H2 (Same.refl _)
         unfold besU at this
         rw [List.getD_eq_getElem?_getD, hu] at this
         rw [← bAnd] at this
         exact this
     rintro H2 sm2 hD
     wtm_at "fo r"
     refine call_members hvs (fun p2 H3 sm3 np2 hp2 => ?_)
     rw [hmv] at hp2
     have hD3 := sm3 _ _ hD
     refine ⟨D, p2, _, _, rfl, SqL.of hD3, SqL.of hp2, ?_⟩
     refine RZ.for_zipL (K := K) (xs := S.map fun x => V.int (besU n es v x : Nat)) (ys := S.map V.int) (by simp) (fun i σ H4 => ∃ (lf : Nat) (y3 y5 : Option V), σ = [some (.ref r), some (.int v), some (.ref D), y3, some (.int lf), y5, none] ∧ Same H3 H4 ∧ LotIs lf ((S.take i).filter fun p => !goesB es S p)) ?_ ?_ ?_ ?_
     · exact ⟨0, _, _, rfl, Same.refl _, lot_nil⟩
     · rintro i σ H4 ⟨lf, y3, y5, rfl, sm, _⟩
       exact ⟨SqL.of (sm _ _ hD3), SqL.of (sm _ _ hp2)⟩
     · rintro i x y T σ H4 hx hy ⟨lf, y3, y5, rfl, sm, hlf⟩ nT
       obtain ⟨p, hp, rfl⟩ := int_at hy
       have hx2 : x = V.int (besU n es v p : Nat) := by
         rw [List.getElem?_map, hp] at hx
         exact (Option.some.inj hx).symm
       subst hx2
       have hpm := List.mem_of_getElem? hp
       have hpr := hI.rng p hpm
       have smT : Same H4 (upd H4 T (.tup [.int (besU n es v p : Nat), .int p])) := same_upd (Same.refl _) nT
       have s4 := sm.trans smT
       refine Or.inl ⟨T, [.int (besU n es v p : Nat), .int p], rfl, SqT.of upd_same, rfl, .int (besU n es v p : Nat), [.int p], rfl, .int p, [], rfl, rfl, ?_⟩
       generalize upd H4 T (.tup [.int (besU n es v p : Nat), .int p]) = H5 at *
       wtm_at "fo r"
       have hD5 := s4 _ _ hD3
       refine ⟨⟨_, SqL.of hD5⟩, fun D2 nD2 => ?_⟩
       refine lc_vals (K := K) (xs := S) (inj := fun q => V.int (besU n es v q : Nat)) (fun q => V.bl (decide (besU n es v p ≠ besU n es v q ∧ besU n es v p &&& besU n es v q = besU n es v p))) (SqL.of hD5) nD2 (by omega) (fun _ => rfl) ?_ ?_
       · rintro q hq H6 sm6 R hR
         wtm_at "fo r"
         have he : ∀ a b : Nat, (V.int (a : Int) = V.int (b : Int)) ↔ a = b := fun a b => ⟨fun h => Int.ofNat.inj (V.int.inj h), fun h => by rw [h]⟩
         have hRR := hR H6 (Same.refl _)
         by_cases hc : besU n es v p = besU n es v q
         · refine ifF (by simp [hc]) ?_
           rwa [decide_eq_false (fun h => h.1 hc)] at hRR
         · refine ifT (by simp [he, hc]) ?_
           refine ⟨_, rfl, _, rfl, _, _, rfl, rfl, _, rfl, Or.inl ⟨rfl, ?_⟩⟩
           have e1 : decide (V.int (Builtin.bitAnd (besU n es v p : Nat) (besU n es v q : Nat)) = V.int (besU n es v p : Nat)) = decide (besU n es v p ≠ besU n es v q ∧ besU n es v p &&& besU n es v q = besU n es v p) := by
             apply decide_eq_decide.mpr
             rw [bAnd, he]
             exact ⟨fun h => ⟨hc, h⟩, fun h => h.2⟩
           rw [← e1] at hRR
           exact hRR
       rintro H6 sm6 hD2
       refine ⟨D2, S.map fun q => decide (besU n es v p ≠ besU n es v q ∧ besU n es v p &&& besU n es v q = besU n es v p), rfl, SqL.of (by rw [hD2, List.map_map]; rfl), ?_⟩
       have hg : ((S.map fun q => decide (besU n es v p ≠ besU n es v q ∧ besU n es v p &&& besU n es v q = besU n es v p)).any id) = goesB es S p := by
         rw [Bool.eq_iff_iff, goesB_iff, List.any_map, List.any_eq_true]
         constructor
         · rintro ⟨q, hq, h⟩
           exact ⟨q, hq, (besU_less hSi hv hI hpm hq).mp (of_decide_eq_true h)⟩
         · rintro ⟨q, hq, h⟩
           exact ⟨q, hq, decide_eq_true ((besU_less hSi hv hI hpm hq).mpr h)⟩
       rw [hg]
       have s6 := s4.trans sm6
       have htk : ((S.take (i + 1)).filter fun p => !goesB es S p) = ((S.take i).filter fun p => !goesB es S p) ++ (if goesB es S p then [] else [p]) := by
         rw [List.take_add_one, hp, List.filter_append]
         cases hgp : goesB es S p <;> simp [hgp]
       refine ⟨_, rfl, ?_⟩
       cases hgp : goesB es S p with
       | true =>
         rw [hgp, if_pos rfl, List.append_nil] at htk
         refine ifF rfl ⟨lf, _, _, rfl, s6, ?_⟩
         rw [htk]
         exact hlf
       | false =>
         rw [hgp, if_neg (by simp)] at htk
         refine ifT rfl ?_
         wtm_at "fo r"
         have hv2 : Builtin.bitOr (lf : Int) (1 * 2 ^ p.toNat) = ((lf ||| 2 ^ p.toNat : Nat) : Int) := by
           rw [show (1 : Int) * 2 ^ p.toNat = ((2 ^ p.toNat : Nat) : Int) by simp, bOr]
         refine ⟨lf ||| 2 ^ p.toNat, _, _, by rw [← hv2]; rfl, s6, fun k => ?_⟩
         rw [htk, Nat.testBit_or, hlf, Nat.testBit_two_pow, ← Bool.decide_or]
         apply decide_eq_decide.mpr
         rw [List.mem_append, List.mem_singleton]
         constructor
         · rintro (h | h)
           · exact .inl h
           · exact .inr (by omega)
         · rintro (h | h)
           · exact .inl h
           · exact .inr (by omega)
     · rintro σ H4 ⟨lf, y3, y5, rfl, sm, hlf⟩
       rw [List.length_map, List.take_length] at hlf
       exact ⟨_, rfl, fin lf H4 (((sm1.trans sm2).trans sm3).trans sm) hlf⟩
end
/-! piece PNg -/
section
variable {P : Program} {w : World} {K : PySem.W.Frag} {mg : Str → Option Value} {base : Heap}
theorem restM_len (es : List Edge) (S : List Int) : (restM es S).length ≤ S.length := List.length_filter_le ..
theorem restM_same {es : List Edge} {S : List Int} (h : (restM es S).length = S.length) : restM es S = S := by
  unfold restM at h ⊢
  rw [List.length_filter_eq_length_iff] at h
  exact List.filter_eq_self.mpr h
theorem round_len (es : List Edge) (S : List Int) (j : Nat) : ∀ i, (roundM es S (j + i)).length ≤ (roundM es S j).length
  | 0 => Nat.le_refl _
  | i + 1 => Nat.le_trans (restM_len es (roundM es S (j + i))) (round_len es S j i)
theorem round_slow (es : List Edge) (S : List Int) : ∀ k, restM es (roundM es S k) = roundM es S k ∨ (roundM es S k).length + k ≤ S.length
  | 0 => .inr (Nat.le_refl _)
  | k + 1 => by
    by_cases h : restM es (roundM es S k) = roundM es S k
    · left
      show restM es (restM es (roundM es S k)) = restM es (roundM es S k)
      rw [h, h]
    · right
      have h1 := restM_len es (roundM es S k)
      have h2 : (restM es (roundM es S k)).length ≠ (roundM es S k).length := fun e => h (restM_same e)
      have h3 := (round_slow es S k).resolve_left h
      show (restM es (roundM es S k)).length + (k + 1) ≤ _
      omega
theorem round_fin {es : List Edge} {S : List Int} {j k : Nat} (hS : S.length ≤ 12) (hj : j < k) (h : roundM es S j = roundM es S k) : roundM es S (k - 1) = roundM es S 13 := by
  have h1 := round_len es S (j + 1) (k - (j + 1))
  rw [show j + 1 + (k - (j + 1)) = k by omega, ← h] at h1
  have h2 : restM es (roundM es S j) = roundM es S j := restM_same (Nat.le_antisymm (restM_len ..) h1)
  have h3 : restM es (roundM es S 13) = roundM es S 13 := (round_slow es S 13).resolve_right (by omega)
  have e1 := round_stay h2 (k - 1 - j)
  have e2 := round_stay h2 13
  have e3 := round_stay h3 j
  rw [show j + (k - 1 - j) = k - 1 by omega] at e1
  rw [Nat.add_comm] at e3
  rw [e1, ← e2, e3]
theorem inV_nats (v : Nat) (L : List Nat) : inV (.int (v : Int)) (L.map fun (u : Nat) => V.int u) = decide (v ∈ L) := by
  rw [show (L.map fun (u : Nat) => V.int u) = (L.map fun (u : Nat) => (u : Int)).map V.int by rw [List.map_map]; rfl, inV_ints]
  apply decide_eq_decide.mpr
  rw [List.mem_map]
  exact ⟨fun ⟨a, ha, e⟩ => by rw [← Int.ofNat.inj e]; exact ha, fun h => ⟨v, h, rfl⟩⟩
theorem flat_nats (L : List Nat) : (L.map fun (u : Nat) => V.int u).all flatV = true := by
  rw [show (L.map fun (u : Nat) => V.int u) = (L.map fun (u : Nat) => (u : Int)).map V.int by rw [List.map_map]; rfl]
  exact flat_ints _
theorem at_last {L : List Nat} {k u : Nat} (hk : L.length = k + 1) (hu : L[k]? = some u) : atI (L.map fun (u : Nat) => V.int u) (-1) = some (.int u) := by
  have e : ixN (L.map fun (u : Nat) => V.int u).length (-1) = some k := by
    unfold ixN
    rw [if_neg (by omega), List.length_map, hk, if_pos (by omega)]
    congr 1
    omega
  unfold atI
  rw [e]
  show (L.map fun (u : Nat) => V.int u)[k]? = _
  rw [List.getElem?_map, hu]
  rfl
/-! ### all rounds, the middle -/
@[irreducible] def spLots : Sp := fun vs H Q _ => ∃ (r : Addr) (n : Nat) (es : List Edge), vs = [.ref r] ∧ n ≤ 12 ∧ Simp n es ∧ H r = some (nLst (nearB n es)) ∧
  ∀ (D : Addr) (H' : Hp) (L : List Nat) (k u : Nat), Same H H' → H D = none → H' D = some (nLst L) → L.length = k + 1 → L[k]? = some u → LotIs u (midM n es) → (∀ j u, L[j]? = some u → LotIs u (roundM es (allM n) j)) → L.Nodup → Q (.ref D) H'
theorem call_lots {r : Addr} {n : Nat} {es : List Edge} {H : Hp} {Q : VK} {E : XK} (hn : n ≤ 12) (hS : Simp n es) (hr : H r = some (nLst (nearB n es)))
    (fin : ∀ (D : Addr) (H' : Hp) (L : List Nat) (k u : Nat), Same H H' → H D = none → H' D = some (nLst L) → L.length = k + 1 → L[k]? = some u → LotIs u (midM n es) → (∀ j u, L[j]? = some u → LotIs u (roundM es (allM n) j)) → L.Nodup → Q (.ref D) H') : spLots [.ref r] H Q E := by
  unfold spLots
  exact ⟨r, n, es, rfl, hn, hS, hr, fin⟩
set_option maxHeartbeats 4000000 in
theorem ok_lots {f : Addr} {fd : FuncData} (F : Fun K "_lots_by_rounds" "_lots_by_rounds" s_lots_by_rounds f fd) (C2 : Cal P w K mg base "whole_lot" 1 ["near"] spWhole) (C3 : Cal P w K mg base "_lot_behind_round" 2 ["near", "lot"] spRest) :
    FnOk P w K mg base CX0 3 f fd ["near"] spLots := by
  refine F.ok sc_lots_by_rounds (fun vs H Q E h => ?_) (fun cdv A outer s H vs Q E hr h => ?_)
  · unfold spLots at h
    obtain ⟨r, n, es, rfl, _⟩ := h
    rfl
  · have nd := sc_lots_by_rounds.nd
    have hS := sc_lots_by_rounds
    have hKM : KMark K := ⟨⟩
    refine' mk_body ?body ?rd
    case body =>
      show PSs _ [_, _, _, _] _
      wtm_at "fo ss"
    case rd =>
     unfold spLots at h
     obtain ⟨r, n, es, rfl, hn, hSi, hr0, fin⟩ := h
     have hrl : ((nearB n es).map fun (v : Nat) => V.int v).length = n + 1 := by rw [List.length_map, nearB_length]
     wtm_at "fo r"
     rename_i q nq
     have sm1 : Same H (upd H q (.lst [])) := same_upd (Same.refl _) nq
     have hq1 : (upd H q (.lst [])) q = some (.lst []) := upd_same
     generalize upd H q (.lst []) = H1 at *
     wtm_at "fo r"
     refine call_whole (sm1 _ _ hr0) hrl (by omega) ?_
     let W : Nat → Sl → Hp → Prop := fun m σ H2 => ∃ (v k : Nat) (L : List Nat), σ = [some (.ref r), some (.ref q), some (.int v)] ∧ m = 2 * (roundM es (allM n) k).length + (if v ∈ L then 0 else 1) ∧ Same H H2 ∧ H2 q = some (nLst L) ∧ L.length = k ∧ LotIs v (roundM es (allM n) k) ∧ (∀ j u, L[j]? = some u → LotIs u (roundM es (allM n) j)) ∧ L.Nodup ∧ (roundM es (allM n) k).length + k ≤ n + (if v ∈ L then 1 else 0)
     refine ⟨W, ⟨_, _, 0, [], rfl, rfl, sm1, hq1, rfl, whole_is n, (fun j u e => by cases e), List.nodup_nil, ?_⟩, fun m σ H2 hW => ?_⟩
     · show (allM n).length + 0 ≤ _
       rw [all_len]
       exact Nat.le_add_right _ _
     obtain ⟨v, k, L, rfl, rfl, sm2, hq2, hLk, hv, hL, hLd, hlen⟩ := hW
     wtm_at "fo r"
     refine ⟨rfl, flat_nats L, ?_⟩
     rw [if_pos rfl, inV_nats]
     refine ⟨_, rfl, ?_⟩
     have hI : InNet n (allM n) := inNet_all n
     have hIr := fun j => hI.round (es := es) j
     by_cases hvL : v ∈ L
     · refine ifF (by simp [hvL]) ?_
       obtain ⟨j, hj⟩ := List.getElem?_of_mem hvL
       have hjk : j < k := by
         have := (List.getElem?_eq_some_iff.mp hj).1
         omega
       have e1 : roundM es (allM n) j = roundM es (allM n) k := (lot_inj (hL j v hj) hv (hIr j) (hIr k)).mp rfl
       have e2 := round_fin (by rw [all_len]; exact hn) hjk e1
       refine ⟨_, rfl, ?_⟩
       have hkl : k - 1 < L.length := by omega
       refine fin q H2 L (k - 1) L[k - 1] sm2 nq hq2 (by omega) (List.getElem?_eq_getElem hkl) ?_ hL hLd
       have h3 := hL (k - 1) _ (List.getElem?_eq_getElem hkl)
       rw [e2] at h3
       exact h3
     · refine ifT (by simp [hvL]) ?_
       refine ⟨fun σ' H' => ∃ m', m' < 2 * (roundM es (allM n) k).length + (if v ∈ L then 0 else 1) ∧ W m' σ' H', fun _ _ h => h, ?_⟩
       rw [if_neg hvL] at hlen ⊢
       wtm_at "fo r"
       have sm3 : Same H (upd H2 q (.lst ((L.map fun (u : Nat) => V.int u) ++ [V.int (v : Nat)]))) := same_upd sm2 nq
       have hq3 : (upd H2 q (.lst ((L.map fun (u : Nat) => V.int u) ++ [V.int (v : Nat)]))) q = some (nLst (L ++ [v])) := by
         rw [upd_same, nLst, List.map_append]
         rfl
       generalize upd H2 q (.lst ((L.map fun (u : Nat) => V.int u) ++ [V.int (v : Nat)])) = H3 at *
       refine call_rest hn hSi (sm3 _ _ hr0) hv (hIr k) (fun u H4 sm4 hu => ?_)
       have hlr := restM_len es (roundM es (allM n) k)
       have hcase : ((restM es (roundM es (allM n) k)).length < (roundM es (allM n) k).length ∧ u ∉ L ++ [v]) ∨ ((restM es (roundM es (allM n) k)).length < (roundM es (allM n) k).length ∧ u ∈ L ++ [v]) ∨ ((restM es (roundM es (allM n) k)).length = (roundM es (allM n) k).length ∧ u ∈ L ++ [v]) := by
         by_cases h1 : (restM es (roundM es (allM n) k)).length = (roundM es (allM n) k).length
         · have h2 := restM_same h1
           rw [h2] at hu
           have h3 : u = v := (lot_inj hu hv (hIr k) (hIr k)).mpr rfl
           exact .inr (.inr ⟨h1, by rw [h3]; simp⟩)
         · by_cases h2 : u ∈ L ++ [v]
           · exact .inr (.inl ⟨by omega, h2⟩)
           · exact .inl ⟨by omega, h2⟩
       have hLn : ∀ j x, (L ++ [v])[j]? = some x → LotIs x (roundM es (allM n) j) := fun j x hx => by
         by_cases hj : j < L.length
         · rw [List.getElem?_append_left hj] at hx
           exact hL j x hx
         · have hj2 := (List.getElem?_eq_some_iff.mp hx).1
           rw [List.length_append, List.length_singleton] at hj2
           have e : j = k := by omega
           subst e
           rw [List.getElem?_append_right (by omega), hLk, Nat.sub_self] at hx
           rw [← Option.some.inj hx]
           exact hv
       refine ⟨_, ?_, u, k + 1, L ++ [v], rfl, rfl, sm3.trans sm4, sm4 _ _ hq3, by rw [List.length_append, List.length_singleton, hLk], hu, hLn, List.nodup_append.mpr ⟨hLd, by simp, fun a ha b hb e => hvL (by rw [List.mem_singleton.mp hb] at e; rw [← e]; exact ha)⟩, ?_⟩
       · show 2 * (restM es (roundM es (allM n) k)).length + _ < _
         rcases hcase with ⟨h1, h2⟩ | ⟨h1, h2⟩ | ⟨h1, h2⟩
         · rw [if_neg h2]; omega
         · rw [if_pos h2]; omega
         · rw [if_pos h2]; omega
       · show (restM es (roundM es (allM n) k)).length + (k + 1) ≤ _
         rcases hcase with ⟨h1, h2⟩ | ⟨h1, h2⟩ | ⟨h1, h2⟩
         · rw [if_neg h2]; omega
         · rw [if_pos h2]; omega
         · rw [if_pos h2]; omega
end
/-! piece PNh -/
section
variable {P : Program} {w : World} {K : PySem.W.Frag} {mg : Str → Option Value} {base : Heap}
@[irreducible] def spMiddle : Sp := fun vs H Q _ => ∃ (q : Addr) (n : Nat) (es : List Edge), vs = [.int n, .ref q] ∧ 1 ≤ n ∧ n ≤ 12 ∧ Pairs H q es ∧ Simp n es ∧ es.length ≤ 200 ∧
  ∀ p H', Same H H' → H p = none → H' p = some (iL (midM n es)) → Q (.ref p) H'
theorem call_middle {q : Addr} {n : Nat} {es : List Edge} {H : Hp} {Q : VK} {E : XK} (h1 : 1 ≤ n) (hn : n ≤ 12) (hq : Pairs H q es) (hS : Simp n es) (hl : es.length ≤ 200)
    (fin : ∀ p H', Same H H' → H p = none → H' p = some (iL (midM n es)) → Q (.ref p) H') : spMiddle [.int n, .ref q] H Q E := by
  unfold spMiddle
  exact ⟨q, n, es, rfl, h1, hn, hq, hS, hl, fin⟩
set_option maxHeartbeats 4000000 in
theorem ok_middle {f : Addr} {fd : FuncData} (F : Fun K "middle" "middle" s_middle f fd) (C : Cal P w K mg base "read_net" 2 ["places", "lines"] spRead) (C2 : Cal P w K mg base "members" 1 ["lot"] spMembers)
    (C3 : Cal P w K mg base "_lots_by_rounds" 3 ["near"] spLots) :
    FnOk P w K mg base CX0 4 f fd ["places", "lines"] spMiddle := by
  refine F.ok sc_middle (fun vs H Q E h => ?_) (fun cdv A outer s H vs Q E hr h => ?_)
  · unfold spMiddle at h
    obtain ⟨q, n, es, rfl, _⟩ := h
    rfl
  · have nd := sc_middle.nd
    have hS := sc_middle
    have hKM : KMark K := ⟨⟩
    refine' mk_body ?body ?rd
    case body =>
      show PSs _ [_] _
      wtm_at "fo ss"
    case rd =>
     unfold spMiddle at h
     obtain ⟨q, n, es, rfl, h1, hn, hq, hSi, hl, fin⟩ := h
     wtm_at "fo r"
     refine call_read h1 hn hq hSi hl (fun r H1 sm1 nr hr1 => ?_)
     wtm_at "fo r"
     refine call_lots hn hSi hr1 (fun D H2 L k u sm2 nD hD hk hu hlu _ _ => ?_)
     wtm_at "fo r"
     refine Or.inl ⟨D, _, -1, _, rfl, rfl, SqL.of hD, at_last hk hu, ?_⟩
     wtm_at "fo r"
     have hI : InNet n (midM n es) := (inNet_all n).round 13
     refine call_members (Nat.lt_of_lt_of_le (lot_small hlu fun x hx => (hI.rng x hx).2) (Nat.pow_le_pow_right (by decide) (by omega))) (fun p H3 sm3 np hp => ?_)
     rw [members_lot hlu hI.lt fun x hx => (hI.rng x hx).1] at hp
     exact fin p H3 ((sm1.trans sm2).trans sm3) ((sm1.trans sm2).free np) hp
end
/-! piece PQa -/
section
local macro_rules | `(tactic| wtm_at "fo s") => `(tactic| ((with_reducible show PS _ (.AugAssign (.Name _ _) .BitAnd _ _) _); refine' ps_aug (i := 2) (by assumption) rfl (by first | exact Or.inl rfl | exact Or.inr rfl) ?ka ip_and; (case ka => wtm_at "fo e")))
local macro_rules | `(tactic| wtm_at "fo s") => `(tactic| ((with_reducible show PS _ (.AugAssign (.Name _ _) .BitOr _ _) _); refine' ps_aug (i := 4) (by assumption) rfl (by first | exact Or.inl rfl | exact Or.inr rfl) ?ka ip_or; (case ka => wtm_at "fo e")))
variable {P : Program} {w : World} {K : PySem.W.Frag} {mg : Str → Option Value} {base : Heap}
/-! ### check_place, _read_both -/
@[irreducible] def spCPl : Sp := fun vs H Q _ => ∃ (r : Addr) (xs : List V) (n : Nat) (p : Int), vs = [.ref r, .int p] ∧ H r = some (.lst xs) ∧ xs.length = n + 1 ∧ 1 ≤ p ∧ p ≤ n ∧ Q .non H
theorem call_cpl {r : Addr} {xs : List V} {n : Nat} {p : Int} {H : Hp} {Q : VK} {E : XK} (hr : H r = some (.lst xs)) (hl : xs.length = n + 1) (h1 : 1 ≤ p) (h2 : p ≤ n) (q : Q .non H) : spCPl [.ref r, .int p] H Q E := by
  unfold spCPl
  exact ⟨r, xs, n, p, rfl, hr, hl, h1, h2, q⟩
set_option maxHeartbeats 4000000 in
theorem ok_cpl {f : Addr} {fd : FuncData} (F : Fun K "check_place" "check_place" s_check_place f fd) (mn : mg "len" = none) (C : Cal P w K mg base "is_place" 1 ["place", "places"] spIsPlace) :
    FnOk P w K mg base CX0 2 f fd ["near", "place"] spCPl := by
  refine F.ok sc_check_place (fun vs H Q E h => ?_) (fun cdv A outer s H vs Q E hr h => ?_)
  · unfold spCPl at h
    obtain ⟨r, xs, n, p, rfl, _⟩ := h
    rfl
  · have nd := sc_check_place.nd
    have hS := sc_check_place
    have hKM : KMark K := ⟨⟩
    refine' mk_body ?body ?rd
    case body =>
      show PSs _ [_] _
      wtm_at "fo ss"
    case rd =>
     unfold spCPl at h
     obtain ⟨r, xs, n, p, rfl, h0, hl, h1, h2, fin⟩ := h
     refine ⟨_, rfl, _, rfl, r, _, rfl, Or.inl (SqL.of h0), _, _, rfl, rfl, ?_⟩
     refine call_isplace ⟨_, rfl, ?_⟩
     refine ifF (by rw [decide_eq_true (by rw [hl]; omega)]; rfl) ?_
     exact fin
@[irreducible] def spBoth : Sp := fun vs H Q _ => ∃ (q : Addr) (n : Nat) (h t : Int) (es : List Edge), vs = [.int n, .ref q, .int h, .int t] ∧ 1 ≤ n ∧ n ≤ 12 ∧ Pairs H q es ∧ Simp n es ∧ es.length ≤ 200 ∧ (1 ≤ h ∧ h ≤ n) ∧ (1 ≤ t ∧ t ≤ n) ∧
  ∀ r H', Same H H' → H r = none → H' r = some (nLst (nearB n es)) → Q (.ref r) H'
theorem call_both {q : Addr} {n : Nat} {h t : Int} {es : List Edge} {H : Hp} {Q : VK} {E : XK} (b1 : 1 ≤ n) (b2 : n ≤ 12) (b3 : Pairs H q es) (b4 : Simp n es) (b5 : es.length ≤ 200) (hh : 1 ≤ h ∧ h ≤ n) (ht : 1 ≤ t ∧ t ≤ n)
    (fin : ∀ r H', Same H H' → H r = none → H' r = some (nLst (nearB n es)) → Q (.ref r) H') : spBoth [.int n, .ref q, .int h, .int t] H Q E := by
  unfold spBoth
  exact ⟨q, n, h, t, es, rfl, b1, b2, b3, b4, b5, hh, ht, fin⟩
set_option maxHeartbeats 4000000 in
theorem ok_both {f : Addr} {fd : FuncData} (F : Fun K "_read_both" "_read_both" s_read_both f fd) (C : Cal P w K mg base "read_net" 2 ["places", "lines"] spRead) (C2 : Cal P w K mg base "check_place" 2 ["near", "place"] spCPl) :
    FnOk P w K mg base CX0 3 f fd ["places", "lines", "seeker", "fleer"] spBoth := by
  refine F.ok sc_read_both (fun vs H Q E h => ?_) (fun cdv A outer s H vs Q E hr h => ?_)
  · unfold spBoth at h
    obtain ⟨q, n, h, t, es, rfl, _⟩ := h
    rfl
  · have nd := sc_read_both.nd
    have hS := sc_read_both
    have hKM : KMark K := ⟨⟩
    refine' mk_body ?body ?rd
    case body =>
      show PSs _ [_, _, _, _] _
      wtm_at "fo ss"
    case rd =>
     unfold spBoth at h
     obtain ⟨q, n, h, t, es, rfl, b1, b2, b3, b4, b5, hh, ht, fin⟩ := h
     wtm_at "fo r"
     refine call_read b1 b2 b3 b4 b5 (fun r H1 sm1 nr hr => ?_)
     have hrl : ((nearB n es).map fun (v : Nat) => V.int v).length = n + 1 := by rw [List.length_map, nearB_length]
     wtm_at "fo r"
     refine call_cpl hr hrl hh.1 hh.2 ?_
     wtm_at "fo r"
     refine call_cpl hr hrl ht.1 ht.2 ?_
     exact ⟨_, rfl, fin r H1 sm1 nr hr⟩
/-! ### _same_places -/
@[irreducible] def spSameP : Sp := fun vs H Q _ => ∃ (r : Addr) (xs : List V) (n : Nat), vs = [.ref r] ∧ H r = some (.lst xs) ∧ xs.length = n + 1 ∧ n ≤ 12 ∧ ∀ p H', Same H H' → H p = none → H' p = some (nLst (sameM n)) → Q (.ref p) H'
theorem call_samep {r : Addr} {xs : List V} {n : Nat} {H : Hp} {Q : VK} {E : XK} (hr : H r = some (.lst xs)) (hl : xs.length = n + 1) (hn : n ≤ 12)
    (fin : ∀ p H', Same H H' → H p = none → H' p = some (nLst (sameM n)) → Q (.ref p) H') : spSameP [.ref r] H Q E := by
  unfold spSameP
  exact ⟨r, xs, n, rfl, hr, hl, hn, fin⟩
theorem pow_int (k : Nat) : (1 : Int) * 2 ^ ((1 : Int) + (k : Int)).toNat = ((2 ^ (k + 1) : Nat) : Int) := by
  rw [Int.one_mul, show ((1 : Int) + (k : Int)).toNat = k + 1 by omega, Int.natCast_pow]
  rfl
set_option maxHeartbeats 4000000 in
theorem ok_samep {f : Addr} {fd : FuncData} (F : Fun K "_same_places" "_same_places" s_same_places f fd) (mr : mg "range" = none) (mn : mg "len" = none) :
    FnOk P w K mg base CX0 1 f fd ["near"] spSameP := by
  refine F.ok sc_same_places (fun vs H Q E h => ?_) (fun cdv A outer s H vs Q E hr h => ?_)
  · unfold spSameP at h
    obtain ⟨r, xs, n, rfl, _⟩ := h
    rfl
  · have nd := sc_same_places.nd
    have hS := sc_same_places
    have hKM : KMark K := ⟨⟩
    refine' mk_body ?body ?rd
    case body =>
      show PSs _ [_] _
      wtm_at "fo ss"
    case rd =>
     unfold spSameP at h
     obtain ⟨r, xs, n, rfl, h0, hl, hn, fin⟩ := h
     refine ⟨(Nat.le_of_ble_eq_true rfl : _ ≤ sizeLine), fun c nc => ?_⟩
     have smc : Same H (upd H c (.lst [.int 0])) := same_upd (Same.refl _) nc
     have hc : (upd H c (.lst [.int 0])) c = some (.lst [.int 0]) := upd_same
     generalize upd H c (.lst [.int 0]) = H1 at *
     refine ⟨_, rfl, r, _, rfl, Or.inl (SqL.of (smc _ _ h0)), _, _, rfl, ⟨by decide, by decide, by omega, by omega⟩, fun D nD => ?_⟩
     have hN : ((xs.length : Int) - 1).toNat = n := by omega
     refine lc_range (lo := 1) (n := ((xs.length : Int) - 1).toNat) (fun i H2 => Same H1 H2 ∧ H2 D = some (nLst ((List.range i).map fun i => 2 ^ (i + 1)))) ?_ ?_ ?_
     · exact ⟨same_upd (Same.refl _) nD, upd_same⟩
     · rintro i H2 hi ⟨sm2, hD⟩
       rw [hN] at hi
       refine ⟨rfl, _, rfl, _, _, rfl, rfl, ⟨by omega, by omega, by decide⟩, ?_⟩
       refine ⟨_, hD, ?_, same_upd sm2 nD, ?_⟩
       · rw [List.length_map, List.length_map, List.length_range]
         exact Nat.lt_of_lt_of_le (m := 20) (by omega) (by decide)
       · rw [upd_same, List.range_succ]
         unfold nLst
         rw [List.map_append, List.map_append]
         show some (HO.lst (_ ++ [V.int (1 * 2 ^ ((1 : Int) + (i : Int)).toNat)])) = _
         rw [pow_int]
         rfl
     · rintro H2 ⟨sm2, hD⟩
       rw [hN] at hD
       refine Or.inr ⟨c, D, _, _, rfl, rfl, sm2 _ _ hc, hD, ?_, fun p np => ?_⟩
       · rw [List.length_map, List.length_map, List.length_range]
         exact Nat.le_trans (m := 20) (by show 1 + n ≤ 20; omega) (by decide)
       · refine fin p _ (smc.trans (sm2.trans (same_upd (Same.refl _) np))) (smc.free (sm2.free np)) ?_
         rw [upd_same]
         rfl
/-! ### _common -/
@[irreducible] def spCommon : Sp := fun vs H Q _ => ∃ (r q : Addr) (n : Nat) (ls : List Nat) (ps : List Int), vs = [.ref r, .ref q] ∧ H r = some (nLst ls) ∧ ls.length = n + 1 ∧ H q = some (iL ps) ∧ ps ≠ [] ∧ (∀ p ∈ ps, 1 ≤ p ∧ p ≤ n) ∧ Q (.int (commonM ls ps : Nat)) H
theorem call_common {r q : Addr} {n : Nat} {ls : List Nat} {ps : List Int} {H : Hp} {Q : VK} {E : XK} (hr : H r = some (nLst ls)) (hl : ls.length = n + 1) (hq : H q = some (iL ps)) (h0 : ps ≠ []) (hp : ∀ p ∈ ps, 1 ≤ p ∧ p ≤ n) (fin : Q (.int (commonM ls ps : Nat)) H) : spCommon [.ref r, .ref q] H Q E := by
  unfold spCommon
  exact ⟨r, q, n, ls, ps, rfl, hr, hl, hq, h0, hp, fin⟩
set_option maxHeartbeats 4000000 in
theorem ok_common {f : Addr} {fd : FuncData} (F : Fun K "_common" "_common" s_common f fd) :
    FnOk P w K mg base CX0 1 f fd ["lots", "places"] spCommon := by
  refine F.ok sc_common (fun vs H Q E h => ?_) (fun cdv A outer s H vs Q E hr h => ?_)
  · unfold spCommon at h
    obtain ⟨r, q, n, ls, ps, rfl, _⟩ := h
    rfl
  · have nd := sc_common.nd
    have hS := sc_common
    have hKM : KMark K := ⟨⟩
    refine' mk_body ?body ?rd
    case body =>
      show PSs _ [_, _, _] _
      wtm_at "fo ss"
    case rd =>
     unfold spCommon at h
     obtain ⟨r, q, n, ls, ps, rfl, h0, hl, hq, hne, hp, fin⟩ := h
     have hget : ∀ p : Int, 1 ≤ p → p ≤ n → (ls.map fun (v : Nat) => V.int v)[p.toNat]? = some (.int (ls.getD p.toNat 0 : Nat)) := fun p h1 h2 => by
       rw [List.getElem?_map, List.getD_eq_getElem?_getD, List.getElem?_eq_getElem (by omega)]
       rfl
     obtain ⟨p0, l0, rfl⟩ : ∃ p0 l0, ps = p0 :: l0 := by
       cases ps with
       | nil => exact absurd rfl hne
       | cons a b => exact ⟨a, b, rfl⟩
     have hp0 := hp p0 (List.mem_cons_self ..)
     refine ⟨_, rfl, _, rfl, Or.inl ⟨q, _, 0, .int p0, rfl, rfl, SqL.of hq, at_of (j := 0) rfl rfl, ?_⟩⟩
     refine Or.inl ⟨r, _, p0, .int (ls.getD p0.toNat 0 : Nat), rfl, rfl, SqL.of h0, at_of (j := p0.toNat) (by omega) (hget p0 hp0.1 hp0.2), ?_⟩
     refine ⟨_, rfl, q, rfl, ⟨_, SqL.of hq⟩, ?_⟩
     refine for_list (K := K) (xs := (p0 :: l0).map V.int) (fun i σ H3 => ∃ (y : Option V), σ = [some (.ref r), some (.ref q), some (.int (((p0 :: l0).take i).foldl (fun a p => a &&& ls.getD p.toNat 0) (ls.getD p0.toNat 0) : Nat)), y] ∧ H3 = H) ?_ ?_ ?_ ?_
     · exact ⟨none, rfl, rfl⟩
     · rintro i σ H3 _ ⟨y, rfl, rfl⟩
       exact SqL.of hq
     · rintro i x σ H3 hx ⟨y, rfl, rfl⟩
       obtain ⟨p, hpx, rfl⟩ := int_at hx
       have hpr := hp p (List.mem_of_getElem? hpx)
       have htk : (p0 :: l0).take (i + 1) = (p0 :: l0).take i ++ [p] := by rw [List.take_add_one, hpx]; rfl
       refine ⟨_, rfl, _, rfl, _, rfl, Or.inl ⟨r, _, p, .int (ls.getD p.toNat 0 : Nat), rfl, rfl, SqL.of h0, at_of (j := p.toNat) (by omega) (hget p hpr.1 hpr.2), _, _, rfl, rfl, ?_⟩⟩
       refine ⟨some (.int p), ?_, rfl⟩
       rw [htk, List.foldl_append]
       generalize ((p0 :: l0).take i).foldl (fun a p => a &&& ls.getD p.toNat 0) (ls.getD p0.toNat 0) = u at *
       show [some (V.ref r), some (V.ref q), some (V.int (Builtin.bitAnd (u : Int) ((ls.getD p.toNat 0 : Nat) : Int))), some (V.int p)] = _
       rw [bAnd]
       rfl
     · rintro σ H3 ⟨y, rfl, rfl⟩
       rw [List.length_map, List.take_length]
       exact ⟨_, rfl, fin⟩
end
/-! piece PQb -/
section
local macro_rules | `(tactic| wtm_at "fo s") => `(tactic| ((with_reducible show PS _ (.AugAssign (.Name _ _) .BitOr _ _) _); refine' ps_aug (i := 4) (by assumption) rfl (by first | exact Or.inl rfl | exact Or.inr rfl) ?ka ip_or; (case ka => wtm_at "fo e")))
/-- the rows of where one may go from each place -/
def AnsAt (H : Hp) (a : Addr) (n : Nat) (es : List Edge) : Prop := ∃ rs : List Addr, H a = some (.lst (rs.map V.ref)) ∧ rs.length = n + 1 ∧ ∀ p : Nat, 1 ≤ p → p ≤ n → ∃ r, rs[p]? = some r ∧ H r = some (iL (besideM n es (p : Int)))
theorem AnsAt.same {H H' : Hp} {a : Addr} {n : Nat} {es : List Edge} (h : AnsAt H a n es) (s : Same H H') : AnsAt H' a n es := by
  obtain ⟨rs, h1, h2, h3⟩ := h
  refine ⟨rs, s _ _ h1, h2, fun p a b => ?_⟩
  obtain ⟨r, x, y⟩ := h3 p a b
  exact ⟨r, x, s _ _ y⟩
variable {P : Program} {w : World} {K : PySem.W.Frag} {mg : Str → Option Value} {base : Heap}
/-! ### _traps -/
@[irreducible] def spTraps : Sp := fun vs H Q _ => ∃ (a s : Addr) (n : Nat) (es : List Edge) (ls : List Nat), vs = [.ref a, .ref s] ∧ n ≤ 12 ∧ Simp n es ∧ AnsAt H a n es ∧ H s = some (nLst ls) ∧ ls.length = n + 1 ∧ ∀ p H', Same H H' → H p = none → H' p = some (nLst (trapsM n es ls)) → Q (.ref p) H'
theorem call_traps {a s : Addr} {n : Nat} {es : List Edge} {ls : List Nat} {H : Hp} {Q : VK} {E : XK} (hn : n ≤ 12) (hS : Simp n es) (ha : AnsAt H a n es) (hs : H s = some (nLst ls)) (hl : ls.length = n + 1)
    (fin : ∀ p H', Same H H' → H p = none → H' p = some (nLst (trapsM n es ls)) → Q (.ref p) H') : spTraps [.ref a, .ref s] H Q E := by
  unfold spTraps
  exact ⟨a, s, n, es, ls, rfl, hn, hS, ha, hs, hl, fin⟩
set_option maxHeartbeats 4000000 in
theorem ok_traps {f : Addr} {fd : FuncData} (F : Fun K "_traps" "_traps" s_traps f fd) (mr : mg "range" = none) (mn : mg "len" = none) (C : Cal P w K mg base "_common" 1 ["lots", "places"] spCommon) :
    FnOk P w K mg base CX0 2 f fd ["answers", "sure"] spTraps := by
  refine F.ok sc_traps (fun vs H Q E h => ?_) (fun cdv A outer s H vs Q E hr h => ?_)
  · unfold spTraps at h
    obtain ⟨a, s, n, es, ls, rfl, _⟩ := h
    rfl
  · have nd := sc_traps.nd
    have hS := sc_traps
    have hKM : KMark K := ⟨⟩
    refine' mk_body ?body ?rd
    case body =>
      show PSs _ [_] _
      wtm_at "fo ss"
    case rd =>
     unfold spTraps at h
     obtain ⟨a, s, n, es, ls, rfl, hn, hSe, ha, hs, hl, fin⟩ := h
     refine ⟨(Nat.le_of_ble_eq_true rfl : _ ≤ sizeLine), fun c nc => ?_⟩
     have smc : Same H (upd H c (.lst [.int 0])) := same_upd (Same.refl _) nc
     have hc : (upd H c (.lst [.int 0])) c = some (.lst [.int 0]) := upd_same
     have ha1 := ha.same smc
     have hs1 := smc _ _ hs
     generalize upd H c (.lst [.int 0]) = H1 at *
     obtain ⟨rs, h1, h2, h3⟩ := ha1
     refine ⟨_, rfl, a, _, rfl, Or.inl (SqL.of h1), _, _, rfl, ⟨by decide, by decide, by rw [List.length_map]; omega, by rw [List.length_map]; omega⟩, fun D nD => ?_⟩
     have hN : (((rs.map V.ref).length : Int) - 1).toNat = n := by rw [List.length_map]; omega
     refine lc_range (lo := 1) (n := (((rs.map V.ref).length : Int) - 1).toNat) (fun i H2 => Same H1 H2 ∧ H2 D = some (nLst ((List.range i).map fun (i : Nat) => 2 ^ (i + 1) ||| commonM ls (besideM n es ((i : Int) + 1))))) ?_ ?_ ?_
     · exact ⟨same_upd (Same.refl _) nD, upd_same⟩
     · rintro i H2 hi ⟨sm2, hD⟩
       rw [hN] at hi
       obtain ⟨r, hr1, hr2⟩ := h3 (i + 1) (by omega) (by omega)
       refine ⟨rfl, _, rfl, _, _, rfl, rfl, ⟨by omega, by omega, by decide⟩, ?_⟩
       refine ⟨_, rfl, _, rfl, _, rfl, Or.inl ⟨a, _, 1 + (i : Int), .ref r, rfl, rfl, SqL.of (sm2 _ _ h1), at_of (j := i + 1) (by omega) (by rw [List.getElem?_map, hr1]; rfl), ?_⟩⟩
       refine call_common (sm2 _ _ hs1) hl (sm2 _ _ hr2) (beside_ne hSe (by omega) (by omega)) (fun p hp => besideM_rng hp) ?_
       refine ⟨_, _, rfl, rfl, ?_⟩
       refine ⟨_, hD, ?_, same_upd sm2 nD, ?_⟩
       · rw [List.length_map, List.length_map, List.length_range]
         exact Nat.lt_of_lt_of_le (m := 20) (by omega) (by decide)
       · rw [upd_same, List.range_succ]
         unfold nLst
         rw [List.map_append, List.map_append]
         show some (HO.lst (_ ++ [V.int (Builtin.bitOr (1 * 2 ^ ((1 : Int) + (i : Int)).toNat) ((commonM ls (besideM n es ((i + 1 : Nat) : Int)) : Nat) : Int))])) = _
         rw [pow_int, bOr]
         rfl
     · rintro H2 ⟨sm2, hD⟩
       rw [hN] at hD
       refine Or.inr ⟨c, D, _, _, rfl, rfl, sm2 _ _ hc, hD, ?_, fun p np => ?_⟩
       · rw [List.length_map, List.length_map, List.length_range]
         exact Nat.le_trans (m := 20) (by show 1 + n ≤ 20; omega) (by decide)
       · refine fin p _ (smc.trans (sm2.trans (same_upd (Same.refl _) np))) (smc.free (sm2.free np)) ?_
         rw [upd_same]
         rfl
/-! ### _one_turn_ahead -/
@[irreducible] def spAhead : Sp := fun vs H Q _ => ∃ (r q : Addr) (n : Nat) (es : List Edge) (ls : List Nat), vs = [.ref r, .ref q] ∧ n ≤ 12 ∧ Simp n es ∧ H r = some (nLst (nearB n es)) ∧ H q = some (nLst ls) ∧ ls.length = n + 1 ∧ (∀ l ∈ ls, ∀ k : Nat, l.testBit k = true → 1 ≤ k ∧ k ≤ n) ∧ ∀ p H', Same H H' → H p = none → H' p = some (nLst (aheadM n es ls)) → Q (.ref p) H'
theorem call_ahead {r q : Addr} {n : Nat} {es : List Edge} {ls : List Nat} {H : Hp} {Q : VK} {E : XK} (hn : n ≤ 12) (hS : Simp n es) (hr : H r = some (nLst (nearB n es))) (hq : H q = some (nLst ls)) (hl : ls.length = n + 1) (hb : ∀ l ∈ ls, ∀ k : Nat, l.testBit k = true → 1 ≤ k ∧ k ≤ n)
    (fin : ∀ p H', Same H H' → H p = none → H' p = some (nLst (aheadM n es ls)) → Q (.ref p) H') : spAhead [.ref r, .ref q] H Q E := by
  unfold spAhead
  exact ⟨r, q, n, es, ls, rfl, hn, hS, hr, hq, hl, hb, fin⟩
theorem lot_of_bits {n l : Nat} (hb : ∀ k : Nat, l.testBit k = true → 1 ≤ k ∧ k ≤ n) : LotIs l ((allM n).filter fun x => l.testBit x.toNat) := fun k => by
  rw [Bool.eq_iff_iff, decide_eq_true_eq, List.mem_filter, allM_mem]
  constructor
  · intro h
    have := hb k h
    exact ⟨by omega, h⟩
  · rintro ⟨_, h⟩
    exact h
set_option maxHeartbeats 4000000 in
theorem ok_ahead {f : Addr} {fd : FuncData} (F : Fun K "_one_turn_ahead" "_one_turn_ahead" s_one_turn_ahead f fd) (C : Cal P w K mg base "members" 1 ["lot"] spMembers) :
    FnOk P w K mg base CX0 2 f fd ["near", "traps"] spAhead := by
  refine F.ok sc_one_turn_ahead (fun vs H Q E h => ?_) (fun cdv A outer s H vs Q E hr h => ?_)
  · unfold spAhead at h
    obtain ⟨r, q, n, es, ls, rfl, _⟩ := h
    rfl
  · have nd := sc_one_turn_ahead.nd
    have hS := sc_one_turn_ahead
    have hKM : KMark K := ⟨⟩
    refine' mk_body ?body ?rd
    case body =>
      show PSs _ [_, _, _] _
      wtm_at "fo ss"
    case rd =>
     unfold spAhead at h
     obtain ⟨r, q, n, es, ls, rfl, hn, hSe, hr0, hq, hl, hb, fin⟩ := h
     refine ⟨(Nat.le_of_ble_eq_true rfl : _ ≤ sizeLine), fun D nD => ?_⟩
     have smD : Same H (upd H D (.lst [])) := same_upd (Same.refl _) nD
     have hD0 : (upd H D (.lst [])) D = some (nLst []) := upd_same
     generalize upd H D (.lst []) = H1 at *
     refine ⟨_, rfl, q, rfl, ⟨_, SqL.of (smD _ _ hq)⟩, ?_⟩
     refine for_list (K := K) (xs := ls.map fun (v : Nat) => V.int v) (fun i σ H3 => ∃ (y3 y4 y5 : Option V), σ = [some (.ref r), some (.ref q), some (.ref D), y3, y4, y5] ∧ Same H H3 ∧ H3 D = some (nLst ((ls.take i).map fun lot => besideL n es (membersM lot)))) ?_ ?_ ?_ ?_
     · exact ⟨none, none, none, rfl, smD, hD0⟩
     · rintro i σ H3 _ ⟨y3, y4, y5, rfl, sm3, _⟩
       exact SqL.of (sm3 _ _ hq)
     · rintro i x σ H3 hx ⟨y3, y4, y5, rfl, sm3, hD3⟩
       rw [List.getElem?_map] at hx
       cases hli : ls[i]? with
       | none => rw [hli] at hx; cases hx
       | some lot =>
       rw [hli] at hx
       cases hx
       have hil : i < ls.length := (List.getElem?_eq_some_iff.mp hli).1
       have hlb := hb lot (List.mem_of_getElem? hli)
       have htk : ls.take (i + 1) = ls.take i ++ [lot] := by rw [List.take_add_one, hli]; rfl
       have hlot := lot_of_bits hlb
       have hv13 : lot < 2 ^ 20 := Nat.lt_of_lt_of_le (lot_small hlot fun x hx => (allM_mem.mp (List.mem_filter.mp hx).1).2) (Nat.pow_le_pow_right (by decide) (by omega))
       have hmr : ∀ x ∈ membersM lot, 1 ≤ x ∧ x ≤ n := fun x hx => by
         rw [membersM_mem] at hx
         have := hlb _ hx.2
         omega
       refine ⟨_, rfl, ?_⟩
       refine call_members hv13 (fun p6 H6 sm6 np6 hp6 => ?_)
       refine ⟨p6, rfl, ⟨_, SqL.of hp6⟩, ?_⟩
       refine for_list (K := K) (xs := (membersM lot).map V.int) (fun j σ H7 => ∃ (y5 : Option V), σ = [some (.ref r), some (.ref q), some (.ref D), some (.int (lot : Nat)), some (.int (((membersM lot).take j).foldl (fun b p => b ||| (nearB n es).getD p.toNat 0) 0 : Nat)), y5] ∧ H7 = H6) ?_ ?_ ?_ ?_
       · exact ⟨y5, rfl, rfl⟩
       · rintro j σ H7 _ ⟨y5, rfl, rfl⟩
         exact SqL.of hp6
       · rintro j x σ H7 hx2 ⟨y5, rfl, rfl⟩
         obtain ⟨z, hz, rfl⟩ := int_at hx2
         have hzr := hmr z (List.mem_of_getElem? hz)
         have hmk : (membersM lot).take (j + 1) = (membersM lot).take j ++ [z] := by rw [List.take_add_one, hz]; rfl
         have hg : ((nearB n es).map fun (v : Nat) => V.int v)[z.toNat]? = some (.int ((nearB n es).getD z.toNat 0 : Nat)) := by
           rw [List.getElem?_map, List.getD_eq_getElem?_getD, List.getElem?_eq_getElem (by rw [nearB_length]; omega)]
           rfl
         refine ⟨_, rfl, _, rfl, _, rfl, Or.inl ⟨r, _, z, .int ((nearB n es).getD z.toNat 0 : Nat), rfl, rfl, SqL.of (sm6 _ _ (sm3 _ _ hr0)), at_of (j := z.toNat) (by omega) hg, _, _, rfl, rfl, ?_⟩⟩
         refine ⟨some (.int z), ?_, rfl⟩
         rw [hmk, List.foldl_append]
         generalize ((membersM lot).take j).foldl (fun b p => b ||| (nearB n es).getD p.toNat 0) 0 = u at *
         show [some (V.ref r), some (V.ref q), some (V.ref D), some (V.int (lot : Nat)), some (V.int (Builtin.bitOr (u : Int) (((nearB n es).getD z.toNat 0 : Nat) : Int))), some (V.int z)] = _
         rw [bOr]
         rfl
       · rintro σ H7 ⟨y5, rfl, rfl⟩
         rw [List.length_map, List.take_length]
         have hD6 := sm6 _ _ hD3
         refine ⟨_, rfl, .inl ⟨rfl, _, SqL.of hD6⟩, ?_⟩
         refine ⟨_, rfl, D, _, _, rfl, rfl, hD6, ?_, ?_⟩
         · rw [List.length_map, List.length_map, List.length_take]
           exact Nat.lt_of_lt_of_le (m := 20) (by omega) (by decide)
         · refine ⟨_, _, _, rfl, same_upd (sm3.trans sm6) nD, ?_⟩
           rw [upd_same, htk, List.map_append]
           unfold nLst
           rw [List.map_append]
           rfl
     · rintro σ H3 ⟨y3, y4, y5, rfl, sm3, hD3⟩
       rw [List.length_map, List.take_length] at hD3
       exact ⟨_, rfl, fin D H3 sm3 nD hD3⟩
end
/-! piece PQc -/
section
local macro_rules | `(tactic| wtm_at "fo s") => `(tactic| ((with_reducible show PS _ (.AugAssign (.Name _ _) .Add _ _) _); refine' ps_aug (i := 5) (by assumption) rfl (by first | exact Or.inl rfl | exact Or.inr rfl) ?ka ip_add; (case ka => wtm_at "fo e")))
variable {P : Program} {w : World} {K : PySem.W.Frag} {mg : Str → Option Value} {base : Heap}
/-! ### _best_going -/
@[irreducible] def spGoing : Sp := fun vs H Q _ => ∃ (r : Addr) (n : Nat) (es : List Edge) (h t : Int), vs = [.ref r, .int h, .int t] ∧ 1 ≤ n ∧ n ≤ 12 ∧ Simp n es ∧ H r = some (nLst (nearB n es)) ∧ (1 ≤ h ∧ h ≤ n) ∧ (1 ≤ t ∧ t ≤ n) ∧
  (∀ p H', h = t → Same H H' → H p = none → H' p = some (.tup [.int 0, .non]) → Q (.ref p) H') ∧
  (∀ p k g l H', h ≠ t → (∀ j, j ≤ k → wB n es j h t = false) → goalsM n es k h t = g :: l → Same H H' → H p = none → H' p = some (.tup [.int ((k + 1 : Nat) : Int), .int g]) → Q (.ref p) H') ∧
  ∀ p H', h ≠ t → (∀ j, wB n es j h t = false) → Same H H' → H p = none → H' p = some (.tup [.non, .non]) → Q (.ref p) H'
theorem call_going {r : Addr} {n : Nat} {es : List Edge} {h t : Int} {H : Hp} {Q : VK} {E : XK} (b1 : 1 ≤ n) (hn : n ≤ 12) (hS : Simp n es) (hr : H r = some (nLst (nearB n es))) (hh : 1 ≤ h ∧ h ≤ n) (ht : 1 ≤ t ∧ t ≤ n)
    (f0 : ∀ p H', h = t → Same H H' → H p = none → H' p = some (.tup [.int 0, .non]) → Q (.ref p) H')
    (f1 : ∀ p k g l H', h ≠ t → (∀ j, j ≤ k → wB n es j h t = false) → goalsM n es k h t = g :: l → Same H H' → H p = none → H' p = some (.tup [.int ((k + 1 : Nat) : Int), .int g]) → Q (.ref p) H')
    (f2 : ∀ p H', h ≠ t → (∀ j, wB n es j h t = false) → Same H H' → H p = none → H' p = some (.tup [.non, .non]) → Q (.ref p) H') : spGoing [.ref r, .int h, .int t] H Q E := by
  unfold spGoing
  exact ⟨r, n, es, h, t, rfl, b1, hn, hS, hr, hh, ht, f0, f1, f2⟩
/-- the list of what may be answered, made of the lots -/
theorem ans_of {H : Hp} {D : Addr} {rs : List Addr} {n : Nat} {es : List Edge} (hS : Simp n es) (h : RwAt H D rs ((nearB n es).map membersM)) : AnsAt H D n es := by
  refine ⟨rs, h.hD, by rw [h.len, List.length_map, nearB_length], fun p h1 h2 => ?_⟩
  have hp : p < rs.length := by rw [h.len, List.length_map, nearB_length]; omega
  refine ⟨rs[p], List.getElem?_eq_getElem hp, ?_⟩
  have hm : ((nearB n es).map membersM)[p]? = some (besideM n es (p : Int)) := by
    rw [nearB_members hS, show p = (p - 1) + 1 by omega, List.getElem?_cons_succ, List.getElem?_map, List.getElem?_range (by omega)]
    rfl
  exact h.at_ p _ _ (List.getElem?_eq_getElem hp) hm
set_option maxHeartbeats 8000000 in
theorem ok_going {f : Addr} {fd : FuncData} (F : Fun K "_best_going" "_best_going" s_best_going f fd) (C : Cal P w K mg base "members" 1 ["lot"] spMembers) (C2 : Cal P w K mg base "_same_places" 1 ["near"] spSameP)
    (C3 : Cal P w K mg base "_traps" 2 ["answers", "sure"] spTraps) (C4 : Cal P w K mg base "_one_turn_ahead" 2 ["near", "traps"] spAhead) :
    FnOk P w K mg base CX0 3 f fd ["near", "seeker", "fleer"] spGoing := by
  refine F.ok sc_best_going (fun vs H Q E h => ?_) (fun cdv A outer s H vs Q E hr h => ?_)
  · unfold spGoing at h
    obtain ⟨r, n, es, h, t, rfl, _⟩ := h
    rfl
  · have nd := sc_best_going.nd
    have hS := sc_best_going
    have hKM : KMark K := ⟨⟩
    refine' mk_body ?body ?rd
    case body =>
      show PSs _ [_, _, _, _, _, _, _] _
      wtm_at "fo ss"
    case rd =>
     unfold spGoing at h
     obtain ⟨r, n, es, h, t, rfl, b1, hn, hSe, hr0, hh, ht, f0, f1, f2⟩ := h
     refine ⟨_, rfl, _, rfl, Or.inl ⟨rfl, _, rfl, ?_⟩⟩
     by_cases hht : h = t
     · refine ifT (by rw [hht]; simp) ?_
       refine ⟨(Nat.le_of_ble_eq_true rfl : _ ≤ sizeLine), fun p np => ?_⟩
       exact f0 p _ hht (same_upd (Same.refl _) np) np upd_same
     refine ifF (decide_eq_false fun e => hht (V.int.inj e)) ?_
     refine ⟨_, rfl, r, rfl, ⟨_, SqL.of hr0⟩, fun A0 nA0 => ?_⟩
     refine lc_list (K := K) (xs := (nearB n es).map fun (v : Nat) => V.int v) (fun i G => Same H G ∧ ∃ rs, RwAt G A0 rs (((nearB n es).take i).map membersM) ∧ A0 ∉ rs) ?_ ?_ ?_ ?_
     · exact ⟨same_upd (Same.refl _) nA0, [], RwAt.nil upd_same, by simp⟩
     · rintro i G _ ⟨smG, _⟩
       exact SqL.of (smG _ _ hr0)
     · rintro i x G hx ⟨smG, rs, hRw, hA⟩
       rw [List.getElem?_map] at hx
       cases hli : (nearB n es)[i]? with
       | none => rw [hli] at hx; cases hx
       | some v =>
       rw [hli] at hx
       cases hx
       have hil : i < n + 1 := by
         have := (List.getElem?_eq_some_iff.mp hli).1
         rwa [nearB_length] at this
       have htk : (nearB n es).take (i + 1) = (nearB n es).take i ++ [v] := by rw [List.take_add_one, hli]; rfl
       refine ⟨rfl, _, rfl, ?_⟩
       refine call_members (Nat.lt_of_lt_of_le (nearB_small hSe hli) (Nat.pow_le_pow_right (by decide) (by omega))) (fun p6 H6 sm6 np6 hp6 => ?_)
       have hRw6 := hRw.same sm6
       have hne : p6 ≠ A0 := (ne_of_none hRw.hD np6).symm
       refine ⟨_, hRw6.hD, ?_, same_upd (smG.trans sm6) nA0, rs ++ [p6], ?_, ?_⟩
       · rw [List.length_map, hRw6.len, List.length_map, List.length_take]
         exact Nat.lt_of_lt_of_le (m := 20) (by omega) (by decide)
       · rw [htk, List.map_append]
         exact hRw6.push hp6 hne hA
       · intro hm
         rcases List.mem_append.mp hm with hm | hm
         · exact hA hm
         · exact hne (List.mem_singleton.mp hm).symm
     rintro G1 ⟨smG1, rsA, hRwA, _⟩
     rw [List.length_map, List.take_length] at hRwA
     have hAns := ans_of hSe hRwA
     clear hRwA
     refine ⟨(Nat.le_of_ble_eq_true rfl : _ ≤ sizeLine), fun b0 nb0 => ?_⟩
     have smb : Same G1 (upd G1 b0 (.lst [])) := same_upd (Same.refl _) nb0
     have hb0 : (upd G1 b0 (.lst [])) b0 = some (nLst []) := upd_same
     generalize upd G1 b0 (.lst []) = G2 at *
     refine ⟨_, rfl, ?_⟩
     refine call_samep (n := n) (smb _ _ (smG1 _ _ hr0)) (by rw [List.length_map, nearB_length]) hn (fun s0 G3 sm3 ns0 hs0 => ?_)
     have s13 := smb.trans sm3
     have sH3 := smG1.trans s13
     let W : Nat → Sl → Hp → Prop := fun m σ G => ∃ (k : Nat) (b s : Addr) (bl : List Nat) (y8 y9 : Option V), σ = [some (.ref r), some (.int h), some (.int t), some (.ref A0), none, some (.int k), some (.ref b), some (.ref s), y8, y9] ∧ m = n * n + 2 - k ∧ Same H G ∧ AnsAt G A0 n es ∧ G b = some (nLst bl) ∧ G s = some (nLst (sureM n es k)) ∧
       ((k = 0 ∧ bl = []) ∨ ∃ j, k = j + 1 ∧ bl = sureM n es j) ∧ (∀ j, j ≤ k → wB n es j h t = false) ∧ ∀ j, j + 1 < k → ¬ Still n es j
     refine ⟨W, ⟨_, 0, b0, s0, [], none, none, rfl, rfl, sH3, hAns.same s13, sm3 _ _ hb0, hs0, .inl ⟨rfl, rfl⟩, fun j hj => ?_, fun j hj => absurd hj (Nat.not_lt_zero _)⟩, fun m σ G hW => ?_⟩
     · obtain rfl : j = 0 := by omega
       exact decide_eq_false hht
     obtain ⟨k, b, s, bl, y8, y9, rfl, rfl, smG, hA, hb, hs, hbk, hno, hst⟩ := hW
     have cst : ∀ l : List Nat, nLst l = .lst ((l.map fun (v : Nat) => (v : Int)).map V.int) := fun l => by unfold nLst; rw [List.map_map]; rfl
     have hb' := hb
     have hs' := hs
     rw [cst] at hb' hs'
     refine ⟨_, rfl, _, rfl, Or.inr ⟨_, _, dp_dI' (SqL.of hs'), dp_dI' (SqL.of hb'), shaped_ints _, shaped_ints _, _, rfl, ?_⟩⟩
     rw [eqv_ints_dec]
     by_cases he : (sureM n es k).map (fun (v : Nat) => (v : Int)) = bl.map fun (v : Nat) => (v : Int)
     · refine ifF (by rw [decide_eq_true he]; rfl) ?_
       have he' : sureM n es k = bl := (List.map_inj_right fun _ _ e => Int.ofNat.inj e).mp he
       refine ⟨(Nat.le_of_ble_eq_true rfl : _ ≤ sizeLine), fun p np => ?_⟩
       rcases hbk with ⟨rfl, rfl⟩ | ⟨j, rfl, rfl⟩
       · have := congrArg List.length he'
         rw [sure_len] at this
         simp at this
       · have hsj := (sure_eq hSe).mp he'
         refine f2 p _ hht (fun i => ?_) (smG.trans (same_upd (Same.refl _) np)) (smG.free np) upd_same
         by_cases hij : i ≤ j
         · exact hno i (by omega)
         · rw [hsj.eq (by omega) hh.1 hh.2 ht.1 ht.2]
           exact hno j (by omega)
     refine ifT (by rw [decide_eq_false he]; rfl) ?_
     have hst2 : ∀ j, j < k → ¬ Still n es j := fun j hj hsj => by
       by_cases hj2 : j + 1 < k
       · exact hst j hj2 hsj
       rcases hbk with ⟨rfl, rfl⟩ | ⟨i, rfl, rfl⟩
       · omega
       · obtain rfl : j = i := by omega
         exact he (by rw [(sure_eq hSe).mpr hsj])
     have hk2 := steps_bound hSe hst2
     refine ⟨fun σ' H' => ∃ m', m' < n * n + 2 - k ∧ W m' σ' H', fun _ _ h => h, ?_⟩
     refine ⟨_, rfl, _, rfl, ?_⟩
     refine call_traps hn hSe hA hs (sure_len n es k) (fun q G4 sm4 nq hq => ?_)
     refine ⟨_, rfl, _, _, rfl, rfl, ?_⟩
     have hT : ((trapsM n es (sureM n es k)).map fun (v : Nat) => V.int v)[t.toNat]? = some (.int ((trapsM n es (sureM n es k)).getD t.toNat 0 : Nat)) := by
       rw [List.getElem?_map, List.getD_eq_getElem?_getD, List.getElem?_eq_getElem (by rw [traps_len]; omega)]
       rfl
     have hnl : h.toNat < (nearB n es).length := by rw [nearB_length]; omega
     have hN0 : (nearB n es)[h.toNat]? = some ((nearB n es).getD h.toNat 0) := by
       rw [List.getD_eq_getElem?_getD, List.getElem?_eq_getElem hnl]
       rfl
     have hN : ((nearB n es).map fun (v : Nat) => V.int v)[h.toNat]? = some (.int ((nearB n es).getD h.toNat 0 : Nat)) := by
       rw [List.getElem?_map, hN0]
       rfl
     refine ⟨_, rfl, _, rfl, Or.inl ⟨q, _, t, .int ((trapsM n es (sureM n es k)).getD t.toNat 0 : Nat), rfl, rfl, SqL.of hq, at_of (j := t.toNat) (by omega) hT, ?_⟩⟩
     refine ⟨_, rfl, _, rfl, Or.inl ⟨r, _, h, .int ((nearB n es).getD h.toNat 0 : Nat), rfl, rfl, SqL.of (sm4 _ _ (smG _ _ hr0)), at_of (j := h.toNat) (by omega) hN, _, _, rfl, rfl, ?_⟩⟩
     have hmm : ∀ Q E, spMembers [.int (((trapsM n es (sureM n es k)).getD t.toNat 0 &&& (nearB n es).getD h.toNat 0 : Nat) : Int)] G4 Q E → spMembers [.int (Builtin.bitAnd (((trapsM n es (sureM n es k)).getD t.toNat 0 : Nat) : Int) (((nearB n es).getD h.toNat 0 : Nat) : Int))] G4 Q E := fun _ _ hx => by rw [bAnd]; exact hx
     refine hmm _ _ ?_
     refine call_members (Nat.lt_of_le_of_lt Nat.and_le_right (Nat.lt_of_lt_of_le (nearB_small hSe hN0) (Nat.pow_le_pow_right (by decide) (by omega)))) (fun p6 H6 sm6 np6 hp6 => ?_)
     rw [goals_members hSe hh.1 hh.2 ht.1 ht.2] at hp6
     have smG6 : Same G H6 := sm4.trans sm6
     have sH6 := smG.trans smG6
     refine ⟨_, rfl, _, .inl ⟨_, SqL.of hp6, rfl⟩, ?_⟩
     cases hg : goalsM n es k h t with
     | cons g l =>
       rw [hg] at hp6
       refine ifT rfl ?_
       refine ⟨_, rfl, _, rfl, Or.inl ⟨p6, _, 0, .int g, rfl, rfl, SqL.of hp6, at_of (j := 0) rfl rfl, (Nat.le_of_ble_eq_true rfl : _ ≤ sizeLine), fun p np => ?_⟩⟩
       exact f1 p k g l _ hht hno hg (sH6.trans (same_upd (Same.refl _) np)) (sH6.free np) upd_same
     | nil =>
       refine ifF rfl ?_
       refine ⟨_, rfl, _, rfl, _, rfl, ?_⟩
       refine call_ahead hn hSe (sH6 _ _ hr0) (sm6 _ _ hq) (traps_len n es _) (traps_bits hSe k) (fun q7 H7 sm7 nq7 hq7 => ?_)
       refine ⟨n * n + 2 - (k + 1), by omega, k + 1, s, q7, sureM n es k, _, _, rfl, rfl, sH6.trans sm7, hA.same (smG6.trans sm7), sm7 _ _ (smG6 _ _ hs), hq7, .inr ⟨k, rfl, rfl⟩, fun j hj => ?_, fun j hj => hst2 j (by omega)⟩
       by_cases hjk : j ≤ k
       · exact hno j hjk
       obtain rfl : j = k + 1 := by omega
       exact goals_none.mp hg
end
/-! piece PQd -/
section
local macro_rules | `(tactic| wtm_at "fo gn") => `(tactic| first
  | exact pg_name (i := 4) (by assumption) rfl (by first | exact Or.inl rfl | exact Or.inr rfl)
  | exact pg_name (i := 5) (by assumption) rfl (by first | exact Or.inl rfl | exact Or.inr rfl)
  | fail "no")
def oV : Option Int → V
  | some i => .int i
  | none => .non
/-- the fewest turns -/
def rkM (n : Nat) (es : List Edge) (h t : Int) : Option Nat := (List.range (n * n + 1)).find? fun k => wB n es k h t
theorem rk_some {n : Nat} {es : List Edge} {h t : Int} {k : Nat} : rkM n es h t = some k ↔ wB n es k h t = true ∧ k ≤ n * n ∧ ∀ j, j < k → wB n es j h t = false := by
  unfold rkM
  rw [List.find?_range_eq_some, List.mem_range]
  constructor
  · rintro ⟨a, b, c⟩
    exact ⟨a, by omega, fun j hj => by have := c j hj; revert this; cases wB n es j h t <;> simp⟩
  · rintro ⟨a, b, c⟩
    exact ⟨a, by omega, fun j hj => by rw [c j hj]; rfl⟩
theorem rk_none {n : Nat} {es : List Edge} (hS : Simp n es) {h t : Int} (hh : 1 ≤ h ∧ h ≤ n) (ht : 1 ≤ t ∧ t ≤ n) : rkM n es h t = none ↔ ∀ j, wB n es j h t = false := by
  unfold rkM
  rw [List.find?_range_eq_none]
  constructor
  · intro a j
    have b : ∀ j, j ≤ n * n → wB n es j h t = false := fun j hj => by have := a j (by omega); revert this; cases wB n es j h t <;> simp
    by_cases hj : j ≤ n * n
    · exact b j hj
    · rw [(still_last hS).eq (by omega) hh.1 hh.2 ht.1 ht.2]
      exact b _ (Nat.le_refl _)
  · intro a j _
    rw [a]
    rfl
theorem rk_next {n : Nat} {es : List Edge} (hS : Simp n es) {h t : Int} (hh : 1 ≤ h ∧ h ≤ n) (ht : 1 ≤ t ∧ t ≤ n) {k : Nat} {g : Int} {l : List Int} (hno : ∀ j, j ≤ k → wB n es j h t = false) (hg : goalsM n es k h t = g :: l) : rkM n es h t = some (k + 1) := by
  have hw : wB n es (k + 1) h t = true := by
    cases hw : wB n es (k + 1) h t
    · rw [goals_none.mpr hw] at hg
      cases hg
    · rfl
  refine rk_some.mpr ⟨hw, ?_, fun j hj => hno j (by omega)⟩
  refine Nat.le_of_not_lt fun hk => ?_
  rw [(still_last hS).eq (by omega) hh.1 hh.2 ht.1 ht.2, ← (still_last hS).eq (j := k) (by omega) hh.1 hh.2 ht.1 ht.2, hno k (Nat.le_refl _)] at hw
  cases hw
theorem rk_zero (n : Nat) (es : List Edge) (h : Int) : rkM n es h h = some 0 := rk_some.mpr ⟨decide_eq_true rfl, Nat.zero_le _, fun j hj => absurd hj (Nat.not_lt_zero _)⟩
/-- where it goes -/
def goM (n : Nat) (es : List Edge) (h t : Int) : Option Int := match rkM n es h t with
  | some (k + 1) => (goalsM n es k h t).head?
  | _ => none
def rkV (n : Nat) (es : List Edge) (h t : Int) : V := oV ((rkM n es h t).map fun (k : Nat) => (k : Int))
def goV (n : Nat) (es : List Edge) (h t : Int) : V := oV (goM n es h t)
variable {P : Program} {w : World} {K : PySem.W.Frag} {mg : Str → Option Value} {base : Heap}
/-! ### turns_to_catch, seeker_goes -/
@[irreducible] def spTurns : Sp := fun vs H Q _ => ∃ (q : Addr) (n : Nat) (h t : Int) (es : List Edge), vs = [.int n, .ref q, .int h, .int t] ∧ 1 ≤ n ∧ n ≤ 12 ∧ Pairs H q es ∧ Simp n es ∧ es.length ≤ 200 ∧ (1 ≤ h ∧ h ≤ n) ∧ (1 ≤ t ∧ t ≤ n) ∧
  ∀ H', Same H H' → Q (rkV n es h t) H'
theorem call_turns {q : Addr} {n : Nat} {h t : Int} {es : List Edge} {H : Hp} {Q : VK} {E : XK} (b1 : 1 ≤ n) (b2 : n ≤ 12) (b3 : Pairs H q es) (b4 : Simp n es) (b5 : es.length ≤ 200) (hh : 1 ≤ h ∧ h ≤ n) (ht : 1 ≤ t ∧ t ≤ n)
    (fin : ∀ H', Same H H' → Q (rkV n es h t) H') : spTurns [.int n, .ref q, .int h, .int t] H Q E := by
  unfold spTurns
  exact ⟨q, n, h, t, es, rfl, b1, b2, b3, b4, b5, hh, ht, fin⟩
@[irreducible] def spGoes : Sp := fun vs H Q _ => ∃ (q : Addr) (n : Nat) (h t : Int) (es : List Edge), vs = [.int n, .ref q, .int h, .int t] ∧ 1 ≤ n ∧ n ≤ 12 ∧ Pairs H q es ∧ Simp n es ∧ es.length ≤ 200 ∧ (1 ≤ h ∧ h ≤ n) ∧ (1 ≤ t ∧ t ≤ n) ∧
  ∀ H', Same H H' → Q (goV n es h t) H'
theorem call_goes {q : Addr} {n : Nat} {h t : Int} {es : List Edge} {H : Hp} {Q : VK} {E : XK} (b1 : 1 ≤ n) (b2 : n ≤ 12) (b3 : Pairs H q es) (b4 : Simp n es) (b5 : es.length ≤ 200) (hh : 1 ≤ h ∧ h ≤ n) (ht : 1 ≤ t ∧ t ≤ n)
    (fin : ∀ H', Same H H' → Q (goV n es h t) H') : spGoes [.int n, .ref q, .int h, .int t] H Q E := by
  unfold spGoes
  exact ⟨q, n, h, t, es, rfl, b1, b2, b3, b4, b5, hh, ht, fin⟩
set_option maxHeartbeats 4000000 in
theorem ok_turns {f : Addr} {fd : FuncData} (F : Fun K "turns_to_catch" "turns_to_catch" s_turns_to_catch f fd) (C : Cal P w K mg base "_read_both" 3 ["places", "lines", "seeker", "fleer"] spBoth) (C2 : Cal P w K mg base "_best_going" 3 ["near", "seeker", "fleer"] spGoing) :
    FnOk P w K mg base CX0 4 f fd ["places", "lines", "seeker", "fleer"] spTurns := by
  refine F.ok sc_turns_to_catch (fun vs H Q E h => ?_) (fun cdv A outer s H vs Q E hr h => ?_)
  · unfold spTurns at h
    obtain ⟨q, n, h, t, es, rfl, _⟩ := h
    rfl
  · have nd := sc_turns_to_catch.nd
    have hS := sc_turns_to_catch
    have hKM : KMark K := ⟨⟩
    refine' mk_body ?body ?rd
    case body =>
      show PSs _ [_, _] _
      wtm_at "fo ss"
    case rd =>
     unfold spTurns at h
     obtain ⟨q, n, h, t, es, rfl, b1, b2, b3, b4, b5, hh, ht, fin⟩ := h
     wtm_at "fo r"
     refine call_both b1 b2 b3 b4 b5 hh ht (fun r H1 sm1 nr hr => ?_)
     wtm_at "fo r"
     refine call_going b1 b2 b4 hr hh ht ?_ ?_ ?_
     · intro p H2 e sm2 np hp
       refine Or.inl ⟨p, _, rfl, SqT.of hp, rfl, _, _, rfl, _, _, rfl, rfl, _, rfl, ?_⟩
       have := fin H2 (sm1.trans sm2)
       subst e
       unfold rkV at this
       rw [rk_zero] at this
       exact this
     · intro p k g l H2 e hno hg sm2 np hp
       refine Or.inl ⟨p, _, rfl, SqT.of hp, rfl, _, _, rfl, _, _, rfl, rfl, _, rfl, ?_⟩
       have := fin H2 (sm1.trans sm2)
       unfold rkV at this
       rw [rk_next b4 hh ht hno hg] at this
       exact this
     · intro p H2 e hno sm2 np hp
       refine Or.inl ⟨p, _, rfl, SqT.of hp, rfl, _, _, rfl, _, _, rfl, rfl, _, rfl, ?_⟩
       have := fin H2 (sm1.trans sm2)
       unfold rkV at this
       rw [(rk_none b4 hh ht).mpr hno] at this
       exact this
end
/-! piece PQe -/
section
local macro_rules | `(tactic| wtm_at "fo s") => `(tactic| ((with_reducible show PS _ (.AugAssign (.Name _ _) .Add _ _) _); refine' ps_aug (i := 5) (by assumption) rfl (by first | exact Or.inl rfl | exact Or.inr rfl) ?ka ip_add; (case ka => wtm_at "fo e")))
local macro_rules | `(tactic| wtm_at "fo gn") => `(tactic| first
  | exact pg_name (i := 4) (by assumption) rfl (by first | exact Or.inl rfl | exact Or.inr rfl)
  | exact pg_name (i := 5) (by assumption) rfl (by first | exact Or.inl rfl | exact Or.inr rfl)
  | fail "no")
/-- the starts from which all are caught within so many turns -/
def bestM (n : Nat) (es : List Edge) (k : Nat) : List Int := (allM n).filter fun h => (allM n).all fun t => wB n es k h t
theorem best_mem {n : Nat} {es : List Edge} {k : Nat} {h : Int} : h ∈ bestM n es k ↔ (1 ≤ h ∧ h ≤ n) ∧ ∀ t : Int, 1 ≤ t → t ≤ n → wB n es k h t = true := by
  unfold bestM
  rw [List.mem_filter, allM_mem, List.all_eq_true]
  exact ⟨fun a => ⟨a.1, fun t t1 t2 => a.2 t (allM_mem.mpr ⟨t1, t2⟩)⟩, fun a => ⟨a.1, fun t ht => a.2 t (allM_mem.mp ht).1 (allM_mem.mp ht).2⟩⟩
theorem best_is {n : Nat} {es : List Edge} (b1 : 1 ≤ n) (hS : Simp n es) (k : Nat) : LotIs (commonM (sureM n es k) (allM n)) (bestM n es k) := fun j => by
  rw [common_bit _ (fun e => by have := allM_mem.mpr ⟨Int.le_refl 1, (by omega : (1 : Int) ≤ n)⟩; rw [e] at this; cases this), Bool.eq_iff_iff, List.all_eq_true, decide_eq_true_eq, best_mem]
  constructor
  · intro a
    have b : ∀ t : Int, 1 ≤ t → t ≤ n → (j : Int) ∈ (allM n).filter fun h => wB n es k h t := fun t t1 t2 => by
      have := a t (allM_mem.mpr ⟨t1, t2⟩)
      rwa [sure_is hS k t1 t2, decide_eq_true_eq] at this
    exact ⟨allM_mem.mp (List.mem_filter.mp (b 1 (by omega) (by omega))).1, fun t t1 t2 => (List.mem_filter.mp (b t t1 t2)).2⟩
  · rintro ⟨a, b⟩ t ht
    have ht := allM_mem.mp ht
    rw [sure_is hS k ht.1 ht.2, decide_eq_true_eq, List.mem_filter]
    exact ⟨allM_mem.mpr a, b t ht.1 ht.2⟩
theorem best_members {n : Nat} {es : List Edge} (b1 : 1 ≤ n) (hS : Simp n es) (k : Nat) : membersM (commonM (sureM n es k) (allM n)) = bestM n es k :=
  members_lot (best_is b1 hS k) (List.Pairwise.filter _ (allM_lt n)) fun x hx => (allM_mem.mp (List.mem_filter.mp hx).1).1
theorem best_small {n : Nat} {es : List Edge} (b1 : 1 ≤ n) (hn : n ≤ 12) (hS : Simp n es) (k : Nat) : commonM (sureM n es k) (allM n) < 2 ^ 20 :=
  Nat.lt_of_lt_of_le (lot_small (best_is b1 hS k) fun x hx => (best_mem.mp hx).1.2) (Nat.pow_le_pow_right (by decide) (by omega))
theorem best_zero {n : Nat} {es : List Edge} (b1 : 1 ≤ n) (hS : Simp n es) (k : Nat) : commonM (sureM n es k) (allM n) = 0 ↔ bestM n es k = [] := by
  constructor
  · intro e
    rw [← best_members b1 hS k, e]
    rfl
  · intro e
    have h := best_is b1 hS k
    refine Nat.eq_of_testBit_eq fun j => ?_
    rw [h, e]
    simp
def beM (n : Nat) (es : List Edge) : Option Nat := (List.range (n * n + 1)).find? fun k => !(bestM n es k).isEmpty
def beL (n : Nat) (es : List Edge) : List Int := match beM n es with
  | some k => bestM n es k
  | none => []
def beV (n : Nat) (es : List Edge) : V := oV ((beM n es).map fun (k : Nat) => (k : Int))
theorem be_some {n : Nat} {es : List Edge} {k : Nat} : beM n es = some k ↔ bestM n es k ≠ [] ∧ k ≤ n * n ∧ ∀ j, j < k → bestM n es j = [] := by
  unfold beM
  rw [List.find?_range_eq_some, List.mem_range]
  constructor
  · rintro ⟨a, b, c⟩
    exact ⟨fun e => by rw [e] at a; simp at a, by omega, fun j hj => by have := c j hj; simpa using this⟩
  · rintro ⟨a, b, c⟩
    exact ⟨by simpa using a, by omega, fun j hj => by rw [c j hj]; rfl⟩
theorem best_eq {n : Nat} {es : List Edge} {k j : Nat} (s : Still n es k) (hkj : k ≤ j) : bestM n es j = bestM n es k := by
  unfold bestM
  refine List.filter_congr fun h hh => ?_
  have hh := allM_mem.mp hh
  rw [Bool.eq_iff_iff, List.all_eq_true, List.all_eq_true]
  constructor
  · intro a t ht
    rw [← s.eq hkj hh.1 hh.2 (allM_mem.mp ht).1 (allM_mem.mp ht).2]
    exact a t ht
  · intro a t ht
    rw [s.eq hkj hh.1 hh.2 (allM_mem.mp ht).1 (allM_mem.mp ht).2]
    exact a t ht
theorem be_none {n : Nat} {es : List Edge} (hS : Simp n es) : beM n es = none ↔ ∀ j, bestM n es j = [] := by
  unfold beM
  rw [List.find?_range_eq_none]
  constructor
  · intro a j
    have b : ∀ j, j ≤ n * n → bestM n es j = [] := fun j hj => by have := a j (by omega); simpa using this
    by_cases hj : j ≤ n * n
    · exact b j hj
    · rw [best_eq (still_last hS) (by omega)]
      exact b _ (Nat.le_refl _)
  · intro a j _
    rw [a]
    rfl
theorem be_at {n : Nat} {es : List Edge} (hS : Simp n es) {k : Nat} (hno : ∀ j, j < k → bestM n es j = []) (h : bestM n es k ≠ []) : beM n es = some k := by
  refine be_some.mpr ⟨h, ?_, hno⟩
  refine Nat.le_of_not_lt fun hk => h ?_
  rw [best_eq (still_last hS) (by omega)]
  exact hno _ hk
variable {P : Program} {w : World} {K : PySem.W.Frag} {mg : Str → Option Value} {base : Heap}
/-! ### best_starts -/
@[irreducible] def spStarts : Sp := fun vs H Q _ => ∃ (q : Addr) (n : Nat) (es : List Edge), vs = [.int n, .ref q] ∧ 1 ≤ n ∧ n ≤ 12 ∧ Pairs H q es ∧ Simp n es ∧ es.length ≤ 200 ∧
  ∀ p c H', Same H H' → H p = none → H c = none → H' p = some (.tup [.ref c, beV n es]) → H' c = some (iL (beL n es)) → Q (.ref p) H'
theorem call_starts {q : Addr} {n : Nat} {es : List Edge} {H : Hp} {Q : VK} {E : XK} (b1 : 1 ≤ n) (b2 : n ≤ 12) (b3 : Pairs H q es) (b4 : Simp n es) (b5 : es.length ≤ 200)
    (fin : ∀ p c H', Same H H' → H p = none → H c = none → H' p = some (.tup [.ref c, beV n es]) → H' c = some (iL (beL n es)) → Q (.ref p) H') : spStarts [.int n, .ref q] H Q E := by
  unfold spStarts
  exact ⟨q, n, es, rfl, b1, b2, b3, b4, b5, fin⟩
set_option maxHeartbeats 8000000 in
theorem ok_starts {f : Addr} {fd : FuncData} (F : Fun K "best_starts" "best_starts" s_best_starts f fd) (mr : mg "range" = none) (ml : mg "list" = none) (C0 : Cal P w K mg base "read_net" 2 ["places", "lines"] spRead) (C : Cal P w K mg base "members" 1 ["lot"] spMembers) (C2 : Cal P w K mg base "_same_places" 1 ["near"] spSameP)
    (C3 : Cal P w K mg base "_traps" 2 ["answers", "sure"] spTraps) (C4 : Cal P w K mg base "_one_turn_ahead" 2 ["near", "traps"] spAhead) (C5 : Cal P w K mg base "_common" 1 ["lots", "places"] spCommon) :
    FnOk P w K mg base CX0 3 f fd ["places", "lines"] spStarts := by
  refine F.ok sc_best_starts (fun vs H Q E h => ?_) (fun cdv A outer s H vs Q E hr h => ?_)
  · unfold spStarts at h
    obtain ⟨q, n, es, rfl, _⟩ := h
    rfl
  · have nd := sc_best_starts.nd
    have hS := sc_best_starts
    have hKM : KMark K := ⟨⟩
    refine' mk_body ?body ?rd
    case body =>
      show PSs _ [_, _, _, _, _, _, _] _
      wtm_at "fo ss"
    case rd =>
     unfold spStarts at h
     obtain ⟨q, n, es, rfl, b1, hn, hPq, hSe, hlen, fin⟩ := h
     wtm_at "fo r"
     refine call_read b1 hn hPq hSe hlen (fun r H1 sm1 nr hr1 => ?_)
     refine ⟨_, rfl, r, rfl, ⟨_, SqL.of hr1⟩, fun A0 nA0 => ?_⟩
     refine lc_list (K := K) (xs := (nearB n es).map fun (v : Nat) => V.int v) (fun i G => Same H1 G ∧ ∃ rs, RwAt G A0 rs (((nearB n es).take i).map membersM) ∧ A0 ∉ rs) ?_ ?_ ?_ ?_
     · exact ⟨same_upd (Same.refl _) nA0, [], RwAt.nil upd_same, by simp⟩
     · rintro i G _ ⟨smG, _⟩
       exact SqL.of (smG _ _ hr1)
     · rintro i x G hx ⟨smG, rs, hRw, hA⟩
       rw [List.getElem?_map] at hx
       cases hli : (nearB n es)[i]? with
       | none => rw [hli] at hx; cases hx
       | some v =>
       rw [hli] at hx
       cases hx
       have hil : i < n + 1 := by
         have := (List.getElem?_eq_some_iff.mp hli).1
         rwa [nearB_length] at this
       have htk : (nearB n es).take (i + 1) = (nearB n es).take i ++ [v] := by rw [List.take_add_one, hli]; rfl
       refine ⟨rfl, _, rfl, ?_⟩
       refine call_members (Nat.lt_of_lt_of_le (nearB_small hSe hli) (Nat.pow_le_pow_right (by decide) (by omega))) (fun p6 H6 sm6 np6 hp6 => ?_)
       have hRw6 := hRw.same sm6
       have hne : p6 ≠ A0 := (ne_of_none hRw.hD np6).symm
       refine ⟨_, hRw6.hD, ?_, same_upd (smG.trans sm6) nA0, rs ++ [p6], ?_, ?_⟩
       · rw [List.length_map, hRw6.len, List.length_map, List.length_take]
         exact Nat.lt_of_lt_of_le (m := 20) (by omega) (by decide)
       · rw [htk, List.map_append]
         exact hRw6.push hp6 hne hA
       · intro hm
         rcases List.mem_append.mp hm with hm | hm
         · exact hA hm
         · exact hne (List.mem_singleton.mp hm).symm
     rintro G1 ⟨smG1, rsA, hRwA, _⟩
     rw [List.length_map, List.take_length] at hRwA
     have hAns := ans_of hSe hRwA
     clear hRwA
     refine ⟨(Nat.le_of_ble_eq_true rfl : _ ≤ sizeLine), fun b0 nb0 => ?_⟩
     have smb : Same G1 (upd G1 b0 (.lst [])) := same_upd (Same.refl _) nb0
     have hb0 : (upd G1 b0 (.lst [])) b0 = some (nLst []) := upd_same
     generalize upd G1 b0 (.lst []) = G2 at *
     refine ⟨_, rfl, ?_⟩
     refine call_samep (n := n) (smb _ _ (smG1 _ _ hr1)) (by rw [List.length_map, nearB_length]) hn (fun s0 G3 sm3 ns0 hs0 => ?_)
     have s13 := smb.trans sm3
     have s1H3 := smG1.trans s13
     let W : Nat → Sl → Hp → Prop := fun m σ G => ∃ (k : Nat) (b s : Addr) (bl : List Nat) (y8 : Option V), σ = [some (.int n), some (.ref q), some (.ref r), some (.ref A0), none, some (.int k), some (.ref b), some (.ref s), y8] ∧ m = n * n + 2 - k ∧ Same H1 G ∧ AnsAt G A0 n es ∧ G b = some (nLst bl) ∧ G s = some (nLst (sureM n es k)) ∧
       ((k = 0 ∧ bl = []) ∨ ∃ j, k = j + 1 ∧ bl = sureM n es j) ∧ (∀ j, j < k → bestM n es j = []) ∧ ∀ j, j + 1 < k → ¬ Still n es j
     refine ⟨W, ⟨_, 0, b0, s0, [], none, rfl, rfl, s1H3, hAns.same s13, sm3 _ _ hb0, hs0, .inl ⟨rfl, rfl⟩, fun j hj => absurd hj (Nat.not_lt_zero _), fun j hj => absurd hj (Nat.not_lt_zero _)⟩, fun m σ G hW => ?_⟩
     obtain ⟨k, b, s, bl, y8, rfl, rfl, smG, hA, hb, hs, hbk, hno, hst⟩ := hW
     have cst : ∀ l : List Nat, nLst l = .lst ((l.map fun (v : Nat) => (v : Int)).map V.int) := fun l => by unfold nLst; rw [List.map_map]; rfl
     have hb' := hb
     have hs' := hs
     rw [cst] at hb' hs'
     refine ⟨_, rfl, _, rfl, Or.inr ⟨_, _, dp_dI' (SqL.of hs'), dp_dI' (SqL.of hb'), shaped_ints _, shaped_ints _, _, rfl, ?_⟩⟩
     rw [eqv_ints_dec]
     by_cases he : (sureM n es k).map (fun (v : Nat) => (v : Int)) = bl.map fun (v : Nat) => (v : Int)
     · refine ifF (by rw [decide_eq_true he]; rfl) ?_
       have he' : sureM n es k = bl := (List.map_inj_right fun _ _ e => Int.ofNat.inj e).mp he
       rcases hbk with ⟨rfl, rfl⟩ | ⟨j, rfl, rfl⟩
       · have := congrArg List.length he'
         rw [sure_len] at this
         simp at this
       · have hsj := (sure_eq hSe).mp he'
         have hbn : beM n es = none := (be_none hSe).mpr fun i => by
           by_cases hij : i ≤ j
           · exact hno i (by omega)
           · rw [best_eq hsj (by omega)]
             exact hno j (by omega)
         refine ⟨(Nat.le_of_ble_eq_true rfl : _ ≤ sizeLine), fun c nc => ⟨(Nat.le_of_ble_eq_true rfl : _ ≤ sizeLine), fun p np => ?_⟩⟩
         have smc : Same G (upd G c (.lst [])) := same_upd (Same.refl _) nc
         have hcc : (upd G c (.lst [])) c = some (iL []) := upd_same
         generalize upd G c (.lst []) = G5 at *
         have smp : Same G5 (upd G5 p (.tup [.ref c, .non])) := same_upd (Same.refl _) np
         have := fin p c (upd G5 p (.tup [.ref c, .non])) (sm1.trans (smG.trans (smc.trans smp))) (sm1.free (smG.free (smc.free np))) (sm1.free (smG.free nc))
         unfold beV beL at this
         rw [hbn] at this
         exact this upd_same (smp _ _ hcc)
     refine ifT (by rw [decide_eq_false he]; rfl) ?_
     have hst2 : ∀ j, j < k → ¬ Still n es j := fun j hj hsj => by
       by_cases hj2 : j + 1 < k
       · exact hst j hj2 hsj
       rcases hbk with ⟨rfl, rfl⟩ | ⟨i, rfl, rfl⟩
       · omega
       · obtain rfl : j = i := by omega
         exact he (by rw [(sure_eq hSe).mpr hsj])
     have hk2 := steps_bound hSe hst2
     refine ⟨fun σ' H' => ∃ m', m' < n * n + 2 - k ∧ W m' σ' H', fun _ _ h => h, ?_⟩
     refine ⟨_, rfl, _, rfl, Or.inl ⟨_, _, rfl, rfl, _, _, rfl, rfl, ⟨by decide, by decide, by omega, by omega⟩, fun a na => ?_⟩⟩
     rw [rgV_all n]
     have sma : Same G (upd G a (.lst ((allM n).map V.int))) := same_upd (Same.refl _) na
     have ha1 : (upd G a (.lst ((allM n).map V.int))) a = some (iL (allM n)) := upd_same
     generalize upd G a (.lst ((allM n).map V.int)) = G4 at *
     refine call_common (sma _ _ hs) (sure_len n es k) ha1 (fun e => by have := congrArg List.length e; rw [all_len] at this; simp at this; omega) (fun p hp => allM_mem.mp hp) ?_
     refine ⟨_, rfl, _, rfl, ?_⟩
     by_cases hbe : bestM n es k = []
     · refine ifF (by rw [(best_zero b1 hSe k).mpr hbe]; rfl) ?_
       refine ⟨_, rfl, _, rfl, _, rfl, _, rfl, ?_⟩
       have sG4 := smG.trans sma
       refine call_traps hn hSe (hA.same sma) (sma _ _ hs) (sure_len n es k) (fun q5 G5 sm5 nq5 hq5 => ?_)
       have sG5 := sG4.trans sm5
       refine call_ahead hn hSe (sG5 _ _ hr1) hq5 (traps_len n es _) (traps_bits hSe k) (fun q7 H7 sm7 nq7 hq7 => ?_)
       refine ⟨_, rfl, _, _, rfl, rfl, ?_⟩
       refine ⟨n * n + 2 - (k + 1), by omega, k + 1, s, q7, sureM n es k, _, rfl, rfl, sG5.trans sm7, hA.same (sma.trans (sm5.trans sm7)), sm7 _ _ (sm5 _ _ (sma _ _ hs)), hq7, .inr ⟨k, rfl, rfl⟩, fun j hj => ?_, fun j hj => hst2 j (by omega)⟩
       by_cases hjk : j < k
       · exact hno j hjk
       obtain rfl : j = k := by omega
       exact hbe
     · refine ifT (by simpa using fun e => hbe ((best_zero b1 hSe k).mp e)) ?_
       refine ⟨_, rfl, ?_⟩
       refine call_members (best_small b1 hn hSe k) (fun p6 H6 sm6 np6 hp6 => ?_)
       rw [best_members b1 hSe k] at hp6
       refine ⟨_, rfl, ?_⟩
       refine ⟨(Nat.le_of_ble_eq_true rfl : _ ≤ sizeLine), fun p np => ?_⟩
       have smp : Same H6 (upd H6 p (.tup [.ref p6, .int (k : Nat)])) := same_upd (Same.refl _) np
       have sH4 := sm1.trans (smG.trans sma)
       have hbm : beM n es = some k := be_at hSe hno hbe
       have := fin p p6 (upd H6 p (.tup [.ref p6, .int (k : Nat)])) (sH4.trans (sm6.trans smp)) (sH4.free (sm6.free np)) (sH4.free np6)
       unfold beV beL at this
       rw [hbm] at this
       exact this upd_same (smp _ _ hp6)
end
/-! piece CK -/
section
/-! ### rounds: shadows of places -/
theorem dom_up {es : List Edge} {S : List Int} : ∀ k, ∀ p ∈ S, S.length - (S.filter fun z => decide (Adj es p z)).length ≤ k → ∃ q ∈ restM es S, SubM es S p q := by
  intro k
  induction k with
  | zero =>
    intro p hp hk
    refine ⟨p, restM_mem.mpr ⟨hp, fun ⟨q, hq, ⟨z, hz, h1, h2⟩, _⟩ => ?_⟩, fun _ _ h => h⟩
    have hl := List.length_filter_le (fun z => decide (Adj es p z)) S
    have he : (S.filter fun z => decide (Adj es p z)).length = S.length := by omega
    rw [List.length_filter_eq_length_iff] at he
    exact h2 (of_decide_eq_true (he z hz))
  | succ k ih =>
    intro p hp hk
    by_cases hg : ∃ q ∈ S, (∃ z ∈ S, Adj es q z ∧ ¬ Adj es p z) ∧ ∀ z ∈ S, Adj es p z → Adj es q z
    · obtain ⟨q, hq, ⟨z, hz, h1, h2⟩, h3⟩ := hg
      have hlt : (S.filter fun z => decide (Adj es p z)).length < (S.filter fun z => decide (Adj es q z)).length := by
        have hsub : ((S.filter fun z => decide (Adj es q z)).filter fun z => decide (Adj es p z)) = S.filter fun z => decide (Adj es p z) := by
          rw [List.filter_filter]
          refine List.filter_congr fun y hy => ?_
          by_cases hy2 : Adj es p y
          · simp [hy2, h3 y hy hy2]
          · simp [hy2]
        rw [← hsub]
        have hle := List.length_filter_le (fun z => decide (Adj es p z)) (S.filter fun z => decide (Adj es q z))
        rcases Nat.lt_or_eq_of_le hle with h | h
        · exact h
        · rw [List.length_filter_eq_length_iff] at h
          exact absurd (of_decide_eq_true (h z (List.mem_filter.mpr ⟨hz, decide_eq_true h1⟩))) h2
      have hlq := List.length_filter_le (fun z => decide (Adj es q z)) S
      obtain ⟨r, hr, hs⟩ := ih q hq (by omega)
      exact ⟨r, hr, fun z hz ha => hs z hz (h3 z hz ha)⟩
    · exact ⟨p, restM_mem.mpr ⟨hp, hg⟩, fun _ _ h => h⟩
theorem rest_in {es : List Edge} {S : List Int} {x : Int} (h : x ∈ restM es S) : x ∈ S := (restM_mem.mp h).1
/-- where a place goes in one round -/
noncomputable def upM (es : List Edge) (S : List Int) (p : Int) : Int := by
  classical
  exact if p ∈ restM es S then p else if h : ∃ q ∈ restM es S, SubM es S p q then Classical.choose h else p
theorem up_spec {es : List Edge} {S : List Int} {p : Int} (hp : p ∈ S) : upM es S p ∈ restM es S ∧ SubM es S p (upM es S p) := by
  have h : ∃ q ∈ restM es S, SubM es S p q := dom_up _ p hp (Nat.le_refl _)
  unfold upM
  by_cases hr : p ∈ restM es S
  · rw [if_pos hr]
    exact ⟨hr, fun _ _ h => h⟩
  · rw [if_neg hr, dif_pos h]
    exact Classical.choose_spec h
theorem up_fix {es : List Edge} {S : List Int} {p : Int} (hp : p ∈ restM es S) : upM es S p = p := by
  unfold upM
  rw [if_pos hp]
noncomputable def shM (es : List Edge) (S : List Int) : Nat → Int → Int
  | 0, x => x
  | j + 1, x => upM es (roundM es S j) (shM es S j x)
theorem sh_in {es : List Edge} {S : List Int} {x : Int} (hx : x ∈ S) : ∀ j, shM es S j x ∈ roundM es S j
  | 0 => hx
  | j + 1 => (up_spec (sh_in hx j)).1
theorem sh_hom {es : List Edge} {S : List Int} {x y : Int} (hx : x ∈ S) (hy : y ∈ S) (h : Adj es x y) : ∀ j, Adj es (shM es S j x) (shM es S j y)
  | 0 => h
  | j + 1 => by
    have h1 := sh_hom hx hy h j
    have ix := sh_in (es := es) hx j
    have iy := sh_in (es := es) hy j
    have h2 := (up_spec ix).2 _ iy h1
    have h3 := (up_spec iy).2 _ (rest_in (up_spec ix).1) (adj_symm _ _ h2)
    exact adj_symm _ _ h3
theorem round_sub {es : List Edge} {S : List Int} {x : Int} : ∀ j, x ∈ roundM es S j → x ∈ S
  | 0, h => h
  | j + 1, h => round_sub j (rest_in h)
theorem sh_fix {es : List Edge} {S : List Int} {x : Int} : ∀ j, x ∈ roundM es S j → shM es S j x = x
  | 0, _ => rfl
  | j + 1, h => by
    show upM es (roundM es S j) (shM es S j x) = x
    rw [sh_fix j (rest_in h), up_fix h]
/-! ### the seeker follows the shadows -/
theorem beside_adj {n : Nat} {es : List Edge} (hS : Simp n es) {h g : Int} (hh : h ∈ allM n) : g ∈ besideM n es h ↔ Adj es h g := by
  have := allM_mem.mp hh
  exact besideM_mem hS this.1 this.2 g
theorem beside_all {n : Nat} {es : List Edge} {h g : Int} (hg : g ∈ besideM n es h) : g ∈ allM n := allM_mem.mpr (besideM_rng hg)
theorem catch_up {n : Nat} {es : List Edge} (hS : Simp n es) : ∀ (j : Nat) {h t : Int}, h ∈ allM n → t ∈ allM n → Adj es h (shM es (allM n) j t) → wB n es (j + 1) h t = true
  | 0, h, t, hh, ht, ha => wB_iff.mpr ⟨t, (beside_adj hS hh).mpr ha, .inl rfl⟩
  | j + 1, h, t, hh, ht, ha => by
    refine wB_iff.mpr ⟨_, (beside_adj hS hh).mpr ha, .inr fun s hs => ?_⟩
    have hsa := beside_all hs
    have hg := round_sub _ (sh_in (es := es) ht (j + 1))
    refine catch_up hS j hg hsa ?_
    have h1 := sh_hom ht hsa ((beside_adj hS ht).mp hs) j
    exact (up_spec (sh_in (es := es) ht j)).2 _ (sh_in hsa j) h1
/-! ### who flees stays away from the seeker's shadows -/
theorem no_catch {n : Nat} {es : List Edge} (hS : Simp n es) : ∀ (j : Nat) {h t : Int}, h ∈ allM n → t ∈ roundM es (allM n) j → ¬ Adj es (shM es (allM n) j h) t → ¬ wB n es (j + 1) h t = true
  | 0, h, t, hh, ht, ha, hw => by
    obtain ⟨g, hg, hc⟩ := wB_iff.mp hw
    rcases hc with hc | hc
    · subst hc
      exact ha ((beside_adj hS hh).mp hg)
    · have h1 := hc t ((beside_adj hS ht).mpr (adj_refl _ _))
      have h2 : g = t := of_decide_eq_true h1
      subst h2
      exact ha ((beside_adj hS hh).mp hg)
  | j + 1, h, t, hh, ht, ha, hw => by
    obtain ⟨g, hg, hc⟩ := wB_iff.mp hw
    have hga := beside_all hg
    have hta := round_sub _ ht
    have hgh := (beside_adj hS hh).mp hg
    have htj := rest_in ht
    have ihh := sh_in (es := es) hh j
    -- the place itself isn't left for a shadow that sees as much
    have key : ¬ SubM es (roundM es (allM n) j) t (shM es (allM n) j g) := fun hsub => by
      have ig := sh_in (es := es) hga j
      have hno := (restM_mem.mp ht).2
      have hback : SubM es (roundM es (allM n) j) (shM es (allM n) j g) t := fun z hz hz2 => Classical.byContradiction fun hn => hno ⟨_, ig, ⟨z, hz, hz2, hn⟩, hsub⟩
      have h1 := sh_hom hh hga hgh j
      have h2 := hback _ ihh (adj_symm _ _ h1)
      exact ha ((up_spec ihh).2 _ htj (adj_symm _ _ h2))
    rcases hc with hc | hc
    · subst hc
      have h1 := sh_hom (es := es) hh hta hgh (j + 1)
      rw [sh_fix (j + 1) ht] at h1
      exact ha h1
    · have hex : ∃ s ∈ roundM es (allM n) j, Adj es t s ∧ ¬ Adj es (shM es (allM n) j g) s := Classical.byContradiction fun hne => key fun z hz hz2 => Classical.byContradiction fun hn => hne ⟨z, hz, hz2, hn⟩
      obtain ⟨s, hs, h1, h2⟩ := hex
      exact no_catch hS j hga hs h2 (hc s ((beside_adj hS hta).mpr h1))
/-! ### when no place goes any more, and all comes down to one: all are beside one another -/
theorem twins_run {es : List Edge} {M : List Int} (hM : restM es M = M) {S left : List Int} {l : List Edge} (r : RunL es S l left) :
    (∀ x ∈ S, x ∈ M) → (∀ z ∈ M, ∃ y ∈ S, ∀ u ∈ M, Adj es z u ↔ Adj es y u) → ∀ z ∈ M, ∃ y ∈ left, ∀ u ∈ M, Adj es z u ↔ Adj es y u := by
  induction r with
  | nil left => exact fun _ h => h
  | @cons S left p q l hp hq r ih =>
    intro hsub hrep
    obtain ⟨hq1, hq2, hq3⟩ := (onto_iff hp).mp hq
    have hpM := hsub p hp
    have hqM := hsub q hq1
    -- p sees no more than q in all of M, so as much
    have h1 : ∀ u ∈ M, Adj es p u → Adj es q u := fun u hu ha => by
      obtain ⟨y, hy, hyu⟩ := hrep u hu
      have h2 : Adj es y p := (hyu p hpM).mp (adj_symm _ _ ha)
      have h3 := hq3 y hy (adj_symm _ _ h2)
      exact adj_symm _ _ ((hyu q hqM).mpr (adj_symm _ _ h3))
    have h4 : ∀ u ∈ M, Adj es q u → Adj es p u := fun u hu ha => Classical.byContradiction fun hn => by
      rw [← hM] at hpM
      exact (restM_mem.mp hpM).2 ⟨q, hqM, ⟨u, hu, ha, hn⟩, h1⟩
    refine ih (fun x hx => hsub x (without_mem.mp hx).1) fun z hz => ?_
    obtain ⟨y, hy, hyz⟩ := hrep z hz
    by_cases e : y = p
    · subst e
      exact ⟨q, without_mem.mpr ⟨hq1, fun e => hq2 e⟩, fun u hu => (hyz u hu).trans ⟨h1 u hu, h4 u hu⟩⟩
    · exact ⟨y, without_mem.mpr ⟨hy, e⟩, hyz⟩
theorem clique_of {es : List Edge} {M left : List Int} {l : List Edge} (hM : restM es M = M) (r : RunL es M l left) (h1 : left.length = 1) : ∀ a ∈ M, ∀ b ∈ M, Adj es a b := by
  obtain ⟨c, rfl⟩ := List.length_eq_one_iff.mp h1
  have h := twins_run hM r (fun x hx => hx) fun z hz => ⟨z, hz, fun _ _ => Iff.rfl⟩
  intro a ha b hb
  obtain ⟨y, hy, hya⟩ := h a ha
  obtain ⟨y2, hy2, hyb⟩ := h b hb
  rw [List.mem_singleton] at hy hy2
  subst hy hy2
  exact (hya b hb).mpr ((hyb b hb).mp (adj_refl _ _))
/-- one round is a run -/
theorem rest_run {es : List Edge} {S : List Int} (nd : S.Nodup) : ∃ L : List Edge, RunL es S L (restM es S) := by
  obtain ⟨L, _, r⟩ := run_many (es := es) (upM es S) (S.filter fun x => decide (x ∉ restM es S)) S (nd.sublist List.filter_sublist) fun x hx => by
    obtain ⟨h1, h2⟩ := List.mem_filter.mp hx
    have hu := up_spec (es := es) h1
    refine ⟨h1, rest_in hu.1, fun h => ?_, hu.2⟩
    exact of_decide_eq_true (List.mem_filter.mp h).2 hu.1
  refine ⟨L, ?_⟩
  have e : (S.filter fun z => decide (z ∉ S.filter fun x => decide (x ∉ restM es S))) = restM es S := by
    unfold restM
    refine List.filter_congr fun z hz => ?_
    have e2 : (z ∈ S.filter fun x => decide (x ∉ restM es S)) ↔ z ∉ restM es S := by
      rw [List.mem_filter]
      exact ⟨fun h => of_decide_eq_true h.2, fun h => ⟨hz, decide_eq_true h⟩⟩
    have e3 : z ∈ restM es S ↔ (!goesB es S z) = true := by
      unfold restM
      rw [List.mem_filter]
      exact ⟨fun h => h.2, fun h => ⟨hz, h⟩⟩
    show decide (z ∉ S.filter fun x => decide (x ∉ restM es S)) = !goesB es S z
    rw [Bool.eq_iff_iff, decide_eq_true_eq, e2, Classical.not_not, e3]
  rw [e] at r
  exact r
theorem round_run {n : Nat} {es : List Edge} : ∀ k, ∃ L : List Edge, RunL es (allM n) L (roundM es (allM n) k)
  | 0 => ⟨[], .nil _⟩
  | k + 1 => by
    obtain ⟨L, r⟩ := round_run (n := n) (es := es) k
    obtain ⟨L2, r2⟩ := rest_run (es := es) (S := roundM es (allM n) k) (((inNet_all n).round k).lt.imp fun h => by omega)
    exact ⟨L ++ L2, r.append r2⟩
end
/-! piece CK2 -/
section
/-! ### ends of one place -/
theorem nodup_sub_le : ∀ {l m : List Int}, l.Nodup → (∀ x ∈ l, x ∈ m) → l.length ≤ m.length
  | [], _, _, _ => Nat.zero_le _
  | a :: l, m, nd, h => by
    have hnd := List.nodup_cons.mp nd
    have ha := h a (List.mem_cons_self ..)
    have := nodup_sub_le (l := l) (m := m.erase a) hnd.2 fun x hx => (List.mem_erase_of_ne (fun e => hnd.1 (by first | (rw [← e]; exact hx) | (rw [e]; exact hx)))).mpr (h x (List.mem_cons_of_mem _ hx))
    rw [List.length_erase_of_mem ha] at this
    have hp := List.length_pos_of_mem ha
    rw [List.length_cons]
    omega
theorem ends_le {n : Nat} {es l m : List Edge} {a b : List Int} (ra : RunL es (allM n) l a) (sa : foldableM es a = []) (rb : RunL es (allM n) m b) : a.length ≤ b.length := by
  have nda : a.Nodup := (ra.length ((allM_lt n).imp fun h => by omega)).2
  have h1 : (a.map (mapR m)).Nodup := by
    refine List.pairwise_map.mpr (nda.imp_of_mem fun {x y} hx hy hne e => hne ?_)
    have k1 := back (adj_refl es) adj_symm ra.run (stiff_of sa) rb.run hx
    have k2 := back (adj_refl es) adj_symm ra.run (stiff_of sa) rb.run hy
    rw [← k1, ← k2, e]
  have := nodup_sub_le h1 fun x hx => by
    obtain ⟨y, hy, rfl⟩ := List.mem_map.mp hx
    exact mapR_in rb.run (ra.sub y hy)
  rwa [List.length_map] at this
theorem full_run {es : List Edge} : ∀ (k : Nat) (S : List Int), S.Nodup → S.length ≤ k → ∃ l left, RunL es S l left ∧ foldableM es left = []
  | k, S, nd, hk => by
    by_cases h : foldableM es S = []
    · exact ⟨[], S, .nil S, h⟩
    · obtain ⟨p, hp⟩ := List.exists_mem_of_ne_nil _ h
      obtain ⟨hp1, hp2⟩ := List.mem_filter.mp hp
      have hp2 : ontoM es S p ≠ [] := by
        intro e
        rw [e] at hp2
        simp at hp2
      obtain ⟨q, hq⟩ := List.exists_mem_of_ne_nil _ hp2
      have hl := (RunL.cons hp1 hq (.nil (without S p))).length nd
      rw [List.length_singleton] at hl
      cases k with
      | zero =>
        have := List.length_pos_of_mem hp1
        omega
      | succ k =>
        obtain ⟨l, left, r, st⟩ := full_run (es := es) k (without S p) hl.2 (by omega)
        exact ⟨(p, q) :: l, left, .cons hp1 hq r, st⟩
theorem clique_end {n r : Nat} {es l : List Edge} {left : List Int} (rl : RunL es (allM n) l left) (h1 : left.length = 1) (hst : restM es (roundM es (allM n) r) = roundM es (allM n) r) :
    ∀ a ∈ roundM es (allM n) r, ∀ b ∈ roundM es (allM n) r, Adj es a b := by
  obtain ⟨L, rL⟩ := round_run (n := n) (es := es) r
  have nd : (roundM es (allM n) r).Nodup := ((inNet_all n).round r).lt.imp fun h => by omega
  obtain ⟨l2, left2, r2, st2⟩ := full_run (es := es) _ (roundM es (allM n) r) nd (Nat.le_refl _)
  have hle := ends_le (rL.append r2) st2 rl
  by_cases hz : left2.length = 1
  · exact clique_of hst r2 hz
  · have h0 : left2 = [] := List.eq_nil_of_length_eq_zero (by omega)
    intro a ha
    exfalso
    have := mapR_in r2.run ha
    rw [h0] at this
    cases this
/-! ### the number of turns -/
theorem best_le {n : Nat} {es : List Edge} (hS : Simp n es) {j k : Nat} (hjk : j ≤ k) (h : bestM n es k = []) : bestM n es j = [] := by
  refine List.eq_nil_iff_forall_not_mem.mpr fun x hx => ?_
  obtain ⟨hr, hw⟩ := best_mem.mp hx
  have : x ∈ bestM n es k := best_mem.mpr ⟨hr, fun t t1 t2 => wB_le hS hr.1 hr.2 t1 t2 hjk (hw t t1 t2)⟩
  rw [h] at this
  cases this
theorem best_low {n j : Nat} {es : List Edge} (hS : Simp n es) (hex : ∀ u ∈ roundM es (allM n) j, ∃ t ∈ roundM es (allM n) j, ¬ Adj es u t) : bestM n es (j + 1) = [] := by
  refine List.eq_nil_iff_forall_not_mem.mpr fun x hx => ?_
  obtain ⟨hr, hw⟩ := best_mem.mp hx
  have hxa := allM_mem.mpr hr
  obtain ⟨t, ht, hn⟩ := hex _ (sh_in (es := es) hxa j)
  have hta := allM_mem.mp (round_sub _ ht)
  exact no_catch hS j hxa ht hn (hw t hta.1 hta.2)
theorem best_none0 {n : Nat} {es : List Edge} (h2 : 2 ≤ n) : bestM n es 0 = [] := by
  refine List.eq_nil_iff_forall_not_mem.mpr fun x hx => ?_
  obtain ⟨_, hw⟩ := best_mem.mp hx
  have e1 : x = 1 := of_decide_eq_true (hw 1 (by omega) (by omega))
  have e2 : x = 2 := of_decide_eq_true (hw 2 (by omega) (by omega))
  omega
/-- those of the middle that see all that was left ahead of the last round -/
def openM (n : Nat) (es : List Edge) (r : Nat) : List Int := (roundM es (allM n) (r + 1)).filter fun v => decide (((roundM es (allM n) r).filter fun z => !decide (z ∈ besideM n es v)) = [])
theorem open_mem {n r : Nat} {es : List Edge} (hS : Simp n es) {v : Int} : v ∈ openM n es r ↔ v ∈ roundM es (allM n) (r + 1) ∧ ∀ z ∈ roundM es (allM n) r, Adj es v z := by
  unfold openM
  rw [List.mem_filter, decide_eq_true_eq, List.filter_eq_nil_iff]
  refine and_congr_right fun hv => forall_congr' fun z => forall_congr' fun hz => ?_
  rw [← beside_adj hS (round_sub _ hv)]
  simp
theorem due_last {n r : Nat} {es l : List Edge} {left : List Int} (hS : Simp n es) (h2 : 2 ≤ n) (rl : RunL es (allM n) l left) (h1 : left.length = 1) (hst : restM es (roundM es (allM n) r) = roundM es (allM n) r)
    (hop : ∀ k, r = k + 1 → openM n es k = []) : beM n es = some (r + 1) ∧ ∀ x ∈ roundM es (allM n) r, x ∈ beL n es := by
  have hc := clique_end rl h1 hst
  have hin : ∀ x ∈ roundM es (allM n) r, x ∈ bestM n es (r + 1) := fun x hx => by
    have hxa := round_sub _ hx
    refine best_mem.mpr ⟨allM_mem.mp hxa, fun t t1 t2 => catch_up hS r hxa (allM_mem.mpr ⟨t1, t2⟩) (hc _ hx _ (sh_in (allM_mem.mpr ⟨t1, t2⟩) r))⟩
  have hne : bestM n es (r + 1) ≠ [] := fun e => by
    have h1m : (1 : Int) ∈ allM n := allM_mem.mpr ⟨by omega, by omega⟩
    have := hin _ (sh_in (es := es) h1m r)
    rw [e] at this
    cases this
  have hlow : bestM n es r = [] := by
    cases r with
    | zero => exact best_none0 h2
    | succ k =>
      refine best_low hS fun u hu => Classical.byContradiction fun hn => ?_
      have hall : ∀ z ∈ roundM es (allM n) k, Adj es u z := fun z hz => Classical.byContradiction fun h => hn ⟨z, hz, h⟩
      have hum : u ∈ roundM es (allM n) (k + 1) := restM_mem.mpr ⟨hu, fun ⟨q, hq, ⟨z, hz, _, h4⟩, _⟩ => h4 (hall z hz)⟩
      have := (open_mem hS).mpr ⟨hum, hall⟩
      rw [hop k rfl] at this
      cases this
  have hbe : beM n es = some (r + 1) := be_at hS (fun j hj => best_le hS (by omega) hlow) hne
  refine ⟨hbe, fun x hx => ?_⟩
  unfold beL
  rw [hbe]
  exact hin x hx
theorem due_open {n k : Nat} {es : List Edge} (hS : Simp n es) (h2 : 2 ≤ n) (hno : ∀ j, j < k + 1 → restM es (roundM es (allM n) j) ≠ roundM es (allM n) j)
    (hop : openM n es k ≠ []) : beM n es = some (k + 1) ∧ ∀ x ∈ openM n es k, x ∈ beL n es := by
  have hin : ∀ x ∈ openM n es k, x ∈ bestM n es (k + 1) := fun x hx => by
    obtain ⟨hx1, hx2⟩ := (open_mem hS).mp hx
    have hxa := round_sub _ hx1
    exact best_mem.mpr ⟨allM_mem.mp hxa, fun t t1 t2 => catch_up hS k hxa (allM_mem.mpr ⟨t1, t2⟩) (hx2 _ (sh_in (allM_mem.mpr ⟨t1, t2⟩) k))⟩
  have hne : bestM n es (k + 1) ≠ [] := fun e => by
    obtain ⟨x, hx⟩ := List.exists_mem_of_ne_nil _ hop
    have := hin x hx
    rw [e] at this
    cases this
  have hlow : bestM n es k = [] := by
    cases k with
    | zero => exact best_none0 h2
    | succ k =>
      refine best_low hS fun u hu => Classical.byContradiction fun hn => hno (k + 1) (by omega) ?_
      have hall : ∀ z ∈ roundM es (allM n) k, Adj es u z := fun z hz => Classical.byContradiction fun h => hn ⟨z, hz, h⟩
      have hsee : ∀ p ∈ roundM es (allM n) (k + 1), ∀ z ∈ roundM es (allM n) k, Adj es p z := fun p hp z hz => Classical.byContradiction fun h =>
        (restM_mem.mp hp).2 ⟨u, hu, ⟨z, hz, hall z hz, h⟩, fun y hy _ => hall y hy⟩
      refine List.filter_eq_self.mpr fun p hp => ?_
      have : goesB es (roundM es (allM n) (k + 1)) p ≠ true := fun h => by
        obtain ⟨q, _, ⟨z, hz, _, h4⟩, _⟩ := goesB_iff.mp h
        exact h4 (hsee p hp z (rest_in hz))
      simpa using this
  have hbe : beM n es = some (k + 1) := be_at hS (fun j hj => best_le hS (by omega) hlow) hne
  refine ⟨hbe, fun x hx => ?_⟩
  unfold beL
  rw [hbe]
  exact hin x hx
theorem due_one {es : List Edge} : beM 1 es = some 0 ∧ (1 : Int) ∈ beL 1 es := by
  have h : (1 : Int) ∈ bestM 1 es 0 := best_mem.mpr ⟨⟨by omega, by omega⟩, fun t t1 t2 => by
    have : t = 1 := by omega
    subst this
    exact decide_eq_true rfl⟩
  have hbe : beM 1 es = some 0 := be_some.mpr ⟨fun e => (by rw [e] at h; cases h), Nat.zero_le _, fun j hj => absurd hj (Nat.not_lt_zero _)⟩
  refine ⟨hbe, ?_⟩
  unfold beL
  rw [hbe]
  exact h
theorem due_never {n : Nat} {es l : List Edge} {left : List Int} (hS : Simp n es) (r : RunL es (allM n) l left) (st : foldableM es left = []) (h2 : 2 ≤ left.length) : beM n es = none := by
  have nd : left.Nodup := (r.length ((allM_lt n).imp fun h => by omega)).2
  refine (be_none hS).mpr fun j => List.eq_nil_iff_forall_not_mem.mpr fun x hx => ?_
  obtain ⟨hr, hw⟩ := best_mem.mp hx
  obtain ⟨t, ht, hc⟩ := catch_not hS r st h2 nd hr
  have := hw t ht.1 ht.2
  rw [hc j] at this
  cases this
/-! ### products -/
def omax : Option Nat → Option Nat → Option Nat
  | some a, some b => some (max a b)
  | _, _ => none
theorem wB_one {n : Nat} {es : List Edge} (hS : Simp n es) {h t : Int} (hh : h ∈ allM n) (ht : t ∈ allM n) : wB n es 1 h t = true ↔ Adj es h t := by
  rw [wB_iff]
  constructor
  · rintro ⟨g, hg, hc | hc⟩
    · subst hc
      exact (beside_adj hS hh).mp hg
    · have h2 : g = t := of_decide_eq_true (hc t ((beside_adj hS ht).mpr (adj_refl _ _)))
      subst h2
      exact (beside_adj hS hh).mp hg
  · exact fun h => ⟨t, (beside_adj hS hh).mpr h, .inl rfl⟩
theorem parts_in {n m : Nat} (hm : 1 ≤ m) {x : Int} (hx : x ∈ allM (n * m)) : p1 m x ∈ allM n ∧ p2 m x ∈ allM m := by
  have h := allM_mem.mp hx
  have := parts_rng hm h.1 h.2
  exact ⟨allM_mem.mpr ⟨this.1, this.2.1⟩, allM_mem.mpr ⟨this.2.2.1, this.2.2.2⟩⟩
theorem cod_in {n m : Nat} {a b : Int} (ha : a ∈ allM n) (hb : b ∈ allM m) : cod m a b ∈ allM (n * m) ∧ p1 m (cod m a b) = a ∧ p2 m (cod m a b) = b := by
  have h1 := allM_mem.mp ha
  have h2 := allM_mem.mp hb
  exact ⟨allM_mem.mpr (cod_rng h1.1 h1.2 h2.1 h2.2), p1_cod h2.1 h2.2, p2_cod h2.1 h2.2⟩
theorem prod_beside {n m : Nat} {es fs : List Edge} (hm : 1 ≤ m) {x y : Int} (hx : x ∈ allM (n * m)) : y ∈ besideM (n * m) (prodM n es m fs) x ↔ y ∈ allM (n * m) ∧ Adj es (p1 m x) (p1 m y) ∧ Adj fs (p2 m x) (p2 m y) := by
  constructor
  · intro h
    have hy := beside_all h
    exact ⟨hy, (adj_prod hm (allM_mem.mp hx) (allM_mem.mp hy)).mp ((beside_adj (prod_simp hm) hx).mp h)⟩
  · rintro ⟨hy, h⟩
    exact (beside_adj (prod_simp hm) hx).mpr ((adj_prod hm (allM_mem.mp hx) (allM_mem.mp hy)).mpr h)
theorem wB_prod {n m : Nat} {es fs : List Edge} (hm : 1 ≤ m) (h1 : Simp n es) (h2 : Simp m fs) : ∀ (k : Nat) {p q : Int}, p ∈ allM (n * m) → q ∈ allM (n * m) →
    (wB (n * m) (prodM n es m fs) k p q = true ↔ wB n es k (p1 m p) (p1 m q) = true ∧ wB m fs k (p2 m p) (p2 m q) = true)
  | 0, p, q, _, _ => by
    show decide (p = q) = true ↔ decide (p1 m p = p1 m q) = true ∧ decide (p2 m p = p2 m q) = true
    rw [decide_eq_true_eq, decide_eq_true_eq, decide_eq_true_eq]
    constructor
    · rintro rfl
      exact ⟨rfl, rfl⟩
    · rintro ⟨e1, e2⟩
      rw [← cod_parts (m := m) p, e1, e2, cod_parts]
  | k + 1, p, q, hp, hq => by
    have pp := parts_in hm hp
    have pq := parts_in hm hq
    have ih := fun {a b : Int} => wB_prod hm h1 h2 k (p := a) (q := b)
    constructor
    · intro hw
      obtain ⟨g, hg, hc⟩ := wB_iff.mp hw
      obtain ⟨hga, g1, g2⟩ := (prod_beside hm hp).mp hg
      have pg := parts_in hm hga
      constructor
      · refine wB_iff.mpr ⟨p1 m g, (beside_adj h1 pp.1).mpr g1, ?_⟩
        rcases hc with hc | hc
        · exact .inl (by rw [hc])
        · refine .inr fun s hs => ?_
          have hsa := beside_all hs
          obtain ⟨hca, c1, c2⟩ := cod_in (m := m) hsa pq.2
          have := (ih hga hca).mp (hc _ ((prod_beside hm hq).mpr ⟨hca, by rw [c1]; exact (beside_adj h1 pq.1).mp hs, by rw [c2]; exact adj_refl _ _⟩))
          rw [c1] at this
          exact this.1
      · refine wB_iff.mpr ⟨p2 m g, (beside_adj h2 pp.2).mpr g2, ?_⟩
        rcases hc with hc | hc
        · exact .inl (by rw [hc])
        · refine .inr fun s hs => ?_
          have hsa := beside_all hs
          obtain ⟨hca, c1, c2⟩ := cod_in (m := m) pq.1 hsa
          have := (ih hga hca).mp (hc _ ((prod_beside hm hq).mpr ⟨hca, by rw [c1]; exact adj_refl _ _, by rw [c2]; exact (beside_adj h2 pq.2).mp hs⟩))
          rw [c2] at this
          exact this.2
    · rintro ⟨w1, w2⟩
      cases k with
      | zero =>
        rw [wB_one h1 pp.1 pq.1] at w1
        rw [wB_one h2 pp.2 pq.2] at w2
        exact wB_iff.mpr ⟨q, (prod_beside hm hp).mpr ⟨hq, w1, w2⟩, .inl rfl⟩
      | succ k =>
        obtain ⟨a, ha, ca⟩ := wB_iff.mp w1
        obtain ⟨b, hb, cb⟩ := wB_iff.mp w2
        have haa := beside_all ha
        have hba := beside_all hb
        obtain ⟨hca, c1, c2⟩ := cod_in (m := m) haa hba
        -- whoever is caught stays caught
        have fa : ∀ s ∈ besideM n es (p1 m q), wB n es (k + 1) a s = true := fun s hs => by
          rcases ca with e | h
          · rw [e]
            have hsa := beside_all hs
            have r1 := allM_mem.mp pq.1
            have r2 := allM_mem.mp hsa
            exact wB_le h1 r1.1 r1.2 r2.1 r2.2 (by omega) ((wB_one h1 pq.1 hsa).mpr ((beside_adj h1 pq.1).mp hs))
          · exact h s hs
        have fb : ∀ s ∈ besideM m fs (p2 m q), wB m fs (k + 1) b s = true := fun s hs => by
          rcases cb with e | h
          · rw [e]
            have hsa := beside_all hs
            have r1 := allM_mem.mp pq.2
            have r2 := allM_mem.mp hsa
            exact wB_le h2 r1.1 r1.2 r2.1 r2.2 (by omega) ((wB_one h2 pq.2 hsa).mpr ((beside_adj h2 pq.2).mp hs))
          · exact h s hs
        refine wB_iff.mpr ⟨cod m a b, (prod_beside hm hp).mpr ⟨hca, by rw [c1]; exact (beside_adj h1 pp.1).mp ha, by rw [c2]; exact (beside_adj h2 pp.2).mp hb⟩, .inr fun s hs => ?_⟩
        obtain ⟨hsa, s1, s2⟩ := (prod_beside hm hq).mp hs
        refine (ih hca hsa).mpr ?_
        rw [c1, c2]
        exact ⟨fa _ ((beside_adj h1 pq.1).mpr s1), fb _ ((beside_adj h2 pq.2).mpr s2)⟩
theorem rk_at {n : Nat} {es : List Edge} (hS : Simp n es) {h t : Int} (hh : 1 ≤ h ∧ h ≤ n) (ht : 1 ≤ t ∧ t ≤ n) {k : Nat} (hno : ∀ j, j < k → wB n es j h t = false) (hw : wB n es k h t = true) : rkM n es h t = some k := by
  refine rk_some.mpr ⟨hw, Nat.le_of_not_lt fun hk => ?_, hno⟩
  have := (still_last hS).eq (Nat.le_of_lt hk) hh.1 hh.2 ht.1 ht.2
  rw [hw, hno _ hk] at this
  cases this
theorem rk_prod {n m : Nat} {es fs : List Edge} (hm : 1 ≤ m) (h1 : Simp n es) (h2 : Simp m fs) {p q : Int} (hp : p ∈ allM (n * m)) (hq : q ∈ allM (n * m)) :
    rkM (n * m) (prodM n es m fs) p q = omax (rkM n es (p1 m p) (p1 m q)) (rkM m fs (p2 m p) (p2 m q)) := by
  have pp := parts_in hm hp
  have pq := parts_in hm hq
  have r1 := allM_mem.mp pp.1
  have r2 := allM_mem.mp pp.2
  have t1 := allM_mem.mp pq.1
  have t2 := allM_mem.mp pq.2
  have hw := fun k => wB_prod hm h1 h2 k hp hq
  have fls : ∀ {b : Bool}, ¬ b = true → b = false := fun {b} h => by cases b with | false => rfl | true => exact absurd rfl h
  cases e1 : rkM n es (p1 m p) (p1 m q) with
  | none =>
    have hn := (rk_none h1 r1 t1).mp e1
    exact (rk_none (prod_simp hm) (allM_mem.mp hp) (allM_mem.mp hq)).mpr fun j => fls fun h => by
      have := ((hw j).mp h).1
      rw [hn j] at this
      cases this
  | some a =>
    cases e2 : rkM m fs (p2 m p) (p2 m q) with
    | none =>
      have hn := (rk_none h2 r2 t2).mp e2
      exact (rk_none (prod_simp hm) (allM_mem.mp hp) (allM_mem.mp hq)).mpr fun j => fls fun h => by
        have := ((hw j).mp h).2
        rw [hn j] at this
        cases this
    | some b =>
      obtain ⟨a1, _, a3⟩ := rk_some.mp e1
      obtain ⟨b1, _, b3⟩ := rk_some.mp e2
      refine rk_at (prod_simp hm) (allM_mem.mp hp) (allM_mem.mp hq) (fun j hj => fls fun h => ?_) ((hw _).mpr ⟨wB_le h1 r1.1 r1.2 t1.1 t1.2 (Nat.le_max_left a b) a1, wB_le h2 r2.1 r2.2 t2.1 t2.2 (Nat.le_max_right a b) b1⟩)
      obtain ⟨x, y⟩ := (hw j).mp h
      rcases Nat.lt_or_ge j a with ha | ha
      · rw [a3 j ha] at x
        cases x
      · have : j < b := by omega
        rw [b3 j this] at y
        cases y
theorem best_prod {n m : Nat} {es fs : List Edge} (hn : 1 ≤ n) (hm : 1 ≤ m) (h1 : Simp n es) (h2 : Simp m fs) (k : Nat) : bestM (n * m) (prodM n es m fs) k = [] ↔ bestM n es k = [] ∨ bestM m fs k = [] := by
  constructor
  · intro h
    refine Classical.byContradiction fun hc => ?_
    rw [not_or] at hc
    obtain ⟨a, ha⟩ := List.exists_mem_of_ne_nil _ hc.1
    obtain ⟨b, hb⟩ := List.exists_mem_of_ne_nil _ hc.2
    obtain ⟨ar, aw⟩ := best_mem.mp ha
    obtain ⟨br, bw⟩ := best_mem.mp hb
    obtain ⟨hca, c1, c2⟩ := cod_in (m := m) (allM_mem.mpr ar) (allM_mem.mpr br)
    have : cod m a b ∈ bestM (n * m) (prodM n es m fs) k := best_mem.mpr ⟨allM_mem.mp hca, fun t t1 t2 => by
      have hta : t ∈ allM (n * m) := allM_mem.mpr ⟨t1, t2⟩
      have pt := parts_in hm hta
      rw [wB_prod hm h1 h2 k hca hta, c1, c2]
      exact ⟨aw _ (allM_mem.mp pt.1).1 (allM_mem.mp pt.1).2, bw _ (allM_mem.mp pt.2).1 (allM_mem.mp pt.2).2⟩⟩
    rw [h] at this
    cases this
  · intro hc
    refine List.eq_nil_iff_forall_not_mem.mpr fun x hx => ?_
    obtain ⟨hr, hw⟩ := best_mem.mp hx
    have hxa := allM_mem.mpr hr
    have px := parts_in hm hxa
    have f1 : p1 m x ∈ bestM n es k := best_mem.mpr ⟨allM_mem.mp px.1, fun t t1 t2 => by
      obtain ⟨hca, c1, c2⟩ := cod_in (m := m) (allM_mem.mpr ⟨t1, t2⟩) (show (1 : Int) ∈ allM m from allM_mem.mpr ⟨by omega, by omega⟩)
      have := ((wB_prod hm h1 h2 k hxa hca).mp (hw _ (allM_mem.mp hca).1 (allM_mem.mp hca).2)).1
      rw [c1] at this
      exact this⟩
    have f2 : p2 m x ∈ bestM m fs k := best_mem.mpr ⟨allM_mem.mp px.2, fun t t1 t2 => by
      obtain ⟨hca, c1, c2⟩ := cod_in (n := n) (m := m) (show (1 : Int) ∈ allM n from allM_mem.mpr ⟨by omega, by omega⟩) (allM_mem.mpr ⟨t1, t2⟩)
      have := ((wB_prod hm h1 h2 k hxa hca).mp (hw _ (allM_mem.mp hca).1 (allM_mem.mp hca).2)).2
      rw [c2] at this
      exact this⟩
    rcases hc with h | h
    · rw [h] at f1
      cases f1
    · rw [h] at f2
      cases f2
theorem be_prod {n m : Nat} {es fs : List Edge} (hn : 1 ≤ n) (hm : 1 ≤ m) (h1 : Simp n es) (h2 : Simp m fs) : beM (n * m) (prodM n es m fs) = omax (beM n es) (beM m fs) := by
  have hb := best_prod hn hm h1 h2
  cases e1 : beM n es with
  | none =>
    have hn := (be_none h1).mp e1
    exact (be_none (prod_simp hm)).mpr fun j => (hb j).mpr (.inl (hn j))
  | some a =>
    cases e2 : beM m fs with
    | none =>
      have hn := (be_none h2).mp e2
      exact (be_none (prod_simp hm)).mpr fun j => (hb j).mpr (.inr (hn j))
    | some b =>
      obtain ⟨a1, _, a3⟩ := be_some.mp e1
      obtain ⟨b1, _, b3⟩ := be_some.mp e2
      refine be_at (prod_simp hm) (fun j hj => (hb j).mpr ?_) fun h => ?_
      · rcases Nat.lt_or_ge j a with ha | ha
        · exact .inl (a3 j ha)
        · exact .inr (b3 j (by omega))
      · rcases (hb _).mp h with h | h
        · exact a1 (best_le h1 (Nat.le_max_left a b) h)
        · exact b1 (best_le h2 (Nat.le_max_right a b) h)
end
/-! piece CKn -/
section
/-! ### the written nets -/
def runC (es : List Edge) : List Int → List Edge → Option (List Int)
  | left, [] => some left
  | left, (p, q) :: l => if p ∈ left ∧ q ∈ ontoM es left p then runC es (without left p) l else none
theorem runC_run {es : List Edge} : ∀ {l : List Edge} {left left' : List Int}, runC es left l = some left' → RunL es left l left'
  | [], left, left', h => by cases Option.some.inj h; exact .nil _
  | (p, q) :: l, left, left', h => by
    unfold runC at h
    split at h
    · rename_i hc
      exact .cons hc.1 hc.2 (runC_run h)
    · cases h
def lineE (k : Nat) : List Edge := (List.range k).map fun (i : Nat) => ((i : Int) + 1, (i : Int) + 2)
def rowG : List Edge := lineE 11
def starE (n : Nat) : List Edge := (List.range (n - 1)).map fun (i : Nat) => ((1 : Int), (i : Int) + 2)
def sevenX : List Edge := [(1, 4), (2, 5), (3, 6), (1, 5), (2, 6), (1, 7), (2, 7), (3, 7), (4, 7)]
def ring4 : List Edge := [(1, 2), (2, 3), (3, 4), (4, 1)]
def tie1 : List Edge := [(1, 2)]
theorem simp_ring4 : Simp ((4 : Nat) : Int) ring4 := simp_of (by decide) (by decide)
theorem simp_tie1 : Simp ((2 : Nat) : Int) tie1 := simp_of (by decide) (by decide)
theorem simp_none (n : Nat) : Simp (n : Int) [] := simp_of (fun e h => nomatch h) List.Pairwise.nil
theorem simp_seven : Simp ((7 : Nat) : Int) (rowG.take 5 ++ sevenX) := simp_of (by decide +kernel) (by decide +kernel)
theorem simp_round : Simp ((12 : Nat) : Int) (rowG ++ [(1, 12)]) := simp_of (by decide +kernel) (by decide +kernel)
theorem simp_row : Simp ((12 : Nat) : Int) rowG := simp_of (by decide +kernel) (by decide +kernel)
theorem simp_cut (n : Nat) (h1 : 1 ≤ n) (h2 : n ≤ 12) : Simp ((n : Nat) : Int) (rowG.take (n - 1)) ∧ Simp ((n : Nat) : Int) (starE n) := by
  have h : n = 1 ∨ n = 2 ∨ n = 3 ∨ n = 4 ∨ n = 5 ∨ n = 6 ∨ n = 7 ∨ n = 8 ∨ n = 9 ∨ n = 10 ∨ n = 11 ∨ n = 12 := by omega
  rcases h with rfl | rfl | rfl | rfl | rfl | rfl | rfl | rfl | rfl | rfl | rfl | rfl <;> exact ⟨simp_of (by decide +kernel) (by decide +kernel), simp_of (by decide +kernel) (by decide +kernel)⟩
theorem rounds_of {es : List Edge} {S : List Int} {c : List (List Int)} {r : Nat} (h0 : c.getD 0 [] = S) (hc : ((List.range r).all fun i => decide (restM es (c.getD i []) = c.getD (i + 1) [])) = true) : ∀ i, i ≤ r → roundM es S i = c.getD i []
  | 0, _ => h0.symm
  | i + 1, hi => by
    have h := of_decide_eq_true (List.all_eq_true.mp hc i (List.mem_range.mpr (by omega)))
    show restM es (roundM es S i) = _
    rw [rounds_of h0 hc i (by omega), h]
theorem num_last {n r : Nat} {es l : List Edge} {c : List (List Int)} {z : Int} (hS : Simp n es) (h2 : 2 ≤ n) (h0 : c.getD 0 [] = allM n) (hc : ((List.range r).all fun i => decide (restM es (c.getD i []) = c.getD (i + 1) [])) = true)
    (hst : restM es (c.getD r []) = c.getD r []) (hrun : runC es (allM n) l = some [z])
    (hop : r = 0 ∨ ((c.getD r []).filter fun v => decide (((c.getD (r - 1) []).filter fun z => !decide (z ∈ besideM n es v)) = [])) = []) : beM n es = some (r + 1) := by
  have hr := rounds_of h0 hc
  refine (due_last (r := r) hS h2 (runC_run hrun) rfl (by rw [hr r (Nat.le_refl _)]; exact hst) fun k hk => ?_).1
  subst hk
  unfold openM
  rw [hr (k + 1) (Nat.le_refl _), hr k (by omega)]
  exact hop.resolve_left (by omega)
theorem num_open {n k : Nat} {es : List Edge} {c : List (List Int)} (hS : Simp n es) (h2 : 2 ≤ n) (h0 : c.getD 0 [] = allM n) (hc : ((List.range (k + 1)).all fun i => decide (restM es (c.getD i []) = c.getD (i + 1) [])) = true)
    (hne : ((List.range (k + 1)).all fun i => decide (c.getD (i + 1) [] ≠ c.getD i [])) = true)
    (hop : ((c.getD (k + 1) []).filter fun v => decide (((c.getD k []).filter fun z => !decide (z ∈ besideM n es v)) = [])) ≠ []) : beM n es = some (k + 1) := by
  have hr := rounds_of h0 hc
  refine (due_open (k := k) hS h2 (fun j hj => ?_) ?_).1
  · have h1 := of_decide_eq_true (List.all_eq_true.mp hne j (List.mem_range.mpr hj))
    have h3 := of_decide_eq_true (List.all_eq_true.mp hc j (List.mem_range.mpr hj))
    rw [hr j (by omega), h3]
    exact h1
  · unfold openM
    rw [hr (k + 1) (Nat.le_refl _), hr k (by omega)]
    exact hop
theorem num2 : beM 2 (rowG.take 1) = some 1 := num_last (r := 0) (c := [[1, 2]]) (l := [(1, 2)]) (z := 2) (simp_cut 2 (by omega) (by omega)).1 (by omega) (by decide +kernel) (by decide +kernel) (by decide +kernel) (by decide +kernel) (.inl rfl)
theorem num3 : beM 3 (rowG.take 2) = some 1 := num_open (k := 0) (c := [[1, 2, 3], [2]]) (simp_cut 3 (by omega) (by omega)).1 (by omega) (by decide +kernel) (by decide +kernel) (by decide +kernel) (by decide +kernel)
theorem num4 : beM 4 (rowG.take 3) = some 2 := num_last (r := 1) (c := [[1, 2, 3, 4], [2, 3]]) (l := [(1, 2), (2, 3), (3, 4)]) (z := 4) (simp_cut 4 (by omega) (by omega)).1 (by omega) (by decide +kernel) (by decide +kernel) (by decide +kernel) (by decide +kernel) (.inr (by decide +kernel))
theorem num5 : beM 5 (rowG.take 4) = some 2 := num_open (k := 1) (c := [[1, 2, 3, 4, 5], [2, 3, 4], [3]]) (simp_cut 5 (by omega) (by omega)).1 (by omega) (by decide +kernel) (by decide +kernel) (by decide +kernel) (by decide +kernel)
theorem num6 : beM 6 (rowG.take 5) = some 3 := num_last (r := 2) (c := [[1, 2, 3, 4, 5, 6], [2, 3, 4, 5], [3, 4]]) (l := [(1, 2), (2, 3), (3, 4), (4, 5), (5, 6)]) (z := 6) (simp_cut 6 (by omega) (by omega)).1 (by omega) (by decide +kernel) (by decide +kernel) (by decide +kernel) (by decide +kernel) (.inr (by decide +kernel))
theorem num12 : beM 12 (rowG.take 11) = some 6 := num_last (r := 5) (c := [[1, 2, 3, 4, 5, 6, 7, 8, 9, 10, 11, 12], [2, 3, 4, 5, 6, 7, 8, 9, 10, 11], [3, 4, 5, 6, 7, 8, 9, 10], [4, 5, 6, 7, 8, 9], [5, 6, 7, 8], [6, 7]]) (l := [(1, 2), (2, 3), (3, 4), (4, 5), (5, 6), (6, 7), (7, 8), (8, 9), (9, 10), (10, 11), (11, 12)]) (z := 12) (simp_cut 12 (by omega) (by omega)).1 (by omega) (by decide +kernel) (by decide +kernel) (by decide +kernel) (by decide +kernel) (.inr (by decide +kernel))
theorem num1 : beM 1 (rowG.take 0) = some 0 := due_one.1
end
/-! piece PNj -/
section
variable {P : Program} {w : World} {K : PySem.W.Frag} {mg : Str → Option Value} {base : Heap}
/-! ### rounds_left -/
theorem nodup_sub_leA {α : Type} [DecidableEq α] : ∀ {l m : List α}, l.Nodup → (∀ x ∈ l, x ∈ m) → l.length ≤ m.length
  | [], _, _, _ => Nat.zero_le _
  | a :: l, m, nd, h => by
    have hnd := List.nodup_cons.mp nd
    have ha := h a (List.mem_cons_self ..)
    have := nodup_sub_leA (l := l) (m := m.erase a) hnd.2 fun x hx => (List.mem_erase_of_ne (fun e => hnd.1 (by first | (rw [← e]; exact hx) | (rw [e]; exact hx)))).mpr (h x (List.mem_cons_of_mem _ hx))
    rw [List.length_erase_of_mem ha] at this
    have hp := List.length_pos_of_mem ha
    rw [List.length_cons]
    omega
/-- the lots by rounds: all told of them -/
structure RndOf (n : Nat) (es : List Edge) (r : Nat) : Prop where
  st : restM es (roundM es (allM n) r) = roundM es (allM n) r
  no : ∀ j, j < r → restM es (roundM es (allM n) j) ≠ roundM es (allM n) j
  mid : midM n es = roundM es (allM n) r
  le : r ≤ 12
def rndL (n : Nat) (es : List Edge) (r : Nat) : List (List Int) := (List.range (r + 1)).map fun i => roundM es (allM n) i
theorem rnd_of {n : Nat} {es : List Edge} {L : List Nat} {k u : Nat} (h1 : 1 ≤ n) (hn : n ≤ 12) (hk : L.length = k + 1) (hu : L[k]? = some u) (hlu : LotIs u (midM n es)) (hL : ∀ (j u : Nat), L[j]? = some u → LotIs u (roundM es (allM n) j)) (hd : L.Nodup) : RndOf n es k := by
  have hI := fun j => (inNet_all n).round (es := es) j
  have hm : midM n es = roundM es (allM n) k := (lot_inj hlu (hL k u hu) (hI 13) (hI k)).mp rfl
  have h13 : restM es (roundM es (allM n) 13) = roundM es (allM n) 13 := (round_slow es (allM n) 13).resolve_right (by rw [all_len]; omega)
  have hst : restM es (roundM es (allM n) k) = roundM es (allM n) k := by
    rw [← hm]
    exact h13
  have hno : ∀ j, j < k → restM es (roundM es (allM n) j) ≠ roundM es (allM n) j := fun j hj e => by
    have e1 : L[j]? = some L[j] := List.getElem?_eq_getElem (by omega)
    have e2 : L[j + 1]? = some L[j + 1] := List.getElem?_eq_getElem (by omega)
    have h2 := hL (j + 1) _ e2
    have e3 : roundM es (allM n) (j + 1) = roundM es (allM n) j := e
    rw [e3] at h2
    have e4 : L[j] = L[j + 1] := (lot_inj (hL j _ e1) h2 (hI j) (hI j)).mpr rfl
    rw [← e4] at e2
    have := nd_ix hd e1 e2
    omega
  refine ⟨hst, hno, hm, ?_⟩
  cases k with
  | zero => omega
  | succ k =>
    have h2 := (round_slow es (allM n) k).resolve_left (hno k (by omega))
    rw [all_len] at h2
    have h3 : roundM es (allM n) k ≠ [] := by
      intro e
      have h4 := sh_in (es := es) (S := allM n) (x := 1) (allM_mem.mpr ⟨by omega, by omega⟩) k
      rw [e] at h4
      cases h4
    have := List.length_pos_iff.mpr h3
    omega
theorem rnd_rows {n : Nat} {es : List Edge} {L : List Nat} {k : Nat} (hk : L.length = k + 1) (hL : ∀ (j u : Nat), L[j]? = some u → LotIs u (roundM es (allM n) j)) : L.map membersM = rndL n es k := by
  apply List.ext_getElem?
  intro i
  unfold rndL
  rw [List.getElem?_map, List.getElem?_map]
  by_cases hi : i < k + 1
  · have e1 : L[i]? = some L[i] := List.getElem?_eq_getElem (by omega)
    have hI := (inNet_all n).round (es := es) i
    rw [e1, List.getElem?_range hi]
    show some (membersM L[i]) = some (roundM es (allM n) i)
    rw [members_lot (hL i _ e1) hI.lt fun x hx => (hI.rng x hx).1]
  · rw [List.getElem?_eq_none (by omega), List.getElem?_eq_none (by rw [List.length_range]; omega)]
    rfl
@[irreducible] def spRounds : Sp := fun vs H Q _ => ∃ (q : Addr) (n : Nat) (es : List Edge), vs = [.int n, .ref q] ∧ 1 ≤ n ∧ n ≤ 12 ∧ Pairs H q es ∧ Simp n es ∧ es.length ≤ 200 ∧
  ∀ p rs r H', Same H H' → H p = none → RwAt H' p rs (rndL n es r) → RndOf n es r → Q (.ref p) H'
theorem call_rounds {q : Addr} {n : Nat} {es : List Edge} {H : Hp} {Q : VK} {E : XK} (h1 : 1 ≤ n) (hn : n ≤ 12) (hq : Pairs H q es) (hS : Simp n es) (hl : es.length ≤ 200)
    (fin : ∀ p rs r H', Same H H' → H p = none → RwAt H' p rs (rndL n es r) → RndOf n es r → Q (.ref p) H') : spRounds [.int n, .ref q] H Q E := by
  unfold spRounds
  exact ⟨q, n, es, rfl, h1, hn, hq, hS, hl, fin⟩
set_option maxHeartbeats 4000000 in
theorem ok_rounds {f : Addr} {fd : FuncData} (F : Fun K "rounds_left" "rounds_left" s_rounds_left f fd) (C : Cal P w K mg base "read_net" 2 ["places", "lines"] spRead) (C2 : Cal P w K mg base "members" 1 ["lot"] spMembers)
    (C3 : Cal P w K mg base "_lots_by_rounds" 3 ["near"] spLots) :
    FnOk P w K mg base CX0 4 f fd ["places", "lines"] spRounds := by
  refine F.ok sc_rounds_left (fun vs H Q E h => ?_) (fun cdv A outer s H vs Q E hr h => ?_)
  · unfold spRounds at h
    obtain ⟨q, n, es, rfl, _⟩ := h
    rfl
  · have nd := sc_rounds_left.nd
    have hS := sc_rounds_left
    have hKM : KMark K := ⟨⟩
    refine' mk_body ?body ?rd
    case body =>
      show PSs _ [_] _
      wtm_at "fo ss"
    case rd =>
     unfold spRounds at h
     obtain ⟨q, n, es, rfl, h1, hn, hq, hSi, hl, fin⟩ := h
     wtm_at "fo r"
     refine call_read h1 hn hq hSi hl (fun r H1 sm1 nr hr1 => ?_)
     wtm_at "fo r"
     refine call_lots hn hSi hr1 (fun D0 H2 L k u sm2 nD0 hD0 hk hu hlu hL hLd => ?_)
     have hR := rnd_of h1 hn hk hu hlu hL hLd
     have hRr := rnd_rows hk hL
     have hkl := hR.le
     refine ⟨D0, rfl, ⟨_, SqL.of hD0⟩, fun D nD => ?_⟩
     have s2 := sm1.trans sm2
     refine lc_rows (K := K) (xs := L) (inj := fun (l : Nat) => V.int l) (fun _ => True) membersM (SqL.of hD0) nD (by omega) (fun _ => rfl) ?_ ?_ ?_
     · intro x hx H3 sm3 R hRR
       exact hRR true H3 (Same.refl _) ⟨fun _ => trivial, fun _ => rfl⟩
     · intro x hx _ H3 sm3 R hRR
       obtain ⟨i, hi⟩ := List.getElem?_of_mem hx
       have hI := (inNet_all n).round (es := es) i
       wtm_at "fo r"
       refine call_members (Nat.lt_of_lt_of_le (lot_small (hL i x hi) fun x hx => (hI.rng x hx).2) (Nat.pow_le_pow_right (by decide) (by omega))) (fun p H4 sm4 np hp => ?_)
       exact hRR H4 p sm4 np hp
     · intro H3 rs ys sm3 hRw hfr hDn hys hsub
       have hy : ys = L := hsub.eq_of_length_le (nodup_sub_leA hLd fun x hx => (hys x).mpr ⟨hx, trivial⟩)
       rw [hy, hRr] at hRw
       wtm_at "fo r"
       exact fin D rs k H3 (s2.trans sm3) (s2.free nD) hRw hR
end
/-! piece PBs -/
section
variable {P : Program} {w : World} {K : PySem.W.Frag} {mg : Str → Option Value} {base : Heap}
set_option maxHeartbeats 2000000 in
theorem ok_beside {f : Addr} {fd : FuncData} (F : Fun K "beside" "beside" s_beside f fd) (C : Cal P w K mg base "read_net" 2 ["places", "lines"] spRead) (C2 : Cal P w K mg base "check_place" 2 ["near", "place"] spCPl) (C3 : Cal P w K mg base "members" 1 ["lot"] spMembers) :
    FnOk P w K mg base CX0 3 f fd ["places", "lines", "place"] spBeside := by
  refine F.ok sc_beside (fun vs H Q E h => ?_) (fun cdv A outer s H vs Q E hr h => ?_)
  · unfold spBeside at h
    obtain ⟨q, n, p, es, rfl, _⟩ := h
    rfl
  · have nd := sc_beside.nd
    have hS := sc_beside
    have hKM : KMark K := ⟨⟩
    refine' mk_body ?body ?rd
    case body =>
      show PSs _ [_, _, _] _
      wtm_at "fo ss"
    case rd =>
     unfold spBeside at h
     obtain ⟨q, n, p, es, rfl, h1, h2, h3, h4, hq, hSi, hl, fin⟩ := h
     wtm_at "fo r"
     refine call_read h1 h2 hq hSi hl (fun r H1 sm1 nr hr1 => ?_)
     wtm_at "fo r"
     refine call_cpl hr1 (n := n) (by rw [List.length_map, nearB_length]) h3 h4 ?_
     wtm_at "fo r"
     obtain ⟨pn, rfl⟩ : ∃ k : Nat, p = (k : Int) := ⟨p.toNat, by omega⟩
     obtain ⟨u, hu, hm⟩ := membersM_near hSi (p := pn) (by omega) (by omega)
     refine Or.inl ⟨r, _, (pn : Nat), _, rfl, rfl, SqL.of hr1, at_nb hu, ?_⟩
     refine call_members (Nat.lt_of_lt_of_le (nearB_small hSi hu) (Nat.pow_le_pow_right (by decide) (by omega))) (fun p2 H2 sm2 np2 hp2 => ?_)
     rw [hm] at hp2
     exact fin p2 H2 (sm1.trans sm2) (sm1.free np2) hp2
end
/-! tactics TAC5 -/
local macro_rules | `(tactic| wtm_at "fo slice") => `(tactic| ((with_reducible show PE _ (.Subscript _ (.Slice none none (some _) _) _) _); refine' pe_stepK2 (by assumption) (by exact rfl) ?ka ?kb; (case ka => wtm_at "fo e"); (case kb => wtm_at "fo e")))
/-! piece TRA -/
section
variable {P : Program} {w : World} {K : PySem.W.Frag} {mg : Str → Option Value} {base : Heap}
/-! ### _law_due -/
@[irreducible] def spDue : Sp := fun vs H Q _ => ∃ (q : Addr) (n : Nat) (es : List Edge), vs = [.int n, .ref q] ∧ 1 ≤ n ∧ n ≤ 12 ∧ Pairs H q es ∧ Simp n es ∧ es.length ≤ 200 ∧
  ∀ p x X H', Same H H' → H' p = some (.tup [.ref x, beV n es]) → H' x = some (iL X) → X.length ≤ 12 → (∀ y ∈ X, y ∈ beL n es) → Q (.ref p) H'
theorem call_due {q : Addr} {n : Nat} {es : List Edge} {H : Hp} {Q : VK} {E : XK} (h1 : 1 ≤ n) (hn : n ≤ 12) (hq : Pairs H q es) (hS : Simp n es) (hl : es.length ≤ 200)
    (fin : ∀ p x X H', Same H H' → H' p = some (.tup [.ref x, beV n es]) → H' x = some (iL X) → X.length ≤ 12 → (∀ y ∈ X, y ∈ beL n es) → Q (.ref p) H') : spDue [.int n, .ref q] H Q E := by
  unfold spDue
  exact ⟨q, n, es, rfl, h1, hn, hq, hS, hl, fin⟩
theorem beV_some {n k : Nat} {es : List Edge} (h : beM n es = some k) : beV n es = .int (k : Nat) := by
  unfold beV
  rw [h]
  rfl
theorem beV_none {n : Nat} {es : List Edge} (h : beM n es = none) : beV n es = .non := by
  unfold beV
  rw [h]
  rfl
theorem at_snd {rs : List Addr} {k : Nat} {a : Addr} (hk : rs.length = k + 2) (hu : rs[k]? = some a) : atI (rs.map V.ref) (-2) = some (.ref a) := by
  have e : ixN (rs.map V.ref).length (-2) = some k := by
    unfold ixN
    rw [if_neg (by omega), List.length_map, hk, if_pos (by omega)]
    congr 1
    omega
  unfold atI
  rw [e]
  show (rs.map V.ref)[k]? = _
  rw [List.getElem?_map, hu]
  rfl
set_option maxHeartbeats 8000000 in
theorem ok_due {f : Addr} {fd : FuncData} (F : Fun K "_law_due" "_law_due" s_law_due f fd) (mn : mg "len" = none) (C : Cal P w K mg base "end_size" 5 ["places", "lines"] spSize) (C2 : Cal P w K mg base "rounds_left" 4 ["places", "lines"] spRounds)
    (C3 : Cal P w K mg base "middle" 4 ["places", "lines"] spMiddle) (C4 : Cal P w K mg base "beside" 3 ["places", "lines", "place"] spBeside) :
    FnOk P w K mg base CX0 6 f fd ["_law_size", "_law_sides"] spDue := by
  refine F.ok sc_law_due (fun vs H Q E h => ?_) (fun cdv A outer s H vs Q E hr h => ?_)
  · unfold spDue at h
    obtain ⟨q, n, es, rfl, _⟩ := h
    rfl
  · have nd := sc_law_due.nd
    have hS := sc_law_due
    have hKM : KMark K := ⟨⟩
    refine' mk_body ?body ?rd
    case body =>
      show PSs _ [_, _, _, _, _, _] _
      wtm_at "fo ss"
    case rd =>
     unfold spDue at h
     obtain ⟨q, n, es, rfl, h1, hn, hq, hSi, hl, fin⟩ := h
     wtm_at "fo r"
     refine call_size h1 hn hq hSi hl (fun ps left H1 hE sm1 => ?_)
     wtm_at "fo r"
     refine ite2 (fun hc => ?_) (fun hc => ?_)
     · have hc := of_decide_eq_true hc
       wtm_at "fo r"
       rename_i x nx p np
       have hv := beV_none (due_never hSi hE.run hE.st (by omega))
       have := fin p x [] (upd (upd H1 x (.lst [])) p (.tup [.ref x, beV n es])) (sm1.trans ((same_upd (Same.refl _) nx).trans (same_upd (Same.refl _) np))) upd_same ((upd_ne (ne_of_none upd_same np)).trans upd_same) (by simp) (fun y h => nomatch h)
       rw [hv] at this
       exact this
     · have hc : ¬ (1 : Int) < (left.length : Nat) := fun e => hc (decide_eq_true e)
       have hl0 : 1 ≤ left.length := by
         have h1m : (1 : Int) ∈ allM n := allM_mem.mpr ⟨by omega, by omega⟩
         have := mapR_in hE.run.run h1m
         exact List.length_pos_of_mem this
       have hl1 : left.length = 1 := by omega
       wtm_at "fo r"
       refine ite2 (fun hc1 => ?_) (fun hc1 => ?_)
       · have hn1 : n = 1 := by
           have := of_decide_eq_true hc1
           injection this with this
           omega
         subst hn1
         wtm_at "fo r"
         rename_i x nx p np
         have hv := beV_some (due_one (es := es)).1
         have := fin p x [1] (upd (upd H1 x (.lst [.int 1])) p (.tup [.ref x, beV 1 es])) (sm1.trans ((same_upd (Same.refl _) nx).trans (same_upd (Same.refl _) np))) upd_same ((upd_ne (ne_of_none upd_same np)).trans upd_same) (by simp) (fun y h => by rw [List.mem_singleton.mp h]; exact (due_one (es := es)).2)
         rw [hv] at this
         exact this
       · have hn2 : 2 ≤ n := by
           refine Nat.lt_of_le_of_ne h1 fun e => hc1 ?_
           subst e
           rfl
         wtm_at "fo r"
         refine call_rounds h1 hn (hq.same sm1) hSi hl (fun D rs r H2 sm2 nD hRw hR => ?_)
         have s2 := sm1.trans sm2
         wtm_at "fo r"
         refine call_middle h1 hn (hq.same s2) hSi hl (fun mm H3 sm3 nm hm => ?_)
         rw [hR.mid] at hm
         have s3 := s2.trans sm3
         have hRw3 := hRw.same sm3
         have hr12 := hR.le
         have hrl : (rndL n es r).length = r + 1 := by unfold rndL; rw [List.length_map, List.length_range]
         wtm_at "fo r"
         have hDl : (rs.map V.ref).length = r + 1 := by rw [List.length_map, hRw3.len, hrl]
         refine ⟨D, _, rfl, Or.inl (SqL.of hRw3.hD), _, _, rfl, rfl, _, rfl, ?_⟩
         rw [hDl]
         have hI : InNet n (roundM es (allM n) r) := (inNet_all n).round r
         have hIl := hI.len
         have last : ∀ (Hx : Hp) (σ : Sl), Same H3 Hx → (∀ k, r = k + 1 → openM n es k = []) → ∀ p, Hx p = none → Q (.ref p) (upd Hx p (.tup [.ref mm, .int ((r + 1 : Nat) : Int)])) := fun Hx σ smx hop p np => by
           have hd := due_last hSi hn2 hE.run hl1 hR.st hop
           have smp := same_upd (o := .tup [.ref mm, .int ((r + 1 : Nat) : Int)]) smx (smx.free np)
           have := fin p mm (roundM es (allM n) r) (upd Hx p (.tup [.ref mm, .int ((r + 1 : Nat) : Int)])) (s3.trans smp) (by rw [upd_same, beV_some hd.1]) (smp _ _ hm) (Nat.le_trans hIl hn) hd.2
           exact this
         refine ite2 (fun hcr => ?_) (fun hcr => ?_)
         · have hcr := of_decide_eq_true hcr
           obtain ⟨k, rfl⟩ : ∃ k, r = k + 1 := ⟨r - 1, by omega⟩
           wtm_at "fo r"
           rename_i o0 no0
           have sm4 : Same H3 (upd H3 o0 (.lst [])) := same_upd (Same.refl _) no0
           refine ⟨⟨_, SqL.of (sm4 _ _ hm)⟩, ?_⟩
           have hk1 : k < rs.length := by rw [hRw.len, hrl]; omega
           have hrk : rs[k]? = some rs[k] := List.getElem?_eq_getElem hk1
           have hrow : H3 rs[k] = some (iL (roundM es (allM n) k)) := hRw3.at_ k _ _ hrk (by
             unfold rndL
             rw [List.getElem?_map, List.getElem?_range (by omega)]
             rfl)
           have hat := at_snd (k := k) (by rw [hRw.len, hrl]) hrk
           have hIk : InNet n (roundM es (allM n) k) := (inNet_all n).round k
           have hIkl := hIk.len
           generalize rs[k] = rk at *
           refine for_list (K := K) (xs := (roundM es (allM n) (k + 1)).map V.int) (fun i σ Hx => ∃ y5 y6, σ = [some (.int n), some (.ref q), some (.ref D), some (.ref mm), some (.ref o0), y5, y6, none] ∧ Same H3 Hx ∧
             Hx o0 = some (iL (((roundM es (allM n) (k + 1)).take i).filter fun v => decide (((roundM es (allM n) k).filter fun z => !decide (z ∈ besideM n es v)) = [])))) ?_ ?_ ?_ ?_
           · exact ⟨none, none, rfl, sm4, upd_same⟩
           · rintro i σ Hx _ ⟨y5, y6, rfl, smx, ho⟩
             exact SqL.of (smx _ _ hm)
           · rintro i x σ Hx hx ⟨y5, y6, rfl, smx, ho⟩
             obtain ⟨v, hv, rfl⟩ := int_at hx
             have hvr := hI.rng v (List.mem_of_getElem? hv)
             have htk : (roundM es (allM n) (k + 1)).take (i + 1) = (roundM es (allM n) (k + 1)).take i ++ [v] := by rw [List.take_add_one, hv]; rfl
             have hfl : (((roundM es (allM n) (k + 1)).take i).filter fun v => decide (((roundM es (allM n) k).filter fun z => !decide (z ∈ besideM n es v)) = [])).length ≤ 12 :=
               Nat.le_trans (List.length_filter_le ..) (Nat.le_trans (List.take_sublist _ _).length_le (Nat.le_trans hIl hn))
             rw [htk, List.filter_append, List.filter_cons, List.filter_nil]
             generalize (((roundM es (allM n) (k + 1)).take i).filter fun v => decide (((roundM es (allM n) k).filter fun z => !decide (z ∈ besideM n es v)) = [])) = acc at *
             wtm_at "fo r"
             refine call_beside h1 hn hvr.1 hvr.2 (hq.same (s3.trans smx)) hSi hl (fun b H5 sm5 nb hb => ?_)
             have sm35 := smx.trans sm5
             have ho5 := sm5 _ _ ho
             wtm_at "fo r"
             refine Or.inl ⟨D, _, -2, .ref rk, rfl, rfl, SqL.of (sm35 _ _ hRw3.hD), hat, ?_⟩
             refine ⟨rk, rfl, ⟨_, SqL.of (sm35 _ _ hrow)⟩, fun D2 nD2 => ?_⟩
             refine lc_filt (K := K) (xs := roundM es (allM n) k) (fun z => !decide (z ∈ besideM n es v)) (SqL.of (sm35 _ _ hrow)) nD2 (by omega) (Nat.le_of_ble_eq_true rfl) rfl (fun _ => rfl) ?_ ?_
             · intro z hz H6 sm6 R hRR
               refine ⟨_, rfl, _, rfl, b, _, rfl, Or.inl (SqL.of (sm6 _ _ hb)), rfl, flat_ints _, _, rfl, ?_⟩
               show R (!inV (.int z) ((besideM n es v).map V.int)) H6
               rw [inV_ints]
               exact hRR H6 (Same.refl _)
             · intro H6 sm6 hD6
               have hfl2 : ((roundM es (allM n) k).filter fun z => !decide (z ∈ besideM n es v)).length ≤ 12 := Nat.le_trans (List.length_filter_le ..) (Nat.le_trans hIkl hn)
               generalize ((roundM es (allM n) k).filter fun z => !decide (z ∈ besideM n es v)) = fl at *
               have sm36 := sm35.trans sm6
               have ho6 := sm6 _ _ ho5
               wtm_at "fo r"
               rename_i e ne
               have smE : Same H6 (upd H6 e (.lst [])) := same_upd (Same.refl _) ne
               refine Or.inr ⟨.list (fl.map PyData.int), .list [], dp_dI' (SqL.of (smE _ _ hD6)), .lst (SqL.of upd_same) .nil, shaped_ints fl, rfl, _, rfl, ?_⟩
               rw [eqv_list_nil]
               have smF := sm36.trans smE
               have hoF := smE _ _ ho6
               generalize upd H6 e (.lst []) = H7 at *
               cases fl with
               | nil =>
                 refine ifT rfl ?_
                 rw [if_pos (decide_eq_true rfl)]
                 wtm_at "fo r"
                 refine ⟨_, _, rfl, same_upd smF no0, ?_⟩
                 rw [upd_same, iL, List.map_append]
                 rfl
               | cons z zs =>
                 refine ifF (by simp) ?_
                 rw [if_neg (by simp), List.append_nil]
                 exact ⟨_, _, rfl, smF, hoF⟩
           · rintro σ Hx ⟨y5, y6, rfl, smx, ho⟩
             rw [List.length_map, List.take_length] at ho
             have ho : Hx o0 = some (iL (openM n es k)) := ho
             wtm_at "fo r"
             rename_i e ne
             have smE : Same Hx (upd Hx e (.lst [])) := same_upd (Same.refl _) ne
             have hopl : (openM n es k).length ≤ 12 := Nat.le_trans (List.length_filter_le ..) (Nat.le_trans hIl hn)
             refine Or.inr ⟨.list ((openM n es k).map PyData.int), .list [], dp_dI' (SqL.of (smE _ _ ho)), .lst (SqL.of upd_same) .nil, shaped_ints _, rfl, _, rfl, ?_⟩
             rw [eqv_list_nil]
             have smF := smx.trans smE
             have hoF := smE _ _ ho
             generalize upd Hx e (.lst []) = H7 at *
             by_cases hop : openM n es k = []
             · refine ifF (by rw [hop]; rfl) ?_
               wtm_at "fo r"
               refine ⟨D, _, rfl, Or.inl (SqL.of (smF _ _ hRw3.hD)), ?_⟩
               rw [hDl]
               wtm_at "fo r"
               rename_i p np
               exact last H7 [] smF (fun j e => by cases e; exact hop) p np
             · refine ifT (by cases hz : openM n es k with | nil => exact absurd hz hop | cons z zs => rfl) ?_
               have hd := due_open hSi hn2 hR.no hop
               wtm_at "fo r"
               refine ⟨D, _, rfl, Or.inl (SqL.of (smF _ _ hRw3.hD)), ?_⟩
               rw [hDl]
               wtm_at "fo r"
               rename_i p np
               have smp := same_upd (o := .tup [.ref o0, beV n es]) smF (smF.free np)
               have := fin p o0 (openM n es k) (upd H7 p (.tup [.ref o0, beV n es])) (s3.trans smp) upd_same ((upd_ne (ne_of_none hoF np)).trans hoF) hopl hd.2
               rw [beV_some hd.1, show (((k + 1 : Nat) : Int)) = ((k + 1 + 1 : Nat) : Int) - 1 by omega] at this
               exact this
         · have hr0 : r = 0 := by
             have : ¬ (1 : Int) < ((r + 1 : Nat) : Int) := fun e => hcr (decide_eq_true e)
             omega
           wtm_at "fo r"
           refine ⟨D, _, rfl, Or.inl (SqL.of hRw3.hD), ?_⟩
           rw [hDl]
           wtm_at "fo r"
           rename_i p np
           exact last H3 [] (Same.refl _) (fun k e => by omega) p np
end
/-! piece TRB -/
section
variable {P : Program} {w : World} {K : PySem.W.Frag} {mg : Str → Option Value} {base : Heap}
/-! ### _law_right -/
@[irreducible] def spRiD : Sp := fun vs H Q _ => ∃ (q : Addr) (n : Nat) (es : List Edge), vs = [.int n, .ref q] ∧ 1 ≤ n ∧ n ≤ 12 ∧ Pairs H q es ∧ Simp n es ∧ es.length ≤ 200 ∧ ∀ H', Same H H' → Q (.bl true) H'
theorem call_riD {q : Addr} {z : Int} {es : List Edge} {H : Hp} {Q : VK} {E : XK} (n : Nat) (hz : z = (n : Int)) (h1 : 1 ≤ n) (hn : n ≤ 12) (hq : Pairs H q es) (hS : Simp n es) (hl : es.length ≤ 200) (fin : ∀ H', Same H H' → Q (.bl true) H') : spRiD [.int z, .ref q] H Q E := by
  subst hz
  unfold spRiD
  exact ⟨q, n, es, rfl, h1, hn, hq, hS, hl, fin⟩
set_option maxHeartbeats 8000000 in
theorem ok_right {f : Addr} {fd : FuncData} (F : Fun K "_law_right" "_law_right" s_law_right f fd) (mp : mg "repr" = none) (C : Cal P w K mg base "_law_due" 6 ["_law_size", "_law_sides"] spDue) (C2 : Cal P w K mg base "best_starts" 3 ["places", "lines"] spStarts) :
    FnG P w K mg base CX0 7 f fd ["_law_size", "_law_sides"] spRiD := by
  refine okG F sc_law_right (fun vs H Q E h => ?_) (fun cdv A outer s H vs Q E hr hgd h => ?_)
  · unfold spRiD at h
    obtain ⟨q, n, es, rfl, _⟩ := h
    rfl
  · have nd := sc_law_right.nd
    have hS := sc_law_right
    have hKM : KMark K := ⟨⟩
    refine' mk_body ?body ?rd
    case body =>
      show PSs _ [_, _, _, _, _] _
      wtm_at "fo ss"
    case rd =>
     unfold spRiD at h
     obtain ⟨q, n, es, rfl, h1, hn, hq, hSi, hl, fin⟩ := h
     have okN := dok_dE (hSi.small (by omega))
     have szN : (dE es).shown.length ≤ sizeLine := Nat.le_trans okN.len (Nat.le_trans (m := 10000) (by omega) (by decide))
     wtm_at "fo r"
     refine ⟨q, dE es, rfl, dp_dE hq, okN.sh, okN.nd, Nat.le_trans okN.dep (by decide), szN, ?_⟩
     wtm_at "fo r"
     refine call_due h1 hn hq hSi hl (fun dp dx X H1 sm1 hdp hdx hXl hX => ?_)
     wtm_at "fo r"
     refine call_starts h1 hn (hq.same sm1) hSi hl (fun tp tc H2 sm2 ntp ntc htp htc => ?_)
     have s2 := sm1.trans sm2
     have hdp2 := sm2 _ _ hdp
     have hdx2 := sm2 _ _ hdx
     have hfl : scal (beV n es) (beV n es) = true := by
       unfold beV
       cases beM n es <;> rfl
     generalize beV n es = bv at *
     wtm_at "fo r"
     refine Or.inr (Or.inl ⟨tp, _, 1, _, rfl, rfl, SqT.of htp, rfl, ?_⟩)
     wtm_at "fo r"
     refine Or.inr (Or.inl ⟨dp, _, 1, _, rfl, rfl, SqT.of hdp2, rfl, ?_⟩)
     refine Or.inl ⟨hfl, _, rfl, ?_⟩
     refine ifF (by simp) ?_
     refine ⟨_, rfl, ?_⟩
     refine ⟨q, dE es, rfl, dp_dE (hq.same s2), okN.sh, okN.nd, Nat.le_trans okN.dep (by decide), szN, ?_⟩
     refine ⟨_, rfl, Or.inl ⟨rfl, _, rfl, ?_⟩⟩
     refine ifF (by simp) ?_
     wtm_at "fo r"
     refine Or.inr (Or.inl ⟨dp, _, 0, .ref dx, rfl, rfl, SqT.of hdp2, rfl, ?_⟩)
     refine ⟨dx, rfl, ⟨_, SqL.of hdx2⟩, fun D nD => ?_⟩
     refine lc_filt (K := K) (xs := X) (fun _ => false) (SqL.of hdx2) nD (by omega) (Nat.le_of_ble_eq_true rfl) rfl (fun _ => rfl) ?_ ?_
     · intro z hz H3 sm3 R hRR
       wtm_at "fo r"
       refine Or.inr (Or.inl ⟨tp, _, 0, .ref tc, rfl, rfl, SqT.of (sm3 _ _ htp), rfl, ?_⟩)
       refine ⟨tc, _, rfl, Or.inl (SqL.of (sm3 _ _ htc)), rfl, flat_ints _, _, rfl, ?_⟩
       show R (!inV (.int z) ((beL n es).map V.int)) H3
       rw [inV_ints, decide_eq_true (hX z hz)]
       exact hRR H3 (Same.refl _)
     · intro H3 sm3 hD3
       rw [List.filter_eq_nil_iff.mpr (fun _ _ => Bool.false_ne_true)] at hD3
       wtm_at "fo r"
       rename_i e ne
       have smE : Same H3 (upd H3 e (.lst [])) := same_upd (Same.refl _) ne
       refine Or.inr ⟨.list [], .list [], .lst (SqL.of (smE _ _ hD3)) .nil, .lst (SqL.of upd_same) .nil, rfl, rfl, ?_⟩
       exact fin _ ((s2.trans sm3).trans smE)
end
/-! piece TRCd -/
section
local macro_rules | `(tactic| wtm_at "fo a") => `(tactic| first
  | exact pa_nil
  | (refine' pa_cons ?k1 ?k2; (case k1 => wtm_at "fo e"); (case k2 => wtm_at "fo a"))
  | fail "no")
local macro_rules | `(tactic| wtm_at "fo v") => `(tactic| first
  | exact pv 0
  | exact pv 1
  | exact pv 2
  | exact pv 3
  | exact pv 4
  | exact pv 5
  | exact pv 6
  | exact pv 7
  | exact pv 8
  | exact pv 9
  | exact pv 10
  | exact pv 11
  | exact pv 12
  | exact pv 13
  | exact pv 14
  | exact pv 15
  | fail "no")
local macro_rules | `(tactic| wtm_at "fo e") => `(tactic| first
  | with_reducible exact pe_int
  | with_reducible exact pe_bl
  | with_reducible exact pe_non
  | with_reducible exact pe_str
  | ((with_reducible show PE _ (.Name _ _) _); wtm_at "fo v")
  | ((with_reducible show PE _ (.BinOp _ .Add _ _) _); apply pe_op opAddB <;> wtm_at "fo e")
  | ((with_reducible show PE _ (.BinOp _ .Sub _ _) _); apply pe_op op_sub <;> wtm_at "fo e")
  | ((with_reducible show PE _ (.BinOp _ .Mult _ _) _); apply pe_op op_mul <;> wtm_at "fo e")
  | ((with_reducible show PE _ (.BinOp _ .Mod _ _) _); apply pe_op op_mod <;> wtm_at "fo e")
  | ((with_reducible show PE _ (.BinOp _ .FloorDiv _ _) _); apply pe_op op_fdiv <;> wtm_at "fo e")
  | ((with_reducible show PE _ (.BinOp _ .Pow _ _) _); apply pe_op op_powW <;> wtm_at "fo e")
  | ((with_reducible show PE _ (.BinOp _ .LShift _ _) _); apply pe_op op_shl <;> wtm_at "fo e")
  | ((with_reducible show PE _ (.BinOp _ .RShift _ _) _); apply pe_op op_shr <;> wtm_at "fo e")
  | ((with_reducible show PE _ (.BinOp _ .BitAnd _ _) _); apply pe_op op_and <;> wtm_at "fo e")
  | ((with_reducible show PE _ (.List _ _) _); apply pe_lst; wtm_at "fo a")
  | ((with_reducible show PE _ (.Tuple _ _ _) _); apply pe_tup; wtm_at "fo a")
  | ((with_reducible show PE _ (.ListComp _ [_] _ _) _); wtm_at "fo lc")
  | ((with_reducible show PE _ (.IfExp _ _ _ _) _); apply pe_ifExp; (· wtm_at "fo t"); (· wtm_at "fo e"); (· wtm_at "fo e"))
  | ((with_reducible show PE _ (.UnaryOp .USub _ _) _); apply pe_un un_neg; wtm_at "fo e")
  | ((with_reducible show PE _ (.Call (.Name _ _) [] (_ :: _) _) _); wtm_at "fo kcall")
  | ((with_reducible show PE _ (.Call (.Name _ _) _ _ _) _); wtm_at "fo call")
  | ((with_reducible show PE _ (.Call (.Attribute _ _ _) _ _ _) _); wtm_at "fo meth")
  | ((with_reducible show PE _ (.Compare _ _ _ _) _); wtm_at "fo cmp")
  | ((with_reducible show PE _ (.Subscript _ (.Slice _ _ _ _) _) _); wtm_at "fo slice")
  | ((with_reducible show PE _ (.Subscript _ _ _) _); refine' pe_ix (ix_seqK (by assumption) (by exact rfl)) ?ka ?kb (fun _ _ => rfl); (case ka => wtm_at "fo e"); (case kb => wtm_at "fo e"))
  | fail "no")
local macro_rules | `(tactic| wtm_at "fo own") => `(tactic| first
  | ((show _ = [0]); kernel_rfl!)
  | ((show _ = [1]); kernel_rfl!)
  | ((show _ = [2]); kernel_rfl!)
  | ((show _ = [3]); kernel_rfl!)
  | ((show _ = [4]); kernel_rfl!)
  | ((show _ = [5]); kernel_rfl!)
  | ((show _ = [6]); kernel_rfl!)
  | ((show _ = [7]); kernel_rfl!)
  | ((show _ = [8]); kernel_rfl!)
  | ((show _ = [9]); kernel_rfl!)
  | ((show _ = [10]); kernel_rfl!)
  | ((show _ = [11]); kernel_rfl!)
  | ((show _ = [12]); kernel_rfl!)
  | ((show _ = [13]); kernel_rfl!)
  | ((show _ = [14]); kernel_rfl!)
  | ((show _ = [15]); kernel_rfl!)
  | ((show _ = [0, 1]); kernel_rfl!)
  | ((show _ = [1, 2]); kernel_rfl!)
  | ((show _ = [2, 3]); kernel_rfl!)
  | ((show _ = [3, 4]); kernel_rfl!)
  | ((show _ = [4, 5]); kernel_rfl!)
  | ((show _ = [5, 6]); kernel_rfl!)
  | ((show _ = [6, 7]); kernel_rfl!)
  | ((show _ = [7, 8]); kernel_rfl!)
  | ((show _ = [8, 9]); kernel_rfl!)
  | ((show _ = [9, 10]); kernel_rfl!)
  | ((show _ = [10, 11]); kernel_rfl!)
  | ((show _ = [11, 12]); kernel_rfl!)
  | ((show _ = [12, 13]); kernel_rfl!)
  | ((show _ = [13, 14]); kernel_rfl!)
  | ((show _ = [14, 15]); kernel_rfl!)
  | fail "no")
local macro_rules | `(tactic| wtm_at "fo ts") => `(tactic| first
  | exact pts_nil
  | (apply pts_one; wtm_at "fo t")
  | fail "no")
local macro_rules | `(tactic| wtm_at "fo lc") => `(tactic| first
  | (refine' pe_lcO (by assumption) (by exact rfl) (by exact rfl) (by wtm_at "fo own") (by decide +kernel) rfl ?ki ?kg ?kt ?ke; (case ki => wtm_at "fo i"); (case kg => (intro _ _ _ _ _; wtm_at "fo g")); (case kt => (intro _ _ _ _ _; wtm_at "fo ts")); (case ke => (intro _ _ _ _ _; wtm_at "fo e")))
  | fail "no")
local macro_rules | `(tactic| wtm_at "fo part") => `(tactic| first
  | exact po_none
  | (apply po_some; wtm_at "fo e")
  | fail "no")
local macro_rules | `(tactic| wtm_at "fo slice") => `(tactic| first
  | ((with_reducible show PE _ (.Subscript _ (.Slice _ _ none _) _) _); refine' pe_slice (sl_listK (by assumption) (by exact rfl)) ?ka ?kb ?kc; (case ka => wtm_at "fo e"); (case kb => wtm_at "fo part"); (case kc => wtm_at "fo part"))
  | ((with_reducible show PE _ (.Subscript _ (.Slice none none (some _) _) _) _); refine' pe_stepK (by assumption) (by exact rfl) ?ka ?kb; (case ka => wtm_at "fo e"); (case kb => wtm_at "fo e"))
  | fail "no")
local macro_rules | `(tactic| wtm_at "fo cmp") => `(tactic| first
  | ((with_reducible show PE _ (.Compare _ [.Lt] _ _) _); refine' pe_cmpR op_lt ?ka ?kb (nomark _); (case ka => wtm_at "fo e"); (case kb => wtm_at "fo e"))
  | ((with_reducible show PE _ (.Compare _ [.LtE] _ _) _); refine' pe_cmpR op_le ?ka ?kb (nomark _); (case ka => wtm_at "fo e"); (case kb => wtm_at "fo e"))
  | ((with_reducible show PE _ (.Compare _ [.Gt] _ _) _); refine' pe_cmpR op_gt ?ka ?kb (nomark _); (case ka => wtm_at "fo e"); (case kb => wtm_at "fo e"))
  | ((with_reducible show PE _ (.Compare _ [.GtE] _ _) _); refine' pe_cmpR op_ge ?ka ?kb (nomark _); (case ka => wtm_at "fo e"); (case kb => wtm_at "fo e"))
  | ((with_reducible show PE _ (.Compare _ [.Eq] _ _) _); refine' pe_cmpR (op_eqK (by assumption) (by exact rfl) (Room.units (by assumption))) ?ka ?kb (nomark _); (case ka => wtm_at "fo e"); (case kb => wtm_at "fo e"))
  | ((with_reducible show PE _ (.Compare _ [.NotEq] _ _) _); refine' pe_cmpR (op_neK (by assumption) (by exact rfl) (Room.units (by assumption))) ?ka ?kb (nomark _); (case ka => wtm_at "fo e"); (case kb => wtm_at "fo e"))
  | fail "no")
local macro_rules | `(tactic| wtm_at "fo tcmp") => `(tactic| first
  | ((with_reducible show PT _ (.Compare _ [.Lt] _ _) _); refine' pt_cmpR op_lt ?ka ?kb (nomark _); (case ka => wtm_at "fo e"); (case kb => wtm_at "fo e"))
  | ((with_reducible show PT _ (.Compare _ [.LtE] _ _) _); refine' pt_cmpR op_le ?ka ?kb (nomark _); (case ka => wtm_at "fo e"); (case kb => wtm_at "fo e"))
  | ((with_reducible show PT _ (.Compare _ [.Gt] _ _) _); refine' pt_cmpR op_gt ?ka ?kb (nomark _); (case ka => wtm_at "fo e"); (case kb => wtm_at "fo e"))
  | ((with_reducible show PT _ (.Compare _ [.GtE] _ _) _); refine' pt_cmpR op_ge ?ka ?kb (nomark _); (case ka => wtm_at "fo e"); (case kb => wtm_at "fo e"))
  | ((with_reducible show PT _ (.Compare _ [.Eq] _ _) _); refine' pt_cmpR (op_eqK (by assumption) (by exact rfl) (Room.units (by assumption))) ?ka ?kb (nomark _); (case ka => wtm_at "fo e"); (case kb => wtm_at "fo e"))
  | ((with_reducible show PT _ (.Compare _ [.NotEq] _ _) _); refine' pt_cmpR (op_neK (by assumption) (by exact rfl) (Room.units (by assumption))) ?ka ?kb (nomark _); (case ka => wtm_at "fo e"); (case kb => wtm_at "fo e"))
  | ((with_reducible show PT _ (.Compare _ [.In] _ _) _); refine' pt_cmpR (op_inK (by assumption) (by exact rfl)) ?ka ?kb rfl; (case ka => wtm_at "fo e"); (case kb => wtm_at "fo e"))
  | ((with_reducible show PT _ (.Compare _ [.NotIn] _ _) _); refine' pt_cmpR (op_notInK (by assumption) (by exact rfl)) ?ka ?kb rfl; (case ka => wtm_at "fo e"); (case kb => wtm_at "fo e"))
  | fail "no")
local macro_rules | `(tactic| wtm_at "fo w") => `(tactic| first
  | ((with_reducible show PW _ (.BoolOp .And [_] _) _); apply pw_and1; wtm_at "fo t")
  | ((with_reducible show PW _ (.BoolOp .And _ _) _); apply pw_and; (· wtm_at "fo t"); (· wtm_at "fo w"))
  | ((with_reducible show PW _ (.BoolOp .Or [_] _) _); apply pw_or1; wtm_at "fo t")
  | ((with_reducible show PW _ (.BoolOp .Or _ _) _); apply pw_or; (· wtm_at "fo t"); (· wtm_at "fo w"))
  | fail "no")
local macro_rules | `(tactic| wtm_at "fo meth") => `(tactic| first
  | ((with_reducible show PE _ (.Call (.Attribute _ (Str.ofString "append") _) _ _ _) _); refine' pe_bm PySem.F.plainAttrs_list PySem.F.slot_list_append PySem.F.type_list_append mt_append ?ka ?kb; (case ka => wtm_at "fo e"); (case kb => wtm_at "fo a"))
  | ((with_reducible show PE _ (.Call (.Attribute _ (Str.ofString "pop") _) [_] _ _) _); refine' pe_bm PySem.F.plainAttrs_list PySem.F.slot_list_pop PySem.F.type_list_pop mt_popAt ?ka ?kb; (case ka => wtm_at "fo e"); (case kb => wtm_at "fo a"))
  | ((with_reducible show PE _ (.Call (.Attribute _ (Str.ofString "pop") _) [] _ _) _); refine' pe_bm0 PySem.F.plainAttrs_list PySem.F.slot_list_pop PySem.F.type_list_pop mt_pop ?ka; (case ka => wtm_at "fo e"))
  | fail "no")
local macro_rules | `(tactic| wtm_at "fo k") => `(tactic| first
  | exact pk_nil
  | (refine' pk_cons ?k1 ?k2; (case k1 => wtm_at "fo e"); (case k2 => wtm_at "fo k"))
  | fail "no")
local macro_rules | `(tactic| wtm_at "fo kcall") => `(tactic| first
  | (refine' pe_kcal (by assumption) (by assumption) (by decide) (by rfl) ?ka; (case ka => wtm_at "fo k"))
  | fail "no")
local macro_rules | `(tactic| wtm_at "fo call") => `(tactic| first
  | ((with_reducible show PE _ (.Call (.Name (Str.ofString "int") _) _ _ _) _); refine' pe_callTy call_intB (by rfl) (by assumption) (by decide +kernel) ?ka; (case ka => wtm_at "fo a"))
  | ((with_reducible show PE _ (.Call (.Name (Str.ofString "len") _) _ _ _) _); refine' pe_callB (call_lenK (by assumption) (by exact rfl)) (by rfl) (by assumption) PySem.boot_len ?ka; (case ka => wtm_at "fo a"))
  | ((with_reducible show PE _ (.Call (.Name (Str.ofString "list") _) [.Call (.Name (Str.ofString "range") _) [_, _] _ _] _ _) _); refine' pe_listRg rfl (by rfl) (by assumption) (prg_2 (by rfl) (by assumption) ?ka ?kb); (case ka => wtm_at "fo e"); (case kb => wtm_at "fo e"))
  | ((with_reducible show PE _ (.Call (.Name (Str.ofString "list") _) _ _ _) _); refine' pe_callTy (call_listK (by assumption) (by exact rfl)) (by rfl) (by assumption) (by decide +kernel) ?ka; (case ka => wtm_at "fo a"))
  | ((with_reducible show PE _ (.Call (.Name (Str.ofString "min") _) [_, _] _ _) _); refine' pe_callB (call_min2 rfl) (by rfl) (by assumption) (by decide +kernel) ?ka; (case ka => wtm_at "fo a"))
  | ((with_reducible show PE _ (.Call (.Name (Str.ofString "sorted") _) [_] _ _) _); refine' pe_callB (cr_sortedK (by assumption) (by exact rfl)) (by rfl) (by assumption) (by decide +kernel) ?ka; (case ka => wtm_at "fo a"))
  | ((with_reducible show PE _ (.Call (.Name (Str.ofString "repr") _) [_] _ _) _); refine' pe_callB (call_reprK (by assumption) (by exact rfl) (by assumption) (Room.units (by assumption))) (by rfl) (by assumption) (by decide +kernel) ?ka; (case ka => wtm_at "fo a"))
  | (refine' pe_cal (by assumption) (by assumption) (by decide) (by rfl) ?ka; (case ka => wtm_at "fo a"))
  | fail "no")
local macro_rules | `(tactic| wtm_at "fo setlc") => `(tactic| first
  | (refine' ps_setLcO (i := 0) (by assumption) (by exact rfl) (by exact rfl) (by wtm_at "fo own") (by decide +kernel) rfl rfl rfl (sw_true rfl rfl rfl (by decide +kernel)) ?ki ?kg ?kt ?ke; (case ki => wtm_at "fo i"); (case kg => (intro _ _ _ _ _; wtm_at "fo g")); (case kt => (intro _ _ _ _ _; wtm_at "fo ts")); (case ke => (intro _ _ _ _ _; wtm_at "fo e")))
  | (refine' ps_setLcO (i := 1) (by assumption) (by exact rfl) (by exact rfl) (by wtm_at "fo own") (by decide +kernel) rfl rfl rfl (sw_true rfl rfl rfl (by decide +kernel)) ?ki ?kg ?kt ?ke; (case ki => wtm_at "fo i"); (case kg => (intro _ _ _ _ _; wtm_at "fo g")); (case kt => (intro _ _ _ _ _; wtm_at "fo ts")); (case ke => (intro _ _ _ _ _; wtm_at "fo e")))
  | (refine' ps_setLcO (i := 2) (by assumption) (by exact rfl) (by exact rfl) (by wtm_at "fo own") (by decide +kernel) rfl rfl rfl (sw_true rfl rfl rfl (by decide +kernel)) ?ki ?kg ?kt ?ke; (case ki => wtm_at "fo i"); (case kg => (intro _ _ _ _ _; wtm_at "fo g")); (case kt => (intro _ _ _ _ _; wtm_at "fo ts")); (case ke => (intro _ _ _ _ _; wtm_at "fo e")))
  | (refine' ps_setLcO (i := 3) (by assumption) (by exact rfl) (by exact rfl) (by wtm_at "fo own") (by decide +kernel) rfl rfl rfl (sw_true rfl rfl rfl (by decide +kernel)) ?ki ?kg ?kt ?ke; (case ki => wtm_at "fo i"); (case kg => (intro _ _ _ _ _; wtm_at "fo g")); (case kt => (intro _ _ _ _ _; wtm_at "fo ts")); (case ke => (intro _ _ _ _ _; wtm_at "fo e")))
  | (refine' ps_setLcO (i := 4) (by assumption) (by exact rfl) (by exact rfl) (by wtm_at "fo own") (by decide +kernel) rfl rfl rfl (sw_true rfl rfl rfl (by decide +kernel)) ?ki ?kg ?kt ?ke; (case ki => wtm_at "fo i"); (case kg => (intro _ _ _ _ _; wtm_at "fo g")); (case kt => (intro _ _ _ _ _; wtm_at "fo ts")); (case ke => (intro _ _ _ _ _; wtm_at "fo e")))
  | (refine' ps_setLcO (i := 5) (by assumption) (by exact rfl) (by exact rfl) (by wtm_at "fo own") (by decide +kernel) rfl rfl rfl (sw_true rfl rfl rfl (by decide +kernel)) ?ki ?kg ?kt ?ke; (case ki => wtm_at "fo i"); (case kg => (intro _ _ _ _ _; wtm_at "fo g")); (case kt => (intro _ _ _ _ _; wtm_at "fo ts")); (case ke => (intro _ _ _ _ _; wtm_at "fo e")))
  | (refine' ps_setLcO (i := 6) (by assumption) (by exact rfl) (by exact rfl) (by wtm_at "fo own") (by decide +kernel) rfl rfl rfl (sw_true rfl rfl rfl (by decide +kernel)) ?ki ?kg ?kt ?ke; (case ki => wtm_at "fo i"); (case kg => (intro _ _ _ _ _; wtm_at "fo g")); (case kt => (intro _ _ _ _ _; wtm_at "fo ts")); (case ke => (intro _ _ _ _ _; wtm_at "fo e")))
  | (refine' ps_setLcO (i := 7) (by assumption) (by exact rfl) (by exact rfl) (by wtm_at "fo own") (by decide +kernel) rfl rfl rfl (sw_true rfl rfl rfl (by decide +kernel)) ?ki ?kg ?kt ?ke; (case ki => wtm_at "fo i"); (case kg => (intro _ _ _ _ _; wtm_at "fo g")); (case kt => (intro _ _ _ _ _; wtm_at "fo ts")); (case ke => (intro _ _ _ _ _; wtm_at "fo e")))
  | (refine' ps_setLcO (i := 8) (by assumption) (by exact rfl) (by exact rfl) (by wtm_at "fo own") (by decide +kernel) rfl rfl rfl (sw_true rfl rfl rfl (by decide +kernel)) ?ki ?kg ?kt ?ke; (case ki => wtm_at "fo i"); (case kg => (intro _ _ _ _ _; wtm_at "fo g")); (case kt => (intro _ _ _ _ _; wtm_at "fo ts")); (case ke => (intro _ _ _ _ _; wtm_at "fo e")))
  | (refine' ps_setLcO (i := 9) (by assumption) (by exact rfl) (by exact rfl) (by wtm_at "fo own") (by decide +kernel) rfl rfl rfl (sw_true rfl rfl rfl (by decide +kernel)) ?ki ?kg ?kt ?ke; (case ki => wtm_at "fo i"); (case kg => (intro _ _ _ _ _; wtm_at "fo g")); (case kt => (intro _ _ _ _ _; wtm_at "fo ts")); (case ke => (intro _ _ _ _ _; wtm_at "fo e")))
  | (refine' ps_setLcO (i := 10) (by assumption) (by exact rfl) (by exact rfl) (by wtm_at "fo own") (by decide +kernel) rfl rfl rfl (sw_true rfl rfl rfl (by decide +kernel)) ?ki ?kg ?kt ?ke; (case ki => wtm_at "fo i"); (case kg => (intro _ _ _ _ _; wtm_at "fo g")); (case kt => (intro _ _ _ _ _; wtm_at "fo ts")); (case ke => (intro _ _ _ _ _; wtm_at "fo e")))
  | (refine' ps_setLcO (i := 11) (by assumption) (by exact rfl) (by exact rfl) (by wtm_at "fo own") (by decide +kernel) rfl rfl rfl (sw_true rfl rfl rfl (by decide +kernel)) ?ki ?kg ?kt ?ke; (case ki => wtm_at "fo i"); (case kg => (intro _ _ _ _ _; wtm_at "fo g")); (case kt => (intro _ _ _ _ _; wtm_at "fo ts")); (case ke => (intro _ _ _ _ _; wtm_at "fo e")))
  | (refine' ps_setLcO (i := 12) (by assumption) (by exact rfl) (by exact rfl) (by wtm_at "fo own") (by decide +kernel) rfl rfl rfl (sw_true rfl rfl rfl (by decide +kernel)) ?ki ?kg ?kt ?ke; (case ki => wtm_at "fo i"); (case kg => (intro _ _ _ _ _; wtm_at "fo g")); (case kt => (intro _ _ _ _ _; wtm_at "fo ts")); (case ke => (intro _ _ _ _ _; wtm_at "fo e")))
  | (refine' ps_setLcO (i := 13) (by assumption) (by exact rfl) (by exact rfl) (by wtm_at "fo own") (by decide +kernel) rfl rfl rfl (sw_true rfl rfl rfl (by decide +kernel)) ?ki ?kg ?kt ?ke; (case ki => wtm_at "fo i"); (case kg => (intro _ _ _ _ _; wtm_at "fo g")); (case kt => (intro _ _ _ _ _; wtm_at "fo ts")); (case ke => (intro _ _ _ _ _; wtm_at "fo e")))
  | (refine' ps_setLcO (i := 14) (by assumption) (by exact rfl) (by exact rfl) (by wtm_at "fo own") (by decide +kernel) rfl rfl rfl (sw_true rfl rfl rfl (by decide +kernel)) ?ki ?kg ?kt ?ke; (case ki => wtm_at "fo i"); (case kg => (intro _ _ _ _ _; wtm_at "fo g")); (case kt => (intro _ _ _ _ _; wtm_at "fo ts")); (case ke => (intro _ _ _ _ _; wtm_at "fo e")))
  | (refine' ps_setLcO (i := 15) (by assumption) (by exact rfl) (by exact rfl) (by wtm_at "fo own") (by decide +kernel) rfl rfl rfl (sw_true rfl rfl rfl (by decide +kernel)) ?ki ?kg ?kt ?ke; (case ki => wtm_at "fo i"); (case kg => (intro _ _ _ _ _; wtm_at "fo g")); (case kt => (intro _ _ _ _ _; wtm_at "fo ts")); (case ke => (intro _ _ _ _ _; wtm_at "fo e")))
  | fail "no")
local macro_rules | `(tactic| wtm_at "fo set") => `(tactic| first
  | (refine' ps_set (i := 0) (by assumption) rfl (by first | exact Or.inl rfl | exact Or.inr rfl) ?ka; (case ka => wtm_at "fo e"))
  | (refine' ps_set (i := 1) (by assumption) rfl (by first | exact Or.inl rfl | exact Or.inr rfl) ?ka; (case ka => wtm_at "fo e"))
  | (refine' ps_set (i := 2) (by assumption) rfl (by first | exact Or.inl rfl | exact Or.inr rfl) ?ka; (case ka => wtm_at "fo e"))
  | (refine' ps_set (i := 3) (by assumption) rfl (by first | exact Or.inl rfl | exact Or.inr rfl) ?ka; (case ka => wtm_at "fo e"))
  | (refine' ps_set (i := 4) (by assumption) rfl (by first | exact Or.inl rfl | exact Or.inr rfl) ?ka; (case ka => wtm_at "fo e"))
  | (refine' ps_set (i := 5) (by assumption) rfl (by first | exact Or.inl rfl | exact Or.inr rfl) ?ka; (case ka => wtm_at "fo e"))
  | (refine' ps_set (i := 6) (by assumption) rfl (by first | exact Or.inl rfl | exact Or.inr rfl) ?ka; (case ka => wtm_at "fo e"))
  | (refine' ps_set (i := 7) (by assumption) rfl (by first | exact Or.inl rfl | exact Or.inr rfl) ?ka; (case ka => wtm_at "fo e"))
  | (refine' ps_set (i := 8) (by assumption) rfl (by first | exact Or.inl rfl | exact Or.inr rfl) ?ka; (case ka => wtm_at "fo e"))
  | (refine' ps_set (i := 9) (by assumption) rfl (by first | exact Or.inl rfl | exact Or.inr rfl) ?ka; (case ka => wtm_at "fo e"))
  | (refine' ps_set (i := 10) (by assumption) rfl (by first | exact Or.inl rfl | exact Or.inr rfl) ?ka; (case ka => wtm_at "fo e"))
  | (refine' ps_set (i := 11) (by assumption) rfl (by first | exact Or.inl rfl | exact Or.inr rfl) ?ka; (case ka => wtm_at "fo e"))
  | (refine' ps_set (i := 12) (by assumption) rfl (by first | exact Or.inl rfl | exact Or.inr rfl) ?ka; (case ka => wtm_at "fo e"))
  | (refine' ps_set (i := 13) (by assumption) rfl (by first | exact Or.inl rfl | exact Or.inr rfl) ?ka; (case ka => wtm_at "fo e"))
  | fail "no")
local macro_rules | `(tactic| wtm_at "fo t") => `(tactic| first
  | ((with_reducible show PT _ (.BoolOp _ _ _) _); apply PW.pt; wtm_at "fo w")
  | ((with_reducible show PT _ (.UnaryOp .Not _ _) _); apply pt_not; wtm_at "fo t")
  | ((with_reducible show PT _ (.Compare _ _ _ _) _); wtm_at "fo tcmp")
  | (refine' pt_truthK (by assumption) (by exact rfl) ?ka (by intro _; rfl); (case ka => wtm_at "fo e"))
  | fail "no")
local macro_rules | `(tactic| wtm_at "fo gn") => `(tactic| first
  | exact pg_name (i := 0) (by assumption) rfl (by first | exact Or.inl rfl | exact Or.inr rfl)
  | exact pg_name (i := 1) (by assumption) rfl (by first | exact Or.inl rfl | exact Or.inr rfl)
  | exact pg_name (i := 2) (by assumption) rfl (by first | exact Or.inl rfl | exact Or.inr rfl)
  | exact pg_name (i := 3) (by assumption) rfl (by first | exact Or.inl rfl | exact Or.inr rfl)
  | exact pg_name (i := 4) (by assumption) rfl (by first | exact Or.inl rfl | exact Or.inr rfl)
  | exact pg_name (i := 5) (by assumption) rfl (by first | exact Or.inl rfl | exact Or.inr rfl)
  | exact pg_name (i := 6) (by assumption) rfl (by first | exact Or.inl rfl | exact Or.inr rfl)
  | exact pg_name (i := 7) (by assumption) rfl (by first | exact Or.inl rfl | exact Or.inr rfl)
  | exact pg_name (i := 8) (by assumption) rfl (by first | exact Or.inl rfl | exact Or.inr rfl)
  | exact pg_name (i := 9) (by assumption) rfl (by first | exact Or.inl rfl | exact Or.inr rfl)
  | exact pg_name (i := 10) (by assumption) rfl (by first | exact Or.inl rfl | exact Or.inr rfl)
  | exact pg_name (i := 11) (by assumption) rfl (by first | exact Or.inl rfl | exact Or.inr rfl)
  | exact pg_name (i := 12) (by assumption) rfl (by first | exact Or.inl rfl | exact Or.inr rfl)
  | exact pg_name (i := 13) (by assumption) rfl (by first | exact Or.inl rfl | exact Or.inr rfl)
  | exact pg_name (i := 14) (by assumption) rfl (by first | exact Or.inl rfl | exact Or.inr rfl)
  | exact pg_name (i := 15) (by assumption) rfl (by first | exact Or.inl rfl | exact Or.inr rfl)
  | fail "no")
local macro_rules | `(tactic| wtm_at "fo par") => `(tactic| first
  | (refine' ps_par (i := 0) (j := 1) rfl (by assumption) rfl rfl (by decide) rfl rfl ?ka (by rfl); (case ka => wtm_at "fo a"))
  | (refine' ps_par (i := 1) (j := 2) rfl (by assumption) rfl rfl (by decide) rfl rfl ?ka (by rfl); (case ka => wtm_at "fo a"))
  | (refine' ps_par (i := 2) (j := 3) rfl (by assumption) rfl rfl (by decide) rfl rfl ?ka (by rfl); (case ka => wtm_at "fo a"))
  | (refine' ps_par (i := 3) (j := 4) rfl (by assumption) rfl rfl (by decide) rfl rfl ?ka (by rfl); (case ka => wtm_at "fo a"))
  | (refine' ps_par (i := 4) (j := 5) rfl (by assumption) rfl rfl (by decide) rfl rfl ?ka (by rfl); (case ka => wtm_at "fo a"))
  | (refine' ps_par (i := 5) (j := 6) rfl (by assumption) rfl rfl (by decide) rfl rfl ?ka (by rfl); (case ka => wtm_at "fo a"))
  | (refine' ps_par (i := 6) (j := 7) rfl (by assumption) rfl rfl (by decide) rfl rfl ?ka (by rfl); (case ka => wtm_at "fo a"))
  | (refine' ps_par (i := 7) (j := 8) rfl (by assumption) rfl rfl (by decide) rfl rfl ?ka (by rfl); (case ka => wtm_at "fo a"))
  | (refine' ps_par (i := 8) (j := 9) rfl (by assumption) rfl rfl (by decide) rfl rfl ?ka (by rfl); (case ka => wtm_at "fo a"))
  | (refine' ps_par (i := 9) (j := 10) rfl (by assumption) rfl rfl (by decide) rfl rfl ?ka (by rfl); (case ka => wtm_at "fo a"))
  | (refine' ps_par (i := 10) (j := 11) rfl (by assumption) rfl rfl (by decide) rfl rfl ?ka (by rfl); (case ka => wtm_at "fo a"))
  | (refine' ps_par (i := 11) (j := 12) rfl (by assumption) rfl rfl (by decide) rfl rfl ?ka (by rfl); (case ka => wtm_at "fo a"))
  | (refine' ps_par (i := 12) (j := 13) rfl (by assumption) rfl rfl (by decide) rfl rfl ?ka (by rfl); (case ka => wtm_at "fo a"))
  | (refine' ps_par (i := 13) (j := 14) rfl (by assumption) rfl rfl (by decide) rfl rfl ?ka (by rfl); (case ka => wtm_at "fo a"))
  | (refine' ps_par (i := 14) (j := 15) rfl (by assumption) rfl rfl (by decide) rfl rfl ?ka (by rfl); (case ka => wtm_at "fo a"))
  | fail "no")
local macro_rules | `(tactic| wtm_at "fo g") => `(tactic| first
  | ((with_reducible show PG _ (.Name _ _) _); wtm_at "fo gn")
  | ((with_reducible show PG _ (.Tuple _ _ _) _); apply PG_or; (· refine' pg_tup2 (by assumption) (by exact rfl) rfl ?kg; (case kg => wtm_at "fo gs")); (· refine' pg_unl2 (by assumption) (by exact rfl) rfl ?kg; (case kg => wtm_at "fo gs")))
  | fail "no")
local macro_rules | `(tactic| wtm_at "fo gs") => `(tactic| first
  | exact pgs_nil
  | (refine' pgs_cons ?k1 ?k2; (case k1 => wtm_at "fo g"); (case k2 => wtm_at "fo gs"))
  | fail "no")
local macro_rules | `(tactic| wtm_at "fo i") => `(tactic| first
  | ((with_reducible show PI _ _ (.Call (.Name (Str.ofString "range") _) [_] _ _) _); refine' pi_range1 (by rfl) (by assumption) ?ka; (case ka => wtm_at "fo a"))
  | ((with_reducible show PI _ _ (.Call (.Name (Str.ofString "range") _) [_, _] _ _) _); refine' pi_range2 (by rfl) (by assumption) ?ka; (case ka => wtm_at "fo a"))
  | ((with_reducible show PI _ _ (.Call (.Name (Str.ofString "enumerate") _) [_] _ _) _); refine' pi_enum (by rfl) (by assumption) ?ka; (case ka => wtm_at "fo a"))
  | (refine' pi_listK (by assumption) (by exact rfl) ?ka; (case ka => wtm_at "fo e"))
  | fail "no")
local macro_rules | `(tactic| wtm_at "fo s") => `(tactic| first
  | ((with_reducible show PS _ (.While _ _ _ _) _); refine' ps_while PassesOwn.never ?kt ?kb; (case kt => wtm_at "fo t"); (case kb => wtm_at "fo ss"))
  | ((with_reducible show PS _ (.For _ _ _ _ _) _); refine' ps_for PassesOwn.never rfl ?ki ?kg ?kb; (case ki => wtm_at "fo i"); (case kg => wtm_at "fo g"); (case kb => wtm_at "fo ss"))
  | ((with_reducible show PS _ (.Assign [.Name _ _] (.ListComp _ [_] _ _) _) _); wtm_at "fo setlc")
  | ((with_reducible show PS _ (.Assign [.Name _ _] _ _) _); wtm_at "fo set")
  | ((with_reducible show PS _ (.Assign [.Tuple [.Name _ _, .Name _ _] _ _] (.Tuple [_, _] _ _) _) _); wtm_at "fo par")
  | ((with_reducible show PS _ (.Assign [.Subscript _ _ _] _ _) _); refine' ps_asg ?ka (pg_sub ?kb ?kc set_list); (case ka => wtm_at "fo e"); (case kb => wtm_at "fo e"); (case kc => wtm_at "fo e"))
  | ((with_reducible show PS _ (.Return (some _) _) _); apply ps_ret; wtm_at "fo e")
  | ((with_reducible show PS _ (.Expr _ _) _); refine' ps_expr ?ka; (case ka => wtm_at "fo e"))
  | ((with_reducible show PS _ (.If _ _ _ _) _); apply ps_if; (· wtm_at "fo t"); (· wtm_at "fo ss"); (· wtm_at "fo ss"))
  | fail "no")
local macro_rules | `(tactic| wtm_at "fo ss") => `(tactic| first
  | with_reducible exact pss_nil
  | ((with_reducible show PSs _ [_] _); apply pss_one; wtm_at "fo s")
  | (apply pss_cons; (· wtm_at "fo s"); (· wtm_at "fo ss"))
  | fail "no")
local macro_rules | `(tactic| wtm_at "fo hp") => `(tactic| first
  | assumption
  | exact upd_same
  | (refine (upd_ne ?ne).trans ?hp; (case ne => wtm_at "fo ne"); (case hp => wtm_at "fo hp"))
  | fail "no")
local macro_rules | `(tactic| wtm_at "fo ne") => `(tactic| first
  | assumption
  | (apply Ne.symm; assumption)
  | exact ne_of_none (by assumption) (by assumption)
  | exact Ne.symm (ne_of_none (by assumption) (by assumption))
  | fail "no")
local macro_rules | `(tactic| wtm_at "fo sz") => `(tactic| first
  | exact (Nat.le_of_ble_eq_true rfl : _ ≤ sizeLine)
  | exact (Nat.le_of_ble_eq_true rfl : _ < sizeLine)
  | exact Nat.lt_of_le_of_lt (m := 100000) (by first | assumption | omega | (simp; omega)) (by decide)
  | exact Nat.le_trans (m := 100000) (by first | assumption | omega | (simp; omega)) (by decide)
  | fail "no")
local macro_rules | `(tactic| wtm_at "fo r1") => `(tactic| first
  | refine ⟨(Nat.le_of_ble_eq_true rfl : _ ≤ sizeLine), fun p np => ?_⟩
  | (refine' ⟨_, _, rfl, Or.inl (SqL.of ?h), ?_⟩; (case h => wtm_at "fo hp"))
  | refine ⟨_, rfl, ?_⟩
  | refine ⟨_, _, rfl, rfl, ?_⟩
  | refine ⟨_, _, rfl, ⟨by omega, by omega, by omega, by omega⟩, ?_⟩
  | refine ⟨_, rfl, by omega, by omega, ?_⟩
  | refine Or.inl ⟨_, rfl, ?_⟩
  | refine Or.inl ⟨rfl, ?_⟩
  | refine Or.inl ⟨_, _, rfl, rfl, ?_⟩
  | (refine' Or.inl ⟨_, _, _, _, rfl, rfl, SqL.of ?h, ?a, ?_⟩; (case h => wtm_at "fo hp"); (case a => rfl))
  | (refine' ⟨_, _, _, _, rfl, rfl, ?h, ?a, ?_⟩; (case h => wtm_at "fo hp"); (case a => rfl))
  | (refine' ⟨.inl ⟨rfl, _, SqL.of ?h⟩, ?_⟩; (case h => wtm_at "fo hp"))
  | (refine' ⟨_, _, _, rfl, rfl, ?h, ?z, ?_⟩; (case h => wtm_at "fo hp"); (case z => wtm_at "fo sz"))
  | (refine' ⟨_, rfl, ⟨_, SqL.of ?h⟩, ?_⟩; (case h => wtm_at "fo hp"))
  | fail "no")
local macro_rules | `(tactic| wtm_at "fo side") => `(tactic| ((try dsimp only [CMul, CDiv]); first
  | assumption
  | decide
  | omega
  | exact ⟨by decide, by decide⟩
  | exact ⟨by omega, by omega⟩
  | decide +kernel
  | fail "no"))
local macro_rules | `(tactic| wtm_at "fo r2") => `(tactic| first
  | wtm_at "fo r1"
  | refine And.intro (by wtm_at "fo side") ?_
  | fail "no")
local macro_rules | `(tactic| wtm_at "fo r") => `(tactic| repeat wtm_at "fo r2")
local macro_rules | `(tactic| wtm_at "fo v") => `(tactic| first
  | ((with_reducible show PE _ (.Name (Str.ofString "int") _) _); exact pe_bltn (v := .ty "int") (by rfl) (by assumption) (by decide +kernel) rfl)
  | ((with_reducible show PE _ (.Name (Str.ofString "list") _) _); exact pe_bltn (v := .ty "list") (by rfl) (by assumption) (by decide +kernel) rfl)
  | ((with_reducible show PE _ (.Name (Str.ofString "MOST_PLACES") _) _); exact pe_glob (v := .int 12) (by rfl) (by assumption) ⟨_, rfl⟩)
  | fail "no")
local macro_rules | `(tactic| wtm_at "fo e") => `(tactic| first
  | ((with_reducible show PE _ (.BoolOp .And [_] _) _); apply pe_one; wtm_at "fo e")
  | ((with_reducible show PE _ (.BoolOp .And _ _) _); apply pe_and; (· wtm_at "fo e"); (· wtm_at "fo e"))
  | ((with_reducible show PE _ (.Compare _ [.IsNot] [.Constant (.bool true) _ _] _) _); refine' pe_cmpR op_notT ?ka ?kb (nomark _); (case ka => wtm_at "fo e"); (case kb => wtm_at "fo e"))
  | ((with_reducible show PE _ (.Compare _ [.LtE, .LtE] _ _) _); refine' pe_chain op_le op_le ?ka ?kb ?kc; (case ka => wtm_at "fo e"); (case kb => wtm_at "fo e"); (case kc => wtm_at "fo e"))
  | ((with_reducible show PE _ (.Call (.Name (Str.ofString "isinstance") _) _ _ _) _); refine' pe_callB (call_isiK' (by assumption) (by exact rfl)) (by rfl) (by assumption) (by decide +kernel) ?ka; (case ka => wtm_at "fo a"))
  | ((with_reducible show PE _ (.Call (.Attribute _ (Str.ofString "bit_length") _) [] [] _) _); refine' pe_bits ?ka; (case ka => wtm_at "fo e"))
  | fail "no")
local macro_rules | `(tactic| wtm_at "fo t") => `(tactic| first
  | ((with_reducible show PT _ (.Compare _ [.IsNot] [.Constant (.bool true) _ _] _) _); refine' pt_cmpR op_notT ?ka ?kb (nomark _); (case ka => wtm_at "fo e"); (case kb => wtm_at "fo e"))
  | ((with_reducible show PT _ (.Compare _ [.Lt, .Lt, .LtE] _ _) _); refine' pt_chain3 op_lt op_lt op_le ?ka ?kb ?kc ?kd; (case ka => wtm_at "fo e"); (case kb => wtm_at "fo e"); (case kc => wtm_at "fo e"); (case kd => wtm_at "fo e"))
  | fail "no")
local macro_rules | `(tactic| wtm_at "fo s") => `(tactic| first
  | ((with_reducible show PS _ (.Raise _ _ _) _); exact ps_never)
  | ((with_reducible show PS _ (.Continue _) _); exact ps_continue)
  | ((with_reducible show PS _ (.AugAssign (.Subscript _ _ _) .BitOr _ _) _); refine' ps_augS ?ka ?kb get_list ?kc ip_or set_list; (case ka => wtm_at "fo e"); (case kb => wtm_at "fo e"); (case kc => wtm_at "fo e"))
  | ((with_reducible show PS _ (.Assign [.Tuple _ _ _] (.Name _ _) _) _); refine' ps_asg ?ka ?kb; (case ka => wtm_at "fo e"); (case kb => wtm_at "fo g"))
  | fail "no")
local macro_rules | `(tactic| wtm_at "fo lc") => `(tactic| (refine' pe_lcN (by assumption) (by exact rfl) (by exact rfl) (by wtm_at "fo own") (by kernel_rfl!) rfl ?ki ?kg ?kt ?ke; (case ki => wtm_at "fo i"); (case kg => (intro _ _ _ _ _; wtm_at "fo g")); (case kt => (intro _ _ _ _ _; wtm_at "fo ts")); (case ke => (intro _ _ _ _ _; wtm_at "fo e"))))
local macro_rules | `(tactic| wtm_at "fo s") => `(tactic| ((with_reducible show PS _ (.Assign [.Tuple _ _ _] (.Call _ _ _ _) _) _); refine' ps_asg ?ka ?kb; (case ka => wtm_at "fo e"); (case kb => wtm_at "fo g")))
local macro_rules | `(tactic| wtm_at "fo cmp") => `(tactic| ((with_reducible show PE _ (.Compare _ [.In] _ _) _); refine' pe_cmpR (op_inK (by assumption) (by exact rfl)) ?ka ?kb rfl; (case ka => wtm_at "fo e"); (case kb => wtm_at "fo e")))
local macro_rules | `(tactic| wtm_at "fo call") => `(tactic| ((with_reducible show PE _ (.Call (.Name (Str.ofString "list") _) [.Call (.Name (Str.ofString "range") _) [_] _ _] _ _) _); refine' pe_listRg rfl (by rfl) (by assumption) (prg_1 (by rfl) (by assumption) ?ka); (case ka => wtm_at "fo e")))
local macro_rules | `(tactic| wtm_at "fo call") => `(tactic| ((with_reducible show PE _ (.Call (.Name (Str.ofString "min") _) [_] _ _) _); refine' pe_callB (call_minK (by assumption) (by exact rfl) rfl) (by rfl) (by assumption) (by decide +kernel) ?ka; (case ka => wtm_at "fo a")))
local macro_rules | `(tactic| wtm_at "fo i") => `(tactic| ((with_reducible show PI _ _ (.Call (.Name (Str.ofString "reversed") _) [_] _ _) _); refine' pi_reversed (by rfl) (by assumption) ?ka; (case ka => wtm_at "fo a")))
local macro_rules | `(tactic| wtm_at "fo s") => `(tactic| ((with_reducible show PS _ (.AugAssign (.Name _ _) .BitXor _ _) _); first | (refine' ps_aug (i := 2) (by assumption) rfl (by first | exact Or.inl rfl | exact Or.inr rfl) ?ka ip_xor; (case ka => wtm_at "fo e")) | fail "no"))
local macro_rules | `(tactic| wtm_at "fo call") => `(tactic| (refine' pe_calG (by assumption) (by assumption) (by decide) (by assumption) (by rfl) ?ka; (case ka => wtm_at "fo a")))
local macro_rules | `(tactic| wtm_at "fo meth") => `(tactic| ((with_reducible show PE _ (.Call (.Attribute _ (Str.ofString "count") _) _ _ _) _); refine' pe_cntK (by assumption) (by exact rfl) ?ka ?kb; (case ka => wtm_at "fo e"); (case kb => wtm_at "fo a")))
local macro_rules | `(tactic| wtm_at "fo call") => `(tactic| ((with_reducible show PE _ (.Call (.Name (Str.ofString "sorted") _) [_] _ _) _); refine' pe_callB (cr_sortedB (by assumption) (by exact rfl) (Room.units (by assumption))) (by rfl) (by assumption) (by decide +kernel) ?ka; (case ka => wtm_at "fo a")))
local macro_rules | `(tactic| wtm_at "fo v") => `(tactic| first
  | exact pv 16
  | exact pv 17
  | exact pv 18
  | exact pv 19
  | fail "no")
local macro_rules | `(tactic| wtm_at "fo own") => `(tactic| first
  | ((show _ = [16]); kernel_rfl!)
  | ((show _ = [17]); kernel_rfl!)
  | ((show _ = [18]); kernel_rfl!)
  | ((show _ = [19]); kernel_rfl!)
  | ((show _ = [15, 16]); kernel_rfl!)
  | ((show _ = [16, 17]); kernel_rfl!)
  | ((show _ = [17, 18]); kernel_rfl!)
  | ((show _ = [18, 19]); kernel_rfl!)
  | fail "no")
local macro_rules | `(tactic| wtm_at "fo set") => `(tactic| first
  | (refine' ps_set (i := 14) (by assumption) rfl (by first | exact Or.inl rfl | exact Or.inr rfl) ?ka; (case ka => wtm_at "fo e"))
  | (refine' ps_set (i := 15) (by assumption) rfl (by first | exact Or.inl rfl | exact Or.inr rfl) ?ka; (case ka => wtm_at "fo e"))
  | (refine' ps_set (i := 16) (by assumption) rfl (by first | exact Or.inl rfl | exact Or.inr rfl) ?ka; (case ka => wtm_at "fo e"))
  | (refine' ps_set (i := 17) (by assumption) rfl (by first | exact Or.inl rfl | exact Or.inr rfl) ?ka; (case ka => wtm_at "fo e"))
  | (refine' ps_set (i := 18) (by assumption) rfl (by first | exact Or.inl rfl | exact Or.inr rfl) ?ka; (case ka => wtm_at "fo e"))
  | (refine' ps_set (i := 19) (by assumption) rfl (by first | exact Or.inl rfl | exact Or.inr rfl) ?ka; (case ka => wtm_at "fo e"))
  | fail "no")
local macro_rules | `(tactic| wtm_at "fo setlc") => `(tactic| first
  | (refine' ps_setLcO (i := 16) (by assumption) (by exact rfl) (by exact rfl) (by wtm_at "fo own") (by decide +kernel) rfl rfl rfl (sw_true rfl rfl rfl (by decide +kernel)) ?ki ?kg ?kt ?ke; (case ki => wtm_at "fo i"); (case kg => (intro _ _ _ _ _; wtm_at "fo g")); (case kt => (intro _ _ _ _ _; wtm_at "fo ts")); (case ke => (intro _ _ _ _ _; wtm_at "fo e")))
  | (refine' ps_setLcO (i := 17) (by assumption) (by exact rfl) (by exact rfl) (by wtm_at "fo own") (by decide +kernel) rfl rfl rfl (sw_true rfl rfl rfl (by decide +kernel)) ?ki ?kg ?kt ?ke; (case ki => wtm_at "fo i"); (case kg => (intro _ _ _ _ _; wtm_at "fo g")); (case kt => (intro _ _ _ _ _; wtm_at "fo ts")); (case ke => (intro _ _ _ _ _; wtm_at "fo e")))
  | (refine' ps_setLcO (i := 18) (by assumption) (by exact rfl) (by exact rfl) (by wtm_at "fo own") (by decide +kernel) rfl rfl rfl (sw_true rfl rfl rfl (by decide +kernel)) ?ki ?kg ?kt ?ke; (case ki => wtm_at "fo i"); (case kg => (intro _ _ _ _ _; wtm_at "fo g")); (case kt => (intro _ _ _ _ _; wtm_at "fo ts")); (case ke => (intro _ _ _ _ _; wtm_at "fo e")))
  | (refine' ps_setLcO (i := 19) (by assumption) (by exact rfl) (by exact rfl) (by wtm_at "fo own") (by decide +kernel) rfl rfl rfl (sw_true rfl rfl rfl (by decide +kernel)) ?ki ?kg ?kt ?ke; (case ki => wtm_at "fo i"); (case kg => (intro _ _ _ _ _; wtm_at "fo g")); (case kt => (intro _ _ _ _ _; wtm_at "fo ts")); (case ke => (intro _ _ _ _ _; wtm_at "fo e")))
  | fail "no")
local macro_rules | `(tactic| wtm_at "fo gn") => `(tactic| first
  | exact pg_name (i := 16) (by assumption) rfl (by first | exact Or.inl rfl | exact Or.inr rfl)
  | exact pg_name (i := 17) (by assumption) rfl (by first | exact Or.inl rfl | exact Or.inr rfl)
  | exact pg_name (i := 18) (by assumption) rfl (by first | exact Or.inl rfl | exact Or.inr rfl)
  | exact pg_name (i := 19) (by assumption) rfl (by first | exact Or.inl rfl | exact Or.inr rfl)
  | fail "no")
local macro_rules | `(tactic| wtm_at "fo s") => `(tactic| ((with_reducible show PS _ (.Assign [.Tuple _ _ _] (.Tuple _ _ _) _) _); refine' ps_asg ?ka ?kb; (case ka => wtm_at "fo e"); (case kb => wtm_at "fo g")))
local macro_rules | `(tactic| wtm_at "fo e") => `(tactic| first
  | ((with_reducible show PE _ (.UnaryOp .Invert _ _) _); apply pe_un un_inv; wtm_at "fo e")
  | ((with_reducible show PE _ (.BoolOp .Or [_] _) _); apply pe_one; wtm_at "fo e")
  | ((with_reducible show PE _ (.BoolOp .Or _ _) _); apply pe_or; (· wtm_at "fo e"); (· wtm_at "fo e"))
  | ((with_reducible show PE _ (.BinOp _ .Mult _ _) _); apply pe_op opMulB <;> wtm_at "fo e")
  | ((with_reducible show PE _ (.BinOp _ .BitOr _ _) _); apply pe_op op_or <;> wtm_at "fo e")
  | ((with_reducible show PE _ (.Compare _ [.Is] [.Constant .none _ _] _) _); refine' pe_cmpR op_isN ?ka ?kb (nomark _); (case ka => wtm_at "fo e"); (case kb => wtm_at "fo e"))
  | fail "no")
local macro_rules | `(tactic| wtm_at "fo t") => `(tactic| first
  | ((with_reducible show PT _ (.Compare _ [.Is] [.Constant .none _ _] _) _); refine' pt_cmpR op_isN ?ka ?kb (nomark _); (case ka => wtm_at "fo e"); (case kb => wtm_at "fo e"))
  | ((with_reducible show PT _ (.Compare _ [.IsNot] [.Constant .none _ _] _) _); refine' pt_cmpR op_notN ?ka ?kb (nomark _); (case ka => wtm_at "fo e"); (case kb => wtm_at "fo e"))
  | fail "no")
local macro_rules | `(tactic| wtm_at "fo i") => `(tactic| first
  | ((with_reducible show PI _ _ (.Call (.Name (Str.ofString "enumerate") _) [_, _] [] _) _); refine' pi_enumC (by assumption) (by exact rfl) (by rfl) (by assumption) ?ka; (case ka => wtm_at "fo a"))
  | ((with_reducible show PI _ _ (.Call (.Name (Str.ofString "enumerate") _) [_] [_] _) _); refine' pi_enumS (by assumption) (by exact rfl) (by rfl) (by assumption) ?ka ?kb; (case ka => wtm_at "fo a"); (case kb => wtm_at "fo k"))
  | fail "no")
local macro_rules | `(tactic| wtm_at "fo own") => `(tactic| first
  | ((show _ = [2, 4]); kernel_rfl!)
  | ((show _ = [4, 2]); kernel_rfl!)
  | fail "no")
local macro_rules | `(tactic| wtm_at "fo v") => `(tactic| ((with_reducible show PE _ (.Name (Str.ofString "tuple") _) _); exact pe_bltn (v := .ty "tuple") (by rfl) (by assumption) (by decide +kernel) rfl))
local macro_rules | `(tactic| wtm_at "fo slice") => `(tactic| ((with_reducible show PE _ (.Subscript _ (.Slice none none (some _) _) _) _); refine' pe_stepK2 (by assumption) (by exact rfl) ?ka ?kb; (case ka => wtm_at "fo e"); (case kb => wtm_at "fo e")))
local macro_rules | `(tactic| wtm_at "fo call") => `(tactic| ((with_reducible show PE _ (.Call (.Name (Str.ofString "max") _) [_] _ _) _); refine' pe_callB (call_maxK (by assumption) (by exact rfl) rfl) (by rfl) (by assumption) (by decide +kernel) ?ka; (case ka => wtm_at "fo a")))
local macro_rules | `(tactic| wtm_at "fo s") => `(tactic| ((with_reducible show PS _ (.Assign [.Tuple [.Name _ _, .Name _ _] _ _] (.Tuple [_, _] _ _) _) _); wtm_at "fo par"))
variable {P : Program} {w : World} {K : PySem.W.Frag} {mg : Str → Option Value} {base : Heap}
/-! ### _law_product_right -/
@[irreducible] def spPrR : Sp := fun vs H Q _ => ∃ (d q kq : Addr) (k : Int) (n m : Nat) (es fs : List Edge), vs = [.ref d, .int n, .ref q, .int m, .ref kq] ∧ Dr H d k ∧ k ≤ 800000 ∧ 1 ≤ n ∧ 1 ≤ m ∧ n * m ≤ 12 ∧ Pairs H q es ∧ Simp n es ∧ es.length ≤ 200 ∧ Pairs H kq fs ∧ Simp m fs ∧ fs.length ≤ 200 ∧
  ∀ H' k', SameBut d H H' → Dr H' d k' → k' ≤ k + 100 → Q (.bl true) H'
theorem call_prR {d q kq : Addr} {y z k : Int} {es fs : List Edge} {H : Hp} {Q : VK} {E : XK} (n m : Nat) (hy : y = (n : Int)) (hz : z = (m : Int)) (hd : Dr H d k) (hk : k ≤ 800000) (h1 : 1 ≤ n) (h2 : 1 ≤ m) (h3 : n * m ≤ 12) (a1 : Pairs H q es) (a2 : Simp n es) (a3 : es.length ≤ 200) (b1 : Pairs H kq fs) (b2 : Simp m fs) (b3 : fs.length ≤ 200)
    (fin : ∀ H' k', SameBut d H H' → Dr H' d k' → k' ≤ k + 100 → Q (.bl true) H') : spPrR [.ref d, .int y, .ref q, .int z, .ref kq] H Q E := by
  subst hy hz
  unfold spPrR
  exact ⟨d, q, kq, k, n, m, es, fs, rfl, hd, hk, h1, h2, h3, a1, a2, a3, b1, b2, b3, fin⟩
theorem call_turnsZ {q : Addr} {z a b : Int} {n : Nat} {h t : Int} {es : List Edge} {H : Hp} {Q : VK} {E : XK} (hz : z = (n : Int)) (ha : a = h) (hb : b = t) (b1 : 1 ≤ n) (b2 : n ≤ 12) (b3 : Pairs H q es) (b4 : Simp n es) (b5 : es.length ≤ 200) (hh : h ∈ allM n) (ht : t ∈ allM n)
    (fin : ∀ H', Same H H' → Q (rkV n es h t) H') : spTurns [.int z, .ref q, .int a, .int b] H Q E := by
  subst hz ha hb
  exact call_turns b1 b2 b3 b4 b5 (allM_mem.mp hh) (allM_mem.mp ht) fin
/-- what is told of two numbers of turns -/
def oN : Option Nat → V
  | some k => .int (k : Nat)
  | none => .non
theorem rkV_oN (n : Nat) (es : List Edge) (h t : Int) : rkV n es h t = oN (rkM n es h t) := by
  unfold rkV
  cases rkM n es h t <;> rfl
theorem beV_oN (n : Nat) (es : List Edge) : beV n es = oN (beM n es) := by
  unfold beV
  cases beM n es <;> rfl
theorem scal_oN (a b : Option Nat) : scal (oN a) (oN b) = true := by
  cases a <;> cases b <;> rfl
theorem flat_oN (a : Option Nat) : flatV (oN a) = true := by cases a <;> rfl
theorem in_oN (a b : Option Nat) : inV .non [oN a, oN b] = (a.isNone || b.isNone) := by
  cases a <;> cases b <;> rfl
def mkSig {X : Cx} {b : List Stmt} {t : TS} (h : PSs X b t) : PSigma fun t => PSs X b t := ⟨t, h⟩
set_option maxHeartbeats 16000000 in
noncomputable def derPr (f : Addr) (cdv : Value) (A : Around) (outer : List Env) (s0 : Shared) (H : Hp) (E : XK) (hr : Room 4 (A.deeper (envOfC "_law_product_right" (defScope s_law_product_right) s0.heap.objs.size f cdv))) (mr : mg "range" = none) (mi : mg "int" = none) (mx : mg "max" = none)
    (C0 : Cal P w K mg base "product" 3 ["places", "lines", "more", "ties"] spProd) (C1 : Cal P w K mg base "_law_next" 1 ["_law_draws_here"] spNext)
    (C2 : Cal P w K mg base "turns_to_catch" 4 ["places", "lines", "seeker", "fleer"] spTurns) (C3 : Cal P w K mg base "best_starts" 3 ["places", "lines"] spStarts) :
    PSigma fun t => PSs (cxOf CX0 P w K mg base ["_law_draws_here", "_law_size", "_law_sides", "_law_far", "_law_bars", "_law_many_now", "_law_lines_now", "_law_turn", "_law_one", "_law_two", "_law_both", "_law_due_here"] "_law_product_right" (defScope s_law_product_right) f cdv A outer s0 H E).nox (defBody s_law_product_right) t := by
  have nd := sc_law_product_right.nd
  have hS := sc_law_product_right
  have hKM : KMark K := ⟨⟩
  refine' mkSig ?h
  case h =>
    show PSs _ [_, _, _, _] _
    wtm_at "fo ss"
end
/-! piece TRC -/
section
variable {P : Program} {w : World} {K : PySem.W.Frag} {mg : Str → Option Value} {base : Heap}
theorem Pairs.but {H H' : Hp} {d p : Addr} {k : Int} {es : List Edge} (h : Pairs H p es) (s : SameBut d H H') (hd : Dr H d k) : Pairs H' p es := by
  obtain ⟨rs, hp⟩ := PsAt.of h
  exact (hp.but s hd).pairs
set_option maxHeartbeats 16000000 in
theorem ok_prR {f : Addr} {fd : FuncData} (F : Fun K "_law_product_right" "_law_product_right" s_law_product_right f fd) (mr : mg "range" = none) (mi : mg "int" = none) (mx : mg "max" = none)
    (C0 : Cal P w K mg base "product" 3 ["places", "lines", "more", "ties"] spProd) (C1 : Cal P w K mg base "_law_next" 1 ["_law_draws_here"] spNext)
    (C2 : Cal P w K mg base "turns_to_catch" 4 ["places", "lines", "seeker", "fleer"] spTurns) (C3 : Cal P w K mg base "best_starts" 3 ["places", "lines"] spStarts) :
    FnOk P w K mg base CX0 5 f fd ["_law_draws_here", "_law_size", "_law_sides", "_law_far", "_law_bars"] spPrR := by
  refine F.ok sc_law_product_right (fun vs H Q E h => ?_) (fun cdv A outer s H vs Q E hr h => ?_)
  · unfold spPrR at h
    obtain ⟨d, q, kq, k, n, m, es, fs, rfl, _⟩ := h
    rfl
  · have nd := sc_law_product_right.nd
    have hS := sc_law_product_right
    have hKM : KMark K := ⟨⟩
    refine ⟨_, (derPr (P := P) (w := w) (K := K) (mg := mg) (base := base) f cdv A outer s H E hr mr mi mx C0 C1 C2 C3).2, ?_⟩
    unfold derPr mkSig
    dsimp only
    next =>
     unfold spPrR at h
     obtain ⟨d, q, kq, k, n, m, es, fs, rfl, hd, hk, h1, h2, h3, a1, a2, a3, b1, b2, b3, fin⟩ := h
     have h4 : n ≤ 12 := Nat.le_trans (Nat.le_mul_of_pos_right n h2) h3
     have h5 : m ≤ 12 := Nat.le_trans (Nat.le_mul_of_pos_left m h1) h3
     have h6 : 1 ≤ n * m := Nat.mul_pos h1 h2
     have pS := prod_simp (n := n) (es := es) (fs := fs) h2
     have pL : (prodM n es m fs).length ≤ 200 := Nat.le_trans (prodM_length h3) (by decide)
     have hk0 : 0 ≤ k := hd.elim fun _ ⟨_, _, h0⟩ => h0
     wtm_at "fo r"
     refine call_prod h1 h2 h3 h4 h5 a1 a2 a3 b1 b2 b3 (fun pw l rsl H1 sm1 npw nl hpw hl hrn hrf => ?_)
     refine Or.inl ⟨pw, [.int (n * m : Nat), .ref l], rfl, SqT.of hpw, rfl, .int (n * m : Nat), [.ref l], rfl, .ref l, [], rfl, rfl, ?_⟩
     have hd1 := hd.same sm1
     have a1x := a1.same sm1
     have b1x := b1.same sm1
     wtm_at "fo r"
     refine for_range (fun i σ Hx => ∃ y7 y8 y9 y10 y11 k', σ = [some (.ref d), some (.int n), some (.ref q), some (.int m), some (.ref kq), some (.int (n * m : Nat)), some (.ref l), y7, y8, y9, y10, y11] ∧ SameBut d H1 Hx ∧ Dr Hx d k' ∧ k' ≤ k + 2 * (i : Int) ∧ 0 ≤ k') ?_ ?_ ?_
     · exact ⟨none, none, none, none, none, k, rfl, SameBut.refl d H1, hd1, by omega, hk0⟩
     · rintro i σ Hx hi ⟨y7, y8, y9, y10, y11, k', rfl, sbx, hdx, hkx, hkx0⟩
       have hi : i < 6 := by simpa using hi
       wtm_at "fo r"
       refine call_next hdx (by omega) (fun z1 H2 hz1 sb2 hd2 => ?_)
       wtm_at "fo r"
       refine call_next hd2 (by omega) (fun z2 H3 hz2 sb3 hd3 => ?_)
       have hN0 : (0 : Int) < ((n * m : Nat) : Int) := by omega
       have u1 := Int.emod_nonneg z1 (show ((n * m : Nat) : Int) ≠ 0 by omega)
       have u2 := Int.emod_lt_of_pos z1 hN0
       have u3 := Int.emod_nonneg z2 (show ((n * m : Nat) : Int) ≠ 0 by omega)
       have u4 := Int.emod_lt_of_pos z2 hN0
       have hx : z1 % ((n * m : Nat) : Int) + 1 ∈ allM (n * m) := allM_mem.mpr ⟨by omega, by omega⟩
       have hy : z2 % ((n * m : Nat) : Int) + 1 ∈ allM (n * m) := allM_mem.mpr ⟨by omega, by omega⟩
       have px := parts_in h2 hx
       have py := parts_in h2 hy
       have e1 : ∀ z : Int, z / (m : Int) + 1 = p1 m (z + 1) := fun z => by unfold p1; rw [Int.add_sub_cancel]
       have e2 : ∀ z : Int, z % (m : Int) + 1 = p2 m (z + 1) := fun z => by unfold p2; rw [Int.add_sub_cancel]
       dsimp only [tNil]
       wtm_at "fo r"
       refine ⟨_, _, rfl, ?_⟩
       have sx3 := (sbx.trans sb2).trans sb3
       wtm_at "fo r"
       refine call_turnsZ rfl (e1 _) (e1 _) h1 h4 (a1x.but sx3 hd1) a2 a3 px.1 py.1 (fun H4 sm4 => ?_)
       rw [rkV_oN]
       have sx4 := sx3.trans (Same.but d sm4)
       have hd4 := hd3.same sm4
       wtm_at "fo r"
       rename_i b nb
       generalize hr1 : rkM n es (p1 m (z1 % ((n * m : Nat) : Int) + 1)) (p1 m (z2 % ((n * m : Nat) : Int) + 1)) = r1 at *
       have sm5 : Same H4 (upd H4 b (.lst [oN r1])) := same_upd (Same.refl _) nb
       have hb5 : (upd H4 b (.lst [oN r1])) b = some (.lst [oN r1]) := upd_same
       generalize upd H4 b (.lst [oN r1]) = H5 at *
       have sx5 := sx4.trans (Same.but d sm5)
       have hd5 := hd4.same sm5
       have hbd : b ≠ d := fun e => by
         obtain ⟨_, _, hz, _⟩ := hd4
         rw [← e, nb] at hz
         cases hz
       refine call_turnsZ rfl (e2 _) (e2 _) h2 h5 (b1x.but sx5 hd1) b2 b3 px.2 py.2 (fun H6 sm6 => ?_)
       rw [rkV_oN]
       generalize hr2 : rkM m fs (p2 m (z1 % ((n * m : Nat) : Int) + 1)) (p2 m (z2 % ((n * m : Nat) : Int) + 1)) = r2 at *
       have hb6 := sm6 _ _ hb5
       have sx6 := sx5.trans (Same.but d sm6)
       wtm_at "fo r"
       dsimp only [tNil]
       refine ⟨b, _, _, rfl, rfl, hb6, Nat.le_of_ble_eq_true rfl, ?_⟩
       have sm47 : Same H4 (upd H6 b (.lst ([oN r1] ++ [oN r2]))) := same_upd (sm5.trans sm6) nb
       have hb7 : (upd H6 b (.lst ([oN r1] ++ [oN r2]))) b = some (.lst [oN r1, oN r2]) := upd_same
       generalize upd H6 b (.lst ([oN r1] ++ [oN r2])) = H7 at *
       have sx7 := sx4.trans (Same.but d sm47)
       have hd7 := hd4.same sm47
       clear sx5 sx6 hd5 sm5 sm6 hb5 hb6
       wtm_at "fo r"
       refine ⟨by simp [flat_oN], (r1.isNone || r2.isNone), by show V.bl (inV .non _) = _; rw [in_oN], ?_⟩
       rcases r1 with _ | a
       · refine ifT rfl ?_
         wtm_at "fo r"
         refine call_turnsZ (n := n * m) rfl rfl rfl h6 h3 ((hl.pairs).but sx7 hd1) pS pL hx hy (fun H8 sm8 => ?_)
         rw [rkV_oN, rk_prod h2 a2 b2 hx hy, hr1, hr2]
         refine ⟨_, rfl, Or.inl ⟨rfl, _, rfl, ?_⟩⟩
         refine ifF (by simp [omax, oN]) ?_
         exact ⟨_, _, _, _, _, k' + 1 + 1, rfl, sx7.trans (Same.but d sm8), hd7.same sm8, by omega, by omega⟩
       rcases r2 with _ | c
       · refine ifT rfl ?_
         wtm_at "fo r"
         refine call_turnsZ (n := n * m) rfl rfl rfl h6 h3 ((hl.pairs).but sx7 hd1) pS pL hx hy (fun H8 sm8 => ?_)
         rw [rkV_oN, rk_prod h2 a2 b2 hx hy, hr1, hr2]
         refine ⟨_, rfl, Or.inl ⟨rfl, _, rfl, ?_⟩⟩
         refine ifF (by simp [omax, oN]) ?_
         exact ⟨_, _, _, _, _, k' + 1 + 1, rfl, sx7.trans (Same.but d sm8), hd7.same sm8, by omega, by omega⟩
       · refine ifF (by simp) ?_
         wtm_at "fo r"
         refine ⟨b, [(a : Int), (c : Int)], rfl, SqL.of hb7, by simp, fun mx hm hmx => ?_⟩
         have hmv : mx = ((max a c : Nat) : Int) := by
           have q1 := hmx _ (List.mem_cons_self ..)
           have q2 := hmx _ (List.mem_cons_of_mem _ (List.mem_cons_self ..))
           simp at hm
           omega
         subst hmv
         wtm_at "fo r"
         refine call_turnsZ (n := n * m) rfl rfl rfl h6 h3 ((hl.pairs).but sx7 hd1) pS pL hx hy (fun H8 sm8 => ?_)
         rw [rkV_oN, rk_prod h2 a2 b2 hx hy, hr1, hr2]
         refine ⟨_, rfl, Or.inl ⟨rfl, _, rfl, ?_⟩⟩
         refine ifF (by simp [omax, oN]) ?_
         exact ⟨_, _, _, _, _, k' + 1 + 1, rfl, sx7.trans (Same.but d sm8), hd7.same sm8, by omega, by omega⟩
     · rintro σ Hx ⟨y7, y8, y9, y10, y11, k', rfl, sbx, hdx, hkx, hkx0⟩
       wtm_at "fo r"
       refine call_starts h1 h4 (a1x.but sbx hd1) a2 a3 (fun t1 c1 H2 sm2 _ _ ht1 _ => ?_)
       rw [beV_oN] at ht1
       generalize hr1 : beM n es = r1 at *
       wtm_at "fo r"
       refine Or.inr (Or.inl ⟨t1, _, 1, _, rfl, rfl, SqT.of ht1, rfl, ?_⟩)
       have sx2 := sbx.trans (Same.but d sm2)
       wtm_at "fo r"
       refine call_starts h2 h5 (b1x.but sx2 hd1) b2 b3 (fun t2 c2 H3 sm3 _ _ ht2 _ => ?_)
       rw [beV_oN] at ht2
       generalize hr2 : beM m fs = r2 at *
       wtm_at "fo r"
       refine Or.inr (Or.inl ⟨t2, _, 1, _, rfl, rfl, SqT.of ht2, rfl, ?_⟩)
       have sx3 := sx2.trans (Same.but d sm3)
       wtm_at "fo r"
       rename_i b nb
       have sm4 : Same H3 (upd H3 b (.lst [oN r1, oN r2])) := same_upd (Same.refl _) nb
       have hb4 : (upd H3 b (.lst [oN r1, oN r2])) b = some (.lst [oN r1, oN r2]) := upd_same
       generalize upd H3 b (.lst [oN r1, oN r2]) = H4 at *
       have sx4 := sx3.trans (Same.but d sm4)
       refine call_starts h6 h3 ((hl.pairs).but sx4 hd1) pS pL (fun t3 c3 H5 sm5 _ _ ht3 _ => ?_)
       rw [beV_oN, be_prod h1 h2 a2 b2, hr1, hr2] at ht3
       have hb5 := sm5 _ _ hb4
       have sx5 := sx4.trans (Same.but d sm5)
       have hd5 : Dr H5 d k' := (((hdx.same sm2).same sm3).same sm4).same sm5
       have hfin := fin H5 k' ((Same.but d sm1).trans sx5) hd5 (by omega)
       wtm_at "fo r"
       refine Or.inr (Or.inl ⟨t3, _, 1, _, rfl, rfl, SqT.of ht3, rfl, ?_⟩)
       wtm_at "fo r"
       refine ⟨by simp [flat_oN], (r1.isNone || r2.isNone), by show V.bl (inV .non _) = _; rw [in_oN], ?_⟩
       rcases r1 with _ | a
       · refine ifT rfl ?_
         refine Or.inl ⟨rfl, ?_⟩
         rw [show (true : Bool) = decide (V.non = V.non) by simp] at hfin
         exact hfin
       rcases r2 with _ | c
       · refine ifT rfl ?_
         refine Or.inl ⟨rfl, ?_⟩
         rw [show (true : Bool) = decide (V.non = V.non) by simp] at hfin
         exact hfin
       · refine ifF (by simp) ?_
         wtm_at "fo r"
         refine ⟨b, [(a : Int), (c : Int)], rfl, SqL.of hb5, by simp, fun mx hm hmx => ?_⟩
         have hmv : mx = ((max a c : Nat) : Int) := by
           have q1 := hmx _ (List.mem_cons_self ..)
           have q2 := hmx _ (List.mem_cons_of_mem _ (List.mem_cons_self ..))
           simp at hm
           omega
         subst hmv
         refine Or.inl ⟨rfl, ?_⟩
         rw [show (true : Bool) = decide (oN (omax (some a) (some c)) = V.int ((max a c : Nat) : Int)) by simp [omax, oN]] at hfin
         exact hfin
end
/-! piece TREd -/
section
local macro_rules | `(tactic| wtm_at "fo a") => `(tactic| first
  | exact pa_nil
  | (refine' pa_cons ?k1 ?k2; (case k1 => wtm_at "fo e"); (case k2 => wtm_at "fo a"))
  | fail "no")
local macro_rules | `(tactic| wtm_at "fo v") => `(tactic| first
  | exact pv 0
  | exact pv 1
  | exact pv 2
  | exact pv 3
  | exact pv 4
  | exact pv 5
  | exact pv 6
  | exact pv 7
  | exact pv 8
  | exact pv 9
  | exact pv 10
  | exact pv 11
  | exact pv 12
  | exact pv 13
  | exact pv 14
  | exact pv 15
  | fail "no")
local macro_rules | `(tactic| wtm_at "fo e") => `(tactic| first
  | with_reducible exact pe_int
  | with_reducible exact pe_bl
  | with_reducible exact pe_non
  | with_reducible exact pe_str
  | ((with_reducible show PE _ (.Name _ _) _); wtm_at "fo v")
  | ((with_reducible show PE _ (.BinOp _ .Add _ _) _); apply pe_op opAddB <;> wtm_at "fo e")
  | ((with_reducible show PE _ (.BinOp _ .Sub _ _) _); apply pe_op op_sub <;> wtm_at "fo e")
  | ((with_reducible show PE _ (.BinOp _ .Mult _ _) _); apply pe_op op_mul <;> wtm_at "fo e")
  | ((with_reducible show PE _ (.BinOp _ .Mod _ _) _); apply pe_op op_mod <;> wtm_at "fo e")
  | ((with_reducible show PE _ (.BinOp _ .FloorDiv _ _) _); apply pe_op op_fdiv <;> wtm_at "fo e")
  | ((with_reducible show PE _ (.BinOp _ .Pow _ _) _); apply pe_op op_powW <;> wtm_at "fo e")
  | ((with_reducible show PE _ (.BinOp _ .LShift _ _) _); apply pe_op op_shl <;> wtm_at "fo e")
  | ((with_reducible show PE _ (.BinOp _ .RShift _ _) _); apply pe_op op_shr <;> wtm_at "fo e")
  | ((with_reducible show PE _ (.BinOp _ .BitAnd _ _) _); apply pe_op op_and <;> wtm_at "fo e")
  | ((with_reducible show PE _ (.List _ _) _); apply pe_lst; wtm_at "fo a")
  | ((with_reducible show PE _ (.Tuple _ _ _) _); apply pe_tup; wtm_at "fo a")
  | ((with_reducible show PE _ (.ListComp _ [_] _ _) _); wtm_at "fo lc")
  | ((with_reducible show PE _ (.IfExp _ _ _ _) _); apply pe_ifExp; (· wtm_at "fo t"); (· wtm_at "fo e"); (· wtm_at "fo e"))
  | ((with_reducible show PE _ (.UnaryOp .USub _ _) _); apply pe_un un_neg; wtm_at "fo e")
  | ((with_reducible show PE _ (.Call (.Name _ _) [] (_ :: _) _) _); wtm_at "fo kcall")
  | ((with_reducible show PE _ (.Call (.Name _ _) _ _ _) _); wtm_at "fo call")
  | ((with_reducible show PE _ (.Call (.Attribute _ _ _) _ _ _) _); wtm_at "fo meth")
  | ((with_reducible show PE _ (.Compare _ _ _ _) _); wtm_at "fo cmp")
  | ((with_reducible show PE _ (.Subscript _ (.Slice _ _ _ _) _) _); wtm_at "fo slice")
  | ((with_reducible show PE _ (.Subscript _ _ _) _); refine' pe_ix (ix_seqK (by assumption) (by exact rfl)) ?ka ?kb (fun _ _ => rfl); (case ka => wtm_at "fo e"); (case kb => wtm_at "fo e"))
  | fail "no")
local macro_rules | `(tactic| wtm_at "fo own") => `(tactic| first
  | ((show _ = [0]); kernel_rfl!)
  | ((show _ = [1]); kernel_rfl!)
  | ((show _ = [2]); kernel_rfl!)
  | ((show _ = [3]); kernel_rfl!)
  | ((show _ = [4]); kernel_rfl!)
  | ((show _ = [5]); kernel_rfl!)
  | ((show _ = [6]); kernel_rfl!)
  | ((show _ = [7]); kernel_rfl!)
  | ((show _ = [8]); kernel_rfl!)
  | ((show _ = [9]); kernel_rfl!)
  | ((show _ = [10]); kernel_rfl!)
  | ((show _ = [11]); kernel_rfl!)
  | ((show _ = [12]); kernel_rfl!)
  | ((show _ = [13]); kernel_rfl!)
  | ((show _ = [14]); kernel_rfl!)
  | ((show _ = [15]); kernel_rfl!)
  | ((show _ = [0, 1]); kernel_rfl!)
  | ((show _ = [1, 2]); kernel_rfl!)
  | ((show _ = [2, 3]); kernel_rfl!)
  | ((show _ = [3, 4]); kernel_rfl!)
  | ((show _ = [4, 5]); kernel_rfl!)
  | ((show _ = [5, 6]); kernel_rfl!)
  | ((show _ = [6, 7]); kernel_rfl!)
  | ((show _ = [7, 8]); kernel_rfl!)
  | ((show _ = [8, 9]); kernel_rfl!)
  | ((show _ = [9, 10]); kernel_rfl!)
  | ((show _ = [10, 11]); kernel_rfl!)
  | ((show _ = [11, 12]); kernel_rfl!)
  | ((show _ = [12, 13]); kernel_rfl!)
  | ((show _ = [13, 14]); kernel_rfl!)
  | ((show _ = [14, 15]); kernel_rfl!)
  | fail "no")
local macro_rules | `(tactic| wtm_at "fo ts") => `(tactic| first
  | exact pts_nil
  | (apply pts_one; wtm_at "fo t")
  | fail "no")
local macro_rules | `(tactic| wtm_at "fo lc") => `(tactic| first
  | (refine' pe_lcO (by assumption) (by exact rfl) (by exact rfl) (by wtm_at "fo own") (by decide +kernel) rfl ?ki ?kg ?kt ?ke; (case ki => wtm_at "fo i"); (case kg => (intro _ _ _ _ _; wtm_at "fo g")); (case kt => (intro _ _ _ _ _; wtm_at "fo ts")); (case ke => (intro _ _ _ _ _; wtm_at "fo e")))
  | fail "no")
local macro_rules | `(tactic| wtm_at "fo part") => `(tactic| first
  | exact po_none
  | (apply po_some; wtm_at "fo e")
  | fail "no")
local macro_rules | `(tactic| wtm_at "fo slice") => `(tactic| first
  | ((with_reducible show PE _ (.Subscript _ (.Slice _ _ none _) _) _); refine' pe_slice (sl_listK (by assumption) (by exact rfl)) ?ka ?kb ?kc; (case ka => wtm_at "fo e"); (case kb => wtm_at "fo part"); (case kc => wtm_at "fo part"))
  | ((with_reducible show PE _ (.Subscript _ (.Slice none none (some _) _) _) _); refine' pe_stepK (by assumption) (by exact rfl) ?ka ?kb; (case ka => wtm_at "fo e"); (case kb => wtm_at "fo e"))
  | fail "no")
local macro_rules | `(tactic| wtm_at "fo cmp") => `(tactic| first
  | ((with_reducible show PE _ (.Compare _ [.Lt] _ _) _); refine' pe_cmpR op_lt ?ka ?kb (nomark _); (case ka => wtm_at "fo e"); (case kb => wtm_at "fo e"))
  | ((with_reducible show PE _ (.Compare _ [.LtE] _ _) _); refine' pe_cmpR op_le ?ka ?kb (nomark _); (case ka => wtm_at "fo e"); (case kb => wtm_at "fo e"))
  | ((with_reducible show PE _ (.Compare _ [.Gt] _ _) _); refine' pe_cmpR op_gt ?ka ?kb (nomark _); (case ka => wtm_at "fo e"); (case kb => wtm_at "fo e"))
  | ((with_reducible show PE _ (.Compare _ [.GtE] _ _) _); refine' pe_cmpR op_ge ?ka ?kb (nomark _); (case ka => wtm_at "fo e"); (case kb => wtm_at "fo e"))
  | ((with_reducible show PE _ (.Compare _ [.Eq] _ _) _); refine' pe_cmpR (op_eqK (by assumption) (by exact rfl) (Room.units (by assumption))) ?ka ?kb (nomark _); (case ka => wtm_at "fo e"); (case kb => wtm_at "fo e"))
  | ((with_reducible show PE _ (.Compare _ [.NotEq] _ _) _); refine' pe_cmpR (op_neK (by assumption) (by exact rfl) (Room.units (by assumption))) ?ka ?kb (nomark _); (case ka => wtm_at "fo e"); (case kb => wtm_at "fo e"))
  | fail "no")
local macro_rules | `(tactic| wtm_at "fo tcmp") => `(tactic| first
  | ((with_reducible show PT _ (.Compare _ [.Lt] _ _) _); refine' pt_cmpR op_lt ?ka ?kb (nomark _); (case ka => wtm_at "fo e"); (case kb => wtm_at "fo e"))
  | ((with_reducible show PT _ (.Compare _ [.LtE] _ _) _); refine' pt_cmpR op_le ?ka ?kb (nomark _); (case ka => wtm_at "fo e"); (case kb => wtm_at "fo e"))
  | ((with_reducible show PT _ (.Compare _ [.Gt] _ _) _); refine' pt_cmpR op_gt ?ka ?kb (nomark _); (case ka => wtm_at "fo e"); (case kb => wtm_at "fo e"))
  | ((with_reducible show PT _ (.Compare _ [.GtE] _ _) _); refine' pt_cmpR op_ge ?ka ?kb (nomark _); (case ka => wtm_at "fo e"); (case kb => wtm_at "fo e"))
  | ((with_reducible show PT _ (.Compare _ [.Eq] _ _) _); refine' pt_cmpR (op_eqK (by assumption) (by exact rfl) (Room.units (by assumption))) ?ka ?kb (nomark _); (case ka => wtm_at "fo e"); (case kb => wtm_at "fo e"))
  | ((with_reducible show PT _ (.Compare _ [.NotEq] _ _) _); refine' pt_cmpR (op_neK (by assumption) (by exact rfl) (Room.units (by assumption))) ?ka ?kb (nomark _); (case ka => wtm_at "fo e"); (case kb => wtm_at "fo e"))
  | ((with_reducible show PT _ (.Compare _ [.In] _ _) _); refine' pt_cmpR (op_inK (by assumption) (by exact rfl)) ?ka ?kb rfl; (case ka => wtm_at "fo e"); (case kb => wtm_at "fo e"))
  | ((with_reducible show PT _ (.Compare _ [.NotIn] _ _) _); refine' pt_cmpR (op_notInK (by assumption) (by exact rfl)) ?ka ?kb rfl; (case ka => wtm_at "fo e"); (case kb => wtm_at "fo e"))
  | fail "no")
local macro_rules | `(tactic| wtm_at "fo w") => `(tactic| first
  | ((with_reducible show PW _ (.BoolOp .And [_] _) _); apply pw_and1; wtm_at "fo t")
  | ((with_reducible show PW _ (.BoolOp .And _ _) _); apply pw_and; (· wtm_at "fo t"); (· wtm_at "fo w"))
  | ((with_reducible show PW _ (.BoolOp .Or [_] _) _); apply pw_or1; wtm_at "fo t")
  | ((with_reducible show PW _ (.BoolOp .Or _ _) _); apply pw_or; (· wtm_at "fo t"); (· wtm_at "fo w"))
  | fail "no")
local macro_rules | `(tactic| wtm_at "fo meth") => `(tactic| first
  | ((with_reducible show PE _ (.Call (.Attribute _ (Str.ofString "append") _) _ _ _) _); refine' pe_bm PySem.F.plainAttrs_list PySem.F.slot_list_append PySem.F.type_list_append mt_append ?ka ?kb; (case ka => wtm_at "fo e"); (case kb => wtm_at "fo a"))
  | ((with_reducible show PE _ (.Call (.Attribute _ (Str.ofString "pop") _) [_] _ _) _); refine' pe_bm PySem.F.plainAttrs_list PySem.F.slot_list_pop PySem.F.type_list_pop mt_popAt ?ka ?kb; (case ka => wtm_at "fo e"); (case kb => wtm_at "fo a"))
  | ((with_reducible show PE _ (.Call (.Attribute _ (Str.ofString "pop") _) [] _ _) _); refine' pe_bm0 PySem.F.plainAttrs_list PySem.F.slot_list_pop PySem.F.type_list_pop mt_pop ?ka; (case ka => wtm_at "fo e"))
  | fail "no")
local macro_rules | `(tactic| wtm_at "fo k") => `(tactic| first
  | exact pk_nil
  | (refine' pk_cons ?k1 ?k2; (case k1 => wtm_at "fo e"); (case k2 => wtm_at "fo k"))
  | fail "no")
local macro_rules | `(tactic| wtm_at "fo kcall") => `(tactic| first
  | (refine' pe_kcal (by assumption) (by assumption) (by decide) (by rfl) ?ka; (case ka => wtm_at "fo k"))
  | fail "no")
local macro_rules | `(tactic| wtm_at "fo call") => `(tactic| first
  | ((with_reducible show PE _ (.Call (.Name (Str.ofString "int") _) _ _ _) _); refine' pe_callTy call_intB (by rfl) (by assumption) (by decide +kernel) ?ka; (case ka => wtm_at "fo a"))
  | ((with_reducible show PE _ (.Call (.Name (Str.ofString "len") _) _ _ _) _); refine' pe_callB (call_lenK (by assumption) (by exact rfl)) (by rfl) (by assumption) PySem.boot_len ?ka; (case ka => wtm_at "fo a"))
  | ((with_reducible show PE _ (.Call (.Name (Str.ofString "list") _) [.Call (.Name (Str.ofString "range") _) [_, _] _ _] _ _) _); refine' pe_listRg rfl (by rfl) (by assumption) (prg_2 (by rfl) (by assumption) ?ka ?kb); (case ka => wtm_at "fo e"); (case kb => wtm_at "fo e"))
  | ((with_reducible show PE _ (.Call (.Name (Str.ofString "list") _) _ _ _) _); refine' pe_callTy (call_listK (by assumption) (by exact rfl)) (by rfl) (by assumption) (by decide +kernel) ?ka; (case ka => wtm_at "fo a"))
  | ((with_reducible show PE _ (.Call (.Name (Str.ofString "min") _) [_, _] _ _) _); refine' pe_callB (call_min2 rfl) (by rfl) (by assumption) (by decide +kernel) ?ka; (case ka => wtm_at "fo a"))
  | ((with_reducible show PE _ (.Call (.Name (Str.ofString "sorted") _) [_] _ _) _); refine' pe_callB (cr_sortedK (by assumption) (by exact rfl)) (by rfl) (by assumption) (by decide +kernel) ?ka; (case ka => wtm_at "fo a"))
  | ((with_reducible show PE _ (.Call (.Name (Str.ofString "repr") _) [_] _ _) _); refine' pe_callB (call_reprK (by assumption) (by exact rfl) (by assumption) (Room.units (by assumption))) (by rfl) (by assumption) (by decide +kernel) ?ka; (case ka => wtm_at "fo a"))
  | (refine' pe_cal (by assumption) (by assumption) (by decide) (by rfl) ?ka; (case ka => wtm_at "fo a"))
  | fail "no")
local macro_rules | `(tactic| wtm_at "fo setlc") => `(tactic| first
  | (refine' ps_setLcO (i := 0) (by assumption) (by exact rfl) (by exact rfl) (by wtm_at "fo own") (by decide +kernel) rfl rfl rfl (sw_true rfl rfl rfl (by decide +kernel)) ?ki ?kg ?kt ?ke; (case ki => wtm_at "fo i"); (case kg => (intro _ _ _ _ _; wtm_at "fo g")); (case kt => (intro _ _ _ _ _; wtm_at "fo ts")); (case ke => (intro _ _ _ _ _; wtm_at "fo e")))
  | (refine' ps_setLcO (i := 1) (by assumption) (by exact rfl) (by exact rfl) (by wtm_at "fo own") (by decide +kernel) rfl rfl rfl (sw_true rfl rfl rfl (by decide +kernel)) ?ki ?kg ?kt ?ke; (case ki => wtm_at "fo i"); (case kg => (intro _ _ _ _ _; wtm_at "fo g")); (case kt => (intro _ _ _ _ _; wtm_at "fo ts")); (case ke => (intro _ _ _ _ _; wtm_at "fo e")))
  | (refine' ps_setLcO (i := 2) (by assumption) (by exact rfl) (by exact rfl) (by wtm_at "fo own") (by decide +kernel) rfl rfl rfl (sw_true rfl rfl rfl (by decide +kernel)) ?ki ?kg ?kt ?ke; (case ki => wtm_at "fo i"); (case kg => (intro _ _ _ _ _; wtm_at "fo g")); (case kt => (intro _ _ _ _ _; wtm_at "fo ts")); (case ke => (intro _ _ _ _ _; wtm_at "fo e")))
  | (refine' ps_setLcO (i := 3) (by assumption) (by exact rfl) (by exact rfl) (by wtm_at "fo own") (by decide +kernel) rfl rfl rfl (sw_true rfl rfl rfl (by decide +kernel)) ?ki ?kg ?kt ?ke; (case ki => wtm_at "fo i"); (case kg => (intro _ _ _ _ _; wtm_at "fo g")); (case kt => (intro _ _ _ _ _; wtm_at "fo ts")); (case ke => (intro _ _ _ _ _; wtm_at "fo e")))
  | (refine' ps_setLcO (i := 4) (by assumption) (by exact rfl) (by exact rfl) (by wtm_at "fo own") (by decide +kernel) rfl rfl rfl (sw_true rfl rfl rfl (by decide +kernel)) ?ki ?kg ?kt ?ke; (case ki => wtm_at "fo i"); (case kg => (intro _ _ _ _ _; wtm_at "fo g")); (case kt => (intro _ _ _ _ _; wtm_at "fo ts")); (case ke => (intro _ _ _ _ _; wtm_at "fo e")))
  | (refine' ps_setLcO (i := 5) (by assumption) (by exact rfl) (by exact rfl) (by wtm_at "fo own") (by decide +kernel) rfl rfl rfl (sw_true rfl rfl rfl (by decide +kernel)) ?ki ?kg ?kt ?ke; (case ki => wtm_at "fo i"); (case kg => (intro _ _ _ _ _; wtm_at "fo g")); (case kt => (intro _ _ _ _ _; wtm_at "fo ts")); (case ke => (intro _ _ _ _ _; wtm_at "fo e")))
  | (refine' ps_setLcO (i := 6) (by assumption) (by exact rfl) (by exact rfl) (by wtm_at "fo own") (by decide +kernel) rfl rfl rfl (sw_true rfl rfl rfl (by decide +kernel)) ?ki ?kg ?kt ?ke; (case ki => wtm_at "fo i"); (case kg => (intro _ _ _ _ _; wtm_at "fo g")); (case kt => (intro _ _ _ _ _; wtm_at "fo ts")); (case ke => (intro _ _ _ _ _; wtm_at "fo e")))
  | (refine' ps_setLcO (i := 7) (by assumption) (by exact rfl) (by exact rfl) (by wtm_at "fo own") (by decide +kernel) rfl rfl rfl (sw_true rfl rfl rfl (by decide +kernel)) ?ki ?kg ?kt ?ke; (case ki => wtm_at "fo i"); (case kg => (intro _ _ _ _ _; wtm_at "fo g")); (case kt => (intro _ _ _ _ _; wtm_at "fo ts")); (case ke => (intro _ _ _ _ _; wtm_at "fo e")))
  | (refine' ps_setLcO (i := 8) (by assumption) (by exact rfl) (by exact rfl) (by wtm_at "fo own") (by decide +kernel) rfl rfl rfl (sw_true rfl rfl rfl (by decide +kernel)) ?ki ?kg ?kt ?ke; (case ki => wtm_at "fo i"); (case kg => (intro _ _ _ _ _; wtm_at "fo g")); (case kt => (intro _ _ _ _ _; wtm_at "fo ts")); (case ke => (intro _ _ _ _ _; wtm_at "fo e")))
  | (refine' ps_setLcO (i := 9) (by assumption) (by exact rfl) (by exact rfl) (by wtm_at "fo own") (by decide +kernel) rfl rfl rfl (sw_true rfl rfl rfl (by decide +kernel)) ?ki ?kg ?kt ?ke; (case ki => wtm_at "fo i"); (case kg => (intro _ _ _ _ _; wtm_at "fo g")); (case kt => (intro _ _ _ _ _; wtm_at "fo ts")); (case ke => (intro _ _ _ _ _; wtm_at "fo e")))
  | (refine' ps_setLcO (i := 10) (by assumption) (by exact rfl) (by exact rfl) (by wtm_at "fo own") (by decide +kernel) rfl rfl rfl (sw_true rfl rfl rfl (by decide +kernel)) ?ki ?kg ?kt ?ke; (case ki => wtm_at "fo i"); (case kg => (intro _ _ _ _ _; wtm_at "fo g")); (case kt => (intro _ _ _ _ _; wtm_at "fo ts")); (case ke => (intro _ _ _ _ _; wtm_at "fo e")))
  | (refine' ps_setLcO (i := 11) (by assumption) (by exact rfl) (by exact rfl) (by wtm_at "fo own") (by decide +kernel) rfl rfl rfl (sw_true rfl rfl rfl (by decide +kernel)) ?ki ?kg ?kt ?ke; (case ki => wtm_at "fo i"); (case kg => (intro _ _ _ _ _; wtm_at "fo g")); (case kt => (intro _ _ _ _ _; wtm_at "fo ts")); (case ke => (intro _ _ _ _ _; wtm_at "fo e")))
  | (refine' ps_setLcO (i := 12) (by assumption) (by exact rfl) (by exact rfl) (by wtm_at "fo own") (by decide +kernel) rfl rfl rfl (sw_true rfl rfl rfl (by decide +kernel)) ?ki ?kg ?kt ?ke; (case ki => wtm_at "fo i"); (case kg => (intro _ _ _ _ _; wtm_at "fo g")); (case kt => (intro _ _ _ _ _; wtm_at "fo ts")); (case ke => (intro _ _ _ _ _; wtm_at "fo e")))
  | (refine' ps_setLcO (i := 13) (by assumption) (by exact rfl) (by exact rfl) (by wtm_at "fo own") (by decide +kernel) rfl rfl rfl (sw_true rfl rfl rfl (by decide +kernel)) ?ki ?kg ?kt ?ke; (case ki => wtm_at "fo i"); (case kg => (intro _ _ _ _ _; wtm_at "fo g")); (case kt => (intro _ _ _ _ _; wtm_at "fo ts")); (case ke => (intro _ _ _ _ _; wtm_at "fo e")))
  | (refine' ps_setLcO (i := 14) (by assumption) (by exact rfl) (by exact rfl) (by wtm_at "fo own") (by decide +kernel) rfl rfl rfl (sw_true rfl rfl rfl (by decide +kernel)) ?ki ?kg ?kt ?ke; (case ki => wtm_at "fo i"); (case kg => (intro _ _ _ _ _; wtm_at "fo g")); (case kt => (intro _ _ _ _ _; wtm_at "fo ts")); (case ke => (intro _ _ _ _ _; wtm_at "fo e")))
  | (refine' ps_setLcO (i := 15) (by assumption) (by exact rfl) (by exact rfl) (by wtm_at "fo own") (by decide +kernel) rfl rfl rfl (sw_true rfl rfl rfl (by decide +kernel)) ?ki ?kg ?kt ?ke; (case ki => wtm_at "fo i"); (case kg => (intro _ _ _ _ _; wtm_at "fo g")); (case kt => (intro _ _ _ _ _; wtm_at "fo ts")); (case ke => (intro _ _ _ _ _; wtm_at "fo e")))
  | fail "no")
local macro_rules | `(tactic| wtm_at "fo set") => `(tactic| first
  | (refine' ps_set (i := 0) (by assumption) rfl (by first | exact Or.inl rfl | exact Or.inr rfl) ?ka; (case ka => wtm_at "fo e"))
  | (refine' ps_set (i := 1) (by assumption) rfl (by first | exact Or.inl rfl | exact Or.inr rfl) ?ka; (case ka => wtm_at "fo e"))
  | (refine' ps_set (i := 2) (by assumption) rfl (by first | exact Or.inl rfl | exact Or.inr rfl) ?ka; (case ka => wtm_at "fo e"))
  | (refine' ps_set (i := 3) (by assumption) rfl (by first | exact Or.inl rfl | exact Or.inr rfl) ?ka; (case ka => wtm_at "fo e"))
  | (refine' ps_set (i := 4) (by assumption) rfl (by first | exact Or.inl rfl | exact Or.inr rfl) ?ka; (case ka => wtm_at "fo e"))
  | (refine' ps_set (i := 5) (by assumption) rfl (by first | exact Or.inl rfl | exact Or.inr rfl) ?ka; (case ka => wtm_at "fo e"))
  | (refine' ps_set (i := 6) (by assumption) rfl (by first | exact Or.inl rfl | exact Or.inr rfl) ?ka; (case ka => wtm_at "fo e"))
  | (refine' ps_set (i := 7) (by assumption) rfl (by first | exact Or.inl rfl | exact Or.inr rfl) ?ka; (case ka => wtm_at "fo e"))
  | (refine' ps_set (i := 8) (by assumption) rfl (by first | exact Or.inl rfl | exact Or.inr rfl) ?ka; (case ka => wtm_at "fo e"))
  | (refine' ps_set (i := 9) (by assumption) rfl (by first | exact Or.inl rfl | exact Or.inr rfl) ?ka; (case ka => wtm_at "fo e"))
  | (refine' ps_set (i := 10) (by assumption) rfl (by first | exact Or.inl rfl | exact Or.inr rfl) ?ka; (case ka => wtm_at "fo e"))
  | (refine' ps_set (i := 11) (by assumption) rfl (by first | exact Or.inl rfl | exact Or.inr rfl) ?ka; (case ka => wtm_at "fo e"))
  | (refine' ps_set (i := 12) (by assumption) rfl (by first | exact Or.inl rfl | exact Or.inr rfl) ?ka; (case ka => wtm_at "fo e"))
  | (refine' ps_set (i := 13) (by assumption) rfl (by first | exact Or.inl rfl | exact Or.inr rfl) ?ka; (case ka => wtm_at "fo e"))
  | fail "no")
local macro_rules | `(tactic| wtm_at "fo t") => `(tactic| first
  | ((with_reducible show PT _ (.BoolOp _ _ _) _); apply PW.pt; wtm_at "fo w")
  | ((with_reducible show PT _ (.UnaryOp .Not _ _) _); apply pt_not; wtm_at "fo t")
  | ((with_reducible show PT _ (.Compare _ _ _ _) _); wtm_at "fo tcmp")
  | (refine' pt_truthK (by assumption) (by exact rfl) ?ka (by intro _; rfl); (case ka => wtm_at "fo e"))
  | fail "no")
local macro_rules | `(tactic| wtm_at "fo gn") => `(tactic| first
  | exact pg_name (i := 0) (by assumption) rfl (by first | exact Or.inl rfl | exact Or.inr rfl)
  | exact pg_name (i := 1) (by assumption) rfl (by first | exact Or.inl rfl | exact Or.inr rfl)
  | exact pg_name (i := 2) (by assumption) rfl (by first | exact Or.inl rfl | exact Or.inr rfl)
  | exact pg_name (i := 3) (by assumption) rfl (by first | exact Or.inl rfl | exact Or.inr rfl)
  | exact pg_name (i := 4) (by assumption) rfl (by first | exact Or.inl rfl | exact Or.inr rfl)
  | exact pg_name (i := 5) (by assumption) rfl (by first | exact Or.inl rfl | exact Or.inr rfl)
  | exact pg_name (i := 6) (by assumption) rfl (by first | exact Or.inl rfl | exact Or.inr rfl)
  | exact pg_name (i := 7) (by assumption) rfl (by first | exact Or.inl rfl | exact Or.inr rfl)
  | exact pg_name (i := 8) (by assumption) rfl (by first | exact Or.inl rfl | exact Or.inr rfl)
  | exact pg_name (i := 9) (by assumption) rfl (by first | exact Or.inl rfl | exact Or.inr rfl)
  | exact pg_name (i := 10) (by assumption) rfl (by first | exact Or.inl rfl | exact Or.inr rfl)
  | exact pg_name (i := 11) (by assumption) rfl (by first | exact Or.inl rfl | exact Or.inr rfl)
  | exact pg_name (i := 12) (by assumption) rfl (by first | exact Or.inl rfl | exact Or.inr rfl)
  | exact pg_name (i := 13) (by assumption) rfl (by first | exact Or.inl rfl | exact Or.inr rfl)
  | exact pg_name (i := 14) (by assumption) rfl (by first | exact Or.inl rfl | exact Or.inr rfl)
  | exact pg_name (i := 15) (by assumption) rfl (by first | exact Or.inl rfl | exact Or.inr rfl)
  | fail "no")
local macro_rules | `(tactic| wtm_at "fo par") => `(tactic| first
  | (refine' ps_par (i := 0) (j := 1) rfl (by assumption) rfl rfl (by decide) rfl rfl ?ka (by rfl); (case ka => wtm_at "fo a"))
  | (refine' ps_par (i := 1) (j := 2) rfl (by assumption) rfl rfl (by decide) rfl rfl ?ka (by rfl); (case ka => wtm_at "fo a"))
  | (refine' ps_par (i := 2) (j := 3) rfl (by assumption) rfl rfl (by decide) rfl rfl ?ka (by rfl); (case ka => wtm_at "fo a"))
  | (refine' ps_par (i := 3) (j := 4) rfl (by assumption) rfl rfl (by decide) rfl rfl ?ka (by rfl); (case ka => wtm_at "fo a"))
  | (refine' ps_par (i := 4) (j := 5) rfl (by assumption) rfl rfl (by decide) rfl rfl ?ka (by rfl); (case ka => wtm_at "fo a"))
  | (refine' ps_par (i := 5) (j := 6) rfl (by assumption) rfl rfl (by decide) rfl rfl ?ka (by rfl); (case ka => wtm_at "fo a"))
  | (refine' ps_par (i := 6) (j := 7) rfl (by assumption) rfl rfl (by decide) rfl rfl ?ka (by rfl); (case ka => wtm_at "fo a"))
  | (refine' ps_par (i := 7) (j := 8) rfl (by assumption) rfl rfl (by decide) rfl rfl ?ka (by rfl); (case ka => wtm_at "fo a"))
  | (refine' ps_par (i := 8) (j := 9) rfl (by assumption) rfl rfl (by decide) rfl rfl ?ka (by rfl); (case ka => wtm_at "fo a"))
  | (refine' ps_par (i := 9) (j := 10) rfl (by assumption) rfl rfl (by decide) rfl rfl ?ka (by rfl); (case ka => wtm_at "fo a"))
  | (refine' ps_par (i := 10) (j := 11) rfl (by assumption) rfl rfl (by decide) rfl rfl ?ka (by rfl); (case ka => wtm_at "fo a"))
  | (refine' ps_par (i := 11) (j := 12) rfl (by assumption) rfl rfl (by decide) rfl rfl ?ka (by rfl); (case ka => wtm_at "fo a"))
  | (refine' ps_par (i := 12) (j := 13) rfl (by assumption) rfl rfl (by decide) rfl rfl ?ka (by rfl); (case ka => wtm_at "fo a"))
  | (refine' ps_par (i := 13) (j := 14) rfl (by assumption) rfl rfl (by decide) rfl rfl ?ka (by rfl); (case ka => wtm_at "fo a"))
  | (refine' ps_par (i := 14) (j := 15) rfl (by assumption) rfl rfl (by decide) rfl rfl ?ka (by rfl); (case ka => wtm_at "fo a"))
  | fail "no")
local macro_rules | `(tactic| wtm_at "fo g") => `(tactic| first
  | ((with_reducible show PG _ (.Name _ _) _); wtm_at "fo gn")
  | ((with_reducible show PG _ (.Tuple _ _ _) _); apply PG_or; (· refine' pg_tup2 (by assumption) (by exact rfl) rfl ?kg; (case kg => wtm_at "fo gs")); (· refine' pg_unl2 (by assumption) (by exact rfl) rfl ?kg; (case kg => wtm_at "fo gs")))
  | fail "no")
local macro_rules | `(tactic| wtm_at "fo gs") => `(tactic| first
  | exact pgs_nil
  | (refine' pgs_cons ?k1 ?k2; (case k1 => wtm_at "fo g"); (case k2 => wtm_at "fo gs"))
  | fail "no")
local macro_rules | `(tactic| wtm_at "fo i") => `(tactic| first
  | ((with_reducible show PI _ _ (.Call (.Name (Str.ofString "range") _) [_] _ _) _); refine' pi_range1 (by rfl) (by assumption) ?ka; (case ka => wtm_at "fo a"))
  | ((with_reducible show PI _ _ (.Call (.Name (Str.ofString "range") _) [_, _] _ _) _); refine' pi_range2 (by rfl) (by assumption) ?ka; (case ka => wtm_at "fo a"))
  | ((with_reducible show PI _ _ (.Call (.Name (Str.ofString "enumerate") _) [_] _ _) _); refine' pi_enum (by rfl) (by assumption) ?ka; (case ka => wtm_at "fo a"))
  | (refine' pi_listK (by assumption) (by exact rfl) ?ka; (case ka => wtm_at "fo e"))
  | fail "no")
local macro_rules | `(tactic| wtm_at "fo s") => `(tactic| first
  | ((with_reducible show PS _ (.While _ _ _ _) _); refine' ps_while PassesOwn.never ?kt ?kb; (case kt => wtm_at "fo t"); (case kb => wtm_at "fo ss"))
  | ((with_reducible show PS _ (.For _ _ _ _ _) _); refine' ps_for PassesOwn.never rfl ?ki ?kg ?kb; (case ki => wtm_at "fo i"); (case kg => wtm_at "fo g"); (case kb => wtm_at "fo ss"))
  | ((with_reducible show PS _ (.Assign [.Name _ _] (.ListComp _ [_] _ _) _) _); wtm_at "fo setlc")
  | ((with_reducible show PS _ (.Assign [.Name _ _] _ _) _); wtm_at "fo set")
  | ((with_reducible show PS _ (.Assign [.Tuple [.Name _ _, .Name _ _] _ _] (.Tuple [_, _] _ _) _) _); wtm_at "fo par")
  | ((with_reducible show PS _ (.Assign [.Subscript _ _ _] _ _) _); refine' ps_asg ?ka (pg_sub ?kb ?kc set_list); (case ka => wtm_at "fo e"); (case kb => wtm_at "fo e"); (case kc => wtm_at "fo e"))
  | ((with_reducible show PS _ (.Return (some _) _) _); apply ps_ret; wtm_at "fo e")
  | ((with_reducible show PS _ (.Expr _ _) _); refine' ps_expr ?ka; (case ka => wtm_at "fo e"))
  | ((with_reducible show PS _ (.If _ _ _ _) _); apply ps_if; (· wtm_at "fo t"); (· wtm_at "fo ss"); (· wtm_at "fo ss"))
  | fail "no")
local macro_rules | `(tactic| wtm_at "fo ss") => `(tactic| first
  | with_reducible exact pss_nil
  | ((with_reducible show PSs _ [_] _); apply pss_one; wtm_at "fo s")
  | (apply pss_cons; (· wtm_at "fo s"); (· wtm_at "fo ss"))
  | fail "no")
local macro_rules | `(tactic| wtm_at "fo hp") => `(tactic| first
  | assumption
  | exact upd_same
  | (refine (upd_ne ?ne).trans ?hp; (case ne => wtm_at "fo ne"); (case hp => wtm_at "fo hp"))
  | fail "no")
local macro_rules | `(tactic| wtm_at "fo ne") => `(tactic| first
  | assumption
  | (apply Ne.symm; assumption)
  | exact ne_of_none (by assumption) (by assumption)
  | exact Ne.symm (ne_of_none (by assumption) (by assumption))
  | fail "no")
local macro_rules | `(tactic| wtm_at "fo sz") => `(tactic| first
  | exact (Nat.le_of_ble_eq_true rfl : _ ≤ sizeLine)
  | exact (Nat.le_of_ble_eq_true rfl : _ < sizeLine)
  | exact Nat.lt_of_le_of_lt (m := 100000) (by first | assumption | omega | (simp; omega)) (by decide)
  | exact Nat.le_trans (m := 100000) (by first | assumption | omega | (simp; omega)) (by decide)
  | fail "no")
local macro_rules | `(tactic| wtm_at "fo r1") => `(tactic| first
  | refine ⟨(Nat.le_of_ble_eq_true rfl : _ ≤ sizeLine), fun p np => ?_⟩
  | (refine' ⟨_, _, rfl, Or.inl (SqL.of ?h), ?_⟩; (case h => wtm_at "fo hp"))
  | refine ⟨_, rfl, ?_⟩
  | refine ⟨_, _, rfl, rfl, ?_⟩
  | refine ⟨_, _, rfl, ⟨by omega, by omega, by omega, by omega⟩, ?_⟩
  | refine ⟨_, rfl, by omega, by omega, ?_⟩
  | refine Or.inl ⟨_, rfl, ?_⟩
  | refine Or.inl ⟨rfl, ?_⟩
  | refine Or.inl ⟨_, _, rfl, rfl, ?_⟩
  | (refine' Or.inl ⟨_, _, _, _, rfl, rfl, SqL.of ?h, ?a, ?_⟩; (case h => wtm_at "fo hp"); (case a => rfl))
  | (refine' ⟨_, _, _, _, rfl, rfl, ?h, ?a, ?_⟩; (case h => wtm_at "fo hp"); (case a => rfl))
  | (refine' ⟨.inl ⟨rfl, _, SqL.of ?h⟩, ?_⟩; (case h => wtm_at "fo hp"))
  | (refine' ⟨_, _, _, rfl, rfl, ?h, ?z, ?_⟩; (case h => wtm_at "fo hp"); (case z => wtm_at "fo sz"))
  | (refine' ⟨_, rfl, ⟨_, SqL.of ?h⟩, ?_⟩; (case h => wtm_at "fo hp"))
  | fail "no")
local macro_rules | `(tactic| wtm_at "fo side") => `(tactic| ((try dsimp only [CMul, CDiv]); first
  | assumption
  | decide
  | omega
  | exact ⟨by decide, by decide⟩
  | exact ⟨by omega, by omega⟩
  | decide +kernel
  | fail "no"))
local macro_rules | `(tactic| wtm_at "fo r2") => `(tactic| first
  | wtm_at "fo r1"
  | refine And.intro (by wtm_at "fo side") ?_
  | fail "no")
local macro_rules | `(tactic| wtm_at "fo r") => `(tactic| repeat wtm_at "fo r2")
local macro_rules | `(tactic| wtm_at "fo v") => `(tactic| first
  | ((with_reducible show PE _ (.Name (Str.ofString "int") _) _); exact pe_bltn (v := .ty "int") (by rfl) (by assumption) (by decide +kernel) rfl)
  | ((with_reducible show PE _ (.Name (Str.ofString "list") _) _); exact pe_bltn (v := .ty "list") (by rfl) (by assumption) (by decide +kernel) rfl)
  | ((with_reducible show PE _ (.Name (Str.ofString "MOST_PLACES") _) _); exact pe_glob (v := .int 12) (by rfl) (by assumption) ⟨_, rfl⟩)
  | fail "no")
local macro_rules | `(tactic| wtm_at "fo e") => `(tactic| first
  | ((with_reducible show PE _ (.BoolOp .And [_] _) _); apply pe_one; wtm_at "fo e")
  | ((with_reducible show PE _ (.BoolOp .And _ _) _); apply pe_and; (· wtm_at "fo e"); (· wtm_at "fo e"))
  | ((with_reducible show PE _ (.Compare _ [.IsNot] [.Constant (.bool true) _ _] _) _); refine' pe_cmpR op_notT ?ka ?kb (nomark _); (case ka => wtm_at "fo e"); (case kb => wtm_at "fo e"))
  | ((with_reducible show PE _ (.Compare _ [.LtE, .LtE] _ _) _); refine' pe_chain op_le op_le ?ka ?kb ?kc; (case ka => wtm_at "fo e"); (case kb => wtm_at "fo e"); (case kc => wtm_at "fo e"))
  | ((with_reducible show PE _ (.Call (.Name (Str.ofString "isinstance") _) _ _ _) _); refine' pe_callB (call_isiK' (by assumption) (by exact rfl)) (by rfl) (by assumption) (by decide +kernel) ?ka; (case ka => wtm_at "fo a"))
  | ((with_reducible show PE _ (.Call (.Attribute _ (Str.ofString "bit_length") _) [] [] _) _); refine' pe_bits ?ka; (case ka => wtm_at "fo e"))
  | fail "no")
local macro_rules | `(tactic| wtm_at "fo t") => `(tactic| first
  | ((with_reducible show PT _ (.Compare _ [.IsNot] [.Constant (.bool true) _ _] _) _); refine' pt_cmpR op_notT ?ka ?kb (nomark _); (case ka => wtm_at "fo e"); (case kb => wtm_at "fo e"))
  | ((with_reducible show PT _ (.Compare _ [.Lt, .Lt, .LtE] _ _) _); refine' pt_chain3 op_lt op_lt op_le ?ka ?kb ?kc ?kd; (case ka => wtm_at "fo e"); (case kb => wtm_at "fo e"); (case kc => wtm_at "fo e"); (case kd => wtm_at "fo e"))
  | fail "no")
local macro_rules | `(tactic| wtm_at "fo s") => `(tactic| first
  | ((with_reducible show PS _ (.Raise _ _ _) _); exact ps_never)
  | ((with_reducible show PS _ (.Continue _) _); exact ps_continue)
  | ((with_reducible show PS _ (.AugAssign (.Subscript _ _ _) .BitOr _ _) _); refine' ps_augS ?ka ?kb get_list ?kc ip_or set_list; (case ka => wtm_at "fo e"); (case kb => wtm_at "fo e"); (case kc => wtm_at "fo e"))
  | ((with_reducible show PS _ (.Assign [.Tuple _ _ _] (.Name _ _) _) _); refine' ps_asg ?ka ?kb; (case ka => wtm_at "fo e"); (case kb => wtm_at "fo g"))
  | fail "no")
local macro_rules | `(tactic| wtm_at "fo lc") => `(tactic| (refine' pe_lcN (by assumption) (by exact rfl) (by exact rfl) (by wtm_at "fo own") (by kernel_rfl!) rfl ?ki ?kg ?kt ?ke; (case ki => wtm_at "fo i"); (case kg => (intro _ _ _ _ _; wtm_at "fo g")); (case kt => (intro _ _ _ _ _; wtm_at "fo ts")); (case ke => (intro _ _ _ _ _; wtm_at "fo e"))))
local macro_rules | `(tactic| wtm_at "fo s") => `(tactic| ((with_reducible show PS _ (.Assign [.Tuple _ _ _] (.Call _ _ _ _) _) _); refine' ps_asg ?ka ?kb; (case ka => wtm_at "fo e"); (case kb => wtm_at "fo g")))
local macro_rules | `(tactic| wtm_at "fo cmp") => `(tactic| ((with_reducible show PE _ (.Compare _ [.In] _ _) _); refine' pe_cmpR (op_inK (by assumption) (by exact rfl)) ?ka ?kb rfl; (case ka => wtm_at "fo e"); (case kb => wtm_at "fo e")))
local macro_rules | `(tactic| wtm_at "fo call") => `(tactic| ((with_reducible show PE _ (.Call (.Name (Str.ofString "list") _) [.Call (.Name (Str.ofString "range") _) [_] _ _] _ _) _); refine' pe_listRg rfl (by rfl) (by assumption) (prg_1 (by rfl) (by assumption) ?ka); (case ka => wtm_at "fo e")))
local macro_rules | `(tactic| wtm_at "fo call") => `(tactic| ((with_reducible show PE _ (.Call (.Name (Str.ofString "min") _) [_] _ _) _); refine' pe_callB (call_minK (by assumption) (by exact rfl) rfl) (by rfl) (by assumption) (by decide +kernel) ?ka; (case ka => wtm_at "fo a")))
local macro_rules | `(tactic| wtm_at "fo i") => `(tactic| ((with_reducible show PI _ _ (.Call (.Name (Str.ofString "reversed") _) [_] _ _) _); refine' pi_reversed (by rfl) (by assumption) ?ka; (case ka => wtm_at "fo a")))
local macro_rules | `(tactic| wtm_at "fo s") => `(tactic| ((with_reducible show PS _ (.AugAssign (.Name _ _) .BitXor _ _) _); first | (refine' ps_aug (i := 2) (by assumption) rfl (by first | exact Or.inl rfl | exact Or.inr rfl) ?ka ip_xor; (case ka => wtm_at "fo e")) | fail "no"))
local macro_rules | `(tactic| wtm_at "fo call") => `(tactic| (refine' pe_calG (by assumption) (by assumption) (by decide) (by assumption) (by rfl) ?ka; (case ka => wtm_at "fo a")))
local macro_rules | `(tactic| wtm_at "fo meth") => `(tactic| ((with_reducible show PE _ (.Call (.Attribute _ (Str.ofString "count") _) _ _ _) _); refine' pe_cntK (by assumption) (by exact rfl) ?ka ?kb; (case ka => wtm_at "fo e"); (case kb => wtm_at "fo a")))
local macro_rules | `(tactic| wtm_at "fo call") => `(tactic| ((with_reducible show PE _ (.Call (.Name (Str.ofString "sorted") _) [_] _ _) _); refine' pe_callB (cr_sortedB (by assumption) (by exact rfl) (Room.units (by assumption))) (by rfl) (by assumption) (by decide +kernel) ?ka; (case ka => wtm_at "fo a")))
local macro_rules | `(tactic| wtm_at "fo v") => `(tactic| first
  | exact pv 16
  | exact pv 17
  | exact pv 18
  | exact pv 19
  | fail "no")
local macro_rules | `(tactic| wtm_at "fo own") => `(tactic| first
  | ((show _ = [16]); kernel_rfl!)
  | ((show _ = [17]); kernel_rfl!)
  | ((show _ = [18]); kernel_rfl!)
  | ((show _ = [19]); kernel_rfl!)
  | ((show _ = [15, 16]); kernel_rfl!)
  | ((show _ = [16, 17]); kernel_rfl!)
  | ((show _ = [17, 18]); kernel_rfl!)
  | ((show _ = [18, 19]); kernel_rfl!)
  | fail "no")
local macro_rules | `(tactic| wtm_at "fo set") => `(tactic| first
  | (refine' ps_set (i := 14) (by assumption) rfl (by first | exact Or.inl rfl | exact Or.inr rfl) ?ka; (case ka => wtm_at "fo e"))
  | (refine' ps_set (i := 15) (by assumption) rfl (by first | exact Or.inl rfl | exact Or.inr rfl) ?ka; (case ka => wtm_at "fo e"))
  | (refine' ps_set (i := 16) (by assumption) rfl (by first | exact Or.inl rfl | exact Or.inr rfl) ?ka; (case ka => wtm_at "fo e"))
  | (refine' ps_set (i := 17) (by assumption) rfl (by first | exact Or.inl rfl | exact Or.inr rfl) ?ka; (case ka => wtm_at "fo e"))
  | (refine' ps_set (i := 18) (by assumption) rfl (by first | exact Or.inl rfl | exact Or.inr rfl) ?ka; (case ka => wtm_at "fo e"))
  | (refine' ps_set (i := 19) (by assumption) rfl (by first | exact Or.inl rfl | exact Or.inr rfl) ?ka; (case ka => wtm_at "fo e"))
  | fail "no")
local macro_rules | `(tactic| wtm_at "fo setlc") => `(tactic| first
  | (refine' ps_setLcO (i := 16) (by assumption) (by exact rfl) (by exact rfl) (by wtm_at "fo own") (by decide +kernel) rfl rfl rfl (sw_true rfl rfl rfl (by decide +kernel)) ?ki ?kg ?kt ?ke; (case ki => wtm_at "fo i"); (case kg => (intro _ _ _ _ _; wtm_at "fo g")); (case kt => (intro _ _ _ _ _; wtm_at "fo ts")); (case ke => (intro _ _ _ _ _; wtm_at "fo e")))
  | (refine' ps_setLcO (i := 17) (by assumption) (by exact rfl) (by exact rfl) (by wtm_at "fo own") (by decide +kernel) rfl rfl rfl (sw_true rfl rfl rfl (by decide +kernel)) ?ki ?kg ?kt ?ke; (case ki => wtm_at "fo i"); (case kg => (intro _ _ _ _ _; wtm_at "fo g")); (case kt => (intro _ _ _ _ _; wtm_at "fo ts")); (case ke => (intro _ _ _ _ _; wtm_at "fo e")))
  | (refine' ps_setLcO (i := 18) (by assumption) (by exact rfl) (by exact rfl) (by wtm_at "fo own") (by decide +kernel) rfl rfl rfl (sw_true rfl rfl rfl (by decide +kernel)) ?ki ?kg ?kt ?ke; (case ki => wtm_at "fo i"); (case kg => (intro _ _ _ _ _; wtm_at "fo g")); (case kt => (intro _ _ _ _ _; wtm_at "fo ts")); (case ke => (intro _ _ _ _ _; wtm_at "fo e")))
  | (refine' ps_setLcO (i := 19) (by assumption) (by exact rfl) (by exact rfl) (by wtm_at "fo own") (by decide +kernel) rfl rfl rfl (sw_true rfl rfl rfl (by decide +kernel)) ?ki ?kg ?kt ?ke; (case ki => wtm_at "fo i"); (case kg => (intro _ _ _ _ _; wtm_at "fo g")); (case kt => (intro _ _ _ _ _; wtm_at "fo ts")); (case ke => (intro _ _ _ _ _; wtm_at "fo e")))
  | fail "no")
local macro_rules | `(tactic| wtm_at "fo gn") => `(tactic| first
  | exact pg_name (i := 16) (by assumption) rfl (by first | exact Or.inl rfl | exact Or.inr rfl)
  | exact pg_name (i := 17) (by assumption) rfl (by first | exact Or.inl rfl | exact Or.inr rfl)
  | exact pg_name (i := 18) (by assumption) rfl (by first | exact Or.inl rfl | exact Or.inr rfl)
  | exact pg_name (i := 19) (by assumption) rfl (by first | exact Or.inl rfl | exact Or.inr rfl)
  | fail "no")
local macro_rules | `(tactic| wtm_at "fo s") => `(tactic| ((with_reducible show PS _ (.Assign [.Tuple _ _ _] (.Tuple _ _ _) _) _); refine' ps_asg ?ka ?kb; (case ka => wtm_at "fo e"); (case kb => wtm_at "fo g")))
local macro_rules | `(tactic| wtm_at "fo e") => `(tactic| first
  | ((with_reducible show PE _ (.UnaryOp .Invert _ _) _); apply pe_un un_inv; wtm_at "fo e")
  | ((with_reducible show PE _ (.BoolOp .Or [_] _) _); apply pe_one; wtm_at "fo e")
  | ((with_reducible show PE _ (.BoolOp .Or _ _) _); apply pe_or; (· wtm_at "fo e"); (· wtm_at "fo e"))
  | ((with_reducible show PE _ (.BinOp _ .Mult _ _) _); apply pe_op opMulB <;> wtm_at "fo e")
  | ((with_reducible show PE _ (.BinOp _ .BitOr _ _) _); apply pe_op op_or <;> wtm_at "fo e")
  | ((with_reducible show PE _ (.Compare _ [.Is] [.Constant .none _ _] _) _); refine' pe_cmpR op_isN ?ka ?kb (nomark _); (case ka => wtm_at "fo e"); (case kb => wtm_at "fo e"))
  | fail "no")
local macro_rules | `(tactic| wtm_at "fo t") => `(tactic| first
  | ((with_reducible show PT _ (.Compare _ [.Is] [.Constant .none _ _] _) _); refine' pt_cmpR op_isN ?ka ?kb (nomark _); (case ka => wtm_at "fo e"); (case kb => wtm_at "fo e"))
  | ((with_reducible show PT _ (.Compare _ [.IsNot] [.Constant .none _ _] _) _); refine' pt_cmpR op_notN ?ka ?kb (nomark _); (case ka => wtm_at "fo e"); (case kb => wtm_at "fo e"))
  | fail "no")
local macro_rules | `(tactic| wtm_at "fo i") => `(tactic| first
  | ((with_reducible show PI _ _ (.Call (.Name (Str.ofString "enumerate") _) [_, _] [] _) _); refine' pi_enumC (by assumption) (by exact rfl) (by rfl) (by assumption) ?ka; (case ka => wtm_at "fo a"))
  | ((with_reducible show PI _ _ (.Call (.Name (Str.ofString "enumerate") _) [_] [_] _) _); refine' pi_enumS (by assumption) (by exact rfl) (by rfl) (by assumption) ?ka ?kb; (case ka => wtm_at "fo a"); (case kb => wtm_at "fo k"))
  | fail "no")
local macro_rules | `(tactic| wtm_at "fo own") => `(tactic| first
  | ((show _ = [2, 4]); kernel_rfl!)
  | ((show _ = [4, 2]); kernel_rfl!)
  | fail "no")
local macro_rules | `(tactic| wtm_at "fo v") => `(tactic| ((with_reducible show PE _ (.Name (Str.ofString "tuple") _) _); exact pe_bltn (v := .ty "tuple") (by rfl) (by assumption) (by decide +kernel) rfl))
local macro_rules | `(tactic| wtm_at "fo slice") => `(tactic| ((with_reducible show PE _ (.Subscript _ (.Slice none none (some _) _) _) _); refine' pe_stepK2 (by assumption) (by exact rfl) ?ka ?kb; (case ka => wtm_at "fo e"); (case kb => wtm_at "fo e")))
local macro_rules | `(tactic| wtm_at "fo e") => `(tactic| ((with_reducible show PE _ (.BinOp (.Subscript (.Name (Str.ofString "_law_script") _) _ _) .Add _ _) _); apply pe_op (op_addK (by assumption) (by exact rfl)) <;> wtm_at "fo e"))
local macro_rules | `(tactic| wtm_at "fo s") => `(tactic| ((with_reducible show PS _ (.Assign [.Tuple [.Name _ _, .Name _ _] _ _] (.Tuple [_, _] _ _) _) _); wtm_at "fo par"))
variable {P : Program} {w : World} {K : PySem.W.Frag} {mg : Str → Option Value} {base : Heap}
set_option maxHeartbeats 32000000 in
noncomputable def derLaw (f : Addr) (cdv : Value) (A : Around) (outer : List Env) (s0 : Shared) (H : Hp) (E : XK) (hr : Room 7 (A.deeper (envOfC "law" (defScope s_law) s0.heap.objs.size f cdv))) (hgd : A.guards = some []) (mr : mg "range" = none) (mi : mg "int" = none)
    (C0 : Cal P w K mg base "_law_draws" 1 ["_law_cell"] spDraws) (C1 : Cal P w K mg base "_law_web" 3 ["_law_draws_here", "_law_size", "_law_kind"] spWeb)
    (C4 : Cal P w K mg base "_law_next" 1 ["_law_draws_here"] spNext)
    (C5 : CalG P w K mg base "_law_right" 7 ["_law_size", "_law_sides"] spRiD)
    (C6 : Cal P w K mg base "_law_product_right" 5 ["_law_draws_here", "_law_size", "_law_sides", "_law_far", "_law_bars"] spPrR)
    (C7 : Cal P w K mg base "best_starts" 3 ["places", "lines"] spStarts) :
    PSigma fun t => PSs (cxOf CX0 P w K mg base ["_law_script", "_law_draws_here", "_law_cell", "_law_kind", "_law_size", "_law_far", "_law_sides", "_law_bars", "_law_row", "_law_spot", "_law_seven", "_law_told", "_law_ring"] "law" (defScope s_law) f cdv A outer s0 H E).nox (defBody s_law) t := by
  have nd := sc_law.nd
  have hS := sc_law
  have hKM : KMark K := ⟨⟩
  refine' mkSig ?h
  case h =>
    show PSs _ [_, _, _, _, _, _, _, _, _, _] _
    wtm_at "fo ss"
end
/-! piece TRE -/
section
/-! ### law -/
theorem call_webZ {d : Addr} {k kd z : Int} {H : Hp} {Q : VK} {E : XK} (n : Nat) (hz : z = (n : Int)) (hd : Dr H d k) (hk : k ≤ 900000) (hn : 1 ≤ n) (hn2 : n ≤ 12) (h0 : 0 ≤ kd) (h2 : kd ≤ 2)
    (fin : ∀ p H' k' fs, Simp n fs → (kd = 1 → Shrinks n fs) → fs.length ≤ 200 → SameBut d H H' → H p = none → Pairs H' p fs → Dr H' d k' → k' ≤ k + 2000 → Q (.ref p) H') : spWeb [.ref d, .int z, .int kd] H Q E := by
  subst hz
  exact call_web hd hk hn hn2 h0 h2 fin
@[irreducible] def spLawW (K : PySem.W.Frag) : Sp := fun vs H Q _ => ∃ (a : Addr) (ns : List Int), vs = [.ref a] ∧ SqLw K H a (ns.map V.int) ∧ ns.length ≤ 1000 ∧ ∀ H', Q (.bl true) H'
theorem cut6 (ns : List Int) : (cutV (ns.map V.int) none (some 6)).length ≤ 6 := by
  unfold cutV
  rw [List.length_take]
  refine Nat.le_trans (Nat.min_le_left _ _) (Nat.le_trans (Nat.sub_le _ _) ?_)
  unfold HT.sIx
  simp only [show ¬ (6 : Int) < 0 by decide, if_false]
  omega
theorem cut_to (xs : List V) {k : Nat} (h : k ≤ xs.length) : cutV xs none (some (k : Int)) = xs.take k := by
  unfold cutV
  rw [HT.sIx_nat, HT.sIx_none, List.drop_zero, Nat.sub_zero, Nat.min_eq_left h]
variable {P : Program} {w : World} {K : PySem.W.Frag} {mg : Str → Option Value} {base : Heap}
set_option maxHeartbeats 16000000 in
theorem ok_law {f : Addr} {fd : FuncData} (F : Fun K "law" "law" s_law f fd) (mr : mg "range" = none) (mi : mg "int" = none)
    (C0 : Cal P w K mg base "_law_draws" 1 ["_law_cell"] spDraws) (C1 : Cal P w K mg base "_law_web" 3 ["_law_draws_here", "_law_size", "_law_kind"] spWeb)
    (C4 : Cal P w K mg base "_law_next" 1 ["_law_draws_here"] spNext)
    (C5 : CalG P w K mg base "_law_right" 7 ["_law_size", "_law_sides"] spRiD)
    (C6 : Cal P w K mg base "_law_product_right" 5 ["_law_draws_here", "_law_size", "_law_sides", "_law_far", "_law_bars"] spPrR)
    (C7 : Cal P w K mg base "best_starts" 3 ["places", "lines"] spStarts) :
    FnG P w K mg base CX0 8 f fd ["_law_script"] (spLawW K) := by
  refine okG F sc_law (fun vs H Q E h => ?_) (fun cdv A outer s0 H vs Q E hr hgd h => ?_)
  · unfold spLawW at h
    obtain ⟨a, ns, rfl, _⟩ := h
    rfl
  · have nd := sc_law.nd
    have hS := sc_law
    have hKM : KMark K := ⟨⟩
    refine ⟨_, (derLaw (P := P) (w := w) (K := K) (mg := mg) (base := base) f cdv A outer s0 H E hr hgd mr mi C0 C1 C4 C5 C6 C7).2, ?_⟩
    unfold derLaw mkSig
    dsimp only
    next =>
     unfold spLawW at h
     obtain ⟨a, ns, rfl, hq, hl, fin⟩ := h
     wtm_at "fo r"
     refine ⟨a, _, rfl, hq.seq, fun u1 nu1 => ?_⟩
     have hc1 := cut6 ns
     have hc2 : ∀ x ∈ cutV (ns.map V.int) none (some 6), ∃ i, x = V.int i := fun x hx => cutInt hx
     generalize cutV (ns.map V.int) none (some 6) = xs at *
     wtm_at "fo r"
     rename_i u2 nu2
     have h12 : u1 ≠ u2 := ne_of_none upd_same nu2
     refine Or.inr ⟨u1, u2, xs, [.int 0], rfl, rfl, .inl (.inl (by rw [upd_ne h12]; exact upd_same)), upd_same, ?_, fun c nc => ?_⟩
     · exact Nat.le_trans (m := 100) (by simp; omega) (by decide)
     have hxs : ∀ x ∈ xs ++ [V.int 0], ∃ i, x = V.int i := by
       intro x hx
       rcases List.mem_append.mp hx with hx | hx
       · exact hc2 x hx
       · exact ⟨0, by simpa using hx⟩
     have hlx : (xs ++ [V.int 0]).length ≤ 7 := by simp; omega
     generalize xs ++ [V.int 0] = zs at *
     generalize (upd (upd H u1 (.lst xs)) u2 (.lst [.int 0])) = H0 at *
     refine ⟨c, rfl, ⟨_, SqL.of upd_same⟩, fun D nD => ?_⟩
     have hcD : c ≠ D := ne_of_none upd_same nD
     refine lc_list (K := K) (xs := zs) (fun i H1 => H1 c = some (.lst zs) ∧ ∃ rs : List Addr, H1 D = some (.lst (rs.map V.ref)) ∧ rs.length = i ∧ rs.Nodup ∧ ∀ r ∈ rs, Dr H1 r 0) ?_ ?_ ?_ ?_
     · exact ⟨by rw [upd_ne hcD]; exact upd_same, [], upd_same, rfl, List.nodup_nil, by simp⟩
     · rintro i H1 _ ⟨hc, _⟩
       exact SqL.of hc
     · rintro i x H1 hx ⟨hc, rs, hD, hln, hnd, hdr⟩
       obtain ⟨z, rfl⟩ := hxs x (List.mem_of_getElem? hx)
       have hi : i < zs.length := (List.getElem?_eq_some_iff.mp hx).1
       refine ⟨rfl, ?_⟩
       wtm_at "fo r"
       refine call_draws (fun p ca cb np => ?_)
       have hDp : D ≠ p := ne_of_none hD np
       have hcp : c ≠ p := ne_of_none hc np
       refine ⟨rs.map V.ref, ?_, ?_, ?_, rs ++ [p], ?_, ?_, ?_, ?_⟩
       · rw [upd_ne hDp]
         exact hD
       · rw [List.length_map, hln]
         exact Nat.lt_of_lt_of_le (m := 7) (by omega) (by decide)
       · rw [upd_ne hcD, upd_ne hcp]
         exact hc
       · rw [upd_same, List.map_append]
         rfl
       · rw [List.length_append, hln]
         rfl
       · refine List.nodup_append.mpr ⟨hnd, by simp, ?_⟩
         intro x hx y hy e
         rw [List.mem_singleton.mp hy] at e
         obtain ⟨_, _, h2, _⟩ := hdr x hx
         rw [e, np] at h2
         cases h2
       · intro r hr
         rcases List.mem_append.mp hr with hr | hr
         · obtain ⟨x1, x2, h2, h3⟩ := hdr r hr
           refine ⟨x1, x2, ?_, h3⟩
           have e1 : r ≠ p := ne_of_none h2 np
           have e2 : r ≠ D := ((hdr r hr).ne_refs hD).symm
           rw [upd_ne e2, upd_ne e1]
           exact h2
         · rw [List.mem_singleton.mp hr]
           refine ⟨ca, cb, ?_, by omega⟩
           rw [upd_ne hDp.symm]
           exact upd_same
     · rintro H1 ⟨hc, rs, hD, hln, hnd, hdr⟩
       wtm_at "fo r"
       refine ⟨⟨_, SqL.of hD⟩, ?_⟩
       refine for_list (K := K) (xs := rs.map V.ref) (fun i σ H2 => ∃ y1 y3 y4 y5 y6 y7, σ = [some (.ref a), y1, none, y3, y4, y5, y6, y7, none, none, none, none, none] ∧ H2 D = some (.lst (rs.map V.ref)) ∧ ∀ j r, i ≤ j → rs[j]? = some r → Dr H2 r 0) ?_ ?_ ?_ ?_
       · exact ⟨none, none, none, none, none, none, rfl, hD, fun j r _ hr => hdr r (List.mem_of_getElem? hr)⟩
       · rintro i σ H2 _ ⟨y1, y3, y4, y5, y6, y7, rfl, hD2, hdr2⟩
         exact SqL.of hD2
       · rintro i x σ H2 hx ⟨y1, y3, y4, y5, y6, y7, rfl, hD2, hdr2⟩
         obtain ⟨d, hr, rfl⟩ := ref_at hx
         have hd2 := hdr2 i d (Nat.le_refl i) hr
         have hDd : D ≠ d := hd2.ne_refs hD2
         wtm_at "fo r"
         rename_i kl nkl
         have sbk : SameBut d H2 (upd H2 kl (.lst [.int 1, .int 1, .int 0, .int 2])) := Same.but d (same_upd (Same.refl _) nkl)
         have hdk : Dr (upd H2 kl (.lst [.int 1, .int 1, .int 0, .int 2])) d 0 := hd2.same (same_upd (Same.refl _) nkl)
         have hkl : (upd H2 kl (.lst [.int 1, .int 1, .int 0, .int 2])) kl = some (.lst (([1, 1, 0, 2] : List Int).map V.int)) := upd_same
         have hkd : kl ≠ d := hdk.ne_ints hkl
         generalize upd H2 kl (.lst [.int 1, .int 1, .int 0, .int 2]) = Hk at *
         refine ⟨⟨_, SqL.of hkl⟩, ?_⟩
         refine for_list (K := K) (xs := ([1, 1, 0, 2] : List Int).map V.int) (fun i4 σ H3 => ∃ y3 y4 y5 y6 y7 k3, σ = [some (.ref a), some (.ref d), none, y3, y4, y5, y6, y7, none, none, none, none, none] ∧ SameBut d Hk H3 ∧ Dr H3 d k3 ∧ k3 ≤ 10000 * (i4 : Int) ∧ 0 ≤ k3) ?_ ?_ ?_ ?_
         · exact ⟨y3, y4, y5, y6, y7, 0, rfl, SameBut.refl d Hk, hdk, by omega, by omega⟩
         · rintro i4 σ H3 hi4 ⟨y3, y4, y5, y6, y7, k3, rfl, sb3, hd3, hk3, hk03⟩
           exact SqL.of (sb3 _ _ hkd hkl)
         · rintro i4 x4 σ H3 hx4 ⟨y3, y4, y5, y6, y7, k3, rfl, sb3, hd3, hk3, hk03⟩
           obtain ⟨kd, hkd4, rfl⟩ := int_at hx4
           have hi4 : i4 < 4 := (List.getElem?_eq_some_iff.mp hkd4).1
           have hkdr : 0 ≤ kd ∧ kd ≤ 2 := by
             have := List.mem_of_getElem? hkd4
             simp at this
             omega
           wtm_at "fo r"
           refine call_next hd3 (by omega) (fun z1 H4 hz1 sb4 hd4 => ?_)
           have g1 := Int.emod_nonneg z1 (show (12 : Int) ≠ 0 by decide)
           have g2 := Int.emod_lt_of_pos z1 (show (0 : Int) < 12 by decide)
           obtain ⟨n, hn⟩ : ∃ n : Nat, 1 + z1 % 12 = (n : Int) := ⟨(1 + z1 % 12).toNat, by omega⟩
           wtm_at "fo r"
           refine call_webZ (kd := kd) n hn hd4 (by omega) (by omega) (by omega) hkdr.1 hkdr.2 (fun q H5 k5 es hS5 _ hl5 sb5 nq5 hq5 hd5 hk5 => ?_)
           have hk05 : 0 ≤ k5 := hd5.elim fun _ ⟨_, _, h0⟩ => h0
           refine call_riD n hn (by omega) (by omega) hq5 hS5 hl5 (fun H6 sm6 => ?_)
           refine ⟨true, rfl, ifF rfl ?_⟩
           exact ⟨_, _, _, _, _, k5, rfl, ((sb3.trans sb4).trans sb5).trans (Same.but d sm6), hd5.same sm6, by omega, hk05⟩
         · rintro σ H3 ⟨y3, y4, y5, y6, y7, k3, rfl, sb3, hd3, hk3, hk03⟩
           have hk3 : k3 ≤ 40000 := hk3
           wtm_at "fo r"
           refine call_next hd3 (by omega) (fun z1 H4 hz1 sb4 hd4 => ?_)
           have g1 := Int.emod_nonneg z1 (show (4 : Int) ≠ 0 by decide)
           have g2 := Int.emod_lt_of_pos z1 (show (0 : Int) < 4 by decide)
           obtain ⟨n, hn⟩ : ∃ n : Nat, 1 + z1 % 4 = (n : Int) := ⟨(1 + z1 % 4).toNat, by omega⟩
           wtm_at "fo r"
           refine call_next hd4 (by omega) (fun z2 H5 hz2 sb5 hd5 => ?_)
           have hnr : 1 ≤ n ∧ n ≤ 4 := by omega
           have e12 : (12 : Int) / (1 + z1 % 4) = ((12 / n : Nat) : Int) := by
             rw [hn]
             exact (Int.natCast_ediv 12 n).symm
           have hdv : 1 ≤ 12 / n := Nat.div_pos (by omega) (by omega)
           obtain ⟨m, hm, hm1, hm2⟩ : ∃ m : Nat, 1 + z2 % (12 / (1 + z1 % 4)) = (m : Int) ∧ 1 ≤ m ∧ n * m ≤ 12 := by
             rw [e12]
             have h1 := Int.emod_nonneg z2 (b := ((12 / n : Nat) : Int)) (by omega)
             have h2 := Int.emod_lt_of_pos z2 (b := ((12 / n : Nat) : Int)) (by omega)
             exact ⟨(1 + z2 % ((12 / n : Nat) : Int)).toNat, by omega, by omega, Nat.le_trans (Nat.mul_le_mul_left n (by omega)) (Nat.mul_div_le 12 n)⟩
           have hm12 : m ≤ 12 := Nat.le_trans (Nat.le_mul_of_pos_left m hnr.1) hm2
           wtm_at "fo r"
           refine call_webZ (kd := 1) n hn hd5 (by omega) (by omega) (by omega) (by omega) (by omega) (fun q H6 k6 es hS6 _ hl6 sb6 nq6 hq6 hd6 hk6 => ?_)
           have hk06 : 0 ≤ k6 := hd6.elim fun _ ⟨_, _, h0⟩ => h0
           wtm_at "fo r"
           refine call_next hd6 (by omega) (fun z3 H7 hz3 sb7 hd7 => ?_)
           have g5 := Int.emod_nonneg z3 (show (3 : Int) ≠ 0 by decide)
           have g6 := Int.emod_lt_of_pos z3 (show (0 : Int) < 3 by decide)
           wtm_at "fo r"
           refine call_webZ (kd := z3 % 3) m hm hd7 (by omega) (by omega) (by omega) (by omega) (by omega) (fun kq H8 k8 fs hS8 _ hl8 sb8 nq8 hq8 hd8 hk8 => ?_)
           have hk08 : 0 ≤ k8 := hd8.elim fun _ ⟨_, _, h0⟩ => h0
           dsimp only [tNil]
           refine ⟨_, _, rfl, ?_⟩
           wtm_at "fo r"
           refine call_prR n m hn hm hd8 (by omega) hnr.1 hm1 hm2 ((hq6.but sb7 hd6).but sb8 hd7) hS6 hl6 hq8 hS8 hl8 (fun H9 k9 sb9 hd9 hk9 => ?_)
           refine ⟨true, rfl, ifF rfl ?_⟩
           have sbAll : SameBut d H2 H9 := ((((((sbk.trans sb3).trans sb4).trans sb5).trans sb6).trans sb7).trans sb8).trans sb9
           refine ⟨_, _, _, _, _, _, rfl, sbAll D _ hDd hD2, fun j r hj hr2 => ?_⟩
           have hne : r ≠ d := fun e => by
             rw [e] at hr2
             have := nd_ix hnd hr2 hr
             omega
           obtain ⟨x1, x2, h2, h3⟩ := hdr2 j r (by omega) hr2
           exact ⟨x1, x2, sbAll r _ hne h2, h3⟩
       · rintro σ H2 ⟨y1, y3, y4, y5, y6, y7, rfl, hD2, hdr2⟩
         clear hdr2 hD2
         wtm_at "fo r"
         intro R nR
         refine lc_range (lo := 1) (fun j I => Same H2 I ∧ ∃ rs, PsAt I R rs (lineE j)) ?_ ?_ ?_
         · exact ⟨same_upd (Same.refl _) nR, [], PsAt.nil upd_same⟩
         · rintro j I hj ⟨smI, rsj, hPj⟩
           have hj : j < 11 := hj
           refine ⟨rfl, ?_⟩
           wtm_at "fo r"
           rename_i r nr
           have hDr : R ≠ r := ne_of_none hPj.hD nr
           refine ⟨rsj.map V.ref, by rw [upd_ne hDr]; exact hPj.hD, ?_, same_upd (same_upd smI (smI.free nr)) nR, rsj ++ [r], ?_⟩
           · rw [List.length_map, hPj.len, lineE, List.length_map, List.length_range]
             exact Nat.lt_of_le_of_lt (m := 100) (by omega) (by decide)
           · refine (hPj.push nr (1 + (j : Int), 1 + (j : Int) + 1)).cong ?_
             unfold lineE
             rw [List.range_succ, List.map_append, show (1 : Int) + (j : Int) = (j : Int) + 1 by omega, show (j : Int) + 1 + 1 = (j : Int) + 2 by omega]
             rfl
         · rintro I ⟨smI, rrs, hRow⟩
           have hRow : PsAt I R rrs rowG := hRow
           have hrl : rrs.length = 11 := by rw [hRow.len]; rfl
           clear smI hdr hD hnd hc hln
           wtm_at "fo r"
           refine ⟨R, _, rfl, SqL.of hRow.hD, fun c5 nc5 => ?_⟩
           have hcut : cutV (rrs.map V.ref) none (some 5) = (rrs.map V.ref).take 5 := cut_to _ (k := 5) (by rw [List.length_map, hrl]; decide)
           rw [hcut]
           have hFive := hRow.take 5 nc5
           have s1 : Same I (upd I c5 (.lst ((rrs.map V.ref).take 5))) := same_upd (Same.refl _) nc5
           have hRow1 := hRow.same s1
           rw [← List.map_take] at hFive s1 hRow1 ⊢
           generalize upd I c5 (.lst ((rrs.take 5).map V.ref)) = I1 at *
           clear s1 nc5 hRow
           wtm_at "fo r"
           rename_i x1 n1 x2 n2 x3 n3 x4 n4 x5 n5 x6 n6 x7 n7 x8 n8 x9 n9 xq nxq
           have hx : PsAt (upd _ xq (.lst [.ref x1, .ref x2, .ref x3, .ref x4, .ref x5, .ref x6, .ref x7, .ref x8, .ref x9])) xq [x1, x2, x3, x4, x5, x6, x7, x8, x9] sevenX := ((((((((((RowAt.nil I1).snoc (a := 1) (b := 4) n1).snoc (a := 2) (b := 5) n2).snoc (a := 3) (b := 6) n3).snoc (a := 1) (b := 5) n4).snoc (a := 2) (b := 6) n5).snoc (a := 1) (b := 7) n6).snoc (a := 2) (b := 7) n7).snoc (a := 3) (b := 7) n8).snoc (a := 4) (b := 7) n9).net nxq
           have s2 : Same I1 (upd _ xq (.lst [.ref x1, .ref x2, .ref x3, .ref x4, .ref x5, .ref x6, .ref x7, .ref x8, .ref x9])) := (((((((((same_upd (o := .lst [.int 1, .int 4]) (Same.refl I1) n1).trans (same_upd (o := .lst [.int 2, .int 5]) (Same.refl _) n2)).trans (same_upd (o := .lst [.int 3, .int 6]) (Same.refl _) n3)).trans (same_upd (o := .lst [.int 1, .int 5]) (Same.refl _) n4)).trans (same_upd (o := .lst [.int 2, .int 6]) (Same.refl _) n5)).trans (same_upd (o := .lst [.int 1, .int 7]) (Same.refl _) n6)).trans (same_upd (o := .lst [.int 2, .int 7]) (Same.refl _) n7)).trans (same_upd (o := .lst [.int 3, .int 7]) (Same.refl _) n8)).trans (same_upd (o := .lst [.int 4, .int 7]) (Same.refl _) n9)).trans (same_upd (o := .lst [.ref x1, .ref x2, .ref x3, .ref x4, .ref x5, .ref x6, .ref x7, .ref x8, .ref x9]) (Same.refl _) nxq)
           have hRow2 := hRow1.same s2
           have hFive2 := hFive.same s2
           generalize upd _ xq (.lst [.ref x1, .ref x2, .ref x3, .ref x4, .ref x5, .ref x6, .ref x7, .ref x8, .ref x9]) = I2 at *
           clear s2 n1 n2 n3 n4 n5 n6 n7 n8 n9 nxq hRow1 hFive
           refine Or.inr ⟨c5, xq, _, _, rfl, rfl, hFive2.hD, hx.hD, ?_, fun z7 nz7 => ?_⟩
           · rw [List.length_map, List.length_take, hrl]
             exact (by decide : min 5 11 + 9 ≤ sizeLine)
           have hSev := hFive2.cat hx nz7
           have s3 : Same I2 (upd I2 z7 (.lst ((rrs.take 5).map V.ref ++ [x1, x2, x3, x4, x5, x6, x7, x8, x9].map V.ref))) := same_upd (Same.refl _) nz7
           have hRow3 := hRow2.same s3
           generalize upd I2 z7 _ = I3 at *
           clear s3 nz7 hRow2 hFive2 hx
           wtm_at "fo r"
           refine for_range (fun i σ J => ∃ y4, σ = [some (.ref a), y1, none, y3, y4, y5, y6, y7, some (.ref R), none, some (.ref z7), none, none] ∧ Same I3 J) ⟨_, rfl, Same.refl _⟩ ?_ ?_
           · rintro i σ J hi ⟨y4', rfl, smJ⟩
             have hi : i < 12 := hi
             obtain ⟨hs1, hs2⟩ := simp_cut (i + 1) (by omega) (by omega)
             have hRowJ := hRow3.same smJ
             wtm_at "fo r"
             refine ⟨R, _, rfl, SqL.of hRowJ.hD, fun c nc => ?_⟩
             have hcut : cutV (rrs.map V.ref) none (some (1 + (i : Int) - 1)) = (rrs.map V.ref).take i := by
               rw [show (1 : Int) + (i : Int) - 1 = (i : Int) by omega]
               exact cut_to _ (by rw [List.length_map, hrl]; omega)
             rw [hcut]
             have hT := hRowJ.take i nc
             have sc : Same J (upd J c (.lst ((rrs.map V.ref).take i))) := same_upd (Same.refl _) nc
             generalize upd J c (.lst ((rrs.map V.ref).take i)) = J1 at *
             wtm_at "fo r"
             refine call_riD (i + 1) (by omega) (by omega) (by omega) hT.pairs hs1 (Nat.le_trans (List.take_sublist _ _).length_le (by decide)) (fun J2 sm2 => ?_)
             refine ⟨true, rfl, ifF rfl ?_⟩
             have sJ2 := (smJ.trans sc).trans sm2
             clear hT hRowJ sc sm2 nc
             wtm_at "fo r"
             intro D3 nD3
             have hcn : ((1 : Int) + (i : Int) + 1 - 2).toNat = i := by omega
             refine lc_range (lo := 2) (fun j I => Same J2 I ∧ ∃ rs, PsAt I D3 rs ((List.range j).map fun (k : Nat) => ((1 : Int), (k : Int) + 2))) ?_ ?_ ?_
             · exact ⟨same_upd (Same.refl _) nD3, [], PsAt.nil upd_same⟩
             · rintro j I hj ⟨smI, rsj, hPj⟩
               rw [hcn] at hj
               refine ⟨rfl, ?_⟩
               wtm_at "fo r"
               rename_i r nr
               have hDr : D3 ≠ r := ne_of_none hPj.hD nr
               refine ⟨rsj.map V.ref, by rw [upd_ne hDr]; exact hPj.hD, ?_, same_upd (same_upd smI (smI.free nr)) nD3, rsj ++ [r], ?_⟩
               · rw [List.length_map, hPj.len, List.length_map, List.length_range]
                 exact Nat.lt_of_le_of_lt (m := 100) (by omega) (by decide)
               · refine (hPj.push nr (1, 2 + (j : Int))).cong ?_
                 rw [List.range_succ, List.map_append, show (2 : Int) + (j : Int) = (j : Int) + 2 by omega]
                 rfl
             · rintro I ⟨smI, rsj, hPj⟩
               rw [hcn] at hPj
               have hPj : PsAt I D3 rsj (starE (i + 1)) := hPj
               wtm_at "fo r"
               refine call_riD (i + 1) (by omega) (by omega) (by omega) hPj.pairs hs2 (by unfold starE; rw [List.length_map, List.length_range]; omega) (fun J3 sm3 => ?_)
               refine ⟨true, rfl, ifF rfl ?_⟩
               exact ⟨_, rfl, (sJ2.trans smI).trans sm3⟩
           · rintro σ J ⟨y4', rfl, smJ⟩
             have hRowJ := hRow3.same smJ
             have hSevJ := hSev.same smJ
             clear hRow3 hSev smJ
             wtm_at "fo r"
             refine call_riD 7 rfl (by decide) (by decide) hSevJ.pairs simp_seven (by decide) (fun J1 sm1 => ?_)
             refine ⟨true, rfl, ifF rfl ?_⟩
             have hRow1 := hRowJ.same sm1
             clear hSevJ hRowJ sm1
             wtm_at "fo r"
             rename_i e1 ne1 eq neq
             have he : PsAt (upd _ eq (.lst [.ref e1])) eq [e1] [(1, 12)] := ((RowAt.nil J1).snoc (a := 1) (b := 12) ne1).net neq
             have s2 : Same J1 (upd _ eq (.lst [.ref e1])) := (same_upd (o := .lst [.int 1, .int 12]) (Same.refl J1) ne1).trans (same_upd (o := .lst [.ref e1]) (Same.refl _) neq)
             have hRow2 := hRow1.same s2
             generalize upd _ eq (.lst [.ref e1]) = J2 at *
             clear s2 ne1 neq hRow1
             refine Or.inr ⟨R, eq, _, _, rfl, rfl, hRow2.hD, he.hD, ?_, fun zr nzr => ?_⟩
             · rw [List.length_map, hrl]
               exact (by decide : 11 + 1 ≤ sizeLine)
             have hRnd := hRow2.cat he nzr
             have s3 : Same J2 (upd J2 zr (.lst (rrs.map V.ref ++ [e1].map V.ref))) := same_upd (Same.refl _) nzr
             have hRow3 := hRow2.same s3
             generalize upd J2 zr _ = J3 at *
             clear s3 nzr hRow2 he
             wtm_at "fo r"
             refine call_riD 12 rfl (by decide) (by decide) hRnd.pairs simp_round (by decide) (fun J4 sm4 => ?_)
             refine ⟨true, rfl, ifF rfl ?_⟩
             have hRow4 := hRow3.same sm4
             clear hRow3 hRnd sm4
             wtm_at "fo r"
             rename_i e0 ne0
             have he0 : PsAt (upd J4 e0 (.lst [])) e0 [] [] := PsAt.nil upd_same
             have hRow5 := hRow4.same (same_upd (o := .lst []) (Same.refl _) ne0)
             generalize upd J4 e0 (.lst []) = J5 at *
             refine call_riD 2 rfl (by decide) (by decide) he0.pairs (simp_none 2) (by decide) (fun J6 sm6 => ?_)
             refine ⟨true, rfl, ifF rfl ?_⟩
             have hRow6 := hRow5.same sm6
             clear hRow4 hRow5 he0 sm6 ne0
             wtm_at "fo r"
             rename_i kl nkl
             have hkl : (upd J6 kl (.lst [.int 1, .int 2, .int 3, .int 4, .int 5, .int 6, .int 12])) kl = some (.lst (([1, 2, 3, 4, 5, 6, 12] : List Int).map V.int)) := upd_same
             have hRow7 := hRow6.same (same_upd (o := .lst [.int 1, .int 2, .int 3, .int 4, .int 5, .int 6, .int 12]) (Same.refl _) nkl)
             generalize upd J6 kl (.lst [.int 1, .int 2, .int 3, .int 4, .int 5, .int 6, .int 12]) = J7 at *
             clear hRow6 nkl
             refine ⟨⟨_, SqL.of hkl⟩, fun D4 nD4 => ?_⟩
             refine lc_vals (K := K) (inj := V.int) (xs := ([1, 2, 3, 4, 5, 6, 12] : List Int)) (fun z => beV z.toNat (rowG.take (z.toNat - 1))) (SqL.of hkl) nD4 (by decide) (fun _ => rfl) ?_ ?_
             · intro z hz H5 sm5 RR hRR
               have hz12 : 1 ≤ z ∧ z ≤ 12 := by
                 simp at hz
                 omega
               obtain ⟨n, hzn⟩ : ∃ n : Nat, z = (n : Int) := ⟨z.toNat, by omega⟩
               obtain ⟨hs1, _⟩ := simp_cut n (by omega) (by omega)
               have hRowJ := hRow7.same sm5
               have htn : z.toNat = n := by omega
               rw [htn] at hRR
               wtm_at "fo r"
               refine ⟨R, _, rfl, SqL.of hRowJ.hD, fun c nc => ?_⟩
               have hcut : cutV (rrs.map V.ref) none (some (z - 1)) = (rrs.map V.ref).take (n - 1) := by
                 rw [show z - 1 = ((n - 1 : Nat) : Int) by omega]
                 exact cut_to _ (by rw [List.length_map, hrl]; omega)
               rw [hcut]
               have hT := hRowJ.take (n - 1) nc
               have sc : Same H5 (upd H5 c (.lst ((rrs.map V.ref).take (n - 1)))) := same_upd (Same.refl _) nc
               generalize upd H5 c (.lst ((rrs.map V.ref).take (n - 1))) = H6 at *
               wtm_at "fo r"
               rw [hzn]
               refine call_starts (by omega) (by omega) hT.pairs hs1 (Nat.le_trans (List.take_sublist _ _).length_le (by decide)) (fun tp tc H7 sm7 _ _ htp _ => ?_)
               wtm_at "fo r"
               refine Or.inr (Or.inl ⟨tp, _, 1, _, rfl, rfl, SqT.of htp, rfl, ?_⟩)
               exact hRR H7 (sc.trans sm7)
             · intro H5 sm5 hD4
               have hv : ([1, 2, 3, 4, 5, 6, 12] : List Int).map (fun z => beV z.toNat (rowG.take (z.toNat - 1))) = ([0, 1, 1, 2, 2, 3, 6] : List Int).map V.int := by
                 show [beV 1 (rowG.take 0), beV 2 (rowG.take 1), beV 3 (rowG.take 2), beV 4 (rowG.take 3), beV 5 (rowG.take 4), beV 6 (rowG.take 5), beV 12 (rowG.take 11)] = _
                 rw [beV_some num1, beV_some num2, beV_some num3, beV_some num4, beV_some num5, beV_some num6, beV_some num12]
                 rfl
               rw [hv] at hD4
               have hRow8 := hRow7.same sm5
               clear hRow7 hkl hv
               wtm_at "fo r"
               rename_i g ng
               have smg : Same H5 (upd H5 g (.lst [.int 0, .int 1, .int 1, .int 2, .int 2, .int 3, .int 6])) := same_upd (Same.refl _) ng
               have hg : (upd H5 g (.lst [.int 0, .int 1, .int 1, .int 2, .int 2, .int 3, .int 6])) g = some (.lst (([0, 1, 1, 2, 2, 3, 6] : List Int).map V.int)) := upd_same
               refine Or.inr ⟨_, _, dp_dI' (SqL.of (smg _ _ hD4)), dp_dI' (SqL.of hg), shaped_ints _, shaped_ints _, _, rfl, ?_⟩
               rw [eqv_ints]
               refine ifF rfl ?_
               have hRow9 := hRow8.same smg
               generalize upd H5 g (.lst [.int 0, .int 1, .int 1, .int 2, .int 2, .int 3, .int 6]) = H6 at *
               clear hRow8 smg hg hD4 sm5
               wtm_at "fo r"
               rename_i r1 n1 r2 n2 r3 n3 r4 n4 q nq
               have hq0 : PsAt (upd _ q (.lst [.ref r1, .ref r2, .ref r3, .ref r4])) q [r1, r2, r3, r4] ring4 := (((((RowAt.nil H6).snoc (a := 1) (b := 2) n1).snoc (a := 2) (b := 3) n2).snoc (a := 3) (b := 4) n3).snoc (a := 4) (b := 1) n4).net nq
               have s1 : Same H6 (upd _ q (.lst [.ref r1, .ref r2, .ref r3, .ref r4])) := ((((same_upd (o := .lst [.int 1, .int 2]) (Same.refl H6) n1).trans (same_upd (o := .lst [.int 2, .int 3]) (Same.refl _) n2)).trans (same_upd (o := .lst [.int 3, .int 4]) (Same.refl _) n3)).trans (same_upd (o := .lst [.int 4, .int 1]) (Same.refl _) n4)).trans (same_upd (o := .lst [.ref r1, .ref r2, .ref r3, .ref r4]) (Same.refl _) nq)
               have hRow10 := hRow9.same s1
               generalize upd _ q (.lst [.ref r1, .ref r2, .ref r3, .ref r4]) = G1 at *
               clear s1 n1 n2 n3 n4 nq hRow9
               wtm_at "fo r"
               refine call_draws (fun d1 ca cb nd1 => ?_)
               have hd1 : Dr (upd G1 d1 (.lst [.int ca, .int 0, .bl cb])) d1 0 := ⟨ca, cb, upd_same, by omega⟩
               have s2 : Same G1 (upd G1 d1 (.lst [.int ca, .int 0, .bl cb])) := same_upd (Same.refl _) nd1
               have hq1 := hq0.same s2
               have hRow11 := hRow10.same s2
               generalize upd G1 d1 (.lst [.int ca, .int 0, .bl cb]) = G2 at *
               clear s2 nd1 hq0 hRow10
               wtm_at "fo r"
               refine ⟨R, _, rfl, SqL.of hRow11.hD, fun c3 nc3 => ?_⟩
               have hcut3 : cutV (rrs.map V.ref) none (some 3) = (rrs.map V.ref).take 3 := cut_to _ (k := 3) (by rw [List.length_map, hrl]; decide)
               rw [hcut3]
               have hT3 := hRow11.take 3 nc3
               have s3 : Same G2 (upd G2 c3 (.lst ((rrs.map V.ref).take 3))) := same_upd (Same.refl _) nc3
               have hRow12 := hRow11.same s3
               have hq2 := hq1.same s3
               have hd2 := hd1.same s3
               generalize upd G2 c3 (.lst ((rrs.map V.ref).take 3)) = G3 at *
               clear s3 nc3 hRow11 hq1 hd1
               wtm_at "fo r"
               refine ⟨R, _, rfl, SqL.of hRow12.hD, fun c2 nc2 => ?_⟩
               have hcut2 : cutV (rrs.map V.ref) none (some 2) = (rrs.map V.ref).take 2 := cut_to _ (k := 2) (by rw [List.length_map, hrl]; decide)
               rw [hcut2]
               have hT2 := hRow12.take 2 nc2
               have s4 : Same G3 (upd G3 c2 (.lst ((rrs.map V.ref).take 2))) := same_upd (Same.refl _) nc2
               have hRow13 := hRow12.same s4
               have hq3 := hq2.same s4
               have hd3 := hd2.same s4
               have hT3b := hT3.same s4
               generalize upd G3 c2 (.lst ((rrs.map V.ref).take 2)) = G4 at *
               clear s4 nc2 hRow12 hq2 hd2 hT3
               wtm_at "fo r"
               refine call_prR 4 3 rfl rfl hd3 (by decide) (by decide) (by decide) (by decide) hT3b.pairs (simp_cut 4 (by decide) (by decide)).1 (by decide) hT2.pairs (simp_cut 3 (by decide) (by decide)).1 (by decide) (fun G5 k5 sb5 hd5 hk5 => ?_)
               refine ⟨true, rfl, ifF rfl ?_⟩
               have hRow14 := hRow13.but sb5 hd3
               have hq4 := hq3.but sb5 hd3
               clear hRow13 hq3 hd3 hT3b hT2 hd5 hk5 sb5
               wtm_at "fo r"
               refine call_draws (fun d2 ca2 cb2 nd2 => ?_)
               have hd6 : Dr (upd G5 d2 (.lst [.int ca2, .int 0, .bl cb2])) d2 0 := ⟨ca2, cb2, upd_same, by omega⟩
               have s6 : Same G5 (upd G5 d2 (.lst [.int ca2, .int 0, .bl cb2])) := same_upd (Same.refl _) nd2
               have hq6 := hq4.same s6
               have hRow15 := hRow14.same s6
               generalize upd G5 d2 (.lst [.int ca2, .int 0, .bl cb2]) = G6 at *
               clear s6 nd2 hq4 hRow14
               wtm_at "fo r"
               rename_i v1 nv1 vq nvq
               have hv : PsAt (upd _ vq (.lst [.ref v1])) vq [v1] tie1 := ((RowAt.nil G6).snoc (a := 1) (b := 2) nv1).net nvq
               have s7 : Same G6 (upd _ vq (.lst [.ref v1])) := (same_upd (o := .lst [.int 1, .int 2]) (Same.refl G6) nv1).trans (same_upd (o := .lst [.ref v1]) (Same.refl _) nvq)
               have hq7 := hq6.same s7
               have hRow16 := hRow15.same s7
               have hd7 := hd6.same s7
               generalize upd _ vq (.lst [.ref v1]) = G7 at *
               clear s7 nv1 nvq hq6 hRow15 hd6
               refine call_prR 4 2 rfl rfl hd7 (by decide) (by decide) (by decide) (by decide) hq7.pairs simp_ring4 (by decide) hv.pairs simp_tie1 (by decide) (fun G8 k8 sb8 hd8 hk8 => ?_)
               refine ⟨true, rfl, ifT rfl ?_⟩
               have hRow17 := hRow16.but sb8 hd7
               clear hRow16 hq7 hd7 hv hd8 hk8 sb8
               wtm_at "fo r"
               refine call_draws (fun d3 ca3 cb3 nd3 => ?_)
               have hd9 : Dr (upd G8 d3 (.lst [.int ca3, .int 0, .bl cb3])) d3 0 := ⟨ca3, cb3, upd_same, by omega⟩
               have hRow18 := hRow17.same (same_upd (o := .lst [.int ca3, .int 0, .bl cb3]) (Same.refl _) nd3)
               generalize upd G8 d3 (.lst [.int ca3, .int 0, .bl cb3]) = G9 at *
               clear nd3 hRow17
               wtm_at "fo r"
               rename_i e3 ne3
               have he3 : PsAt (upd G9 e3 (.lst [])) e3 [] [] := PsAt.nil upd_same
               have s9 : Same G9 (upd G9 e3 (.lst [])) := same_upd (Same.refl _) ne3
               generalize upd G9 e3 (.lst []) = G10 at *
               refine call_prR 1 12 rfl rfl (hd9.same s9) (by decide) (by decide) (by decide) (by decide) he3.pairs (simp_none 1) (by decide) (hRow18.same s9).pairs simp_row (by decide) (fun G11 k11 sb11 hd11 hk11 => ?_)
               exact fin G11
end
/-! piece ZE -/
section
/-! ### what the top has written -/
def HasDef (K : PySem.W.Frag) (x : Str) (st : Stmt) (f : Addr) (fd : FuncData) : Prop := PySem.W.nsIn K mainGlobals x = some (some (.ref f)) ∧ Fun K x x st f fd
theorem hasDef_mk {K : PySem.W.Frag} {x : Str} {st : Stmt} {f : Addr} {oc : Value} {od an : Option Addr} {osl : Array (Option Value)} {kV doc pm cdv ct : Value} (a : PySem.W.nsIn K mainGlobals x = some (some (.ref f)))
    (l : K.lookup f = some ⟨oc, od, .func (PySem.W.fnOf x x (defArgs st) (defBody st) (defScope st) .none kV doc pm an cdv ct), osl⟩) (c : PySem.W.codeIn K cdv x = true) (k : PySem.W.keepIn K (.ref f) = true) :
    ∃ f fd, HasDef K x st f fd := ⟨f, _, a, fun_mk l c k⟩
theorem cal_of {P : Program} {w : World} {K : PySem.W.Frag} {mg : Str → Option Value} {base h : Heap} {x : Str} {st : Stmt} {f : Addr} {fd : FuncData} {k : Nat} {ps : List Str} {sp : Sp} (X : K.In h) (G : h.Ns mainGlobals mg) (D : HasDef K x st f fd)
    (hb : Binds K fd ps []) (F : FnOk P w K mg base CX0 k f fd ps sp) : Cal P w K mg base x k ps sp := ⟨f, fd, F, PySem.W.mg_of X G D.1, D.2.kp, hb⟩
theorem calG_of {P : Program} {w : World} {K : PySem.W.Frag} {mg : Str → Option Value} {base h : Heap} {x : Str} {st : Stmt} {f : Addr} {fd : FuncData} {k : Nat} {ps : List Str} {sp : Sp} (X : K.In h) (G : h.Ns mainGlobals mg) (D : HasDef K x st f fd)
    (hb : Binds K fd ps []) (F : FnG P w K mg base CX0 k f fd ps sp) : CalG P w K mg base x k ps sp := ⟨f, fd, F, PySem.W.mg_of X G D.1, D.2.kp, hb⟩
theorem kcal_of {P : Program} {w : World} {K : PySem.W.Frag} {mg : Str → Option Value} {base h : Heap} {x : Str} {st : Stmt} {f : Addr} {fd : FuncData} {k : Nat} {ps ks : List Str} {g : List Value → List Value → List Value} {gV : List V → List V → List V} {sp : Sp} (X : K.In h) (G : h.Ns mainGlobals mg) (D : HasDef K x st f fd)
    (hb : KBinds K fd ps ks g gV) (F : FnOk P w K mg base CX0 k f fd ps sp) : KCal P w K mg base x k ps ks g gV sp := ⟨f, fd, F, PySem.W.mg_of X G D.1, D.2.kp, hb⟩
set_option maxHeartbeats 0 in
theorem all_mk {l : PySem.W.OpenLaw} {w : World} {K : PySem.W.Frag} {h : Heap} {mg : Str → Option Value} {fa : Addr} {tk : Tok} (X : K.In h) (G : h.Ns mainGlobals mg) (hfa : mg "law" = some (.ref fa))
    (d_law_draws : ∃ f fd, HasDef K "_law_draws" s_law_draws f fd)
    (d_law_next : ∃ f fd, HasDef K "_law_next" s_law_next f fd)
    (d_law_shuffled : ∃ f fd, HasDef K "_law_shuffled" s_law_shuffled f fd)
    (d_law_grown : ∃ f fd, HasDef K "_law_grown" s_law_grown f fd)
    (d_law_web : ∃ f fd, HasDef K "_law_web" s_law_web f fd)
    (d_is_place : ∃ f fd, HasDef K "is_place" s_is_place f fd)
    (d_read_net : ∃ f fd, HasDef K "read_net" s_read_net f fd)
    (d_whole_lot : ∃ f fd, HasDef K "whole_lot" s_whole_lot f fd)
    (d_first_target : ∃ f fd, HasDef K "first_target" s_first_target f fd)
    (d_members : ∃ f fd, HasDef K "members" s_members f fd)
    (d_fold_around : ∃ f fd, HasDef K "fold_around" s_fold_around f fd)
    (d_order_around : ∃ f fd, HasDef K "_order_around" s_order_around f fd)
    (d_full_order : ∃ f fd, HasDef K "full_order" s_full_order f fd)
    (d_end_size : ∃ f fd, HasDef K "end_size" s_end_size f fd)
    (d_lot_behind_round : ∃ f fd, HasDef K "_lot_behind_round" s_lot_behind_round f fd)
    (d_lots_by_rounds : ∃ f fd, HasDef K "_lots_by_rounds" s_lots_by_rounds f fd)
    (d_rounds_left : ∃ f fd, HasDef K "rounds_left" s_rounds_left f fd)
    (d_middle : ∃ f fd, HasDef K "middle" s_middle f fd)
    (d_check_place : ∃ f fd, HasDef K "check_place" s_check_place f fd)
    (d_beside : ∃ f fd, HasDef K "beside" s_beside f fd)
    (d_law_due : ∃ f fd, HasDef K "_law_due" s_law_due f fd)
    (d_same_places : ∃ f fd, HasDef K "_same_places" s_same_places f fd)
    (d_common : ∃ f fd, HasDef K "_common" s_common f fd)
    (d_traps : ∃ f fd, HasDef K "_traps" s_traps f fd)
    (d_one_turn_ahead : ∃ f fd, HasDef K "_one_turn_ahead" s_one_turn_ahead f fd)
    (d_best_starts : ∃ f fd, HasDef K "best_starts" s_best_starts f fd)
    (d_law_right : ∃ f fd, HasDef K "_law_right" s_law_right f fd)
    (d_product_lines : ∃ f fd, HasDef K "_product_lines" s_product_lines f fd)
    (d_product : ∃ f fd, HasDef K "product" s_product f fd)
    (d_read_both : ∃ f fd, HasDef K "_read_both" s_read_both f fd)
    (d_best_going : ∃ f fd, HasDef K "_best_going" s_best_going f fd)
    (d_turns_to_catch : ∃ f fd, HasDef K "turns_to_catch" s_turns_to_catch f fd)
    (d_law_product_right : ∃ f fd, HasDef K "_law_product_right" s_law_product_right f fd)
    (d_law : ∃ f fd, HasDef K "law" s_law f fd)
    (z_any : PySem.W.nsIn K mainGlobals "any" = some none)
    (z_enumerate : PySem.W.nsIn K mainGlobals "enumerate" = some none)
    (z_int : PySem.W.nsIn K mainGlobals "int" = some none)
    (z_isinstance : PySem.W.nsIn K mainGlobals "isinstance" = some none)
    (z_len : PySem.W.nsIn K mainGlobals "len" = some none)
    (z_list : PySem.W.nsIn K mainGlobals "list" = some none)
    (z_max : PySem.W.nsIn K mainGlobals "max" = some none)
    (z_min : PySem.W.nsIn K mainGlobals "min" = some none)
    (z_range : PySem.W.nsIn K mainGlobals "range" = some none)
    (z_repr : PySem.W.nsIn K mainGlobals "repr" = some none)
    (z_zip : PySem.W.nsIn K mainGlobals "zip" = some none)
    (z_most : PySem.W.nsIn K mainGlobals "MOST_PLACES" = some (some (.int 12 tk))) :
    ∃ fd : FuncData, (∀ (s : Shared) (v : Value), BindsTo s fd ⟨[v], []⟩ [("_law_script", v)]) ∧ ∀ base : Heap, K.In base → base.Ns mainGlobals mg → FnG l.prog w K mg base CX0 8 fa fd ["_law_script"] (spLawW K) := by
  obtain ⟨f_law_draws, fd_law_draws, e_law_draws⟩ := d_law_draws
  have b_law_draws := e_law_draws.2.binds (ps := ["_law_cell"]) fun _ _ _ _ _ _ us hl => match us, hl with | [_], _ => rfl
  obtain ⟨f_law_next, fd_law_next, e_law_next⟩ := d_law_next
  have b_law_next := e_law_next.2.binds (ps := ["_law_draws_here"]) fun _ _ _ _ _ _ us hl => match us, hl with | [_], _ => rfl
  obtain ⟨f_law_shuffled, fd_law_shuffled, e_law_shuffled⟩ := d_law_shuffled
  have b_law_shuffled := e_law_shuffled.2.binds (ps := ["_law_draws_here", "_law_things"]) fun _ _ _ _ _ _ us hl => match us, hl with | [_, _], _ => rfl
  obtain ⟨f_law_grown, fd_law_grown, e_law_grown⟩ := d_law_grown
  have b_law_grown := e_law_grown.2.binds (ps := ["_law_draws_here", "_law_size", "_law_sides", "_law_start"]) fun _ _ _ _ _ _ us hl => match us, hl with | [_, _, _, _], _ => rfl
  obtain ⟨f_law_web, fd_law_web, e_law_web⟩ := d_law_web
  have b_law_web := e_law_web.2.binds (ps := ["_law_draws_here", "_law_size", "_law_kind"]) fun _ _ _ _ _ _ us hl => match us, hl with | [_, _, _], _ => rfl
  obtain ⟨f_is_place, fd_is_place, e_is_place⟩ := d_is_place
  have b_is_place := e_is_place.2.binds (ps := ["place", "places"]) fun _ _ _ _ _ _ us hl => match us, hl with | [_, _], _ => rfl
  obtain ⟨f_read_net, fd_read_net, e_read_net⟩ := d_read_net
  have b_read_net := e_read_net.2.binds (ps := ["places", "lines"]) fun _ _ _ _ _ _ us hl => match us, hl with | [_, _], _ => rfl
  obtain ⟨f_whole_lot, fd_whole_lot, e_whole_lot⟩ := d_whole_lot
  have b_whole_lot := e_whole_lot.2.binds (ps := ["near"]) fun _ _ _ _ _ _ us hl => match us, hl with | [_], _ => rfl
  obtain ⟨f_first_target, fd_first_target, e_first_target⟩ := d_first_target
  have b_first_target := e_first_target.2.binds (ps := ["near", "lot", "place"]) fun _ _ _ _ _ _ us hl => match us, hl with | [_, _, _], _ => rfl
  obtain ⟨f_members, fd_members, e_members⟩ := d_members
  have b_members := e_members.2.binds (ps := ["lot"]) fun _ _ _ _ _ _ us hl => match us, hl with | [_], _ => rfl
  obtain ⟨f_fold_around, fd_fold_around, e_fold_around⟩ := d_fold_around
  have b_fold_around := e_fold_around.2.binds (ps := ["near", "held"]) fun _ _ _ _ _ _ us hl => match us, hl with | [_, _], _ => rfl
  obtain ⟨f_order_around, fd_order_around, e_order_around⟩ := d_order_around
  have b_order_around := e_order_around.2.binds (ps := ["near", "held"]) fun _ _ _ _ _ _ us hl => match us, hl with | [_, _], _ => rfl
  obtain ⟨f_full_order, fd_full_order, e_full_order⟩ := d_full_order
  have b_full_order := e_full_order.2.binds (ps := ["places", "lines"]) fun _ _ _ _ _ _ us hl => match us, hl with | [_, _], _ => rfl
  obtain ⟨f_end_size, fd_end_size, e_end_size⟩ := d_end_size
  have b_end_size := e_end_size.2.binds (ps := ["places", "lines"]) fun _ _ _ _ _ _ us hl => match us, hl with | [_, _], _ => rfl
  obtain ⟨f_lot_behind_round, fd_lot_behind_round, e_lot_behind_round⟩ := d_lot_behind_round
  have b_lot_behind_round := e_lot_behind_round.2.binds (ps := ["near", "lot"]) fun _ _ _ _ _ _ us hl => match us, hl with | [_, _], _ => rfl
  obtain ⟨f_lots_by_rounds, fd_lots_by_rounds, e_lots_by_rounds⟩ := d_lots_by_rounds
  have b_lots_by_rounds := e_lots_by_rounds.2.binds (ps := ["near"]) fun _ _ _ _ _ _ us hl => match us, hl with | [_], _ => rfl
  obtain ⟨f_rounds_left, fd_rounds_left, e_rounds_left⟩ := d_rounds_left
  have b_rounds_left := e_rounds_left.2.binds (ps := ["places", "lines"]) fun _ _ _ _ _ _ us hl => match us, hl with | [_, _], _ => rfl
  obtain ⟨f_middle, fd_middle, e_middle⟩ := d_middle
  have b_middle := e_middle.2.binds (ps := ["places", "lines"]) fun _ _ _ _ _ _ us hl => match us, hl with | [_, _], _ => rfl
  obtain ⟨f_check_place, fd_check_place, e_check_place⟩ := d_check_place
  have b_check_place := e_check_place.2.binds (ps := ["near", "place"]) fun _ _ _ _ _ _ us hl => match us, hl with | [_, _], _ => rfl
  obtain ⟨f_beside, fd_beside, e_beside⟩ := d_beside
  have b_beside := e_beside.2.binds (ps := ["places", "lines", "place"]) fun _ _ _ _ _ _ us hl => match us, hl with | [_, _, _], _ => rfl
  obtain ⟨f_law_due, fd_law_due, e_law_due⟩ := d_law_due
  have b_law_due := e_law_due.2.binds (ps := ["_law_size", "_law_sides"]) fun _ _ _ _ _ _ us hl => match us, hl with | [_, _], _ => rfl
  obtain ⟨f_same_places, fd_same_places, e_same_places⟩ := d_same_places
  have b_same_places := e_same_places.2.binds (ps := ["near"]) fun _ _ _ _ _ _ us hl => match us, hl with | [_], _ => rfl
  obtain ⟨f_common, fd_common, e_common⟩ := d_common
  have b_common := e_common.2.binds (ps := ["lots", "places"]) fun _ _ _ _ _ _ us hl => match us, hl with | [_, _], _ => rfl
  obtain ⟨f_traps, fd_traps, e_traps⟩ := d_traps
  have b_traps := e_traps.2.binds (ps := ["answers", "sure"]) fun _ _ _ _ _ _ us hl => match us, hl with | [_, _], _ => rfl
  obtain ⟨f_one_turn_ahead, fd_one_turn_ahead, e_one_turn_ahead⟩ := d_one_turn_ahead
  have b_one_turn_ahead := e_one_turn_ahead.2.binds (ps := ["near", "traps"]) fun _ _ _ _ _ _ us hl => match us, hl with | [_, _], _ => rfl
  obtain ⟨f_best_starts, fd_best_starts, e_best_starts⟩ := d_best_starts
  have b_best_starts := e_best_starts.2.binds (ps := ["places", "lines"]) fun _ _ _ _ _ _ us hl => match us, hl with | [_, _], _ => rfl
  obtain ⟨f_law_right, fd_law_right, e_law_right⟩ := d_law_right
  have b_law_right := e_law_right.2.binds (ps := ["_law_size", "_law_sides"]) fun _ _ _ _ _ _ us hl => match us, hl with | [_, _], _ => rfl
  obtain ⟨f_product_lines, fd_product_lines, e_product_lines⟩ := d_product_lines
  have b_product_lines := e_product_lines.2.binds (ps := ["near", "near_more"]) fun _ _ _ _ _ _ us hl => match us, hl with | [_, _], _ => rfl
  obtain ⟨f_product, fd_product, e_product⟩ := d_product
  have b_product := e_product.2.binds (ps := ["places", "lines", "more", "ties"]) fun _ _ _ _ _ _ us hl => match us, hl with | [_, _, _, _], _ => rfl
  obtain ⟨f_read_both, fd_read_both, e_read_both⟩ := d_read_both
  have b_read_both := e_read_both.2.binds (ps := ["places", "lines", "seeker", "fleer"]) fun _ _ _ _ _ _ us hl => match us, hl with | [_, _, _, _], _ => rfl
  obtain ⟨f_best_going, fd_best_going, e_best_going⟩ := d_best_going
  have b_best_going := e_best_going.2.binds (ps := ["near", "seeker", "fleer"]) fun _ _ _ _ _ _ us hl => match us, hl with | [_, _, _], _ => rfl
  obtain ⟨f_turns_to_catch, fd_turns_to_catch, e_turns_to_catch⟩ := d_turns_to_catch
  have b_turns_to_catch := e_turns_to_catch.2.binds (ps := ["places", "lines", "seeker", "fleer"]) fun _ _ _ _ _ _ us hl => match us, hl with | [_, _, _, _], _ => rfl
  obtain ⟨f_law_product_right, fd_law_product_right, e_law_product_right⟩ := d_law_product_right
  have b_law_product_right := e_law_product_right.2.binds (ps := ["_law_draws_here", "_law_size", "_law_sides", "_law_far", "_law_bars"]) fun _ _ _ _ _ _ us hl => match us, hl with | [_, _, _, _, _], _ => rfl
  obtain ⟨f_law, fd_law, e_law⟩ := d_law
  have b_law := e_law.2.binds (ps := ["_law_script"]) fun _ _ _ _ _ _ us hl => match us, hl with | [_], _ => rfl
  have m_any := PySem.W.mg_none_of X G z_any
  have m_enumerate := PySem.W.mg_none_of X G z_enumerate
  have m_int := PySem.W.mg_none_of X G z_int
  have m_isinstance := PySem.W.mg_none_of X G z_isinstance
  have m_len := PySem.W.mg_none_of X G z_len
  have m_list := PySem.W.mg_none_of X G z_list
  have m_max := PySem.W.mg_none_of X G z_max
  have m_min := PySem.W.mg_none_of X G z_min
  have m_range := PySem.W.mg_none_of X G z_range
  have m_repr := PySem.W.mg_none_of X G z_repr
  have m_zip := PySem.W.mg_none_of X G z_zip
  have m_most := PySem.W.mg_of X G z_most
  have e := hfa.symm.trans (PySem.W.mg_of X G e_law.1)
  cases e
  refine ⟨fd_law, fun s v => ?_, fun base _ _ => ?_⟩
  · obtain ⟨oc, od, kV, doc, pm, an, cdv, ct, osl, rfl, lk, hcd⟩ := e_law.2.ex
    exact .of_eq rfl
  have c_law_draws := cal_of X G e_law_draws b_law_draws (ok_draws (P := l.prog) (w := w) (K := K) (mg := mg) (base := base) e_law_draws.2 m_int)
  have c_law_next := cal_of X G e_law_next b_law_next (ok_next (P := l.prog) (w := w) (K := K) (mg := mg) (base := base) e_law_next.2 m_int)
  have c_law_shuffled := cal_of X G e_law_shuffled b_law_shuffled (ok_shuf (P := l.prog) (w := w) (K := K) (mg := mg) (base := base) e_law_shuffled.2 m_int m_list m_len c_law_next)
  have c_law_grown := cal_of X G e_law_grown b_law_grown (ok_grown (P := l.prog) (w := w) (K := K) (mg := mg) (base := base) e_law_grown.2 m_range m_list m_int c_law_next)
  have c_law_web := cal_of X G e_law_web b_law_web (ok_web (P := l.prog) (w := w) (K := K) (mg := mg) (base := base) e_law_web.2 m_range m_list m_int m_min c_law_next c_law_shuffled c_law_grown)
  have c_is_place := cal_of X G e_is_place b_is_place (ok_isplace (P := l.prog) (w := w) (K := K) (mg := mg) (base := base) e_is_place.2 m_isinstance m_int)
  have c_read_net := cal_of X G e_read_net b_read_net (ok_read (P := l.prog) (w := w) (K := K) (mg := mg) (base := base) e_read_net.2 m_isinstance m_int m_list m_range m_enumerate m_len m_most c_is_place)
  have c_whole_lot := cal_of X G e_whole_lot b_whole_lot (ok_whole (P := l.prog) (w := w) (K := K) (mg := mg) (base := base) e_whole_lot.2 m_len)
  have c_first_target := cal_of X G e_first_target b_first_target (ok_first (P := l.prog) (w := w) (K := K) (mg := mg) (base := base) e_first_target.2 m_enumerate)
  have c_members := cal_of X G e_members b_members (ok_members (P := l.prog) (w := w) (K := K) (mg := mg) (base := base) e_members.2 m_range)
  have c_fold_around := cal_of X G e_fold_around b_fold_around (ok_around (P := l.prog) (w := w) (K := K) (mg := mg) (base := base) e_fold_around.2 c_whole_lot c_first_target c_members)
  have c_order_around := cal_of X G e_order_around b_order_around (ok_oa (P := l.prog) (w := w) (K := K) (mg := mg) (base := base) e_order_around.2 c_fold_around)
  have c_full_order := cal_of X G e_full_order b_full_order (ok_full (P := l.prog) (w := w) (K := K) (mg := mg) (base := base) e_full_order.2 c_read_net c_order_around)
  have c_end_size := cal_of X G e_end_size b_end_size (ok_size (P := l.prog) (w := w) (K := K) (mg := mg) (base := base) e_end_size.2 m_len c_full_order)
  have c_lot_behind_round := cal_of X G e_lot_behind_round b_lot_behind_round (ok_rest (P := l.prog) (w := w) (K := K) (mg := mg) (base := base) e_lot_behind_round.2 m_any m_zip c_members)
  have c_lots_by_rounds := cal_of X G e_lots_by_rounds b_lots_by_rounds (ok_lots (P := l.prog) (w := w) (K := K) (mg := mg) (base := base) e_lots_by_rounds.2 c_whole_lot c_lot_behind_round)
  have c_rounds_left := cal_of X G e_rounds_left b_rounds_left (ok_rounds (P := l.prog) (w := w) (K := K) (mg := mg) (base := base) e_rounds_left.2 c_read_net c_members c_lots_by_rounds)
  have c_middle := cal_of X G e_middle b_middle (ok_middle (P := l.prog) (w := w) (K := K) (mg := mg) (base := base) e_middle.2 c_read_net c_members c_lots_by_rounds)
  have c_check_place := cal_of X G e_check_place b_check_place (ok_cpl (P := l.prog) (w := w) (K := K) (mg := mg) (base := base) e_check_place.2 m_len c_is_place)
  have c_beside := cal_of X G e_beside b_beside (ok_beside (P := l.prog) (w := w) (K := K) (mg := mg) (base := base) e_beside.2 c_read_net c_check_place c_members)
  have c_law_due := cal_of X G e_law_due b_law_due (ok_due (P := l.prog) (w := w) (K := K) (mg := mg) (base := base) e_law_due.2 m_len c_end_size c_rounds_left c_middle c_beside)
  have c_same_places := cal_of X G e_same_places b_same_places (ok_samep (P := l.prog) (w := w) (K := K) (mg := mg) (base := base) e_same_places.2 m_range m_len)
  have c_common := cal_of X G e_common b_common (ok_common (P := l.prog) (w := w) (K := K) (mg := mg) (base := base) e_common.2 )
  have c_traps := cal_of X G e_traps b_traps (ok_traps (P := l.prog) (w := w) (K := K) (mg := mg) (base := base) e_traps.2 m_range m_len c_common)
  have c_one_turn_ahead := cal_of X G e_one_turn_ahead b_one_turn_ahead (ok_ahead (P := l.prog) (w := w) (K := K) (mg := mg) (base := base) e_one_turn_ahead.2 c_members)
  have c_best_starts := cal_of X G e_best_starts b_best_starts (ok_starts (P := l.prog) (w := w) (K := K) (mg := mg) (base := base) e_best_starts.2 m_range m_list c_read_net c_members c_same_places c_traps c_one_turn_ahead c_common)
  have c_law_right := calG_of X G e_law_right b_law_right (ok_right (P := l.prog) (w := w) (K := K) (mg := mg) (base := base) e_law_right.2 m_repr c_law_due c_best_starts)
  have c_product_lines := cal_of X G e_product_lines b_product_lines (ok_plines (P := l.prog) (w := w) (K := K) (mg := mg) (base := base) e_product_lines.2 m_len m_range c_members)
  have c_product := cal_of X G e_product b_product (ok_product (P := l.prog) (w := w) (K := K) (mg := mg) (base := base) e_product.2 m_most c_read_net c_product_lines)
  have c_read_both := cal_of X G e_read_both b_read_both (ok_both (P := l.prog) (w := w) (K := K) (mg := mg) (base := base) e_read_both.2 c_read_net c_check_place)
  have c_best_going := cal_of X G e_best_going b_best_going (ok_going (P := l.prog) (w := w) (K := K) (mg := mg) (base := base) e_best_going.2 c_members c_same_places c_traps c_one_turn_ahead)
  have c_turns_to_catch := cal_of X G e_turns_to_catch b_turns_to_catch (ok_turns (P := l.prog) (w := w) (K := K) (mg := mg) (base := base) e_turns_to_catch.2 c_read_both c_best_going)
  have c_law_product_right := cal_of X G e_law_product_right b_law_product_right (ok_prR (P := l.prog) (w := w) (K := K) (mg := mg) (base := base) e_law_product_right.2 m_range m_int m_max c_product c_law_next c_turns_to_catch c_best_starts)
  exact ok_law (P := l.prog) (w := w) (K := K) (mg := mg) (base := base) e_law.2 m_range m_int c_law_draws c_law_web c_law_next c_law_right c_law_product_right c_best_starts
theorem walkL {l : PySem.W.OpenLaw} {q : Program} {loose : List Str} {XP : (Str → Option Value) → Heap → Prop} {YP : World → Heap → Prop} {d : DefRec} {K : Params → PySem.W.Frag} (hn : l.most = some 63) (hdf : d.params.defaults = [])
    (hY : ∀ (w : World) (h : Heap), YP w h → (K w.params).In h)
    (F : ∀ (w : World) (mg : Str → Option Value) (fa : Addr) (h : Heap), (K w.params).In h → h.Ns mainGlobals mg → mg d.name = some (.ref fa) →
      ∃ fd : FuncData, (∀ (s : Shared) (u : Value), BindsTo s fd ⟨[u], []⟩ [("_law_script", u)]) ∧ ∀ base : Heap, (K w.params).In base → base.Ns mainGlobals mg → FnG l.prog w (K w.params) mg base CX0 8 fa fd ["_law_script"] (spLawW (K w.params))) :
    PySem.W.WalkO q loose XP YP l.row.toRowW d [] (fun f vs => PySem.call f vs) :=
  walkW (n := 63) (k := 8) (x := "_law_script") (sp := fun w => spLawW (K w.params)) hn (by decide) hdf ⟨rfl, by decide, by decide⟩ hY F fun w H a ns hl _ hS => by
    unfold spLawW
    exact ⟨a, ns, rfl, hS, Nat.le_trans hl (by decide), fun _ => rfl⟩
end
end Fo
open PySem PySem.W PyProof.Rows
set_option maxHeartbeats 0 in
theorem PySem.Challenge.cw_foldednets_k51_whole_turns_told_by_round_holds : PySem.Challenge.rw_foldednets_k51_whole_turns_told_by_round.Holds := by
  w_on; o_law; k_head; (case hw => w_witness2)
  k_fill
  refine Fo.walkL (l := PySem.Challenge.rw_foldednets_k51_whole_turns_told_by_round) rfl rfl (fun w h Y => PySem.W.kIn_of Y) ?F
  case F =>
    intro w mg fa h KX G hmg
    refine' Fo.all_mk KX G hmg ?d0 ?d1 ?d2 ?d3 ?d4 ?d5 ?d6 ?d7 ?d8 ?d9 ?d10 ?d11 ?d12 ?d13 ?d14 ?d15 ?d16 ?d17 ?d18 ?d19 ?d20 ?d21 ?d22 ?d23 ?d24 ?d25 ?d26 ?d27 ?d28 ?d29 ?d30 ?d31 ?d32 ?d33 ?z_any ?z_enumerate ?z_int ?z_isinstance ?z_len ?z_list ?z_max ?z_min ?z_range ?z_repr ?z_zip ?z_most
    (case d0 => refine' Fo.hasDef_mk ?a ?l ?c ?k; (case a => k_is); (case l => k_is); (case c => k_is); (case k => k_is))
    (case d1 => refine' Fo.hasDef_mk ?a ?l ?c ?k; (case a => k_is); (case l => k_is); (case c => k_is); (case k => k_is))
    (case d2 => refine' Fo.hasDef_mk ?a ?l ?c ?k; (case a => k_is); (case l => k_is); (case c => k_is); (case k => k_is))
    (case d3 => refine' Fo.hasDef_mk ?a ?l ?c ?k; (case a => k_is); (case l => k_is); (case c => k_is); (case k => k_is))
    (case d4 => refine' Fo.hasDef_mk ?a ?l ?c ?k; (case a => k_is); (case l => k_is); (case c => k_is); (case k => k_is))
    (case d5 => refine' Fo.hasDef_mk ?a ?l ?c ?k; (case a => k_is); (case l => k_is); (case c => k_is); (case k => k_is))
    (case d6 => refine' Fo.hasDef_mk ?a ?l ?c ?k; (case a => k_is); (case l => k_is); (case c => k_is); (case k => k_is))
    (case d7 => refine' Fo.hasDef_mk ?a ?l ?c ?k; (case a => k_is); (case l => k_is); (case c => k_is); (case k => k_is))
    (case d8 => refine' Fo.hasDef_mk ?a ?l ?c ?k; (case a => k_is); (case l => k_is); (case c => k_is); (case k => k_is))
    (case d9 => refine' Fo.hasDef_mk ?a ?l ?c ?k; (case a => k_is); (case l => k_is); (case c => k_is); (case k => k_is))
    (case d10 => refine' Fo.hasDef_mk ?a ?l ?c ?k; (case a => k_is); (case l => k_is); (case c => k_is); (case k => k_is))
    (case d11 => refine' Fo.hasDef_mk ?a ?l ?c ?k; (case a => k_is); (case l => k_is); (case c => k_is); (case k => k_is))
    (case d12 => refine' Fo.hasDef_mk ?a ?l ?c ?k; (case a => k_is); (case l => k_is); (case c => k_is); (case k => k_is))
    (case d13 => refine' Fo.hasDef_mk ?a ?l ?c ?k; (case a => k_is); (case l => k_is); (case c => k_is); (case k => k_is))
    (case d14 => refine' Fo.hasDef_mk ?a ?l ?c ?k; (case a => k_is); (case l => k_is); (case c => k_is); (case k => k_is))
    (case d15 => refine' Fo.hasDef_mk ?a ?l ?c ?k; (case a => k_is); (case l => k_is); (case c => k_is); (case k => k_is))
    (case d16 => refine' Fo.hasDef_mk ?a ?l ?c ?k; (case a => k_is); (case l => k_is); (case c => k_is); (case k => k_is))
    (case d17 => refine' Fo.hasDef_mk ?a ?l ?c ?k; (case a => k_is); (case l => k_is); (case c => k_is); (case k => k_is))
    (case d18 => refine' Fo.hasDef_mk ?a ?l ?c ?k; (case a => k_is); (case l => k_is); (case c => k_is); (case k => k_is))
    (case d19 => refine' Fo.hasDef_mk ?a ?l ?c ?k; (case a => k_is); (case l => k_is); (case c => k_is); (case k => k_is))
    (case d20 => refine' Fo.hasDef_mk ?a ?l ?c ?k; (case a => k_is); (case l => k_is); (case c => k_is); (case k => k_is))
    (case d21 => refine' Fo.hasDef_mk ?a ?l ?c ?k; (case a => k_is); (case l => k_is); (case c => k_is); (case k => k_is))
    (case d22 => refine' Fo.hasDef_mk ?a ?l ?c ?k; (case a => k_is); (case l => k_is); (case c => k_is); (case k => k_is))
    (case d23 => refine' Fo.hasDef_mk ?a ?l ?c ?k; (case a => k_is); (case l => k_is); (case c => k_is); (case k => k_is))
    (case d24 => refine' Fo.hasDef_mk ?a ?l ?c ?k; (case a => k_is); (case l => k_is); (case c => k_is); (case k => k_is))
    (case d25 => refine' Fo.hasDef_mk ?a ?l ?c ?k; (case a => k_is); (case l => k_is); (case c => k_is); (case k => k_is))
    (case d26 => refine' Fo.hasDef_mk ?a ?l ?c ?k; (case a => k_is); (case l => k_is); (case c => k_is); (case k => k_is))
    (case d27 => refine' Fo.hasDef_mk ?a ?l ?c ?k; (case a => k_is); (case l => k_is); (case c => k_is); (case k => k_is))
    (case d28 => refine' Fo.hasDef_mk ?a ?l ?c ?k; (case a => k_is); (case l => k_is); (case c => k_is); (case k => k_is))
    (case d29 => refine' Fo.hasDef_mk ?a ?l ?c ?k; (case a => k_is); (case l => k_is); (case c => k_is); (case k => k_is))
    (case d30 => refine' Fo.hasDef_mk ?a ?l ?c ?k; (case a => k_is); (case l => k_is); (case c => k_is); (case k => k_is))
    (case d31 => refine' Fo.hasDef_mk ?a ?l ?c ?k; (case a => k_is); (case l => k_is); (case c => k_is); (case k => k_is))
    (case d32 => refine' Fo.hasDef_mk ?a ?l ?c ?k; (case a => k_is); (case l => k_is); (case c => k_is); (case k => k_is))
    (case d33 => refine' Fo.hasDef_mk ?a ?l ?c ?k; (case a => k_is); (case l => k_is); (case c => k_is); (case k => k_is))
    (case z_any => k_is)
    (case z_enumerate => k_is)
    (case z_int => k_is)
    (case z_isinstance => k_is)
    (case z_len => k_is)
    (case z_list => k_is)
    (case z_max => k_is)
    (case z_min => k_is)
    (case z_range => k_is)
    (case z_repr => k_is)
    (case z_zip => k_is)
    (case z_most => k_is)
#print axioms PySem.Challenge.cw_foldednets_k51_whole_turns_told_by_round_holds
