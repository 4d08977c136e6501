import PyProof.Rows.All
import Wide.All
import OpenK.AllK
import Wide.FinOn
import HandS.ForMost
import HandS.Exc
import HandS.TryOnly
import HandS.ExcOwn
import HandS.ExcInit
import HandS.ExcField
import HandS.ExcIs
import HandS.IsInst
import HandS.OwnEq
import HandS.FStr
import HandS.Wide
import HandS.Gcd
import HandS.ClsMeth
import HandS.WordsExc
import HandS.Defaults
import HandS.CallSlots
import HandS.RaiseMore
import HandS.Walk
import HandS.Codes
import HandS.Evl
import HandS.Steps
import HandS.Words
import HandS.Head0
import HandS.Head1
import HandS.Head2
import HandS.Head3
import HandS.HeadHook1
import HandS.HeadHook2
import HandS.HeadNt
import Open.Pieces
import KE.KOpsOwn
import HandS.Property
import HandS.MakeKw
import HandS.MakeKwOnly
import KE.KRevSl
import HandS.ExcValue
import PyProof.ReprNest
import PyProof.ReprDict
import PyProof.ReprReads
import PyProof.ReprRoads
import HandS.DictComp
import HandS.Strs
import HandS.Star
import HandS.DeepEq
import HandS.Zip
import HandS.NoneIn
import HandS.WordsDict
import HandS.Small
import KE.GoesZip
import KE.GoesMore
import HandS.ListItems
import PyProof.EqAt
import PyProof.EqKinds
import PyProof.TupleCall
import HandS.Base
import HandS.Call
import HandS.List
import KE.KSuper
import KE.KStar
import HandS.More
import HandS.Slots
import HandS.MethStar
import HandS.Nested
import HandS.Style
import HandS.Iter
import KE.KItemsList
import HandS.Finally
import PySem.Challenge.RW_peekproof_k03_papers_keep_what_they_tell
set_option Elab.async false
section -- PkA
set_option linter.all false
set_option maxRecDepth 100000
set_option maxHeartbeats 2000000
/-! PkA: rules of our own for the laws of Peekproof: calls by one form, static methods, the exception that is kept, repr of data. -/
namespace Pk
open PySem PySem.Spec L2
open PyProof.Rows hiding St

/-! ### calls: what is asked may hang on the caller's slots -/
def CallS (X : Cx) (f : Value) (r : St → List V → Hp → VK → Prop) : Prop :=
  ∀ (pins : List (Addr × Obj)) (s : Shared) (σ : St) (H : Hp) (vs : List V) (us : List Value) (Q : VK), Inv X pins σ H s → Vals vs us → r σ vs H Q →
    wpAny (model X.prog X.w) X.A (call f us) (EP X pins σ Q) X.xe s
theorem calls_of {X : Cx} {f : Value} {r : List V → Hp → VK → Prop} (c : CallR X f r) : CallS X f (fun _ => r) :=
  fun pins s σ H vs us Q I rv q => c pins s σ H vs us Q I rv q
section
variable {X : Cx} {CX : CXT} {k : Nat} {f C : Addr} {fd : FuncData} {ps : List Str} {sp : Sp} {dvs : List V} {ds : List Value}
theorem calls_fn {E : XK} (F : FnOk X.prog X.w X.K X.mg X.base CX k f fd ps sp) (hr : Room k X.A) (hb : Binds X.K fd ps ds) (hd : Vals dvs ds) (hx : Passes CX X E) :
    CallS X (.ref f) (fun _ vs H Q => sp (vs ++ dvs) H Q E) :=
  fun _ _ _ _ _ _ _ I rv q => run_fn F hr hb hd hx I rv q
theorem calls_fnS {E : St → XK} (F : FnOk X.prog X.w X.K X.mg X.base CX k f fd ps sp) (hr : Room k X.A) (hb : Binds X.K fd ps ds) (hd : Vals dvs ds) (hx : ∀ σ, PassesAt CX X σ (E σ)) :
    CallS X (.ref f) (fun σ vs H Q => sp (vs ++ dvs) H Q (E σ)) :=
  fun _ _ σ _ _ _ _ I rv q => run_fnSD F hr hb hd (hx σ) I rv q
theorem calls_make {E : XK} (M : Mk X.K C f) (F : FnOk X.prog X.w X.K X.mg X.base CX k f fd ps sp) (hr : Room (k + 1) X.A) (hb : Binds X.K fd ps ds) (hd : Vals dvs ds) (hx : Passes CX X E) :
    CallS X (.ref C) (fun _ vs H Q => ∀ x dx, H x = none → H dx = none → dx ≠ x → sp (.ref x :: (vs ++ dvs)) (upd (upd H dx (.own x)) x (.ins C dx [])) (fun v H2 => v = .non ∧ Q (.ref x) H2) E) :=
  fun _ _ _ _ _ _ _ I rv q => run_make M F hr hb hd hx I rv q
end
/-- f(e, ..), f a name of the module -/
def tCS (r : St → List V → Hp → VK → Prop) (t : TA) : TE := fun σ H Q => t σ H fun vs H1 => r σ vs H1 Q
section
variable {X : Cx} {f : Addr} {r : St → List V → Hp → VK → Prop} {x : Str} {p pos apos : Pos} {e o : Expr} {es : List Expr} {t : TA} {ta : TE}
theorem pe_cs (c : CallS X (.ref f) r) (hm : X.mg x = some (.ref f)) (hk : PySem.W.keepIn X.K (.ref f) = true) (ha : PA X (e :: es) t) (hg : Gl X x := by rfl)
    (hdb : (x == ("__debug__" : Str)) = false := by decide) (he : starEach (e :: es) X.env = (false, eval e X.env) :: starEach es X.env := by rfl) (hpl : (backTo pos (starEach es X.env)).any (·.1) = false := by rfl) :
    PE X (.Call (.Name x p) (e :: es) [] pos) (tCS r t) := by
  refine ⟨fun pins s σ H Q I q => ?_⟩
  refine wpAny_Call_Name_kw (ld_glob I hg hm ?_ hdb)
  exact PySem.W.callWith_K (h₀ := X.base) I.ok.mod.kin hk (thn (ha.run pos pins s σ H _ I q) fun us s1 ⟨vs, H1, I1, rv, q1⟩ => ⟨I1.kIn, c pins s1 σ H1 vs us Q I1 rv q1⟩) he hpl
/-- what the text tells of a static method m of the class at C: its record at p, its def at g -/
structure StM (K : PySem.W.Frag) (C : Addr) (mc : Value) (m : Str) (p g : Addr) : Prop where
  look : PySem.W.findCls K (.ref C) mc m = some (.get (.builtin "staticmethod.__get__") (.ref p) .none (.ref C))
  rcd : ∃ more, PySem.W.recIn K p "staticmethod" = some (.ref g :: more)
  keep : PySem.W.keepIn K (.ref g) = true
theorem getstat_ok {C q g : Addr} {mc : Value} {m : Str} {pins : List (Addr × Obj)} {σ : St} {H : Hp} {s : Shared} {A : Around} {E : Value → Shared → Prop} {pl : Sem Bool} {Q : Value × List Value → Shared → Prop}
    (I : Inv X pins σ H s) (rd : ClX.CRead X.K C mc) (k : StM X.K C mc m q g) (h : ∀ s', Inv X pins σ H s' → Q (.ref g, []) s') : wpAny (model X.prog X.w) A (getMethod (.ref C) m pl) Q E s := by
  obtain ⟨more, hp⟩ := k.rcd
  refine PySem.W.method_cls I.kIn rd.ga (PySem.W.cls_bind I.kIn rd.rd k.look ?_)
  refine wpAny_call (PySem.W.sm_get (s := { s with toks := s.toks + 1 }) I.kIn hp (PySem.W.handed_on rfl ?_))
  exact h _ (I.tok _)
/-- C.m(e, ..), m a static method -/
def tSt (C : Addr) (r : St → List V → Hp → VK → Prop) (ta : TE) (t : TA) : TE := fun σ H Q => ta σ H fun x H1 => x = .ref C ∧ t σ H1 fun vs H2 => r σ vs H2 Q
theorem pe_stat {C q g : Addr} {mc : Value} {m : Str} {pl : Sem Bool} (ho : PE X o ta) (rd : ClX.CRead X.K C mc) (k : StM X.K C mc m q g) (c : CallS X (.ref g) r) (ha : PA X (e :: es) t)
    (he : starEach (e :: es) X.env = (false, eval e X.env) :: starEach es X.env := by rfl) (hpl : (backTo pos (starEach es X.env)).any (·.1) = false := by rfl)
    (ht : eval (.Call (.Attribute o m apos) (e :: es) [] pos) X.env = (do let z ← eval o X.env; standAt apos.atName; let (fn, fs) ← holding [z] (getMethod z m pl); callWith pos fn fs (backTo pos (starEach (e :: es) X.env)) (backToKw pos (keywordEach [] X.env))) := by rfl) :
    PE X (.Call (.Attribute o m apos) (e :: es) [] pos) (tSt C r ta t) := by
  refine ⟨fun pins s σ H Q I w => ?_⟩
  refine PySem.W.methodCall_KW (pl := pl) (thn (ho.run pins s σ H _ I w) fun u s1 ⟨x, H1, I1, rx, ex, w1⟩ => ?_) ht
  subst ex
  obtain rfl : u = Value.ref C := rx
  refine getstat_ok I1 rd k fun s2 I2 => ?_
  exact PySem.W.callWith_K (first := []) (h₀ := X.base) I2.ok.mod.kin k.keep (thn (ha.run pos pins s2 σ H1 _ I2 w1) fun us s3 ⟨vs, H2, I3, rv, w2⟩ => ⟨I3.kIn, c pins s3 σ H2 vs us Q I3 rv w2⟩) he hpl
end

/-! ### a callee, run where a built-in calls it -/
def RunAt (X : Cx) (A : Around) (f : Addr) (r : List V → Hp → VK → Prop) : Prop :=
  ∀ (pins : List (Addr × Obj)) (s : Shared) (σ : St) (H : Hp) (vs : List V) (us : List Value) (Q : VK), Inv X pins σ H s → Vals vs us → r vs H Q → wpAny (model X.prog X.w) A (call (.ref f) us) (EP X pins σ Q) X.xe s
theorem env0_at {X : Cx} {A : Around} {pins : List (Addr × Obj)} {σ : St} {H : Hp} {s : Shared} (I : Inv X pins σ H s) (hA : A.frames = X.A.frames) : Env0 X.prog X.w X.K X.mg X.base A X.stack s H := by
  have e := I.env0
  exact ⟨hA.trans e.frames, e.mod, e.bs, e.bsz, e.funs, e.frf, e.hok, e.bare⟩
section
variable {X : Cx} {CX : CXT} {k : Nat} {f C : Addr} {fd : FuncData} {ps : List Str} {sp : Sp} {E : XK} {A : Around}
theorem endOf {pins : List (Addr × Obj)} {σ : St} {H : Hp} {s : Shared} {Q : VK} (hx : Passes CX X E) (I : Inv X pins σ H s) {r : Result} {s' : Shared} (q : CR CX X.stack X.prog X.w H s Q E r s') :
    (∃ u, r = .ok (.ret u) ∧ EP X pins σ Q u s') ∨ ∃ e, r = .error e ∧ X.xe e s' := by
  cases r with
  | error e => exact .inr ⟨e, rfl, hx pins σ H s e s' I q⟩
  | ok fl =>
    cases fl with
    | ret u => exact .inl ⟨u, rfl, I.after q⟩
    | next => exact (show False from q).elim
    | brk => exact (show False from q).elim
    | cont => exact (show False from q).elim
theorem runAt_fn (F : FnOk X.prog X.w X.K X.mg X.base CX k f fd ps sp) (hr : Room k A) (hA : A.frames = X.A.frames) (hb : Binds X.K fd ps []) (hx : Passes CX X E) : RunAt X A f (fun vs H Q => sp vs H Q E) := by
  intro pins s σ H vs us Q I rv q
  have hl : us.length = ps.length := rv.length.symm.trans (F.len _ _ _ _ q)
  have b := hb s us I.kIn (by rw [List.append_nil]; exact hl)
  rw [List.append_nil] at b
  refine wpAny_call (codeAny_mono (F.run A X.stack s H ⟨us, []⟩ us vs Q E hr (env0_at I hA) b rv q) fun r s' w => ?_)
  rcases endOf hx I w with ⟨u, rfl, z⟩ | ⟨e, rfl, z⟩
  · exact z
  · exact z
end
/-! ### defs that are known where nothing is being shown: repr -/
/-- as FnOk, where no repr is under way -/
structure FnG (P : Program) (w : World) (K : PySem.W.Frag) (mg : Str → Option Value) (base : Heap) (CX : CXT) (k : Nat) (f : Addr) (fd : FuncData) (ps : List Str) (sp : Sp) : Prop where
  len : ∀ vs H Q E, sp vs H Q E → vs.length = ps.length
  go : ∀ (A : Around) (l : List Env) (s : Shared) (H : Hp) (args : Args) (us : List Value) (vs : List V) (Q : VK) (E : XK), Room k A → A.guards = some [] → Env0 P w K mg base A l s H → BindsTo s fd args (ps.zip us) → Vals vs us →
    sp vs H Q E → codeAny (model P w) A (.call (.ref f) args) (CR CX l P w H s Q E) s
section
variable {P : Program} {w : World} {K : PySem.W.Frag} {mg : Str → Option Value} {base : Heap} {CX : CXT} {k j : Nat} {f : Addr} {fd : FuncData} {ps : List Str} {sp : Sp}
theorem FnG.of (F : FnOk P w K mg base CX k f fd ps sp) : FnG P w K mg base CX k f fd ps sp := ⟨F.len, fun A l s H args us vs Q E hr _ e0 hb rv q => F.run A l s H args us vs Q E hr e0 hb rv q⟩
theorem FnG.mono (F : FnG P w K mg base CX j f fd ps sp) (h : j ≤ k) : FnG P w K mg base CX k f fd ps sp := ⟨F.len, fun A l s H args us vs Q E hr => F.go A l s H args us vs Q E (hr.mono h)⟩
/-- the rule for such a def -/
theorem fnG_of {x qual : Str} {st : Stmt} {N : List Str} (F : Fun K x qual st f fd) (S : FnScope N ps (defScope st)) (len : ∀ vs H Q E, sp vs H Q E → vs.length = ps.length)
    (body : ∀ (cdv : Value) (A : Around) (l : List Env) (s : Shared) (H : Hp) (vs : List V) (Q : VK) (E : XK), Room k (A.deeper (envOfC qual (defScope st) s.heap.objs.size f cdv)) → A.guards = some [] → sp vs H Q E →
      ∃ t, PSs (cxOf CX P w K mg base N qual (defScope st) f cdv A l s H E) (defBody st) t ∧ t { nx := fun _ G => Q .non G, rt := Q } (start N vs) H) : FnG P w K mg base CX (k + 1) f fd ps sp := by
  obtain ⟨oc, od, kV, doc, pm, an, cdv, ct, osl, rfl, lk, hcd⟩ := F.ex
  refine ⟨len, fun A l s H args us vs Q E hr hg e0 hb rv q => ?_⟩
  have old : ∀ b o, base.get? b = some o → s.heap.get? b = some o := fun b o e => (e0.bs b o e).1
  refine codeAny_call_function hr.depth (e0.mod.kin.keeps old _ _ lk) rfl S.co S.gen rfl (PySem.W.codeRec_of (e0.mod.kin.keeps old) hcd) (hb _ _ _ _ ?_)
  refine wpAny_newFunctionEnv_cells S.kind (fun ⟨n, v⟩ hy => ?_) fun env he s1 x => ?_
  · rcases S.par n (List.of_mem_zip hy).1 with z | z
    · exact .inl z
    · exact .inr ⟨z, PySem.W.cellsFrom_some _ _ _ (.inl z)⟩
  subst he
  refine ⟨(e0.mod.nolimit.keeps old).keeps x.toInCall.keep, codeAny_func ?_⟩
  obtain ⟨t, ht, hq⟩ := body cdv A l s H vs Q E (hr.deeper _) hg q
  refine wpAny_mono (ht.run [] s1 (start N vs) H _ (inv_start S hr.hd e0 (len _ _ _ _ q) rv x) hq) (fun fl s' z => ?_) fun e s' z => z
  cases fl with
  | ret u =>
    obtain ⟨v, σ1, G, J, ru, y⟩ := z
    exact ⟨v, G, J.os, J.bare, J.base, J.hok, ru, y⟩
  | next =>
    obtain ⟨σ1, G, J, y⟩ := z
    exact ⟨.non, G, J.os, J.bare, J.base, J.hok, rfl, y⟩
  | brk =>
    obtain ⟨_, _, _, y⟩ := z
    exact (show False from y).elim
  | cont =>
    obtain ⟨_, _, _, y⟩ := z
    exact (show False from y).elim
end
section
variable {X : Cx} {CX : CXT} {k : Nat} {f C : Addr} {fd : FuncData} {ps : List Str} {sp : Sp} {A : Around}
theorem callsG {E : XK} {dvs : List V} {ds : List Value} (F : FnG X.prog X.w X.K X.mg X.base CX k f fd ps sp) (hr : Room k X.A) (hg : X.A.guards = some []) (hb : Binds X.K fd ps ds) (hd : Vals dvs ds) (hx : Passes CX X E) :
    CallS X (.ref f) (fun _ vs H Q => sp (vs ++ dvs) H Q E) := by
  intro pins s σ H vs us Q I rv q
  have r2 := rv.append hd
  have hl : (us ++ ds).length = ps.length := r2.length.symm.trans (F.len _ _ _ _ q)
  refine wpAny_call (codeAny_mono (F.go X.A X.stack s H ⟨us, []⟩ (us ++ ds) (vs ++ dvs) Q E hr hg I.env0 (hb s us I.kIn hl) r2 q) fun r s' w => ?_)
  rcases endOf hx I w with ⟨u, rfl, z⟩ | ⟨e, rfl, z⟩
  · exact z
  · exact z
/-- repr(x), x data: None, a bool, an int, a text in lists and tuples -/
def rReprD (K : PySem.W.Frag) : List V → Hp → VK → Prop := fun vs H Q => ∃ (a : Addr) (d : PyData), vs = [.ref a] ∧ Dp K H (.ref a) d ∧ d.showable = true ∧ d.hasDict = false ∧ d.depth ≤ 40 ∧ d.shown.length ≤ sizeLine ∧ Q (.str d.shown) H
theorem call_reprD (hg : X.A.guards = some []) (hu : X.A.units + 64 < cLine) : CallR X (.builtin "repr") (rReprD X.K) := by
  intro pins s σ H vs us Q I rv q
  obtain ⟨a, d, rfl, hd, h1, h2, h3, h4, q⟩ := q
  cases rv with
  | cons ra rn =>
    cases rn
    obtain ⟨as, rd⟩ := Dp.reads I d _ _ hd ra
    cases ra
    refine PySem.repr_of_reads' rd h1 (PyData.noDict_hsm h2) hg (by omega) (fun _ _ e => e) (fun h' u tk kp => ?_) h4
    exact ⟨.str d.shown, H, I.kept (t' := tk) kp, ⟨u, rfl⟩, q⟩
/-- repr(o), str(o) by o's own method: what it promises, a text -/
def rOwnT (C : Addr) (r : List V → Hp → VK → Prop) : List V → Hp → VK → Prop := fun vs H Q => ∃ (a dx : Addr) (fs : List (Str × V)), vs = [.ref a] ∧ H a = some (.ins C dx fs) ∧ r [.ref a] H fun v G => ∃ y, v = .str y ∧ Q (.str y) G
theorem backT {pins : List (Addr × Obj)} {σ : St} {Q : VK} {u : Value} {s' : Shared} (z : EP X pins σ (fun v G => ∃ y, v = V.str y ∧ Q (.str y) G) u s') : PySem.W.StrBack (EP X pins σ Q) u s' := by
  obtain ⟨v, G, J, ru, y, rfl, q⟩ := z
  obtain ⟨t, rfl⟩ := ru
  exact ⟨.str y, G, J, ⟨t, rfl⟩, q⟩
theorem call_reprO {r : List V → Hp → VK → Prop} (hu : X.A.in1.units < cLine) (hs : PySem.W.findIn X.K (.ref C) "__repr__" = some (some (.ref f))) (hf : PySem.W.isFn X.K (.ref f) = true) (c : RunAt X X.A.in1 f r) : CallR X (.builtin "repr") (rOwnT C r) := by
  intro pins s σ H vs us Q I rv q
  obtain ⟨a, dx, fs, rfl, ha, q⟩ := q
  cases rv with
  | cons ra rn =>
    cases rn
    obtain ⟨mA, O, _⟩ := ins_get I.hok ha
    obtain ⟨od, J, _⟩ := O.look
    obtain ⟨m, hF⟩ := I.fr
    cases (show _ = Value.ref a from ra)
    exact PySem.W.repr_K hu hF I.ok.mod.kin J hs hf (thn (c pins s σ H [.ref a] [.ref a] _ I (.cons rfl .nil) q) fun u s1 z => backT z)
theorem call_strO {r : List V → Hp → VK → Prop} (hu : X.A.in1.in1.units < cLine) (hs : PySem.W.findIn X.K (.ref C) "__str__" = some (some (.ref f))) (hf : PySem.W.isFn X.K (.ref f) = true) (c : RunAt X X.A.in1.in1 f r) : CallR X (.type "str") (rOwnT C r) := by
  intro pins s σ H vs us Q I rv q
  obtain ⟨a, dx, fs, rfl, ha, q⟩ := q
  cases rv with
  | cons ra rn =>
    cases rn
    obtain ⟨mA, O, _⟩ := ins_get I.hok ha
    obtain ⟨od, J, _⟩ := O.look
    cases (show _ = Value.ref a from ra)
    exact PySem.W.kso_call hu I.kIn J hs hf (thn (c pins s σ H [.ref a] [.ref a] _ I (.cons rfl .nil) q) fun u s1 z => backT z)
/-- x == y by x's own __eq__, which answers True or False -/
def rOwnEq (C : Addr) (r : List V → Hp → VK → Prop) : R2 := fun x y H Q => ∃ (a dx b dy : Addr) (fs gs : List (Str × V)), x = .ref a ∧ H a = some (.ins C dx fs) ∧ y = .ref b ∧ H b = some (.ins C dy gs) ∧ r [.ref a, .ref b] H fun v G => ∃ c, v = .bl c ∧ Q (.bl c) G
theorem op_eqO {r : List V → Hp → VK → Prop} (hu : X.A.units < cLine) (hs : PySem.W.findIn X.K (.ref C) "__eq__" = some (some (.ref f))) (hf : PySem.W.isFn X.K (.ref f) = true) (c : RunAt X X.A f r) : OpR X (compareOp .Eq) (rOwnEq C r) := by
  intro pins s σ H x y v u Q I rx ry q
  obtain ⟨a, dx, b, dy, fs, gs, rfl, ha, rfl, hb, q⟩ := q
  obtain ⟨mA, O, _⟩ := ins_get I.hok ha
  obtain ⟨od, J, _⟩ := O.look
  obtain ⟨mB, O2, _⟩ := ins_get I.hok hb
  obtain ⟨od2, J2, _⟩ := O2.look
  obtain ⟨m, hF⟩ := I.fr
  cases (show v = Value.ref a from rx)
  cases (show u = Value.ref b from ry)
  show wpAny _ X.A (richCompare .Eq (.ref a) (.ref b)) _ _ _
  refine PySem.W.cmp_K (op := .Eq) (tb := .ref C) hu hF I.ok.mod.kin J J2.type (by simp [PySem.W.notFirst]) hs hf (thn (c pins s σ H [.ref a, .ref b] [.ref a, .ref b] _ I (.cons rfl (.cons rfl .nil)) q) fun z s1 hz => ?_)
  obtain ⟨v, G, I1, rz, c, rfl, q1⟩ := hz
  cases rz
  exact ⟨.bl c, G, I1, rfl, q1⟩
end
end Pk
end

section -- PkB
set_option linter.all false
set_option maxRecDepth 100000
set_option maxHeartbeats 2000000
/-! PkB: an exception that is caught and kept in a local name. -/
namespace Pk
open PySem PySem.Spec L2
open PyProof.Rows hiding St

/-- at a: an exception of this class, with this dict, that is done with -/
def exq (cls : Value) (d : Option Addr) (a : Addr) : HO := .ext fun h => ∃ (oe : Obj) (vs : Array Value), h.get? a = some oe ∧ oe.cls = cls ∧ oe.dict = d ∧ oe.data = .fields vs
theorem exq_ok {P : Program} {w : World} {H : Hp} {h : Heap} {a : Addr} {cls : Value} {d : Option Addr} {oe : Obj} {vs : Array Value} (e : h.get? a = some oe) (z : Zc cls d oe) (hd : oe.data = .fields vs) : ObjOk P w H h a (exq cls d a) :=
  ⟨⟨oe, vs, e, z.1, z.2, hd⟩, ⟨oe, e⟩, fun h1 h2 p k => by
    obtain ⟨o, us, q, r⟩ := p
    exact ⟨o, us, k _ q, r⟩⟩
theorem exq_at {P : Program} {w : World} {H : Hp} {h : Heap} {a : Addr} {cls : Value} {d : Option Addr} (hok : HOk P w H h) (q : H a = some (exq cls d a)) : ∃ (oe : Obj) (vs : Array Value), h.get? a = some oe ∧ oe.cls = cls ∧ oe.dict = d ∧ oe.data = .fields vs := by
  have x : ObjOk P w H h a (.ext fun h => ∃ (oe : Obj) (vs : Array Value), h.get? a = some oe ∧ oe.cls = cls ∧ oe.dict = d ∧ oe.data = .fields vs) := hok a _ q
  exact x.1
section
variable {X : Cx} {pins : List (Addr × Obj)} {σ : L2.St} {H : Hp} {s : Shared} {a : Addr} {o : HO}
/-- an object of ours that was not tracked is tracked from here on -/
theorem inv_hold (I : L2.Inv X pins σ H s) (na : H a = none) (n0 : X.s_0.heap.get? a = none) (nL : a ≠ X.env.locals) (nC : ∀ x c, X.env.cells.lookup x = some c → c ≠ a) (nP : ∀ p ∈ X.pn ++ pins, p.1 ≠ a)
    (new : ObjOk X.prog X.w (upd H a o) s.heap a o) : L2.Inv X pins σ (upd H a o) s := by
  have ne : ∀ {b : Addr} {u : HO}, H b = some u → b ≠ a := fun q => ne_of_none q na
  have ne0 : ∀ {b : Addr} {u : Obj}, X.s_0.heap.get? b = some u → b ≠ a := fun {b u} q z => by
    rw [z, n0] at q
    cases q
  refine ⟨I.ok, I.os, I.bare, ⟨I.base.keep, I.base.slot, fun b u q n hx => ?_, I.base.there, fun b xs q => ?_, fun b u xs q => ?_, fun b q ps => ?_⟩, I.loc, I.cell, ?_, fun x c q => ?_, fun p hp => ?_, fun b u q => ?_, I.len⟩
  · rw [upd_ne (ne0 q)]
    exact I.base.free b u q n hx
  · have z := I.base.tups b xs q
    rw [upd_ne (ne z)]
    exact z
  · have z := I.base.frzs b u xs q
    rw [upd_ne (ne z)]
    exact z
  · obtain ⟨m, z⟩ := I.base.tbls b q ps
    exact ⟨m, by rw [upd_ne (ne z)]; exact z⟩
  · rw [upd_ne (Ne.symm nL)]
    exact I.free
  · rw [upd_ne (nC x c q)]
    exact I.freeC x c q
  · obtain ⟨e, n, r⟩ := I.pin p hp
    exact ⟨e, by rw [upd_ne (nP p hp)]; exact n, r⟩
  · by_cases hb : b = a
    · subst hb
      rw [upd_same] at q
      cases q
      exact new
    · rw [upd_ne hb] at q
      exact (I.hok b u q).stay (fun _ _ _ z => z) (fun c z => by rw [upd_ne (ne z)]; exact z) fun c xs z => by rw [upd_ne (ne z)]; exact z
theorem inv_suite0 (I : L2.Inv X pins σ H s) (a : Addr) : L2.Inv (X.suite a (X.pn ++ pins)) [] σ H s :=
  ⟨I.ok.suite a (X.pn ++ pins), I.os, I.bare, I.base, I.loc, I.cell, I.free, I.freeC, fun p hp => I.pin p (by rw [List.append_nil] at hp; exact hp), I.hok, I.len⟩
theorem inv_unsuite0 {more : List (Addr × Obj)} (I : L2.Inv (X.suite a (X.pn ++ pins)) more σ H s) (ok : X.Ok) : L2.Inv X pins σ H s :=
  ⟨ok, I.os, I.bare, I.base, I.loc, I.cell, I.free, I.freeC, fun p hp => I.pin p (List.mem_append_left more hp), I.hok, I.len⟩
end
/-- what the clause wishes of an exception of the body; slot i is its name's -/
def wKeep (K : PySem.W.Frag) (c : Value) (i : Nat) (ts : Addr → Value → Option Addr → TS) (D : Ends) : WX := fun cls d σ H => PySem.W.exmOne K cls c = some true ∧
  ∀ a, H a = none → ts a cls d { nx := fun σ1 H1 => D.nx (σ1.set i none) H1, rt := D.rt, bk := fun σ1 H1 => D.bk (σ1.set i none) H1, ct := fun σ1 H1 => D.ct (σ1.set i none) H1 } (σ.set i (some (.ref a))) (upd H a (exq cls d a))
section
variable {X : Cx} {x n : Str} {c : Value} {i : Nat} {body suite : List Stmt} {b₀ : Stmt} {np pos pos1 : Pos} {tb : WX → TS} {ts : Addr → Value → Option Addr → TS}
/-- try: body / except x as n: suite, every exception of the body being an x; it stays tracked -/
theorem ps_try_keep (hs : X.stack = X.env :: X.outer) (hf : X.env.frame = some X.env.locals) (hex : X.ex = []) (hN : X.N.Nodup) (hi : X.N[i]? = some n) (hln : X.env.kindOf n = some .local) (hc : Gl X x) (hm : X.mg x = some c)
    (hb : ∀ (W : WX) (pn : List (Addr × Obj)) (xe : Value → Shared → Prop), Takes (X.tr pn xe) W → PassesOwn (model X.prog X.w) X.A X.env xe → PSs (X.tr pn xe) body (tb W))
    (hsu : ∀ (a : Addr) (cls : Value) (d : Option Addr) (pn : List (Addr × Obj)), PSs (X.suite a pn) (b₀ :: suite) (ts a cls d)) (hdb : (x == ("__debug__" : Str)) = false := by decide) :
    PS X (.Try body [.ExceptHandler (some (.Name x np)) (some n) (b₀ :: suite) pos1] [] [] pos) (fun D σ H => tb (wKeep X.K c i ts D) D σ H) := by
  refine ⟨fun pins s σ H D I h => ?_⟩
  have ok := I.ok
  have hfr : X.A.frames = some (X.env :: X.outer) := by rw [ok.frames, hs]
  refine wpAny_Try_except ?_
  refine wpAny_mono ((hb (wKeep X.K c i ts D) (X.pn ++ pins) (fun e s₁ => wpAny (model X.prog X.w) X.A (noteFrame e X.env) (fun _ s₂ => wpAny (model X.prog X.w) X.A (setFlight e none) (fun _ s₃ =>
    wpAny (model X.prog X.w) X.A (handleBy e X.env [.ExceptHandler (some (.Name x np)) (some n) (b₀ :: suite) pos1]) (SP X pins D) X.xe s₃) X.xe s₂) X.xe s₁) (fun u s' xx => ?_) PassesOwn.looking).run [] s σ H D (I.toTry _) h) (fun f s1 hsp => ?_) (fun e s1 he => he)
  · obtain ⟨a, B, sI, pins', σ', H', cls, d, rfl, J', nb, up, sky, na, os, ag, hb1, hyes⟩ := xx
    have J : L2.Inv X pins σ' H' sI := J'.ofTry ok
    rw [show (X.tr (X.pn ++ pins) _).stack = X.env :: X.outer from hs] at sky
    show wpAny (model X.prog X.w) X.A (noteFrame (.ref a) X.env) _ _ _
    refine Sky.land Zc.steady hfr hf sky fun h3 fl3 up3 => ?_
    have J3 := J.landed nb fl3.1 (s' := { s' with heap := h3 }) (up.trans up3) os ag
    obtain ⟨oe3, vs3, he3, hz3, hd3⟩ := fl3.there
    have nfr : a ∉ frs X.stack := fun hm1 => by
      rw [hs] at hm1
      obtain ⟨_, o1, e1, z⟩ := fl3.2.2.1.mem hm1
      rw [he3] at e1
      cases e1
      exact z _ hd3
    have nL : a ≠ X.env.locals := fun z => nfr (by rw [hs]; exact List.mem_filterMap.mpr ⟨X.env, List.mem_cons_self, by rw [hf, z]⟩)
    have nI : sI.heap.get? a = none := by
      cases q : sI.heap.get? a with
      | none => rfl
      | some o1 =>
        have z := nb a o1 q nfr
        rw [fl3.2.1] at z
        cases z
    have n0 : X.s_0.heap.get? a = none := by
      cases q : X.s_0.heap.get? a with
      | none => rfl
      | some o1 =>
        obtain ⟨o2, z⟩ := J.base.there a o1 q (by rw [hex]; exact List.not_mem_nil)
        rw [nI] at z
        cases z
    have nC : ∀ y v, X.env.cells.lookup y = some v → v ≠ a := fun y v q z => by
      obtain ⟨_, o1, e1, _⟩ := J.cell y v q
      rw [z, nI] at e1
      cases e1
    have nP : ∀ p ∈ X.pn ++ pins, p.1 ≠ a := fun p hp z => by
      have e1 := (J.pin p hp).1
      rw [z, nI] at e1
      cases e1
    refine wpAny_handleBy_cons (codeAny_handlers_test ?_) (by intro q; cases q)
    have LT : PySem.W.Looks (model X.prog X.w) h3 (typeOf (.ref a)) cls := fun A Q E s k q => wpAny_typeOf_ref (k _ _ he3) (by rw [hz3.1]; exact q)
    have S3 := inv_suite0 J3 a
    refine ld_glob (X := X.suite a (X.pn ++ pins)) S3 hc hm ((PySem.W.exm_one (M := model X.prog X.w) J3.kIn LT hb1).here ?_) hdb
    refine codeAny_handlers_suite_as ?_
    refine HandSPX.lands_againZ fl3 fun h4 fl4 up4 => ?_
    have J4 := J.landed nb fl4.1 (s' := { s' with heap := h4 }) ((up.trans up3).trans up4) os ag
    obtain ⟨oe4, vs4, he4, hz4, hd4⟩ := fl4.there
    have S4 := inv_suite0 (inv_hold J4 na n0 nL nC nP (exq_ok he4 hz4 hd4)) a
    refine store_ok (X := X.suite a (X.pn ++ pins)) (v := .ref a) S4 hN hi (.inl hln) rfl (fun s5 S5 => ?_) (.inr hln)
    refine wpAny_mono ((hsu a cls d (X.pn ++ pins)).run [] s5 _ _ _ S5 (hyes a na)) (fun f s6 hsp => ?_) (fun _ _ z => False.elim z)
    have fin : ∀ {σ6 : L2.St} {H6 : Hp} {Q : Shared → Prop}, L2.Inv (X.suite a (X.pn ++ pins)) [] σ6 H6 s6 → (∀ s7, L2.Inv X pins (σ6.set i none) H6 s7 → Q s7) →
        wpAny (model X.prog X.w) X.A (do bindName X.env n .none; unbindBehindTheSuite X.env n pos1) (fun _ s7 => Q s7) X.xe s6 := fun S6 hq => gone_ok (inv_unsuite0 S6 ok) hN hi hln hq
    cases f with
    | next =>
      obtain ⟨σ6, H6, S6, q6⟩ := hsp
      exact fin S6 fun s7 J7 => ⟨_, _, J7, q6⟩
    | brk =>
      obtain ⟨σ6, H6, S6, q6⟩ := hsp
      exact fin S6 fun s7 J7 => ⟨_, _, J7, q6⟩
    | cont =>
      obtain ⟨σ6, H6, S6, q6⟩ := hsp
      exact fin S6 fun s7 J7 => ⟨_, _, J7, q6⟩
    | ret u =>
      obtain ⟨v6, σ6, H6, S6, r6, q6⟩ := hsp
      exact fin S6 fun s7 J7 => ⟨_, _, _, J7, r6, q6⟩
  · cases f with
    | next =>
      obtain ⟨σ1, H1, J1, q⟩ := hsp
      exact wpAny_execs_nil ⟨σ1, H1, J1.ofTry ok, q⟩
    | brk =>
      obtain ⟨σ1, H1, J1, q⟩ := hsp
      exact ⟨σ1, H1, J1.ofTry ok, q⟩
    | cont =>
      obtain ⟨σ1, H1, J1, q⟩ := hsp
      exact ⟨σ1, H1, J1.ofTry ok, q⟩
    | ret u =>
      obtain ⟨v, σ1, H1, J1, r, q⟩ := hsp
      exact ⟨v, σ1, H1, J1.ofTry ok, r, q⟩
end
end Pk
end

section -- PkC
set_option linter.all false
set_option maxRecDepth 100000
set_option maxHeartbeats 4000000
/-! PkC: what is asked of a kept exception: its fields, its class. -/
namespace Pk
open PySem PySem.Spec L2
open PyProof.Rows hiding St
section
variable {X : Cx} {e : Expr} {te : TE} {pos : Pos} {n : Str}
/-- e.n, e a kept exception of the class at C -/
def tXq (K : PySem.W.Frag) (C : Addr) (n : Str) (te : TE) : TE := fun σ H Q => te σ H fun x H1 => ∃ (a dd : Addr) (fs : List (Str × V)) (v : V), x = .ref a ∧ H1 a = some (exq (.ref C) (some dd) a) ∧ H1 dd = some (.xd fs) ∧ fs.lookup n = some v ∧ Q v H1
theorem pe_xq {C : Addr} (T : XfC X.K C) (hno : PySem.W.findIn X.K (.ref C) n = some none) (he : PE X e te) (hb : attributeBase e n X.env (eval e X.env) = eval e X.env := by rfl) : PE X (.Attribute e n pos) (tXq X.K C n te) := by
  refine ⟨fun pins s σ H Q I h => attr_of hb (thn (he.run pins s σ H _ I h) fun u s1 ⟨x, H1, I1, rx, a, dd, fs, v, ex, ea, ed, l, q⟩ => ?_)⟩
  subst ex
  obtain rfl : u = Value.ref a := rx
  obtain ⟨oe, vs, ho, hcl, hdc, hda⟩ := exq_at I1.hok ea
  have hx : ObjOk X.prog X.w H1 s1.heap dd (.xd fs) := I1.hok dd _ ed
  obtain ⟨mA, hns, hr⟩ := hx
  obtain ⟨od, hod, hl⟩ := lookIn_ns hns
  obtain ⟨y, hy, ry⟩ := RelO.some_of (v := v) (o := mA n) (by rw [← l]; exact hr n)
  have J : PySem.W.InstAt s1.heap a oe C (some od) := ⟨ho, hcl, (by unfold PySem.W.notCls; rw [hda] <;> rfl), (by rw [hdc]; exact hod)⟩
  exact HandSPX.exc_get I1.kIn J T.ga T.gg T.exC (PySem.W.findObj_own T.hdC hno rfl (by rw [hl, hy])) (handed_of ry) ⟨v, H1, I1.tok _, ry, q⟩
end
end Pk
namespace PySem.W
open PySem PySem.Spec PySem.Calls PyProof.Rows
section
variable {prog : Program} {w : World} {A : Around} {E : Value → Shared → Prop} {s : Shared} {K : Frag} {x D : Addr} {ox : Obj} {od : Option Obj}
theorem pk_find_data {name : Str} {a g : Value} (hc : (clsIn K D).isSome = true) (ha : findIn K (.ref D) name = some (some a)) (hg : specialIn K a "__get__" = some (some g)) (ht : takesIn K a = some true) : findObj K D od name = some (.bind g a) := by
  obtain ⟨cd, hcd⟩ := Option.isSome_iff_exists.mp hc
  unfold findObj
  rw [hcd, Option.bind_some, ha, Option.bind_some]
  simp only [hg, ht, Option.bind_some]
theorem pk_class (C : L2.ExcC K D) {Q : Option Value → Shared → Prop} (X : K.In s.heap) (I : InstAt s.heap x ox D od) (h : Q (some (.ref D)) { s with toks := s.toks + 1 }) : wpAny (model prog w) A (getAttr? (.ref x) "__class__") Q E s := by
  have hf : findObj K D od "__class__" = some (.bind (.builtin "getset_descriptor.__get__") (.builtin "object.__class__")) := pk_find_data (by obtain ⟨cd, hc, _⟩ := any_some C.hd; rw [hc] <;> rfl) C.ha C.hn C.ht
  obtain ⟨hp, g, d, t, os⟩ := s
  have T0 := I.type (M := model prog w)
  have T1 := looks_findIn (M := model prog w) X C.hg
  have T2 := looks_findIn (M := model prog w) X C.hk
  have T3 := looks_find (M := model prog w) X I hf
  have sub : Looks (model prog w) hp (isInstance (.ref x) (.type "BaseException")) true := T0.andThen (looks_subIn X C.hs)
  have b2 : (Value.builtin "BaseException.__getattribute__" == Value.builtin "object.__getattribute__") = false := by decide +kernel
  have b1 : (onTheHeap (Value.ref D) && Value.builtin "BaseException.__getattribute__" == Value.builtin "object.__getattribute__") = false := by rw [b2]; rfl
  have b0 : (false && onTheHeap (Value.builtin "BaseException.__getattribute__")) = false := rfl
  unfold getAttr? getAttrBy? getAttrBy
  refine wpAny_bind (wpAny_mkText (wpAny_bind (wpAny_attempt (wpAny_holding (wpAny_bind (T0.at (wpAny_bind (T1.at ?_))))))))
  show wpAny _ _ (if (onTheHeap (Value.ref D) && Value.builtin "BaseException.__getattribute__" == Value.builtin "object.__getattribute__") = true then _ else _) _ _ _
  rw [b1, if_neg Bool.false_ne_true]
  unfold getAttrByItsOwn hookBefore
  refine wpAny_bind ?_
  rw [if_pos (show onTheHeap (Value.ref D) = true from rfl)]
  refine T2.at (wpAny_bind (wpAny_attempt (wpAny_holding ?_)))
  unfold callGetattribute
  rw [b0, if_neg Bool.false_ne_true]
  unfold boundAndCalled
  rw [PySem.F.excAttr_ValueError.ga.bind (.ref x)]
  refine wpAny_bind (wpAny_pure ?_)
  show wpAny _ _ (call (.builtin "BaseException.__getattribute__") [.ref x, .str "__class__" t]) _ _ _
  refine wpAny_call (codeAny_call_builtin PySem.F.excAttr_ValueError.ga.plain PySem.F.entry_bexc_ga ?_)
  refine @check_slot (model prog w) _ _ ⟨hp, g, d, t + 1, os⟩ "BaseException.__getattribute__" "BaseException" "__getattribute__" (.ref x) [.str "__class__" t] [] _ (by decide +kernel) (by decide +kernel) sub (PySem.F.args_bexc_ga (.ref x) (.str "__class__" t)) ?_
  unfold Builtin.«object.__getattribute__»
  refine wpAny_bind (wpAny_of_eq (a := ((Value.ref x : Value), [Value.str "__class__" t])) (by first | rfl | (simp only [slotArgs]; rfl)) (wpAny_bind (wpAny_pure (wpAny_bind (T0.at (wpAny_bind (T3.at ?_)))))))
  show wpAny _ _ (holding [Value.builtin "object.__class__"] (call (.builtin "getset_descriptor.__get__") [.builtin "object.__class__", .ref x, .ref D]) >>= ret) _ _ _
  refine wpAny_bind (wpAny_holding (wpAny_call (class_get (s := ⟨hp, g, d, t + 1, os⟩) (ox := ox) (od := od) X I C.hm (wpAny_pure ?_))))
  show wpAny _ _ (handedOut (.ref D)) _ _ _
  rw [handedOut_of (v := .ref D) rfl]
  first
    | exact wpAny_pure (wpAny_pure h)
    | exact wpAny_pure h
    | exact wpAny_pure (wpAny_bind (wpAny_pure (wpAny_pure h)))
theorem pk_kit (C : L2.ExcC K D) : KitX K (.ref x) (.ref D) (fun h => InstAt h x ox D od) where
  ty := fun _ _ _ I => I.type
  it := fun M h X I => by
    obtain ⟨cd, hcd, _⟩ := any_some C.hd
    unfold clsIn at hcd
    split at hcd
    · rename_i c1 d1 cd1 sl1 ho
      exact fun A1 Q1 E1 s1 k q => by unfold isType loadHead; exact wpAny_bind (wpAny_loadPart (k _ _ (X _ _ ho)) (wpAny_pure q))
    · cases hcd
  ne := fun h tp dd its n sl X htp => by
    obtain ⟨cd, hcd, _⟩ := any_some C.hd
    refine Bool.eq_false_iff.mpr fun q => ?_
    have e : D = tp := Value.ref.inj (beq_iff_eq.mp q)
    subst e
    unfold clsIn at hcd
    split at hcd
    · rename_i c1 d1 cd1 sl1 ho
      have z := (X _ _ ho).symm.trans htp
      cases z
    · cases hcd
  ca := fun X I k => pk_class C X I k
end
end PySem.W

namespace Pk
open PySem PySem.Spec L2
open PyProof.Rows hiding St
/-- isinstance(e, c), e a kept exception -/
def rIsQ (K : PySem.W.Frag) : List V → Hp → VK → Prop := fun xs H Q => ∃ (a C : Addr) (d : Option Addr) (c : V) (cv : Value) (b : Bool), xs = [.ref a, c] ∧ (∀ o, d = some o → ∃ fs, H o = some (.xd fs)) ∧ H a = some (exq (.ref C) d a) ∧ ClsV c cv ∧ ExcC K C ∧
  PySem.W.kitOne K (.ref C) cv = some b ∧ Q (.bl b) H
theorem call_isQ {X : Cx} : CallR X (.builtin "isinstance") (rIsQ X.K) := by
  intro pins s σ H xs us Q I r h
  obtain ⟨a, C, d, c, cv, b, rfl, hdd, ha, hc, T, e, q⟩ := h
  cases r with
  | cons rx rr =>
    cases rr with
    | cons rt rr =>
      cases rr
      cases rx
      have ec := hc.eq rt
      subst ec
      obtain ⟨oe, vs, ho, hcl, hdc, hda⟩ := exq_at I.hok ha
      have no : PySem.W.notCls oe = true := by unfold PySem.W.notCls; rw [hda] <;> rfl
      cases d with
      | none =>
        have J : PySem.W.InstAt s.heap a oe C none := ⟨ho, hcl, no, by rw [hdc]; trivial⟩
        exact PySem.W.kia_one (PySem.W.pk_kit T) I.kIn J e (fun z => nomatch z) fun tk => ⟨.bl b, H, I.tok tk, rfl, q⟩
      | some dd =>
        obtain ⟨fs, hf⟩ := hdd dd rfl
        have hx : ObjOk X.prog X.w H s.heap dd (.xd fs) := I.hok dd _ hf
        obtain ⟨mA, hns, _⟩ := hx
        obtain ⟨od, hod, _⟩ := lookIn_ns hns
        have J : PySem.W.InstAt s.heap a oe C (some od) := ⟨ho, hcl, no, by rw [hdc]; exact hod⟩
        exact PySem.W.kia_one (PySem.W.pk_kit T) I.kIn J e (fun z => nomatch z) fun tk => ⟨.bl b, H, I.tok tk, rfl, q⟩
end Pk
end

section -- PkD
set_option linter.all false
set_option maxRecDepth 100000
set_option maxHeartbeats 2000000
/-! PkD: numbers of any size; short words for readings; what a def of the module is. -/
namespace Pk
open PySem PySem.Spec L2
open PyProof.Rows hiding St

/-! ### numbers -/
/-- a divisor that is not 0, below 2 ^ 9000 -/
def CDivZ (_ j : Int) : Prop := j ≠ 0 ∧ j.natAbs.log2 < 9000
/-- a power that stays small enough -/
def CPowW (i j : Int) : Prop := 0 ≤ j ∧ j ≤ 1000 ∧ i.natAbs < 2 ^ 200
section
variable {X : Cx}
theorem op_fdivZ : OpR X (binaryOp .FloorDiv) (rI CDivZ fun i j => .int (i.fdiv j)) := opI fun _ _ _ _ _ _ _ hc q => floordiv_int hc.1 q (.inl (PyProof.noPylong_of_log2 hc.2))
theorem bits_small {i : Int} (h : i.natAbs < 2 ^ 200) : Builtin.Int.intBits i ≤ 200 := by
  have l := PySem.Flt.log2_lt_of (by decide : 0 < 200) h
  unfold Builtin.Int.intBits
  split
  · exact Nat.zero_le _
  · exact l
theorem op_powW : OpR X (binaryOp .Pow) (rI CPowW fun i j => .int (i ^ j.toNat)) := opI fun i j _ _ _ _ _ hc q => by
  obtain ⟨h0, h1, h2⟩ := hc
  have hb := bits_small h2
  refine pow_int h0 ?_ q
  have a1 : (Builtin.Int.intBits i : Int) ≤ 200 := by omega
  have a2 : (Builtin.Int.intBits i : Int) * j ≤ 200 * 1000 := Int.mul_le_mul a1 h1 h0 (by decide)
  exact Int.le_trans a2 (by decide)
end
theorem log2_lt {n a b : Nat} (h : n < 2 ^ a) (h0 : 0 < a) (hb : a ≤ b) : n.log2 < b := Nat.lt_of_lt_of_le (PySem.Flt.log2_lt_of h0 h) hb
theorem divZ {i j : Int} {a : Nat} (hj : j ≠ 0) (h : j.natAbs < 2 ^ a) (h0 : 0 < a) (hb : a ≤ 9000) : CDivZ i j := ⟨hj, log2_lt h h0 hb⟩
theorem fdiv_pos {i j : Int} (h : 0 < j) : i.fdiv j = i / j := Int.fdiv_eq_ediv_of_nonneg i (by omega)

/-! ### readings: an if whose test is known -/
theorem if_t {c : Bool} {A B : Prop} (hc : c = true) (h : A) : if c = true then A else B := by rw [if_pos hc]; exact h
theorem if_f {c : Bool} {A B : Prop} (hc : c = false) (h : B) : if c = true then A else B := by rw [hc]; exact iteF h
theorem if_b {c : Bool} {A B : Prop} (h1 : c = true → A) (h2 : c = false → B) : if c = true then A else B := by
  cases c with
  | true => exact iteT (h1 rfl)
  | false => exact iteF (h2 rfl)
/-- .. whose negation is tested -/
theorem if_nt {c : Bool} {A B : Prop} (hc : c = true) (h : B) : if (!c) = true then A else B := by subst hc; exact iteF h
theorem if_nf {c : Bool} {A B : Prop} (hc : c = false) (h : A) : if (!c) = true then A else B := by subst hc; exact iteT h

/-- a built-in class by its name -/
theorem pe_tyname {X : Cx} {x : Str} {pos : Pos} (n : String) (hm : X.mg x = none) (hv : bootBuiltins x = some (.type n)) (hg : Gl X x := by rfl) (hn : x ≠ "__name__" := by decide) (hdb : (x == ("__debug__" : Str)) = false := by decide) : PE X (.Name x pos) (tC (.ty n)) :=
  pe_bltn (v := .ty n) (u := .type n) hg hm hv rfl hn hdb

/-- a name of the module, by its value -/
theorem pe_gv {X : Cx} {x : Str} {pos : Pos} {v : V} (h : ∃ u, X.mg x = some u ∧ RelV v u) (hg : Gl X x := by rfl) (hdb : (x == ("__debug__" : Str)) = false := by decide) : PE X (.Name x pos) (tC v) := by
  obtain ⟨u, hm, r⟩ := h
  exact pe_glob hg hm r hdb

/-! ### heaps -/
theorem same_new {H : Hp} {p : Addr} {o : HO} (h : H p = none) : Same H (upd H p o) := fun a u e => by rw [upd_ne (ne_of_none e h)]; exact e
/-- a def of the module -/
structure Df (K : PySem.W.Frag) (mg : Str → Option Value) (x : Str) (f : Addr) : Prop where
  gl : mg x = some (.ref f)
  kp : PySem.W.keepIn K (.ref f) = true
theorem same_mut {H H2 : Hp} {p : Addr} {o : HO} (e : Same H H2) (h : H p = none) : Same H (upd H2 p o) := fun a u ha => by rw [upd_ne (ne_of_none ha h)]; exact e a u ha
theorem take_succ' {α : Type} {xs : List α} {i : Nat} {y : α} (h : xs[i]? = some y) : xs.take (i + 1) = xs.take i ++ [y] := by
  rw [List.take_succ, h] <;> rfl
/-- [e for x in ..] whose element is known turn by turn, and changes nothing -/
theorem lc_map {J : It} {n : Nat} {G : Hp → Prop} {Y : Nat → Hp → V → Hp → Prop} (w : Walk J n G Y) (hYH : ∀ i H x H2, Y i H x H2 → H2 = H) (xs : List V) (hn : xs.length = n) (hz : n < sizeLine)
    {σ : L2.St} {vs : List Nat} {j : Nat} {te : TE} {H1 : Hp} {D : Addr} {Qd : Hp → Prop} (hG : ∀ H, Same H1 H → G H) (hD : H1 D = none) (hw : ∀ x, wipe ((wipe σ vs).set j (some x)) vs = wipe σ vs)
    (he : ∀ i x y H, Same H1 H → Y i H x H → xs[i]? = some y → ∀ Qe : VK, (∀ H4, Same H H4 → Qe y H4) → te ((wipe σ vs).set j (some x)) H Qe) (hd : ∀ H, Same H1 H → H D = some (.lst xs) → Qd H) :
    ∃ W : Nat → Nat → Hp → Prop, (∃ m, W 0 m (upd H1 D (.lst []))) ∧ ∀ i m H, W i m H →
      (J.stop i H ∧ Qd H) ∨ (J.go i H ∧ ∃ Nx : Hp → Prop, (∀ H', Nx H' → ∃ m', m' < m ∧ W (i + 1) m' H') ∧ ∀ x H', J.yld i H x H' → gName j x (wipe σ vs) H' fun σ2 H2 => wipe σ2 vs = wipe σ vs ∧ tYes σ2 H2 fun b H3 =>
        if b = true then te σ2 H3 fun y H4 => ∃ acc, H4 D = some (.lst acc) ∧ acc.length < sizeLine ∧ Nx (upd H4 D (.lst (acc ++ [y]))) else Nx H3) := by
  refine lc_it w (fun i H => Same H1 H ∧ H D = some (.lst (xs.take i))) ⟨same_new hD, upd_same⟩ (fun i H _ p => hG H p.1) (fun i x H H2 hi p y => ?_) (fun H p => hd H p.1 (by rw [p.2, List.take_of_length_le (Nat.le_of_eq hn)]))
  have e := hYH i H x H2 y
  subst e
  obtain ⟨z, hz1⟩ : ∃ z, xs[i]? = some z := ⟨xs[i]'(by omega), List.getElem?_eq_getElem (by omega)⟩
  refine ⟨hw x, ?_⟩
  refine iteT (B := Same H1 H2 ∧ H2 D = some (HO.lst (xs.take (i + 1)))) ?_
  refine he i x z H2 p.1 y hz1 _ fun H4 e4 => ⟨xs.take i, e4 _ _ p.2, ?_, same_mut (p.1.trans e4) hD, ?_⟩
  · rw [List.length_take]
    omega
  · rw [take_succ' hz1]
    exact upd_same
end Pk
end

section -- PkM
set_option linter.all false
set_option maxRecDepth 100000
set_option maxHeartbeats 2000000
/-! PkM: texts of numbers, as lists of signs. -/
namespace Pk
open PySem PySem.Spec L2
open PyProof.Rows hiding St
open TL (tl numL)

def numI (n : Int) : List Nat := if n < 0 then 45 :: numL n.natAbs else numL n.toNat
theorem tl_neg (m : Nat) : tl (Str.ofString (toString (Int.negSucc m))) = 45 :: numL (m + 1) := by
  rw [TL.tl_ofString]
  show (("-" ++ Nat.repr (m + 1) : String).toList).map Char.toNat = _
  rw [String.toList_append, List.map_append]
  have h := TL.tl_num (m + 1)
  rw [TL.tl_ofString] at h
  have h2 : (Nat.repr (m + 1)).toList.map Char.toNat = numL (m + 1) := h
  rw [h2]
  rfl
theorem tl_numI (n : Int) : tl (Str.ofString (toString n)) = numI n := by
  unfold numI
  cases n with
  | ofNat m =>
    have h0 : ¬ Int.ofNat m < 0 := fun z => absurd z (Int.not_lt.mpr (Int.natCast_nonneg m))
    rw [if_neg h0]
    exact TL.tl_num m
  | negSucc m =>
    rw [if_pos (Int.negSucc_lt_zero m), tl_neg]
    rfl
theorem numI_len {n : Int} {k : Nat} (hk : 0 < k) (h : n.natAbs < 10 ^ k) : (numI n).length ≤ k + 1 := by
  unfold numI
  split
  · rw [List.length_cons]
    exact Nat.succ_le_succ (TL.numL_len hk h)
  · have e : n.toNat = n.natAbs := by omega
    rw [e]
    exact Nat.le_succ_of_le (TL.numL_len hk h)
theorem two10 : 2 ^ 1000 ≤ 10 ^ 400 := by decide +kernel
theorem lt10 {n : Nat} (h : n.log2 < 1000) : n < 10 ^ 400 := by
  by_cases h0 : n = 0
  · subst h0
    exact Nat.pow_pos (by decide)
  · exact Nat.lt_of_lt_of_le ((Nat.log2_lt h0).mp h) two10
theorem numLen {n : Int} (h : n.natAbs.log2 < 1000) : (Str.ofString (toString n)).length ≤ 401 := by
  rw [TL.len_tl, tl_numI]
  exact numI_len (by decide) (lt10 h)
/-! ### digits -/
def isDig (c : Nat) : Bool := decide (48 ≤ c) && decide (c ≤ 57)
theorem tl_digits : tl (Str.ofString "0123456789") = [48, 49, 50, 51, 52, 53, 54, 55, 56, 57] := by decide +kernel
theorem mem_digits (c : Nat) : decide (c ∈ (Str.ofString "0123456789").cps.toList) = isDig c := by
  have e : (Str.ofString "0123456789").cps.toList = [48, 49, 50, 51, 52, 53, 54, 55, 56, 57] := tl_digits
  rw [e]
  unfold isDig
  rw [Bool.eq_iff_iff]
  simp only [decide_eq_true_eq, Bool.and_eq_true, List.mem_cons, List.not_mem_nil, or_false]
  omega
/-- the text of a whole number from 0 on, of at most 60 digits -/
def isWh (l : List Nat) : Bool := (decide (1 ≤ l.length) && decide (l.length ≤ 60)) && (l.all isDig && (decide (l = [48]) || !decide (l.head? = some 48)))
theorem all_map {l : List Nat} : (l.map isDig).all id = l.all isDig := by rw [List.all_map]; rfl
theorem wh_of (z : Str) (b : Bool) (hb : (!(decide ((1 : Int) ≤ (z.length : Int)) && decide ((z.length : Int) ≤ 60)) || !(((tl z).map isDig).all id)) = b) :
    isWh (tl z) = (!b && (decide (tl z = [48]) || !decide ((tl z).head? = some 48))) := by
  have e1 : decide ((1 : Int) ≤ (z.length : Int)) = decide (1 ≤ (tl z).length) := by rw [TL.len_tl]; rw [Bool.eq_iff_iff]; simp only [decide_eq_true_eq]; omega
  have e2 : decide ((z.length : Int) ≤ 60) = decide ((tl z).length ≤ 60) := by rw [TL.len_tl]; rw [Bool.eq_iff_iff]; simp only [decide_eq_true_eq]; omega
  rw [e1, e2, all_map] at hb
  unfold isWh
  cases h1 : decide (1 ≤ (tl z).length) <;> cases h2 : decide ((tl z).length ≤ 60) <;> cases h3 : (tl z).all isDig <;> rw [h1, h2, h3] at hb <;> subst hb <;> rfl
theorem wh_ne {z : Str} (hb : (!(decide ((1 : Int) ≤ (z.length : Int)) && decide ((z.length : Int) ≤ 60)) || !(((tl z).map isDig).all id)) = false) : 1 ≤ (tl z).length := by
  have h : decide ((1 : Int) ≤ (z.length : Int)) = true := by
    cases e : decide ((1 : Int) ≤ (z.length : Int)) with
    | true => rfl
    | false => rw [e] at hb; simp at hb
  have := of_decide_eq_true h
  rw [TL.len_tl] at this
  omega
theorem str_eq_iff {x y : Str} : x = y ↔ tl x = tl y := ⟨fun h => by rw [h], TL.ext_tl⟩
theorem dec_strT (x y : Str) : decide (V.str x = V.str y) = decide (tl x = tl y) := by
  rw [Bool.eq_iff_iff]
  simp only [decide_eq_true_eq, V.str.injEq]
  exact str_eq_iff
theorem tl_one (c : Nat) : tl ⟨#[c]⟩ = [c] := rfl
theorem tl_lit {s : String} {l : List Nat} (h : tl (Str.ofString s) = l := by decide +kernel) : tl (Str.ofString s) = l := h
theorem sz {n : Nat} (h : n ≤ 1000000) : n ≤ sizeLine := Nat.le_trans h (by decide)
theorem szl {n : Nat} (h : n < 1000000) : n < sizeLine := Nat.lt_of_lt_of_le h (by decide)
theorem len_empty : Str.empty.length = 0 := rfl
end Pk
end

section -- PkE
set_option linter.all false
set_option maxRecDepth 100000
set_option maxHeartbeats 2000000
/-! PkE: what evaluates to what, further; and what draws from the pen. -/
namespace Pk
open PySem PySem.Spec L2 Evl
open PyProof.Rows hiding St
open TL (tl numL)

/-! ### named readings -/
def rAddT : R2 := fun x y H Q => ∃ i j : Str, x = .str i ∧ y = .str j ∧ i.length + j.length ≤ sizeLine ∧ Q (.str (i ++ j)) H
def rIsN : R2 := fun x y H Q => y = .non ∧ Q (.bl (decide (x = .non))) H
def rNotN : R2 := fun x y H Q => y = .non ∧ Q (.bl (!decide (x = .non))) H
def rLenT : List V → Hp → VK → Prop := fun xs H Q => ∃ z : Str, xs = [.str z] ∧ z.length ≤ sizeLine ∧ Q (.int z.length) H
def rAbs : List V → Hp → VK → Prop := fun xs H Q => ∃ i : Int, xs = [.int i] ∧ Q (.int (if i < 0 then -i else i)) H
def rInt1 : List V → Hp → VK → Prop := fun xs H Q => (∃ i, xs = [.int i] ∧ Q (.int i) H) ∨ ∃ k, xs = [.bl k] ∧ Q (.int (if k then 1 else 0)) H
def rIntT : List V → Hp → VK → Prop := fun xs H Q => ∃ (a : Str) (n : Int), xs = [.str a] ∧ PySem.intText? a = some n ∧ a.length ≤ 640 ∧ Q (.int n) H
def rStrI : List V → Hp → VK → Prop := fun xs H Q => ∃ i : Int, xs = [.int i] ∧ i.natAbs.log2 < 1920 ∧ Q (.str (toString i)) H
section
variable {X : Cx}
theorem op_addT : OpR X (binaryOp .Add) rAddT := op_add_str
theorem op_isN' : OpR X (compareOp .Is) rIsN := op_isN
theorem op_notN' : OpR X (compareOp .IsNot) rNotN := op_notN
theorem call_lenT : CallR X (.builtin "len") rLenT := call_len_str
theorem call_lenL : CallR X (.builtin "len") (rLenS X.K) := call_len_seq
theorem call_absI : CallR X (.builtin "abs") rAbs := call_abs
theorem call_intI : CallR X (.type "int") rInt1 := call_int1
theorem call_intT : CallR X (.type "int") rIntT := call_int_str
theorem call_strI : CallR X (.type "str") rStrI := call_str_int
end
section
variable {K : PySem.W.Frag} {σ : L2.St} {H H' : Hp} {ta tb te tx : TE} {t u : TT} {x y z v : V} {r : R2}
theorem same_ex (e : Same H H') : Ex H H' := e
theorem rv_addT {a b : Str} (h : a.length + b.length ≤ 1000000) : RV rAddT (.str a) (.str b) H (.str (a ++ b)) := fun H1 _ _ q => ⟨a, b, rfl, rfl, sz h, q H1 (Ex.refl H1)⟩
theorem rv_isN : RV rIsN x .non H (.bl (decide (x = .non))) := fun H1 _ _ q => ⟨rfl, q H1 (Ex.refl H1)⟩
theorem rv_notN : RV rNotN x .non H (.bl (!decide (x = .non))) := fun H1 _ _ q => ⟨rfl, q H1 (Ex.refl H1)⟩
theorem rv_inS {c : Nat} {z : Str} : RV rInS (.str ⟨#[c]⟩) (.str z) H (.bl (decide (c ∈ z.cps.toList))) := fun H1 _ _ q => ⟨c, z, rfl, rfl, q H1 (Ex.refl H1)⟩
theorem rv_notInS {c : Nat} {z : Str} : RV rNotInS (.str ⟨#[c]⟩) (.str z) H (.bl (!decide (c ∈ z.cps.toList))) := fun H1 _ _ q => ⟨c, z, rfl, rfl, q H1 (Ex.refl H1)⟩
theorem rc_lenT {a : Str} (h : a.length ≤ 1000000) : RC rLenT [.str a] H (.int (a.length : Int)) := fun H1 _ _ q => ⟨a, rfl, sz h, q H1 (Ex.refl H1)⟩
theorem rc_abs {i : Int} : RC rAbs [.int i] H (.int (if i < 0 then -i else i)) := fun H1 _ _ q => ⟨i, rfl, q H1 (Ex.refl H1)⟩
theorem rc_int {i : Int} : RC rInt1 [.int i] H (.int i) := fun H1 _ _ q => .inl ⟨i, rfl, q H1 (Ex.refl H1)⟩
theorem rc_intT {a : Str} {n : Int} (h : PySem.intText? a = some n) (hl : a.length ≤ 640) : RC rIntT [.str a] H (.int n) := fun H1 _ _ q => ⟨a, n, rfl, h, hl, q H1 (Ex.refl H1)⟩
theorem rc_strI {i : Int} (h : i.natAbs.log2 < 1920) : RC rStrI [.int i] H (.str (Str.ofString (toString i))) := fun H1 _ _ q => ⟨i, rfl, h, q H1 (Ex.refl H1)⟩
theorem rc_gcd {a b : Int} : RC rGcd [.int a, .int b] H (.int ((Nat.gcd a.natAbs b.natAbs : Nat) : Int)) := fun H1 _ _ q => ⟨a, b, rfl, q H1 (Ex.refl H1)⟩
theorem ev_fld {a C dx : Addr} {fs : List (Str × V)} {f : Str} (h : Ev te σ H (.ref a)) (ha : H a = some (.ins C dx fs)) (c : Cls K C) (n : NoAttr K C f) (l : fs.lookup f = some v) : Ev (tFld K te f) σ H v := fun H1 e _ q =>
  h H1 e _ fun H2 e2 => ⟨a, C, dx, fs, v, rfl, e2 _ _ (e _ _ ha), c, n, l, q H2 e2⟩
theorem ev_cval {C : Addr} {mc w : Value} {f : Str} (h : Ev te σ H (.ref C)) (rd : ClX.CRead K C mc) (k : ClX.CVal K C mc f v w) : Ev (ClX.tCVal K te f) σ H v := fun H1 e _ q =>
  h H1 e _ fun H2 e2 => ⟨C, mc, v, w, rfl, rd, k, q H2 e2⟩
theorem et_chain {r r' : R2} {tc : TE} {a b : Bool} {w : V} (ha : Ev ta σ H x) (hb : Ev tb σ H y) (hr : RV r x y H (.bl a)) (hc : Ev tc σ H w) (hr' : RV r' y w H (.bl b)) : EvT (tTest (tChain r r' ta tb tc)) σ H (a && b) := fun H1 e Q q =>
  ha H1 e _ fun H2 e2 => hb H2 (e.trans e2) _ fun H3 e3 => hr H3 ((e.trans e2).trans e3) _ fun H4 e4 => ⟨a, rfl, by
    cases a with
    | false => exact iteF ⟨false, rfl, q H4 ((e2.trans e3).trans e4)⟩
    | true =>
      refine iteT (hc H4 (((e.trans e2).trans e3).trans e4) _ fun H5 e5 => hr' H5 ((((e.trans e2).trans e3).trans e4).trans e5) _ fun H6 e6 => ⟨b, rfl, ?_⟩)
      exact q H6 ((((e2.trans e3).trans e4).trans e5).trans e6)⟩
/-- a call of a def that promises a value -/
theorem ev_cs {r : L2.St → List V → Hp → VK → Prop} {ta : TA} {vs : List V} (h : EvA ta σ H vs) (hr : ∀ H1, Ex H H1 → ∀ Q : VK, (∀ H2, Ex H1 H2 → Q z H2) → r σ vs H1 Q) : Ev (tCS r ta) σ H z := fun H1 e Q q =>
  h H1 e _ fun H2 e2 => hr H2 (e.trans e2) Q fun H3 e3 => q H3 (e2.trans e3)
/-- all(..), any(..) of a list of truth values -/
theorem ev_all {ta : TE} {bs : List Bool} (h : EvL ta σ H (bs.map V.bl)) : Ev (tCB (rAll K) (tCons ta tNil)) σ H (.bl (bs.all id)) := fun H1 e Q q =>
  h H1 e _ fun p H2 _ e2 h2 => ⟨p, bs, rfl, sq_of h2, q H2 e2⟩
/-- a comprehension over a text -/
theorem el_lcS {z : Str} {tl : TE} {j : Nat} {vs : List Nat} (xs : List V) (h : Ev tl σ H (.str z)) (hn : xs.length = z.cps.size) (hz : z.cps.size < 1000000) (hw : ∀ x, wipe ((wipe σ vs).set j (some x)) vs = wipe σ vs)
    (he : ∀ (i c : Nat) (y : V), z.cps[i]? = some c → xs[i]? = some y → ∀ H1, Ex H H1 → Ev te ((wipe σ vs).set j (some (.str ⟨#[c]⟩))) H1 y) : EvL (tLc (iStr tl) (gName j) tYes te vs) σ H xs := fun H0 e Q q => h H0 e _ fun H1 e1 => ⟨z, rfl, fun Dl hD =>
  lc_map walk_str (fun _ _ _ _ y => y.1) xs hn (szl hz) (fun _ _ => trivial) hD hw (fun i x y H2 e2 yy hy Qe qe => by
    obtain ⟨_, c, hc, rfl⟩ := yy
    exact he i c y hc hy H2 ((e.trans e1).trans e2) H2 (Ex.refl H2) Qe qe) fun H2 e2 h2 => q Dl H2 (fresh_back e1 hD) (e1.trans e2) h2⟩
/-- a comprehension over a list -/
theorem el_lcM {a : Addr} {ys : List V} {tl : TE} {j : Nat} {vs : List Nat} (xs : List V) (h : Ev tl σ H (.ref a)) (ha : SqL K H a ys) (hn : xs.length = ys.length) (hz : ys.length < 1000000) (hw : ∀ x, wipe ((wipe σ vs).set j (some x)) vs = wipe σ vs)
    (he : ∀ (i : Nat) (x y : V), ys[i]? = some x → xs[i]? = some y → ∀ H1, Ex H H1 → Ev te ((wipe σ vs).set j (some x)) H1 y) : EvL (tLc (iList K tl) (gName j) tYes te vs) σ H xs := fun H0 e Q q => h H0 e _ fun H1 e1 => ⟨a, rfl, ⟨ys, ex_l (e.trans e1) ha⟩, fun Dl hD =>
  lc_map walk_list (fun _ _ _ _ y => y.1) xs hn (szl hz) (fun H2 e2 => ex_l ((e.trans e1).trans e2) ha) hD hw (fun i x y H2 e2 yy hy Qe qe => he i x y yy.2 hy H2 ((e.trans e1).trans e2) H2 (Ex.refl H2) Qe qe)
    fun H2 e2 h2 => q Dl H2 (fresh_back e1 hD) (e1.trans e2) h2⟩
/-- .. over a list that is made on the way -/
theorem el_lcN {ys : List V} {tl : TE} {j : Nat} {vs : List Nat} (xs : List V) (h : EvL tl σ H ys) (hn : xs.length = ys.length) (hz : ys.length < 1000000) (hw : ∀ x, wipe ((wipe σ vs).set j (some x)) vs = wipe σ vs)
    (he : ∀ (i : Nat) (x y : V), ys[i]? = some x → xs[i]? = some y → ∀ H1, Ex H H1 → Ev te ((wipe σ vs).set j (some x)) H1 y) : EvL (tLc (iList K tl) (gName j) tYes te vs) σ H xs := fun H0 e Q q => h H0 e _ fun a H1 _ e1 ha => ⟨a, rfl, ⟨ys, sq_of ha⟩, fun Dl hD =>
  lc_map walk_list (fun _ _ _ _ y => y.1) xs hn (szl hz) (fun H2 e2 => ex_l e2 (sq_of ha)) hD hw (fun i x y H2 e2 yy hy Qe qe => he i x y yy.2 hy H2 ((e.trans e1).trans e2) H2 (Ex.refl H2) Qe qe)
    fun H2 e2 h2 => q Dl H2 (fresh_back e1 hD) (e1.trans e2) h2⟩
/-- a split text: a new list of texts -/
def tSplit (ta tb : TE) : TE := tM1 (fun x xs H Q => ∃ a b, x = .str a ∧ xs = [.str b] ∧ (b.length == 0) = false ∧ a.length + 2 ≤ sizeLine ∧ rNewStrs (Txt.split a b) H Q) ta tb
theorem el_split {a b : Str} (ha : Ev ta σ H (.str a)) (hb : Ev tb σ H (.str b)) (h0 : (b.length == 0) = false) (hl : a.length ≤ 900000) : EvL (tSplit ta tb) σ H ((Txt.split a b).map V.str) := fun H1 e Q q =>
  ha H1 e _ fun H2 e2 => ⟨⟨a, rfl⟩, hb H2 (e.trans e2) _ fun H3 e3 => ⟨a, b, rfl, rfl, h0, sz (by omega), fun p hp => q p _ (fresh_back (e2.trans e3) hp) ((e2.trans e3).trans (Ex.new hp)) upd_same⟩⟩
theorem pe_splitN {X : Cx} {o e : Expr} {to te : TE} {apos pos : Pos} (ho : PE X o to) (he : PE X e te) (hs : starEach [e] X.env = [(false, eval e X.env)] := by rfl) (hb : attributeBase o "split" X.env (eval o X.env) = eval o X.env := by rfl) (hl : (apos.endLine == pos.line) = true := by rfl) :
    PE X (.Call (.Attribute o "split" apos) [e] [] pos) (tSplit to te) := pe_split ho he hs hb hl
/-- a text's method of one argument -/
theorem ev_starts {a b : Str} (ha : Ev ta σ H (.str a)) (hb : Ev tb σ H (.str b)) : Ev (tM1 (fun x xs H Q => ∃ a b, x = .str a ∧ xs = [.str b] ∧ Q (.bl (Txt.startswith a b)) H) ta tb) σ H (.bl (Txt.startswith a b)) := fun H1 e Q q =>
  ha H1 e _ fun H2 e2 => ⟨⟨a, rfl⟩, hb H2 (e.trans e2) _ fun H3 e3 => ⟨a, b, rfl, rfl, q H3 (e2.trans e3)⟩⟩
/-- a slice of a text -/
theorem ev_slS {a : Str} {lo hi : Option Int} {t1 t2 : TO} (ha : Ev ta σ H (.str a)) (h1 : EvO t1 σ H lo) (h2 : EvO t2 σ H hi) (hl : a.length ≤ 1000000) : Ev (tSl rSlS ta t1 t2) σ H (.str (cutS a lo hi)) := fun H1 e Q q =>
  ha H1 e _ fun H2 e2 => h1 H2 (e.trans e2) _ fun H3 e3 => h2 H3 ((e.trans e2).trans e3) _ fun H4 e4 => ⟨a, rfl, sz hl, q H4 ((e2.trans e3).trans e4)⟩
theorem el_catLL {xs ys : List V} (ha : EvL ta σ H xs) (hb : EvL tb σ H ys) (hl : xs.length + ys.length ≤ 1000000) : EvL (tOp rCat ta tb) σ H (xs ++ ys) := fun H1 e Q k =>
  ha H1 e _ fun p H2 n2 e2 hp => hb H2 (e.trans e2) _ fun q H3 _ e3 hq => ⟨p, q, xs, ys, rfl, rfl, e3 p _ hp, hq, sz hl, fun l hl => k l _ (fresh_back (e2.trans e3) hl) ((e2.trans e3).trans (Ex.new hl)) upd_same⟩
end
end Pk
end

section -- PkN
set_option linter.all false
set_option maxRecDepth 100000
set_option maxHeartbeats 2000000
/-! PkN: texts cut at a sign; the text of a ratio, read in two ways. -/
namespace Pk
open PySem PySem.Spec L2
open PyProof.Rows hiding St
open TL (tl numL)

/-! ### cut at one sign -/
abbrev cutAt (c : Nat) (l : List Nat) : List (List Nat) := TL.spl [c] 0 [] l
theorem spl_cons (c x : Nat) (acc r : List Nat) : TL.spl [c] 0 acc (x :: r) = if x = c then acc :: TL.spl [c] 0 [] r else TL.spl [c] 0 (acc ++ [x]) r := by
  have h : TL.pre [c] (x :: r) = decide (x = c) := by
    show ((x :: r).take 1 == [c]) = decide (x = c)
    rw [Bool.eq_iff_iff]
    simp
  by_cases e : x = c
  · rw [if_pos e, TL.spl_hit (by rw [h, decide_eq_true e])]
    rfl
  · rw [if_neg e, TL.spl_miss (by rw [h, decide_eq_false e])]
theorem spl_end (c : Nat) (acc : List Nat) : TL.spl [c] 0 acc [] = [acc] := TL.spl_nil _ _ _
/-- an own walk that cuts -/
def cutStep (c : Nat) (st : List (List Nat) × List Nat) (x : Nat) : List (List Nat) × List Nat := if x = c then (st.1 ++ [st.2], []) else (st.1, st.2 ++ [x])
theorem cut_walk (c : Nat) : ∀ (l : List Nat) (ws : List (List Nat)) (acc : List Nat), (l.foldl (cutStep c) (ws, acc)).1 ++ [(l.foldl (cutStep c) (ws, acc)).2] = ws ++ TL.spl [c] 0 acc l
  | [], ws, acc => by rw [spl_end]; rfl
  | x :: r, ws, acc => by
    rw [List.foldl_cons, spl_cons]
    by_cases e : x = c
    · have h : cutStep c (ws, acc) x = (ws ++ [acc], []) := if_pos e
      rw [h, cut_walk c r, if_pos e, List.append_assoc]
      rfl
    · have h : cutStep c (ws, acc) x = (ws, acc ++ [x]) := if_neg e
      rw [h, cut_walk c r, if_neg e]
theorem spl_len (c : Nat) : ∀ (l acc p : List Nat), p ∈ TL.spl [c] 0 acc l → p.length ≤ acc.length + l.length
  | [], acc, p, h => by
    rw [spl_end] at h
    have e := List.mem_singleton.mp h
    subst e
    exact Nat.le_add_right _ _
  | x :: r, acc, p, h => by
    rw [spl_cons] at h
    rw [List.length_cons]
    split at h
    · rcases List.mem_cons.mp h with e | h
      · subst e
        omega
      · have := spl_len c r [] p h
        rw [List.length_nil] at this
        omega
    · have := spl_len c r (acc ++ [x]) p h
      rw [List.length_append, List.length_cons, List.length_nil] at this
      omega
theorem spl_pos (c : Nat) : ∀ (l acc : List Nat), 1 ≤ (TL.spl [c] 0 acc l).length
  | [], acc => by rw [spl_end]; exact Nat.le_refl 1
  | x :: r, acc => by
    rw [spl_cons]
    split
    · rw [List.length_cons]
      omega
    · exact spl_pos c r _
theorem cut_none {c : Nat} {l : List Nat} (h : c ∉ l) : cutAt c l = [l] := by
  have := TL.spl_last1 (s := c) (S := []) (p := l) (acc := []) h
  rw [List.nil_append] at this
  exact this
theorem cut_some {c : Nat} {p q : List Nat} (h : c ∉ p) : cutAt c (p ++ c :: q) = p :: cutAt c q := by
  have := TL.spl_part1 (s := c) (S := []) (p := p) (rest := q) (acc := []) h
  rw [List.nil_append] at this
  exact this
theorem cut_at {c : Nat} : ∀ {l : List Nat}, c ∈ l → ∃ p q, l = p ++ c :: q ∧ c ∉ p
  | x :: r, h => by
    by_cases e : x = c
    · subst e
      exact ⟨[], r, rfl, List.not_mem_nil⟩
    · have h2 : c ∈ r := by
        rcases List.mem_cons.mp h with z | z
        · exact absurd z.symm e
        · exact z
      obtain ⟨p, q, h3, h4⟩ := cut_at h2
      refine ⟨x :: p, q, by rw [h3]; rfl, fun z => ?_⟩
      rcases List.mem_cons.mp z with z | z
      · exact e z.symm
      · exact h4 z
theorem cut_two {c : Nat} {l : List Nat} (h : c ∈ l) : 2 ≤ (cutAt c l).length := by
  obtain ⟨p, q, e, hp⟩ := cut_at h
  rw [e, cut_some hp, List.length_cons]
  exact Nat.succ_le_succ (spl_pos c q [])

/-! ### numbers -/
abbrev val (l : List Nat) : Nat := NumText.digitsVal l
theorem val_snoc (l : List Nat) (d : Nat) : val (l ++ [d]) = val l * 10 + (d - 48) := by
  show (l ++ [d]).foldl (fun acc c => acc * 10 + (c - 48)) 0 = l.foldl (fun acc c => acc * 10 + (c - 48)) 0 * 10 + (d - 48)
  rw [List.foldl_append]
  rfl
theorem isDig_iff {c : Nat} : isDig c = true ↔ 48 ≤ c ∧ c ≤ 57 := by
  unfold isDig
  rw [Bool.and_eq_true, decide_eq_true_eq, decide_eq_true_eq]
theorem fold_le : ∀ (l : List Nat) (a : Nat), a ≤ l.foldl (fun acc c => acc * 10 + (c - 48)) a
  | [], a => Nat.le_refl _
  | c :: r, a => by
    rw [List.foldl_cons]
    have := fold_le r (a * 10 + (c - 48))
    omega
theorem val_pos {c : Nat} {r : List Nat} (h : isDig c = true) (h0 : c ≠ 48) : 0 < val (c :: r) := by
  have := isDig_iff.mp h
  have := fold_le r (0 * 10 + (c - 48))
  show 0 < (c :: r).foldl (fun acc c => acc * 10 + (c - 48)) 0
  rw [List.foldl_cons]
  omega
/-- digits that do not begin with 0 are the text of their number -/
theorem numL_val : ∀ (n : Nat) (l : List Nat), l.length = n → l.all isDig = true → l.head? ≠ some 48 → l ≠ [] → numL (val l) = l
  | 0, l, hn, _, _, h0 => absurd (List.length_eq_zero_iff.mp hn) h0
  | n + 1, l, hn, hd, h48, h0 => by
    obtain ⟨a, d, rfl⟩ : ∃ a d, l = a ++ [d] := ⟨l.dropLast, l.getLast h0, (List.dropLast_concat_getLast h0).symm⟩
    rw [List.all_append, Bool.and_eq_true] at hd
    have hd2 : isDig d = true := by
      have := hd.2
      rw [List.all_cons, Bool.and_eq_true] at this
      exact this.1
    have dd := isDig_iff.mp hd2
    rw [val_snoc]
    cases a with
    | nil =>
      have e : val [] = 0 := rfl
      rw [e, TL.numL_lt (by omega)]
      show [48 + (0 * 10 + (d - 48))] = [d]
      have : 48 + (0 * 10 + (d - 48)) = d := by omega
      rw [this]
    | cons c r =>
      have hc : isDig c = true := by
        have := hd.1
        rw [List.all_cons, Bool.and_eq_true] at this
        exact this.1
      have h48' : c ≠ 48 := fun z => h48 (by rw [z]; rfl)
      have ih := numL_val n (c :: r) (by rw [List.length_append] at hn; simpa using hn) hd.1 (by simpa using h48') (List.cons_ne_nil _ _)
      have p := val_pos (r := r) hc h48'
      rw [TL.numL_step (by omega)]
      have e1 : (val (c :: r) * 10 + (d - 48)) / 10 = val (c :: r) := by omega
      have e2 : 48 + (val (c :: r) * 10 + (d - 48)) % 10 = d := by omega
      rw [e1, e2, ih]
theorem isWh_parts {l : List Nat} (h : isWh l = true) : 1 ≤ l.length ∧ l.length ≤ 60 ∧ l.all isDig = true ∧ (l = [48] ∨ l.head? ≠ some 48) := by
  unfold isWh at h
  simp only [Bool.and_eq_true, Bool.or_eq_true, decide_eq_true_eq, Bool.not_eq_true', decide_eq_false_iff_not] at h
  obtain ⟨⟨h1, h2⟩, h3, h4⟩ := h
  exact ⟨h1, h2, h3, h4⟩
theorem isWh_of {l : List Nat} (h1 : 1 ≤ l.length) (h2 : l.length ≤ 60) (h3 : l.all isDig = true) (h4 : l = [48] ∨ l.head? ≠ some 48) : isWh l = true := by
  unfold isWh
  simp only [Bool.and_eq_true, Bool.or_eq_true, decide_eq_true_eq, Bool.not_eq_true', decide_eq_false_iff_not]
  exact ⟨⟨h1, h2⟩, h3, h4⟩
theorem numL_wh {l : List Nat} (h : isWh l = true) : numL (val l) = l := by
  obtain ⟨h1, _, h3, h4⟩ := isWh_parts h
  rcases h4 with h4 | h4
  · subst h4
    decide +kernel
  · exact numL_val l.length l rfl h3 h4 (fun z => by rw [z] at h1; exact absurd h1 (by decide))
theorem wh_zero {l : List Nat} (h : isWh l = true) : val l = 0 ↔ l.head? = some 48 := by
  obtain ⟨h1, _, h3, h4⟩ := isWh_parts h
  constructor
  · intro z
    cases l with
    | nil => exact absurd h1 (by decide)
    | cons c r =>
      by_cases e : c = 48
      · rw [e]; rfl
      · have hc : isDig c = true := by
          rw [List.all_cons, Bool.and_eq_true] at h3
          exact h3.1
        have := val_pos (r := r) hc e
        omega
  · intro z
    rcases h4 with h4 | h4
    · subst h4
      rfl
    · exact absurd z h4
theorem val_lt : ∀ (n : Nat) (l : List Nat), l.length = n → l.all isDig = true → val l < 10 ^ n
  | 0, l, hn, _ => by
    have := List.length_eq_zero_iff.mp hn
    subst this
    decide
  | n + 1, l, hn, hd => by
    have h0 : l ≠ [] := fun z => by rw [z] at hn; exact absurd hn (by simp)
    obtain ⟨a, d, rfl⟩ : ∃ a d, l = a ++ [d] := ⟨l.dropLast, l.getLast h0, (List.dropLast_concat_getLast h0).symm⟩
    rw [List.all_append, Bool.and_eq_true] at hd
    have hd2 : isDig d = true := by
      have := hd.2
      rw [List.all_cons, Bool.and_eq_true] at this
      exact this.1
    have dd := isDig_iff.mp hd2
    have ih := val_lt n a (by rw [List.length_append] at hn; simpa using hn) hd.1
    rw [val_snoc, Nat.pow_succ]
    omega
theorem intT {s : Str} (h : isWh (tl s) = true) : PySem.intText? s = some ((val (tl s) : Nat) : Int) := by
  obtain ⟨h1, h2, h3, _⟩ := isWh_parts h
  have e : (⟨(tl s).toArray⟩ : Str) = s := TL.mk_tl s
  have := SX.int_S (a := tl s) h3 (fun z => by rw [z] at h1; exact absurd h1 (by decide)) (by omega)
  rw [show SX.S (tl s) = s from e] at this
  exact this
end Pk
end

section -- PkO
set_option linter.all false
set_option maxRecDepth 100000
set_option maxHeartbeats 2000000
/-! PkO: the text of a ratio, read in two ways; what it says is its text again. -/
namespace Pk
open PySem PySem.Spec L2
open PyProof.Rows hiding St
open TL (tl numL)

def isNeg (w : List Nat) : Bool := decide (w.head? = some 45)
def bare (w : List Nat) : List Nat := if isNeg w = true then w.tail else w
def sgn (neg : Bool) (n : Nat) : Int := if neg = true then -(n : Int) else (n : Int)
theorem sgn_abs (neg : Bool) (n : Nat) : (sgn neg n).natAbs = n := by
  unfold sgn
  split <;> omega
/-- one whole number, a sign ahead of it or none -/
def sgnd (neg : Bool) (a : List Nat) : Option Int := if (isWh a && !(neg && decide (a.head? = some 48))) = true then some (sgn neg (val a)) else none
def wholeOf (w : List Nat) : Option Int := sgnd (isNeg w) (bare w)
/-- the pair, by the first stroke -/
def pairOf (w : List Nat) : Option (Int × Int) := match TL.par [47] [] w with
  | none => (wholeOf w).map fun n => (n, 1)
  | some (p, q) => match wholeOf p, wholeOf q with
    | some t, some b => if (decide (b < 2) || !(Nat.gcd t.natAbs b.natAbs == 1)) = true then none else some (t, b)
    | _, _ => none
/-- the pair, by all strokes at once -/
def progOf (w : List Nat) : Option (Int × Int) := match cutAt 47 (bare w) with
  | [a] => if (isWh a && !(isNeg w && decide (val a = 0))) = true then some (sgn (isNeg w) (val a), 1) else none
  | [a, b] => if ((isWh a && isWh b) && !(isNeg w && decide (val a = 0)) && !(decide (val b < 2) || !(Nat.gcd (val a) (val b) == 1))) = true then some (sgn (isNeg w) (val a), (val b : Int)) else none
  | _ => none
theorem sgnd_eq (neg : Bool) (a : List Nat) : sgnd neg a = if (isWh a && !(neg && decide (val a = 0))) = true then some (sgn neg (val a)) else none := by
  unfold sgnd
  cases h : isWh a with
  | false => rfl
  | true =>
    have e : decide (a.head? = some 48) = decide (val a = 0) := by
      rw [Bool.eq_iff_iff, decide_eq_true_eq, decide_eq_true_eq]
      exact (wh_zero h).symm
    rw [e]
theorem not_wh {a : List Nat} {c : Nat} (h : c ∈ a) (hc : isDig c = false) : isWh a = false := by
  cases e : isWh a with
  | false => rfl
  | true =>
    obtain ⟨_, _, h3, _⟩ := isWh_parts e
    have := List.all_eq_true.mp h3 c h
    rw [hc] at this
    cases this
theorem mem_bare {w : List Nat} {c : Nat} (h : c ∈ w) (h0 : c ≠ 45) : c ∈ bare w := by
  unfold bare
  split
  · rename_i e
    cases w with
    | nil => cases h
    | cons x r =>
      have ex : x = 45 := by
        have := of_decide_eq_true e
        simpa using this
      rcases List.mem_cons.mp h with z | z
      · exact absurd (z.trans ex) h0
      · exact z
  · exact h
theorem bare_mem {w : List Nat} {c : Nat} (h : c ∈ bare w) : c ∈ w := by
  unfold bare at h
  split at h
  · exact List.mem_of_mem_tail h
  · exact h
theorem neg_app {p q : List Nat} : isNeg (p ++ 47 :: q) = isNeg p := by
  cases p with
  | nil => rfl
  | cons x r => rfl
theorem bare_app {p q : List Nat} : bare (p ++ 47 :: q) = bare p ++ 47 :: q := by
  unfold bare
  rw [neg_app]
  split
  · rename_i e
    cases p with
    | nil => cases e
    | cons x r => rfl
  · rfl
theorem wh_neg {q : List Nat} (h : isNeg q = true) : isWh q = false := by
  cases q with
  | nil => cases h
  | cons x r =>
    have ex : x = 45 := by
      have := of_decide_eq_true h
      simpa using this
    subst ex
    exact not_wh (c := 45) List.mem_cons_self (by decide)
theorem gcd_sgn {neg : Bool} {n m : Nat} : Nat.gcd (sgn neg n).natAbs ((m : Int)).natAbs = Nat.gcd n m := by rw [sgn_abs, Int.natAbs_natCast]
theorem pair_eq (w : List Nat) : pairOf w = progOf w := by
  by_cases h : 47 ∈ w
  · obtain ⟨p, q, rfl, hp⟩ := cut_at h
    have e1 : TL.par [47] [] (p ++ 47 :: q) = some (p, q) := by
      have := TL.par_part1 (s := 47) (S := []) (p := p) (rest := q) (acc := []) hp
      rw [List.nil_append] at this
      exact this
    have hb : 47 ∉ bare p := fun z => hp (bare_mem z)
    unfold pairOf progOf
    rw [e1, bare_app, cut_some hb, neg_app]
    by_cases hq : 47 ∈ q
    · have hw : wholeOf q = none := by
        unfold wholeOf
        rw [sgnd_eq, not_wh (mem_bare hq (by decide)) (by decide)]
        rfl
      dsimp only
      rw [hw]
      have h2 := cut_two hq
      obtain ⟨x, y, r, e⟩ : ∃ x y r, cutAt 47 q = x :: y :: r := by
        match hx : cutAt 47 q with
        | [] => rw [hx] at h2; exact absurd h2 (by decide)
        | [x] => rw [hx, List.length_cons, List.length_nil] at h2; exact absurd h2 (by decide)
        | x :: y :: r => exact ⟨x, y, r, rfl⟩
      rw [e]
      cases wholeOf p <;> rfl
    · rw [cut_none hq]
      dsimp only
      cases hn : isNeg q with
      | true =>
        rw [wh_neg hn, Bool.and_false, Bool.false_and, Bool.false_and, if_neg Bool.false_ne_true]
        have hw : wholeOf q = none ∨ ∃ n : Nat, wholeOf q = some (-(n : Int)) := by
          unfold wholeOf
          rw [hn]
          unfold sgnd
          split
          · exact .inr ⟨_, rfl⟩
          · exact .inl rfl
        rcases hw with hw | ⟨n, hw⟩
        · rw [hw]
          cases wholeOf p <;> rfl
        · rw [hw]
          cases wholeOf p with
          | none => rfl
          | some t =>
            dsimp only
            have : decide (-(n : Int) < 2) = true := decide_eq_true (by omega)
            rw [this, Bool.true_or, if_pos rfl]
      | false =>
        have hw : wholeOf q = if isWh q = true then some ((val q : Nat) : Int) else none := by
          unfold wholeOf bare
          rw [hn, if_neg Bool.false_ne_true, sgnd_eq, Bool.false_and, Bool.not_false, Bool.and_true]
          rfl
        rw [hw]
        unfold wholeOf
        rw [sgnd_eq]
        cases h1 : isWh q with
        | false =>
          rw [if_neg Bool.false_ne_true, Bool.and_false, Bool.false_and, Bool.false_and, if_neg Bool.false_ne_true]
          generalize (if (isWh (bare p) && !(isNeg p && decide (val (bare p) = 0))) = true then some (sgn (isNeg p) (val (bare p))) else none) = o
          cases o <;> rfl
        | true =>
          rw [if_pos rfl, Bool.and_true]
          cases h2 : (isWh (bare p) && !(isNeg p && decide (val (bare p) = 0))) with
          | false =>
            rw [if_neg Bool.false_ne_true, Bool.false_and, if_neg Bool.false_ne_true]
          | true =>
            rw [if_pos rfl, Bool.true_and]
            dsimp only
            rw [gcd_sgn]
            have e3 : decide (((val q : Nat) : Int) < 2) = decide (val q < 2) := by rw [Bool.eq_iff_iff, decide_eq_true_eq, decide_eq_true_eq]; omega
            rw [e3]
            cases (decide (val q < 2) || !((val (bare p)).gcd (val q) == 1)) <;> rfl
  · have e1 : TL.par [47] [] w = none := TL.par_none1 h
    unfold pairOf progOf
    rw [e1, cut_none fun z => h (bare_mem z)]
    dsimp only
    unfold wholeOf
    rw [sgnd_eq]
    split <;> rfl
/-- a ratio's text -/
def ratText (t b : Int) : Str := if b = 1 then Str.ofString (toString t) else ((Str.empty ++ Str.ofString (toString t)) ++ Str.ofString "/") ++ Str.ofString (toString b)
theorem tl_ratText (t b : Int) : tl (ratText t b) = if b = 1 then numI t else numI t ++ 47 :: numI b := by
  unfold ratText
  split
  · exact tl_numI t
  · have e : tl (Str.ofString "/") = [47] := by decide +kernel
    have e0 : tl Str.empty = [] := rfl
    rw [TL.tl_append, TL.tl_append, TL.tl_append, e, e0, tl_numI, tl_numI, List.nil_append, List.append_assoc]
    rfl
theorem numI_sgn {neg : Bool} {a : List Nat} (h : isWh a = true) (h0 : (neg && decide (val a = 0)) = false) : numI (sgn neg (val a)) = if neg = true then 45 :: a else a := by
  unfold sgn numI
  cases neg with
  | false =>
    rw [if_neg Bool.false_ne_true, if_neg (by omega), if_neg Bool.false_ne_true, Int.toNat_natCast, numL_wh h]
  | true =>
    rw [Bool.true_and] at h0
    have := of_decide_eq_false h0
    rw [if_pos rfl, if_pos (by omega), if_pos rfl, Int.natAbs_neg, Int.natAbs_natCast, numL_wh h]
theorem bare_back (w : List Nat) : (if isNeg w = true then 45 :: bare w else bare w) = w := by
  unfold bare
  split
  · rename_i e
    cases w with
    | nil => cases e
    | cons x r =>
      have ex : x = 45 := by
        have := of_decide_eq_true e
        simpa using this
      rw [ex]
      rfl
  · rfl
/-- what a text says, and that it is its text -/
theorem prog_text {w : List Nat} {t b : Int} (h : progOf w = some (t, b)) : tl (ratText t b) = w ∧ t.natAbs < 10 ^ 60 ∧ 1 ≤ b ∧ b.natAbs < 10 ^ 60 ∧ Nat.gcd t.natAbs b.natAbs = 1 := by
  have small : ∀ {a : List Nat}, isWh a = true → val a < 10 ^ 60 := fun {a} ha => by
    obtain ⟨_, h2, h3, _⟩ := isWh_parts ha
    exact Nat.lt_of_lt_of_le (val_lt a.length a rfl h3) (Nat.pow_le_pow_right (by decide) h2)
  unfold progOf at h
  split at h
  · rename_i a e
    split at h
    · rename_i c
      rw [Bool.and_eq_true] at c
      obtain ⟨c1, c2⟩ := c
      have c3 : (isNeg w && decide (val a = 0)) = false := Bool.not_eq_true' _ |>.mp c2
      cases h
      have hw : 47 ∉ bare w := fun z => by
        have := cut_two z
        rw [e, List.length_cons, List.length_nil] at this
        exact absurd this (by decide)
      have ea : bare w = a := by
        rw [cut_none hw] at e
        exact (List.cons.inj e).1
      refine ⟨?_, by rw [sgn_abs]; exact small c1, by decide, by decide, by rw [show (1 : Int).natAbs = 1 from rfl]; exact Nat.gcd_one_right _⟩
      rw [tl_ratText, if_pos rfl, numI_sgn c1 c3, ← ea]
      exact bare_back w
    · cases h
  · rename_i a b' e
    split at h
    · rename_i c
      rw [Bool.and_eq_true, Bool.and_eq_true, Bool.and_eq_true] at c
      obtain ⟨⟨⟨c1, c2⟩, c3⟩, c4⟩ := c
      have c3' : (isNeg w && decide (val a = 0)) = false := Bool.not_eq_true' _ |>.mp c3
      have c4' : (decide (val b' < 2) || !((val a).gcd (val b') == 1)) = false := by simpa using c4
      rw [Bool.or_eq_false_iff] at c4'
      have g1 := of_decide_eq_false c4'.1
      have g2 : (val a).gcd (val b') = 1 := by
        have := c4'.2
        rw [Bool.not_eq_false', beq_iff_eq] at this
        exact this
      cases h
      refine ⟨?_, by rw [sgn_abs]; exact small c1, by omega, by rw [Int.natAbs_natCast]; exact small c2, by rw [gcd_sgn]; exact g2⟩
      have hw : 47 ∈ bare w := by
        by_cases z : 47 ∈ bare w
        · exact z
        · rw [cut_none z] at e
          exact absurd (List.cons.inj e).2 (by simp)
      obtain ⟨p, q, e2, hp⟩ := cut_at hw
      rw [e2, cut_some hp] at e
      obtain ⟨e3, e4⟩ := List.cons.inj e
      have hq : 47 ∉ q := fun z => by
        have := cut_two z
        rw [e4, List.length_cons, List.length_nil] at this
        exact absurd this (by decide)
      rw [cut_none hq] at e4
      have e5 := (List.cons.inj e4).1
      subst e3
      subst e5
      have nb : numI ((val q : Nat) : Int) = q := by
        have := numI_sgn (neg := false) c2 rfl
        simpa [sgn] using this
      rw [tl_ratText, if_neg (by omega), numI_sgn c1 c3', nb]
      have := bare_back w
      rw [e2] at this
      cases hn : isNeg w with
      | true =>
        rw [hn, if_pos rfl] at this
        rw [if_pos rfl]
        exact this
      | false =>
        rw [hn, if_neg Bool.false_ne_true] at this
        rw [if_neg Bool.false_ne_true]
        exact this
    · cases h
  · cases h
end Pk
end

section -- PkP
set_option linter.all false
set_option maxRecDepth 100000
set_option maxHeartbeats 2000000
/-! PkP: slices, beginnings and cuts of texts, as lists; an instance that is made. -/
namespace Pk
open PySem PySem.Spec L2 Evl
open PyProof.Rows hiding St
open TL (tl numL)
theorem tl_from (z : Str) (k : Nat) : tl (cutS z (some (k : Int)) none) = (tl z).drop k := by
  show ((z.cps.toList.drop (HT.sIx z.length 0 (some (k : Int)))).take (HT.sIx z.length z.length none - HT.sIx z.length 0 (some (k : Int)))) = z.cps.toList.drop k
  rw [HT.sIx_nat, HT.sIx_none]
  have e : z.length = z.cps.toList.length := TL.len_tl z
  rw [e]
  rcases Nat.le_total k z.cps.toList.length with h | h
  · rw [Nat.min_eq_left h]
    exact List.take_of_length_le (by rw [List.length_drop]; exact Nat.le_refl _)
  · rw [Nat.min_eq_right h, List.drop_of_length_le (Nat.le_refl _), List.drop_of_length_le h, List.take_nil]
theorem tl_to (z : Str) (k : Nat) : tl (cutS z none (some (k : Int))) = (tl z).take k := by
  show ((z.cps.toList.drop (HT.sIx z.length 0 none)).take (HT.sIx z.length z.length (some (k : Int)) - HT.sIx z.length 0 none)) = z.cps.toList.take k
  rw [HT.sIx_nat, HT.sIx_none, List.drop_zero, Nat.sub_zero]
  have e : z.length = z.cps.toList.length := TL.len_tl z
  rw [e]
  rcases Nat.le_total k z.cps.toList.length with h | h
  · rw [Nat.min_eq_left h]
  · rw [Nat.min_eq_right h, List.take_of_length_le (Nat.le_refl _), List.take_of_length_le h]
theorem lit_one {s : String} {c : Nat} (h : Str.ofString s = ⟨#[c]⟩) (z : Str) : Txt.startswith z (Str.ofString s) = decide ((tl z).head? = some c) := by
  rw [h]
  have e := PySem.StrLaws.subAt_one z c 0
  unfold Txt.startswith
  rw [Bool.eq_iff_iff, Bool.and_eq_true, decide_eq_true_eq, decide_eq_true_eq]
  rw [List.head?_eq_getElem?]
  exact e
theorem split_tl {s : String} {c : Nat} (h : Str.ofString s = ⟨#[c]⟩) (hc : c < 256) (z : Str) : (Txt.split z (Str.ofString s)).map tl = cutAt c (tl z) := by
  rw [h]
  exact TL.split_spl z ⟨#[c]⟩ (by show ([c] : List Nat) ≠ []; simp) (TL.kind_ok (by simpa using hc))
theorem spl_count (c : Nat) : ∀ (l acc : List Nat), (TL.spl [c] 0 acc l).length ≤ l.length + 1
  | [], acc => by rw [spl_end]; exact Nat.le_refl 1
  | x :: r, acc => by
    rw [spl_cons, List.length_cons]
    split
    · rw [List.length_cons]
      have := spl_count c r []
      omega
    · have := spl_count c r (acc ++ [x])
      omega
theorem wh_small {a : List Nat} (h : isWh a = true) : val a < 10 ^ 60 := by
  obtain ⟨_, h2, h3, _⟩ := isWh_parts h
  exact Nat.lt_of_lt_of_le (val_lt a.length a rfl h3) (Nat.pow_le_pow_right (by decide) h2)
/-- what the parts of a word tell of its pair -/
theorem prog_none {w : List Nat} {P : List (List Nat)} (hP : P = cutAt 47 (bare w)) (h : (decide (2 < P.length) || !((P.map isWh).all id)) = true) : progOf w = none := by
  unfold progOf
  rw [← hP]
  match P, h with
  | [], _ => rfl
  | [a], h =>
    have h1 : isWh a = false := by simpa using h
    dsimp only
    rw [h1, Bool.false_and, if_neg Bool.false_ne_true]
  | [a, b], h =>
    have h1 : (isWh a && isWh b) = false := by
      cases ea : isWh a <;> cases eb : isWh b <;> simp [ea, eb] at h ⊢
    dsimp only
    rw [h1, Bool.false_and, Bool.false_and, if_neg Bool.false_ne_true]
  | a :: b :: c :: r, _ => rfl
theorem prog_some {w : List Nat} {P : List (List Nat)} (hP : P = cutAt 47 (bare w)) (h : (decide (2 < P.length) || !((P.map isWh).all id)) = false) :
    ∃ (a : List Nat) (b : Nat), P[0]? = some a ∧ isWh a = true ∧ (P.length = 2 → ∃ q, P[1]? = some q ∧ isWh q = true ∧ b = val q) ∧ (P.length ≠ 2 → b = 1) ∧ b < 10 ^ 60 ∧
      progOf w = if (isNeg w && decide (val a = 0)) = true then none else if (decide (P.length = 2) && (decide (b < 2) || !(Nat.gcd (val a) b == 1))) = true then none else some (sgn (isNeg w) (val a), (b : Int)) := by
  have h0 : 1 ≤ P.length := by rw [hP]; exact spl_pos 47 _ _
  unfold progOf
  rw [← hP]
  match P, h, h0 with
  | [], _, h0 => exact absurd h0 (by decide)
  | [a], h, _ =>
    have h1 : isWh a = true := by simpa using h
    refine ⟨a, 1, rfl, h1, fun z => absurd z (by simp), fun _ => rfl, by decide, ?_⟩
    dsimp only
    rw [h1, Bool.true_and]
    cases (isNeg w && decide (val a = 0)) <;> rfl
  | [a, q], h, _ =>
    have h1 : isWh a = true ∧ isWh q = true := by simpa using h
    refine ⟨a, val q, rfl, h1.1, fun _ => ⟨q, rfl, h1.2, rfl⟩, fun z => absurd rfl z, wh_small h1.2, ?_⟩
    dsimp only
    rw [h1.1, h1.2, Bool.true_and, Bool.true_and]
    cases (isNeg w && decide (val a = 0)) with
    | true => rfl
    | false =>
      show (if (true && !(decide (val q < 2) || !((val a).gcd (val q) == 1))) = true then some (sgn (isNeg w) (val a), ((val q : Nat) : Int)) else none) = if (true && (decide (val q < 2) || !((val a).gcd (val q) == 1))) = true then none else some (sgn (isNeg w) (val a), ((val q : Nat) : Int))
      cases (decide (val q < 2) || !((val a).gcd (val q) == 1)) <;> rfl
  | a :: b :: c :: r, h, _ => exact absurd h (by simp)
/-- a value that is a new instance of the class at C, with these fields -/
def EvI (C : Addr) (fs : List (Str × V)) (te : TE) (σ : L2.St) (H : Hp) : Prop := ∀ H1, Ex H H1 → ∀ Q : VK, (∀ x dx H2, H1 x = none → Ex H1 H2 → H2 x = some (.ins C dx fs) → Q (.ref x) H2) → te σ H1 Q
theorem s_retI {C : Addr} {fs : List (Str × V)} {te : TE} {σ : L2.St} {H : Hp} {D : Ends} (h : EvI C fs te σ H) (k : ∀ x dx H1, H x = none → Ex H H1 → H1 x = some (.ins C dx fs) → D.rt (.ref x) H1) : tRet te D σ H := h H (Ex.refl H) _ k
end Pk
end

section -- PkQ
set_option linter.all false
set_option maxRecDepth 100000
set_option maxHeartbeats 2000000
/-! PkQ: C.m(k = e), m a static method; repr of pairs; assignments of two. -/
namespace Pk
open PySem PySem.Spec L2 Evl
open PyProof.Rows hiding St
section
variable {X : Cx} {CX : CXT} {k : Nat} {C q g : Addr} {mc : Value} {m : Str} {fd : FuncData} {ps ks : List Str} {sp : Sp} {E : XK} {pl : Sem Bool} {o : Expr} {kws : List Keyword} {ta : TE} {tk : TA} {pos apos : Pos}
def tStK (C : Addr) (sp : Sp) (E : XK) (ta : TE) (tk : TA) : TE := fun σ H Q => ta σ H fun x H1 => x = .ref C ∧ tk σ H1 fun zs H2 => sp zs H2 Q E
/-- C.m(k = e, ..), m a static method, nothing by position -/
theorem pe_statK (ho : PE X o ta) (rd : ClX.CRead X.K C mc) (st : StM X.K C mc m q g) (F : FnOk X.prog X.w X.K X.mg X.base CX k g fd ps sp) (hr : Room k X.A) (hb : KBinds X.K fd ps ks (fun us ws => us ++ ws) (fun vs zs => vs ++ zs)) (hx : Passes CX X E) (hkw : PK X kws tk)
    (hall : (backToKw pos (keywordEach kws X.env)).all (·.1.isSome) = true := by rfl) (hks : (backToKw pos (keywordEach kws X.env)).filterMap (·.1) = ks := by rfl)
    (hpl : ((backTo pos (starEach [] X.env)).any (·.1) || (backToKw pos (keywordEach kws X.env)).any (·.1.isNone)) = false := by rfl)
    (ht : eval (.Call (.Attribute o m apos) [] kws pos) X.env = (do let z ← eval o X.env; standAt apos.atName; let (fn, fs) ← holding [z] (getMethod z m pl); callWith pos fn fs (backTo pos (starEach [] X.env)) (backToKw pos (keywordEach kws X.env))) := by rfl) :
    PE X (.Call (.Attribute o m apos) [] kws pos) (tStK C sp E ta tk) := by
  refine ⟨fun pins s σ H Q I w => ?_⟩
  refine PySem.W.methodCall_KW (pl := pl) (thn (ho.run pins s σ H _ I w) fun u s1 ⟨x, H1, I1, rx, ex, w1⟩ => ?_) ht
  subst ex
  obtain rfl : u = Value.ref C := rx
  refine getstat_ok I1 rd st fun s2 I2 => ?_
  refine PySem.W.callWith_KW0 (h₀ := X.base) (first := []) I2.ok.mod.kin st.keep hall (thn (hkw.run pos pins s2 σ H1 _ I2 w1) fun ws s3 ⟨zs, H2, I3, rz, w2⟩ => ⟨I3.kIn, ?_⟩) hpl
  rw [hks]
  exact run_fnk (us := []) (vs := []) F hr hb hx I3 .nil rz w2
end
/-! ### assignments of two -/
section
variable {K : PySem.W.Frag} {σ : L2.St} {H : Hp} {ta tb te : TE} {D : Ends} {tz : TS} {i j : Nat} {u : V} {xs : List V}
theorem s_parL (h : EvL ta σ H xs) (hb : Ev tb σ H u) (k : ∀ p H1, H p = none → Ex H H1 → H1 p = some (.lst xs) → D.nx ((σ.set i (some (.ref p))).set j (some u)) H1) : tPar i j (tCons ta (tCons tb tNil)) D σ H := h H (Ex.refl H) _ fun p H1 hp e h1 =>
  hb H1 e _ fun H2 e2 => ⟨_, _, rfl, k p H2 hp (e.trans e2) (e2 _ _ h1)⟩
theorem q_parL (h : EvL ta σ H xs) (hb : Ev tb σ H u) (k : ∀ p H1, H p = none → Ex H H1 → H1 p = some (.lst xs) → tz D ((σ.set i (some (.ref p))).set j (some u)) H1) : tSeq (tPar i j (tCons ta (tCons tb tNil))) tz D σ H := s_parL (D := { D with nx := tz D }) h hb k
/-- a list and a new one, together -/
theorem el_catVL {p : Addr} {ys : List V} (ha : Ev ta σ H (.ref p)) (hp : H p = some (.lst xs)) (hb : EvL tb σ H ys) (hl : xs.length + ys.length ≤ 1000000) : EvL (tOp rCat ta tb) σ H (xs ++ ys) := fun H1 e Q k =>
  ha H1 e _ fun H2 e2 => hb H2 (e.trans e2) _ fun q H3 _ e3 hq => ⟨p, q, xs, ys, rfl, rfl, ((e.trans e2).trans e3) _ _ hp, hq, sz hl, fun l hl => k l _ (fresh_back (e2.trans e3) hl) ((e2.trans e3).trans (Ex.new hl)) upd_same⟩
/-! ### the text of a pair of ints -/
def pd (t b : Int) : PyData := .tuple [.int t, .int b]
theorem pd_dp {a : Addr} {t b : Int} (h : SqT K H a [.int t, .int b]) : Dp K H (.ref a) (pd t b) := .tup h (.cons (.int t) (.cons (.int b) .nil))
theorem pd_ok {t b : Int} (ht : t.natAbs.log2 < 1000) (hb : b.natAbs.log2 < 1000) : (pd t b).showable = true ∧ (pd t b).hasDict = false ∧ (pd t b).depth ≤ 40 ∧ (pd t b).shown.length ≤ sizeLine := by
  have h1 : decide (t.natAbs.log2 < 1920) = true := decide_eq_true (by omega)
  have h2 : decide (b.natAbs.log2 < 1920) = true := decide_eq_true (by omega)
  refine ⟨?_, ?_, ?_, ?_⟩
  · simp only [pd, PyData.showable, PyData.showableAll, h1, h2, Bool.and_true]
  · simp only [pd, PyData.hasDict, PyData.hasDictAll, Bool.or_false]
  · simp only [pd, PyData.depth, PyData.depthAll]
    decide
  · have l1 := numLen ht
    have l2 := numLen hb
    have h := PySem.tupleText_len_le (PyData.shownAll [.int t, .int b])
    simp only [pd, PyData.shown]
    simp only [PyData.shownAll, PyData.shown, List.map_cons, List.map_nil, List.sum_cons, List.sum_nil, List.length_cons, List.length_nil] at h ⊢
    exact sz (by omega)
theorem rc_repr {a : Addr} {t b : Int} (ht : t.natAbs.log2 < 1000) (hb : b.natAbs.log2 < 1000) (h : SqT K H a [.int t, .int b]) : RC (rReprD K) [.ref a] H (.str (pd t b).shown) := fun H1 e _ q =>
  have o := pd_ok ht hb
  ⟨a, pd t b, rfl, pd_dp (ex_t e h), o.1, o.2.1, o.2.2.1, o.2.2.2, q H1 (Ex.refl H1)⟩
theorem ev_reprU {t b : Int} (ht : t.natAbs.log2 < 1000) (hb : b.natAbs.log2 < 1000) (h : EvU ta σ H [.int t, .int b]) : Ev (tCB (rReprD K) (tCons ta tNil)) σ H (.str (pd t b).shown) := fun H1 e Q q =>
  h H1 e _ fun p H2 _ e2 hp => rc_repr ht hb (st_of hp) H2 (Ex.refl H2) _ fun H3 e3 => q H3 (e2.trans e3)
end
end Pk
end

section -- PkR
set_option linter.all false
set_option maxRecDepth 100000
set_option maxHeartbeats 2000000
/-! PkR: a text, many times. -/
namespace Pk
open PySem PySem.Spec L2 Evl
open PyProof.Rows hiding St
open TL (tl numL)
def repS (a : Str) (n : Int) : Str := ⟨(List.replicate n.toNat a.cps).foldl (· ++ ·) #[]⟩
theorem rep_size (a : Array Nat) : ∀ (n : Nat) (acc : Array Nat), ((List.replicate n a).foldl (· ++ ·) acc).size = acc.size + n * a.size
  | 0, acc => by simp
  | n + 1, acc => by
    rw [List.replicate_succ, List.foldl_cons, rep_size a n, Array.size_append, Nat.succ_mul]
    omega
theorem repS_length (a : Str) (n : Int) : (repS a n).length = n.toNat * a.length := by
  show ((List.replicate n.toNat a.cps).foldl (· ++ ·) #[]).size = _
  rw [rep_size]
  show 0 + n.toNat * a.cps.size = n.toNat * a.cps.size
  omega
def rMulS : R2 := fun x y H Q => ∃ (a : Str) (n : Int), x = .str a ∧ y = .int n ∧ a.length = 1 ∧ 1 < n ∧ n ≤ 10000 ∧ Q (.str (repS a n)) H
theorem op_mulS {X : Cx} : OpR X (binaryOp .Mult) rMulS := by
  intro pins s σ H x y v u Q I rx ry h
  obtain ⟨a, n, rfl, rfl, ha, n1, n2, q⟩ := h
  obtain ⟨t, rfl⟩ := rx
  obtain ⟨t2, rfl⟩ := ry
  refine P.mul_str ?_ (fun _ _ => ?_) (fun _ _ => ?_) ?_
  · rw [decide_eq_false (by omega), decide_eq_false (by omega)]; rfl
  · rw [ha]
    have : (1 : Int) ≤ (2 ^ 63 - 1) / n := (Int.le_ediv_iff_mul_le (by omega)).mpr (by omega)
    show ¬ (((1 : Nat) : Int) > (2 ^ 63 - 1) / n)
    omega
  · rw [ha]
    unfold Builtin.Str.tooLong
    exact decide_eq_false (Nat.not_lt.mpr (sz (by omega)))
  · rw [if_neg (by omega), if_neg]
    · exact ⟨sz (by rw [show (⟨List.foldl (fun x1 x2 => x1 ++ x2) #[] (List.replicate n.toNat a.cps)⟩ : Str) = repS a n from rfl, repS_length, ha]; omega), .str (repS a n), H, I.tok _, ⟨_, rfl⟩, q⟩
    · rw [ha]
      have : ¬ n = 1 := by omega
      simp [this]
end Pk
end

section -- PkH
set_option linter.all false
set_option maxRecDepth 100000
set_option maxHeartbeats 4000000
/-! PkH: what is looked at behind the top: early, for heads that want much room. -/
namespace Pk
open PySem PySem.Spec PyProof.Rows L2
open He (ga ma)
/-- an error class that is its own dict's: the object as the store of its fields asks -/
def oexB (K : PySem.W.Frag) (C : Addr) : Bool := match K.lookup C with
  | some ⟨.type t, _, .cls cd, sl⟩ => decide (t = "type") && (cd.hasDict && (!cd.hasDel && (decide (sl.size = 6) && (decide ((sl[4]?).join = some (.builtin "ValueError.__new__")) && (match cd.mro with
    | .ref c :: bm => decide (c = C) && PySem.HandSPX.refsVE bm
    | _ => false)))))
  | _ => false
/-! ### what is looked at -/
abbrev Seen : Type := Bool × List He5.FnW
def seenOf (B : List (PySem.W.Frag → Bool)) (fn : List He5.DefA) (K : PySem.W.Frag) : Seen := (B.all (fun b => b K) && fn.all (fun d => d.ok K), fn.map fun d => He5.fnA K (d.at_ K))
def toldOf (fn : List He5.DefA) : Seen := (true, fn.map He5.DefA.val)
def Told (B : List (PySem.W.Frag → Bool)) (fn : List He5.DefA) (K : PySem.W.Frag) : Prop := seenOf B fn K = toldOf fn
def seenG (n : Nat) (B : List (PySem.W.Frag → Bool)) (fn : List He5.DefA) (g : Addr → Option Obj) : Seen := seenOf B fn (He.frG g (He5.asA g n))
def hookB (n : Nat) (B : List (PySem.W.Frag → Bool)) (fn : List He5.DefA) : PySem.W.Hook where
  α := Seen
  obs := fun t => seenG n B fn t.heap.get?
  val := fun _ => toldOf fn
  says := fun _ h => ∃ K : PySem.W.Frag, K.In h ∧ Told B fn K
  of := fun _ _ e => ⟨_, He.frG_in, e⟩
  keeps := fun _ _ _ t k => t.elim fun K c => ⟨K, PySem.W.Frag.In.keeps c.1 k, c.2⟩
section
variable {B : List (PySem.W.Frag → Bool)} {fn : List He5.DefA} {K : PySem.W.Frag}
theorem Told.fact (c : Told B fn K) (i : Nat) {b : PySem.W.Frag → Bool} (h : B[i]? = some b := by rfl) : b K = true := by
  have c1 : (B.all (fun b => b K) && fn.all (fun d => d.ok K)) = true := congrArg Prod.fst c
  exact List.all_eq_true.mp (Bool.and_eq_true_iff.mp c1).1 b (List.mem_of_getElem? h)
theorem Told.dd (c : Told B fn K) (i : Nat) {d : He5.DefA} (h : fn[i]? = some d := by rfl) : ∃ fd, FunD K d.name d.qual d.params d.body d.scope (d.dvs K) (d.kws K) (d.at_ K) fd := by
  have c1 : (B.all (fun b => b K) && fn.all (fun d => d.ok K)) = true := congrArg Prod.fst c
  have e : fn.map (fun d => He5.fnA K (d.at_ K)) = fn.map He5.DefA.val := congrArg Prod.snd c
  have e2 := congrArg (fun l : List He5.FnW => l[i]?) e
  simp only [List.getElem?_map, h, Option.map_some] at e2
  exact He5.DefA.funD (Option.some.inj e2) (List.all_eq_true.mp (Bool.and_eq_true_iff.mp c1).2 d (List.mem_of_getElem? h))
end
def obsT (n : Nat) (B : List (PySem.W.Frag → Bool)) (fn : List He5.DefA) (t : Shared) : Seen := match HandSHeadRun.treeOf t with
  | some x => seenG n B fn (HandSHeadRun.getT x)
  | none => (false, [])
theorem obsT_of {n : Nat} {B : List (PySem.W.Frag → Bool)} {fn : List He5.DefA} {t : Shared} (h : obsT n B fn t = toldOf fn) : seenG n B fn t.heap.get? = toldOf fn := by
  unfold obsT at h
  cases q : HandSHeadRun.treeOf t with
  | none =>
    rw [q] at h
    cases congrArg Prod.fst h
  | some x =>
    rw [q] at h
    have e := (HandSHeadRun.treeOf_eq q).1
    have g : HandSHeadRun.getT x = t.heap.get? := funext fun a => by rw [HandSHeadRun.getT_eq, e]
    rw [← g]
    exact h
def hookT (n : Nat) (B : List (PySem.W.Frag → Bool)) (fn : List He5.DefA) : PySem.W.Hook where
  α := Seen
  obs := obsT n B fn
  val := fun _ => toldOf fn
  says := fun _ h => ∃ K : PySem.W.Frag, K.In h ∧ Told B fn K
  of := fun _ _ e => ⟨_, He.frG_in, obsT_of e⟩
  keeps := fun _ _ _ t k => t.elim fun K c => ⟨K, PySem.W.Frag.In.keeps c.1 k, c.2⟩
/-- .. of the objects at these places alone -/
def obsL (as : List Addr) (B : List (PySem.W.Frag → Bool)) (fn : List He5.DefA) (t : Shared) : Seen := match HandSHeadRun.treeOf t with
  | some x => seenOf B fn (He.frG (HandSHeadRun.getT x) as)
  | none => (false, [])
theorem obsL_of {as : List Addr} {B : List (PySem.W.Frag → Bool)} {fn : List He5.DefA} {t : Shared} (h : obsL as B fn t = toldOf fn) : seenOf B fn (He.frG t.heap.get? as) = toldOf fn := by
  unfold obsL at h
  cases q : HandSHeadRun.treeOf t with
  | none =>
    rw [q] at h
    cases congrArg Prod.fst h
  | some x =>
    rw [q] at h
    have e := (HandSHeadRun.treeOf_eq q).1
    have g : HandSHeadRun.getT x = t.heap.get? := funext fun a => by rw [HandSHeadRun.getT_eq, e]
    rw [← g]
    exact h
def hookL (as : List Addr) (B : List (PySem.W.Frag → Bool)) (fn : List He5.DefA) : PySem.W.Hook where
  α := Seen
  obs := obsL as B fn
  val := fun _ => toldOf fn
  says := fun _ h => ∃ K : PySem.W.Frag, K.In h ∧ Told B fn K
  of := fun _ _ e => ⟨_, He.frG_in, obsL_of e⟩
  keeps := fun _ _ _ t k => t.elim fun K c => ⟨K, PySem.W.Frag.In.keeps c.1 k, c.2⟩
/-- .. for a head in one run -/
def hookP (as : List Addr) (B : List (PySem.W.Frag → Bool)) (fn : List He5.DefA) : PySem.W.Hook where
  α := Seen
  obs := fun t => seenOf B fn (He.frG t.heap.get? as)
  val := fun _ => toldOf fn
  says := fun _ h => ∃ K : PySem.W.Frag, K.In h ∧ Told B fn K
  of := fun _ _ e => ⟨_, He.frG_in, e⟩
  keeps := fun _ _ _ t k => t.elim fun K c => ⟨K, PySem.W.Frag.In.keeps c.1 k, c.2⟩
end Pk
end

section -- PkS
set_option linter.all false
set_option maxRecDepth 100000
set_option maxHeartbeats 2000000
/-! PkS: the end of a law whose def is known where no repr is under way; what is looked at behind the top. -/
namespace Pk
open PySem PySem.Spec PyProof.Rows L2
/-! ### the law, called -/
section
variable {P : Program} {w : World} {K : PySem.W.Frag} {mg mb : Str → Option Value} {k : Nat} {fa a : Addr} {fd : FuncData} {x : Str} {sp : Sp} {s : Shared} {vs : List Value} {ns : List Int} {H : Hp}
/-- what an answer leaves -/
def LeftG (s : Shared) (r : Result) (z : Shared) : Prop := r = .ok (.ret (.bool true)) ∧ OldK s.heap z.heap ∧ z.os = s.os ∧ AllBare z.gens
/-- from a heap in which at most the script stands, as it was written -/
theorem lawG_from (KX : K.In s.heap) (g1 : s.heap.Ns mainGlobals mg) (g2 : s.heap.Ns builtinsNs mb) (g3 : ∀ y : Str, y ≠ "__name__" → mb y = bootBuiltins y) (g4 : s.heap.NoLimit) (g5 : s.gens = #[]) (hr : Room k callerA)
    (F : ∀ base : Heap, K.In base → FnG P w K mg base CX0 k fa fd [x] sp) (bind : ∀ (s : Shared) (u : Value), BindsTo s fd ⟨[u], []⟩ [(x, u)]) (hsp : sp [.ref a] H (fun v _ => v = .bl true) E0)
    (hok : HOk P w H s.heap) (only : ∀ b u, H b = some u → K.lookup b = none ∧ (∀ o es ep, s.heap.get? b = some o → o.data ≠ .dict es ep) ∧ ∃ o ys, u = .frz o (.lst ys)) : codeAny (model P w) callerA (.call (.ref fa) ⟨[.ref a], []⟩) (LeftG s) s := by
  have inB : K.In (hidT s.heap H) := fun b o e => hidT_get (KX b o e) (by
    cases z : H b with
    | none => rfl
    | some u => rw [(only b u z).1] at e; cases e)
  have nsB : ∀ {b : Addr} {m : Str → Option Value}, s.heap.Ns b m → (hidT s.heap H).Ns b m := fun {b m} t => by
    obtain ⟨o, es, ep, h1, h2, h3⟩ := t
    refine ⟨o, es, ep, hidT_get h1 ?_, h2, h3⟩
    cases z : H b with
    | none => rfl
    | some u => exact absurd h2 ((only b u z).2.1 o es ep h1)
  have mod : Mod K mg (hidT s.heap H) := by
    obtain ⟨mc, h1, h2⟩ := g4
    exact ⟨inB, nsB g1, ⟨mb, nsB g2, g3⟩, ⟨mc, nsB h1, h2⟩⟩
  have env : Env0 P w K mg (hidT s.heap H) callerA [] s H := { frames := rfl, mod := mod, bs := fun _ _ e => of_hidT e, bsz := Nat.le_of_eq (hidT_size _ _), funs := trivial, frf := fun _ hb => absurd hb List.not_mem_nil, hok := hok, bare := .of_eq g5 }
  have call := (F _ inB).go callerA [] s H ⟨[.ref a], []⟩ [.ref a] [.ref a] _ _ hr rfl env (bind s (.ref a)) (.cons rfl .nil) hsp
  refine codeAny_mono call fun r z h => ?_
  match r, h with
  | .ok (.ret u), h =>
    obtain ⟨v, H2, os, bare, un, hok2, rel, rfl⟩ := h
    cases (show u = Value.bool true from rel)
    refine ⟨rfl, OldK.of_keep fun b o e => ?_, os, bare⟩
    cases q : H b with
    | none => exact un.keep b o e q List.not_mem_nil List.not_mem_nil
    | some u =>
      obtain ⟨_, _, ob, ys, rfl⟩ := only b u q
      have e1 := (hok b _ q).1
      have e2 := (hok2 b _ (un.frzs b ob _ q)).1
      rw [e] at e1
      rw [Option.some.inj e1]
      exact e2
theorem lawG_call (KX : K.In s.heap) (g1 : s.heap.Ns mainGlobals mg) (g2 : s.heap.Ns builtinsNs mb) (g3 : ∀ y : Str, y ≠ "__name__" → mb y = bootBuiltins y) (g4 : s.heap.NoLimit) (g5 : s.gens = #[]) (hr : Room k callerA)
    (F : ∀ base : Heap, K.In base → FnG P w K mg base CX0 k fa fd [x] sp) (bind : ∀ (s : Shared) (u : Value), BindsTo s fd ⟨[u], []⟩ [(x, u)]) (hsp : ∀ H : Hp, SqL K H a (ns.map V.int) → sp [.ref a] H (fun v _ => v = .bl true) E0)
    (ha : s.heap.get? a = some { cls := .type "list", data := .seq vs.toArray }) (hi : IntsAre vs ns) (hl : ns.length ≤ sizeLine) : codeAny (model P w) callerA (.call (.ref fa) ⟨[.ref a], []⟩) (LeftG s) s := by
  have rv := vals_ints hi
  have lv := hi.length
  have lz : (ns.map V.int).length ≤ sizeLine := by rw [List.length_map]; exact hl
  cases hk : K.lookup a with
  | some o =>
    obtain rfl : o = { cls := .type "list", data := .seq vs.toArray } := Option.some.inj ((KX a o hk).symm.trans ha)
    refine lawG_from (H := fun _ => none) KX g1 g2 g3 g4 g5 hr F bind (hsp _ (.inr ⟨_, vs.toArray, _, hk, rfl, rfl, rfl, by rw [List.size_toArray, lv]; exact hl, by simpa using rv⟩)) (fun b u z => nomatch z) fun b u z => nomatch z
  | none =>
    obtain ⟨T, hT⟩ : ∃ T : Hp, T = fun b => if b = a then some (.frz { cls := .type "list", data := .seq vs.toArray } (.lst (ns.map V.int))) else none := ⟨_, rfl⟩
    have at_ : T a = some (.frz { cls := .type "list", data := .seq vs.toArray } (.lst (ns.map V.int))) := by rw [hT]; exact if_pos rfl
    have off : ∀ b u, T b = some u → b = a ∧ u = .frz { cls := .type "list", data := .seq vs.toArray } (.lst (ns.map V.int)) := fun b u z => by
      by_cases q : b = a
      · subst q
        exact ⟨rfl, Option.some.inj (z.symm.trans at_)⟩
      · rw [hT] at z
        have z' : (none : Option HO) = some u := (if_neg q).symm.trans z
        cases z'
    refine lawG_from (H := T) KX g1 g2 g3 g4 g5 hr F bind (hsp T (.inl (.inr ⟨_, at_⟩))) (fun b u z => ?_) fun b u z => ?_
    · obtain ⟨rfl, rfl⟩ := off b u z
      exact ⟨ha, lz, vs, _, rv, ha⟩
    · obtain ⟨rfl, rfl⟩ := off b u z
      refine ⟨hk, fun o es ep e d => ?_, _, _, rfl⟩
      rw [ha] at e
      rw [← Option.some.inj e] at d
      cases d
end
theorem walkG {l : PySem.W.OpenLaw} {n k : Nat} {q : Program} {loose : List Str} {XP : (Str → Option Value) → Heap → Prop} {YP : World → Heap → Prop} {d : DefRec} {x : Str} (hn : l.most = some n) (hn2 : n ≤ sizeLine) (hdf : d.params.defaults = []) (hr : Room k callerA)
    (F : ∀ (w : World) (mg : Str → Option Value) (fa : Addr) (h : Heap), YP w h → h.Ns mainGlobals mg → mg d.name = some (.ref fa) → ∃ (K : PySem.W.Frag) (fd : FuncData) (sp : Sp), K.In h ∧ (∀ (s : Shared) (u : Value), BindsTo s fd ⟨[u], []⟩ [(x, u)]) ∧
      (∀ (H : Hp) (a : Addr) (ns : List Int), SqL K H a (ns.map V.int) → sp [.ref a] H (fun v _ => v = .bl true) E0) ∧ ∀ base : Heap, K.In base → FnG l.prog w K mg base CX0 k fa fd [x] sp) : PySem.W.WalkO q loose XP YP l.row.toRowW d [] (fun f vs => PySem.call f vs) := by
  refine Att.attach_call hn hdf fun w s₀ s₁ mg mb fa o pm cd doc a vs ns G Y _ _ _ hmg hobj hints hlen hg => ?_
  obtain ⟨K, fd, sp, KX, hb, hsp, hF⟩ := F w mg fa _ Y G.T.g hmg
  exact lawG_call KX G.T.g G.T.b G.T.builtins G.T.nolimit hg hr hF hb (fun H hS => hsp H a ns hS) hobj hints (Nat.le_trans hlen hn2)
end Pk
end

section -- PkT
set_option linter.all false
set_option maxRecDepth 100000
set_option maxHeartbeats 2000000
/-! PkT: operators that an own class defines, and that may raise: + - *, == and != beside any value, -x, abs, the truth of an instance. -/
namespace PySem.W
open PySem PySem.Calls PyProof.Rows Builtin
section
variable {prog : Program} {w : World} {A : Around} {E : Value → Shared → Prop} {s : Shared} {K : Frag} {x C L f : Addr} {h₀ : Heap} {m : Str → Option Value} {ox : Obj} {od : Option Obj} {T : String}
/-- x op b, the class of x defines it, b of a built-in type, wherever b's type is found -/
theorem pk_binT {op : Operator} {b : Value} {fo ro rc : Option Value} {Q : Value → Shared → Prop} (F : Fr h₀ L s.heap m) (X₀ : K.In h₀) (I : InstAt s.heap x ox C od) (hb : Looks (model prog w) s.heap (typeOf b) (.type T)) (hc : selfFirst K C = true)
    (hs : findIn K (.ref C) (PySem.dunder op.info.2) = some (some (.ref f))) (hf : isFn K (.ref f) = true) (hr : findIn K (.ref C) (dunderR op.info.2) = some rc) (hp : rc = none ∨ ∃ g : Addr, rc = some (.ref g))
    (h1 : findIn K (.type T) (PySem.dunder op.info.2) = some fo) (h2 : findIn K (.type T) (dunderR op.info.2) = some ro) (hsub : subIn K (.type T) (.ref C) = some false)
    (h : wpAny (model prog w) A (call (.ref f) [.ref x, b]) (CmpBack Q) E s) : wpAny (model prog w) A (binaryOp op (.ref x) b) Q E s := by
  have X := X₀.keeps F.keep
  obtain ⟨cd, rest, hcd, hm⟩ := ksp_first hc
  obtain ⟨nm, ei⟩ : ∃ nm, nm = op.info.2 := ⟨_, rfl⟩
  rcases hi : op.info with ⟨sym, q⟩
  rw [hi] at hs hr h1 h2 ei
  have eq : nm = q := ei
  subst eq
  replace hs : findIn K (.ref C) (PySem.dunder nm) = some (some (.ref f)) := hs
  replace hr : findIn K (.ref C) (dunderR nm) = some rc := hr
  replace h1 : findIn K (.type T) (PySem.dunder nm) = some fo := h1
  replace h2 : findIn K (.type T) (dunderR nm) = some ro := h2
  have done := ksp_try X I hs hf h
  obtain ⟨hh, g, d, tt, os⟩ := s
  have t1 : Looks (model prog w) hh (typeOf (.ref x)) (.ref C) := I.type
  have t2 : Looks (model prog w) hh (typeOf b) (.type T) := hb
  have t3 : Looks (model prog w) hh (fillsNumberSlot (.ref C) nm) true := fills_K X hcd hm hs
  obtain ⟨right, t4⟩ : ∃ right, Looks (model prog w) hh (fillsNumberSlot (.type T) nm) right := ⟨_, ksp_fillsT X h1 h2⟩
  have t5 : Looks (model prog w) hh (isSubtype (.type T) (.ref C)) false := looks_subIn X hsub
  have t6 : Looks (model prog w) hh (numberSlotInPython (.ref C) nm) true := ksp_inPy X hs hr hp
  have t7 : Looks (model prog w) hh (numberSlotInPython (.type T) nm) false := Looks.of_pure rfl
  have t8 : Looks (model prog w) hh (typeLookup (.type T) (dunderR nm)) ro := looks_findIn X h2
  have off : (Value.ref C == Value.type T) = false := by
    cases z : (Value.ref C == Value.type T) with
    | false => rfl
    | true => cases beq_iff_eq.mp z
  simp only [binaryOp, hi]
  refine wpAny_holding (wpAny_bind ?_)
  unfold binaryOp1
  refine wpAny_bind (t1.at (wpAny_bind (t2.at (wpAny_bind (t3.at ?_)))))
  simp only [off, Bool.false_eq_true, if_false]
  cases right <;>
    (ksp_lk
     refine wpAny_mono done (fun r s' hz => ?_) fun _ _ e => e
     obtain ⟨v, rfl, hq⟩ := hz
     ksp_lk
     exact hq)
/-- bool(x), by what tells whether x is true -/
theorem pk_bool {v : Value} {Q : Value → Shared → Prop} (h : wpAny (model prog w) A.in1.in1 (truthy v) (fun b z => Q (.bool b) z) E s) : wpAny (model prog w) A (call (.type "bool") [v]) Q E s := by
  refine callType_newIn (S := fun A R s => wpAny (model prog w) A.in1 (truthy v) (fun b z => R (.ok (.ret (.bool b))) z) (fun e z => R (.error e) z) s) PySem.F.called_bool PySem.F.newNe_bool (PySem.F.typeCall_bool_1 v) (PySem.F.newCall_bool_1 v) (fun obj => PySem.F.args_object_init_2 obj v) PySem.F.entry_bool_new (fun A R s hs => ?_) (wpAny_mono h (fun b z q => ⟨rfl, q⟩) fun _ _ e => e)
  have f1 := PySem.F.conv_sub_bool
  unfold Builtin.«bool.__new__»
  repeat (first
    | (with_reducible refine wpAny_bind (m := truthy v) (wpAny_mono hs (fun b z q => ?_) fun _ _ e => e))
    | wp_step)
  all_goals first | exact q | assumption | trace_state
/-- .. what the default __ne__ asks of the own __eq__ -/
theorem pk_objNe {b : Value} {Q : Fin → Shared → Prop} (hu : A.units < cLine) (X : K.In s.heap) (I : InstAt s.heap x ox C od) (hs : findIn K (.ref C) "__eq__" = some (some (.ref f))) (hf : isFn K (.ref f) = true)
    (h : wpAny (model prog w) A (call (.ref f) [.ref x, b]) (fun v z => ∃ c, v = .bool c ∧ Q (.done (.ret (.bool (!c)))) z) E s) : wpAny (model prog w) A (Builtin.«object.__ne__» ⟨[.ref x, b], []⟩) Q E s := by
  have mid := ifBound_K (M := model prog w) (A := A) (E := E) (args := [b]) (Q := fun r z => ∃ c, r = some (.bool c) ∧ Q (.done (.ret (.bool (!c)))) z) X I hs hf (wpAny_mono h (fun v z hz => by
    obtain ⟨c, rfl, q⟩ := hz
    exact ⟨c, rfl, q⟩) fun _ _ e => e)
  unfold Builtin.«object.__ne__»
  refine wpAny_bind (wpAny_of_eq (a := ((Value.ref x : Value), [b])) (by first | rfl | (simp only [slotArgs]; rfl)) ?_)
  refine wpAny_bind (wpAny_cRoomFor hu ?_)
  refine wpAny_bind (m := callSpecialIfBound? (.ref x) (Str.ofString "__eq__") [b]) (wpAny_mono mid (fun r z hz => ?_) fun _ _ e => e)
  obtain ⟨c, rfl, q⟩ := hz
  exact wpAny_bind (wpAny_truthy_bool (wpAny_pure q))
theorem pk_ifNe {M : Model} {args : List Value} {Q : Option Value → Shared → Prop} (X : K.In s.heap) (I : InstAt s.heap x ox C od) (hne : findIn K (.ref C) "__ne__" = some (some (.builtin "object.__ne__")))
    (h : wpAny M A (call (.builtin "object.__ne__") (.ref x :: args)) (fun v => Q (some v)) E s) : wpAny M A (callSpecialIfBound? (.ref x) "__ne__" args) Q E s := by
  have last : wpAny M A (call (.builtin "object.__ne__") ([.ref x] ++ args) >>= fun v => pure (some v)) Q E s := wpAny_bind (wpAny_mono h (fun v z q => wpAny_pure q) fun _ _ e => e)
  have bound := PySem.F.cmp_object.ne.bind (.ref x)
  simp only [callSpecialIfBound?, bindSpecialIfBound?]
  refine wpAny_holding (wpAny_bind (wpAny_bind (wpAny_bind (I.type.here ((looks_findIn X hne).here (wpAny_bind (wpAny_askSetting (wpAny_ite ?_))))))))
  split
  · exact wpAny_bind (wpAny_of_eq bound (wpAny_pure (by exact last)))
  · exact wpAny_tryCatch (wpAny_bind (wpAny_of_eq bound (wpAny_pure (by exact last))))
/-- x != b, by the class's own __eq__ -/
theorem pk_ne {b tb : Value} {Q : Value → Shared → Prop} (hu : A.units + 1 < cLine) (F : Fr h₀ L s.heap m) (X₀ : K.In h₀) (I : InstAt s.heap x ox C od) (hb : Looks (model prog w) s.heap (typeOf b) tb) (hn : notFirst K C tb = true) (hm : mroIn K C (.type "object") = some true)
    (hne : findIn K (.ref C) "__ne__" = some (some (.builtin "object.__ne__"))) (hs : findIn K (.ref C) "__eq__" = some (some (.ref f))) (hf : isFn K (.ref f) = true)
    (h : wpAny (model prog w) A.in1 (call (.ref f) [.ref x, b]) (fun v z => ∃ c, v = .bool c ∧ Q (.bool (!c)) z) E s) : wpAny (model prog w) A (richCompare .NotEq (.ref x) b) Q E s := by
  have X := X₀.keeps F.keep
  have ask : wpAny (model prog w) A (call (.builtin "object.__ne__") [.ref x, b]) (fun v z => ∃ c, v = .bool c ∧ Q (.bool c) z) E s :=
    wpAny_call (codeAny_call_builtin PySem.F.cmp_object.ne.plain PySem.F.cmpEntry_ne (check_slot PySem.F.cmpKind_ne PySem.F.cmpSplit_ne (I.type.andThen (looks_mroIn X hm)) (PySem.F.cmpArgs_ne _ _) (pk_objNe (by show A.units + 1 < cLine; exact hu) X I hs hf (wpAny_mono h (fun v z hz => by
      obtain ⟨c, rfl, q⟩ := hz
      exact ⟨c, rfl, ⟨!c, rfl, q⟩⟩) fun _ _ e => e))))
  have one : wpAny (model prog w) A (tryCompare (.ref x) (cmpInfo .NotEq).2.1 b) (fun r z => ∃ c, r = some (.bool c) ∧ Q (.bool c) z) E s := by
    unfold tryCompare
    refine wpAny_bind (pk_ifNe X I hne (wpAny_mono ask (fun v z hz => ?_) fun _ _ e => e))
    obtain ⟨c, rfl, q⟩ := hz
    exact wpAny_pure ⟨c, rfl, q⟩
  unfold richCompare
  simp only [oneThing_ref]
  refine wpAny_holding (wpAny_bind (wpAny_cRoomFor (Nat.lt_of_succ_lt hu) (wpAny_bind (I.type.here (wpAny_bind (hb.here ?_))))))
  split
  · next q =>
    have e : subIn K tb (.ref C) = some false := by
      rcases Bool.or_eq_true_iff.mp hn with z | z
      · rw [beq_iff_eq.mp z] at q
        simp at q
      · exact beq_iff_eq.mp z
    refine wpAny_bind ((looks_subIn X e).here ?_)
    simp only [Bool.false_eq_true, if_false]
    exact wpAny_bind (wpAny_mono one (fun r z hz => by
      obtain ⟨c, rfl, k⟩ := hz
      exact wpAny_pure k) fun _ _ e => e)
  · refine wpAny_bind (wpAny_pure ?_)
    simp only [Bool.false_eq_true, if_false]
    exact wpAny_bind (wpAny_mono one (fun r z hz => by
      obtain ⟨c, rfl, k⟩ := hz
      exact wpAny_pure k) fun _ _ e => e)
end
end PySem.W
namespace Pk
open PySem PySem.Spec L2
open PyProof.Rows hiding St
/-! ### operators whose asking may hang on the slots -/
def OpS (X : Cx) (op : Value → Value → Sem Value) (r : St → V → V → Hp → VK → Prop) : Prop := ∀ (pins : List (Addr × Obj)) (s : Shared) (σ : St) (H : Hp) (x y : V) (v u : Value) (Q : VK), Inv X pins σ H s → RelV x v → RelV y u → r σ x y H Q →
  wpAny (model X.prog X.w) X.A (op v u) (EP X pins σ Q) X.xe s
def tOpS (r : St → V → V → Hp → VK → Prop) (ta tb : TE) : TE := fun σ H Q => ta σ H fun x H1 => tb σ H1 fun y H2 => r σ x y H2 Q
section
variable {X : Cx} {a b : Expr} {ta tb : TE} {pos : Pos} {r : St → V → V → Hp → VK → Prop}
theorem pe_opS {op : Operator} (ho : OpS X (binaryOp op) r) (ha : PE X a ta) (hb : PE X b tb) : PE X (.BinOp a op b pos) (tOpS r ta tb) := ⟨fun pins s σ H Q I h =>
  wpAny_BinOp (binT ha hb I h fun v u s2 x y H2 I2 rx ry q => ho pins s2 σ H2 x y v u Q I2 rx ry q)⟩
theorem pe_cmpS {op : CmpOp} (ho : OpS X (compareOp op) r) (ha : PE X a ta) (hb : PE X b tb) (hm : behindInMarks op b = false) : PE X (.Compare a [op] [b] pos) (tOpS r ta tb) := ⟨fun pins s σ H Q I h =>
  wpAny_Compare1 (binT ha hb I h fun v u s2 x y H2 I2 rx ry q => ho pins s2 σ H2 x y v u Q I2 rx ry q) hm⟩
end
/-- a callee, run where an operator calls it; what it lets out is asked at the slots -/
def RunS (X : Cx) (A : Around) (f : Addr) (r : St → List V → Hp → VK → Prop) : Prop :=
  ∀ (pins : List (Addr × Obj)) (s : Shared) (σ : St) (H : Hp) (vs : List V) (us : List Value) (Q : VK), Inv X pins σ H s → Vals vs us → r σ vs H Q → wpAny (model X.prog X.w) A (call (.ref f) us) (EP X pins σ Q) X.xe s
section
variable {X : Cx} {CX : CXT} {k : Nat} {f C : Addr} {fd : FuncData} {ps : List Str} {sp : Sp} {E : St → XK}
theorem runS_fn (F : FnOk X.prog X.w X.K X.mg X.base CX k f fd ps sp) (hr : Room k X.A) (hb : Binds X.K fd ps []) (hx : ∀ σ, PassesAt CX X σ (E σ)) : RunS X X.A f (fun σ vs H Q => sp vs H Q (E σ)) :=
  fun _ _ σ _ _ _ _ I rv q => run_fnS F hr hb (hx σ) I rv q
/-- x op y, x an instance of the class at C, y one of the same class -/
def rBinI (C : Addr) (r : St → List V → Hp → VK → Prop) : St → V → V → Hp → VK → Prop := fun σ x y H Q => ∃ (a dx b dy : Addr) (fs gs : List (Str × V)), x = .ref a ∧ H a = some (.ins C dx fs) ∧ y = .ref b ∧ H b = some (.ins C dy gs) ∧ r σ [.ref a, .ref b] H fun v G => (∃ c, v = .ref c) ∧ Q v G
theorem ret_cmp {pins : List (Addr × Obj)} {σ : St} {Q : VK} {u : Value} {s : Shared} (z : EP X pins σ (fun v G => (∃ c, v = V.ref c) ∧ Q v G) u s) : PySem.W.CmpBack (EP X pins σ Q) u s := by
  obtain ⟨v, G, J, ru, ⟨c, rfl⟩, q⟩ := z
  obtain rfl : u = Value.ref c := ru
  exact ⟨.ref c, G, J, rfl, q⟩
theorem op_binI {op : Operator} {r : St → List V → Hp → VK → Prop} (hc : PySem.W.selfFirst X.K C = true) (hs : PySem.W.findIn X.K (.ref C) (PySem.dunder op.info.2) = some (some (.ref f))) (hf : PySem.W.isFn X.K (.ref f) = true) (c : RunS X X.A f r) :
    OpS X (binaryOp op) (rBinI C r) := by
  intro pins s σ H x y v u Q I rx ry q
  obtain ⟨a, dx, b, dy, fs, gs, rfl, ha, rfl, hb, q⟩ := q
  obtain ⟨mA, O, _⟩ := ins_get I.hok ha
  obtain ⟨od, J, _⟩ := O.look
  obtain ⟨mB, O2, _⟩ := ins_get I.hok hb
  obtain ⟨od2, J2, _⟩ := O2.look
  obtain ⟨m, hF⟩ := I.fr
  cases (show v = Value.ref a from rx)
  cases (show u = Value.ref b from ry)
  exact PySem.W.binop_K hF I.ok.mod.kin J J2.type hc hs hf (thn (c pins s σ H [.ref a, .ref b] [.ref a, .ref b] _ I (.cons rfl (.cons rfl .nil)) q) fun z s1 hz => ret_cmp hz)
/-- the type of a value, where it is looked up -/
theorem ty_looks {pins : List (Addr × Obj)} {σ : St} {H : Hp} {s : Shared} {y : V} {u T : Value} (I : Inv X pins σ H s) (ry : RelV y u) (ty : TyX X.K H y T) : PySem.W.Looks (model X.prog X.w) s.heap (typeOf u) T := by
  obtain ⟨P, Z, p, _⟩ := kit_of I ry ty
  exact Z.ty _ _ I.kIn p
/-- what is told of a built-in type beside an operator of the class -/
structure BinT (K : PySem.W.Frag) (C : Addr) (nm T : String) : Prop where
  fo : ∃ fo, PySem.W.findIn K (.type T) (PySem.dunder nm) = some fo
  ro : ∃ ro, PySem.W.findIn K (.type T) (dunderR nm) = some ro
  sub : PySem.W.subIn K (.type T) (.ref C) = some false
def rBinT (K : PySem.W.Frag) (C : Addr) (nm : String) (r : St → List V → Hp → VK → Prop) : St → V → V → Hp → VK → Prop := fun σ x y H Q => ∃ (a dx : Addr) (fs : List (Str × V)) (T : String), x = .ref a ∧ H a = some (.ins C dx fs) ∧ TyX K H y (.type T) ∧ BinT K C nm T ∧ r σ [.ref a, y] H fun v G => (∃ c, v = .ref c) ∧ Q v G
theorem op_binT {op : Operator} {r : St → List V → Hp → VK → Prop} {rc : Option Value} (hc : PySem.W.selfFirst X.K C = true) (hs : PySem.W.findIn X.K (.ref C) (PySem.dunder op.info.2) = some (some (.ref f))) (hf : PySem.W.isFn X.K (.ref f) = true)
    (hr : PySem.W.findIn X.K (.ref C) (dunderR op.info.2) = some rc) (hp : rc = none ∨ ∃ g : Addr, rc = some (.ref g)) (c : RunS X X.A f r) : OpS X (binaryOp op) (rBinT X.K C op.info.2 r) := by
  intro pins s σ H x y v u Q I rx ry q
  obtain ⟨a, dx, fs, T, rfl, ha, ty, ⟨⟨fo, h1⟩, ⟨ro, h2⟩, h3⟩, q⟩ := q
  obtain ⟨mA, O, _⟩ := ins_get I.hok ha
  obtain ⟨od, J, _⟩ := O.look
  obtain ⟨m, hF⟩ := I.fr
  cases (show v = Value.ref a from rx)
  exact PySem.W.pk_binT hF I.ok.mod.kin J (ty_looks I ry ty) hc hs hf hr hp h1 h2 h3 (thn (c pins s σ H [.ref a, y] [.ref a, u] _ I (.cons rfl (.cons ry .nil)) q) fun z s1 hz => ret_cmp hz)
/-- both: y an instance of the class, or of a built-in type -/
theorem OpS.or {op : Value → Value → Sem Value} {r r2 : St → V → V → Hp → VK → Prop} (h1 : OpS X op r) (h2 : OpS X op r2) : OpS X op (fun σ x y H Q => r σ x y H Q ∨ r2 σ x y H Q) := fun pins s σ H x y v u Q I rx ry q => q.elim (h1 pins s σ H x y v u Q I rx ry) (h2 pins s σ H x y v u Q I rx ry)
/-- x == y, x != y by the class's own __eq__, which answers True or False; y any value whose type is told -/
def rEqV (neg : Bool) (K : PySem.W.Frag) (C : Addr) (r : List V → Hp → VK → Prop) : R2 := fun x y H Q => ∃ (a dx : Addr) (fs : List (Str × V)) (T : Value), x = .ref a ∧ H a = some (.ins C dx fs) ∧ TyX K H y T ∧ PySem.W.notFirst K C T = true ∧ r [.ref a, y] H fun v G => ∃ c, v = .bl c ∧ Q (.bl (c != neg)) G
theorem op_eqV {r : List V → Hp → VK → Prop} (hu : X.A.units < cLine) (hs : PySem.W.findIn X.K (.ref C) "__eq__" = some (some (.ref f))) (hf : PySem.W.isFn X.K (.ref f) = true) (c : RunAt X X.A f r) : OpR X (compareOp .Eq) (rEqV false X.K C r) := by
  intro pins s σ H x y v u Q I rx ry q
  obtain ⟨a, dx, fs, T, rfl, ha, ty, hn, q⟩ := q
  obtain ⟨mA, O, _⟩ := ins_get I.hok ha
  obtain ⟨od, J, _⟩ := O.look
  obtain ⟨m, hF⟩ := I.fr
  cases (show v = Value.ref a from rx)
  show wpAny _ X.A (richCompare .Eq (.ref a) u) _ _ _
  refine PySem.W.cmp_K (op := .Eq) hu hF I.ok.mod.kin J (ty_looks I ry ty) hn hs hf (thn (c pins s σ H [.ref a, y] [.ref a, u] _ I (.cons rfl (.cons ry .nil)) q) fun z s1 hz => ?_)
  obtain ⟨v, G, I1, rz, k, rfl, q1⟩ := hz
  cases rz
  rw [Bool.bne_false] at q1
  exact ⟨.bl k, G, I1, rfl, q1⟩
theorem op_neV {r : List V → Hp → VK → Prop} (hu : X.A.units + 1 < cLine) (hm : PySem.W.mroIn X.K C (.type "object") = some true) (hne : PySem.W.findIn X.K (.ref C) "__ne__" = some (some (.builtin "object.__ne__"))) (hs : PySem.W.findIn X.K (.ref C) "__eq__" = some (some (.ref f))) (hf : PySem.W.isFn X.K (.ref f) = true)
    (c : RunAt X X.A.in1 f r) : OpR X (compareOp .NotEq) (rEqV true X.K C r) := by
  intro pins s σ H x y v u Q I rx ry q
  obtain ⟨a, dx, fs, T, rfl, ha, ty, hn, q⟩ := q
  obtain ⟨mA, O, _⟩ := ins_get I.hok ha
  obtain ⟨od, J, _⟩ := O.look
  obtain ⟨m, hF⟩ := I.fr
  cases (show v = Value.ref a from rx)
  show wpAny _ X.A (richCompare .NotEq (.ref a) u) _ _ _
  refine PySem.W.pk_ne hu hF I.ok.mod.kin J (ty_looks I ry ty) hn hm hne hs hf (thn (c pins s σ H [.ref a, y] [.ref a, u] _ I (.cons rfl (.cons ry .nil)) q) fun z s1 hz => ?_)
  obtain ⟨v, G, I1, rz, k, rfl, q1⟩ := hz
  cases rz
  rw [Bool.bne_true] at q1
  exact ⟨k, rfl, .bl (!k), G, I1, rfl, q1⟩
/-- -x, abs(x) of an instance by its own methods -/
def rOwn1 (C : Addr) (r : List V → Hp → VK → Prop) : V → Hp → VK → Prop := fun x H Q => ∃ (a dx : Addr) (fs : List (Str × V)), x = .ref a ∧ H a = some (.ins C dx fs) ∧ r [.ref a] H Q
theorem un_negO {r : List V → Hp → VK → Prop} (hs : PySem.W.findIn X.K (.ref C) "__neg__" = some (some (.ref f))) (hf : PySem.W.isFn X.K (.ref f) = true) (c : RunAt X X.A f r) : UnR X (unaryOp .USub) (rOwn1 C r) := by
  intro pins s σ H x v Q I rx q
  obtain ⟨a, dx, fs, rfl, ha, q⟩ := q
  obtain ⟨mA, O, _⟩ := ins_get I.hok ha
  obtain ⟨od, J, _⟩ := O.look
  obtain ⟨m, hF⟩ := I.fr
  cases (show v = Value.ref a from rx)
  exact PySem.W.ksp_neg hF I.ok.mod.kin J hs hf (c pins s σ H [.ref a] [.ref a] _ I (.cons rfl .nil) q)
theorem call_absO {r : List V → Hp → VK → Prop} (hs : PySem.W.findIn X.K (.ref C) "__abs__" = some (some (.ref f))) (hf : PySem.W.isFn X.K (.ref f) = true) (c : RunAt X X.A.in1 f r) : CallR X (.builtin "abs") (fun xs H Q => ∃ x, xs = [x] ∧ rOwn1 C r x H Q) := by
  intro pins s σ H xs us Q I rv q
  obtain ⟨x, rfl, a, dx, fs, rfl, ha, q⟩ := q
  obtain ⟨mA, O, _⟩ := ins_get I.hok ha
  obtain ⟨od, J, _⟩ := O.look
  cases rv with
  | cons rx rn =>
    cases rn
    cases (show _ = Value.ref a from rx)
    refine Calls.call_function_entry kind_abs plain_abs entry_abs (args_abs _) ?_
    unfold Builtin.«abs»
    refine wpAny_bind (m := oneArg "abs" _) (wpAny_pure ?_)
    refine wpAny_bind (m := callSpecial? (.ref a) (Str.ofString "__abs__")) (PySem.W.special_fn I.kIn J hs (beq_iff_eq.mp hf) (thn (c pins s σ H [.ref a] [.ref a] _ I (.cons rfl .nil) q) fun z s1 hz => ?_))
    exact wpAny_pure ⟨_, rfl, hz⟩
/-- C(e, ..) that may raise -/
theorem calls_makeS {dvs : List V} {ds : List Value} (M : Mk X.K C f) (F : FnOk X.prog X.w X.K X.mg X.base CX k f fd ps sp) (hr : Room (k + 1) X.A) (hb : Binds X.K fd ps ds) (hd : Vals dvs ds) (hx : ∀ σ, PassesAt CX X σ (E σ)) :
    CallS X (.ref C) (fun σ vs H Q => ∀ x dx, H x = none → H dx = none → dx ≠ x → sp (.ref x :: (vs ++ dvs)) (upd (upd H dx (.own x)) x (.ins C dx [])) (fun v H2 => v = .non ∧ Q (.ref x) H2) (E σ)) := by
  intro pins s σ H vs us Q I rv q
  obtain ⟨n, hn⟩ : ∃ n, n = s.heap.objs.size := ⟨_, rfl⟩
  have J := Inv.made (C := C) I
  have told := q (s.heap.objs.size + 1) s.heap.objs.size (I.hok.fresh (Nat.le_succ _)) (I.hok.fresh (Nat.le_refl _)) (Nat.ne_of_lt (Nat.lt_succ_self _))
  have all : Vals (V.ref (s.heap.objs.size + 1) :: (vs ++ dvs)) (Value.ref (s.heap.objs.size + 1) :: (us ++ ds)) := .cons rfl (rv.append hd)
  have many : (Value.ref (s.heap.objs.size + 1) :: us ++ ds).length = ps.length := all.length.symm.trans (F.len _ _ _ _ told)
  have inner := F.run _ X.stack _ _ ⟨Value.ref (s.heap.objs.size + 1) :: us, []⟩ (Value.ref (s.heap.objs.size + 1) :: (us ++ ds)) _ _ (E σ) (hr.make C us []) (J.env0.make C us []) (hb _ (Value.ref (s.heap.objs.size + 1) :: us) J.kIn many) all told
  refine wpAny_call (make_map (f := f) I.kIn M.makes M.init (beq_iff_eq.mp M.fn) (codeAny_mono inner fun r z w => ?_))
  match r, w with
  | .error e, w => exact hx σ pins _ _ e z J w
  | .ok (.ret u), w =>
    obtain ⟨v, G, J2, ru, rfl, q2⟩ := J.after w
    exact ⟨ru, V.ref (s.heap.objs.size + 1), G, J2, rfl, q2⟩
/-- bool(x), x an instance with its own __bool__ -/
theorem call_boolO {r : List V → Hp → VK → Prop} (hs : PySem.W.findIn X.K (.ref C) "__bool__" = some (some (.ref f))) (hf : PySem.W.isFn X.K (.ref f) = true) (c : RunAt X X.A.in1.in1 f r) :
    CallR X (.type "bool") (fun xs H Q => ∃ (a dx : Addr) (fs : List (Str × V)), xs = [.ref a] ∧ H a = some (.ins C dx fs) ∧ r [.ref a] H fun v G => ∃ k, v = .bl k ∧ Q (.bl k) G) := by
  intro pins s σ H xs us Q I rv q
  obtain ⟨a, dx, fs, rfl, ha, q⟩ := q
  obtain ⟨mA, O, _⟩ := ins_get I.hok ha
  obtain ⟨od, J, _⟩ := O.look
  obtain ⟨m, hF⟩ := I.fr
  cases rv with
  | cons rx rn =>
    cases rn
    cases (show _ = Value.ref a from rx)
    refine PySem.W.pk_bool (PySem.W.truthy_K (Q := fun b z => EP X pins σ Q (.bool b) z) hF I.ok.mod.kin J hs hf (thn (c pins s σ H [.ref a] [.ref a] _ I (.cons rfl .nil) q) fun z s1 hz => by
      obtain ⟨v, G, I1, rz, k, rfl, q1⟩ := hz
      cases rz
      exact ⟨.bl k, G, I1, rfl, q1⟩))
/-- o.m(e, ..), what is asked may hang on the slots -/
def tMC (C : Addr) (m : Str) (r : St → List V → Hp → VK → Prop) (ta : TE) (t : TA) : TE := fun σ H Q => ta σ H fun x H1 => ∃ (a dx : Addr) (fs : List (Str × V)), x = .ref a ∧ H1 a = some (.ins C dx fs) ∧ fs.lookup m = none ∧ t σ H1 fun vs H2 => r σ (.ref a :: vs) H2 Q
theorem pe_methC {r : St → List V → Hp → VK → Prop} {pl : Sem Bool} {o e : Expr} {es : List Expr} {ta : TE} {t : TA} {m : Str} {apos pos : Pos} (he : PE X o ta) (c : Cls X.K C) (hm : Meth X.K C m f) (cs : CallS X (.ref f) r) (ha : PA X (e :: es) t)
    (hst : starEach (e :: es) X.env = (false, eval e X.env) :: starEach es X.env := by rfl) (hpl : (backTo pos (starEach es X.env)).any (·.1) = false := by rfl)
    (ht : eval (.Call (.Attribute o m apos) (e :: es) [] pos) X.env = (do let z ← eval o X.env; standAt apos.atName; let (fn, fs) ← holding [z] (getMethod z m pl); callWith pos fn fs (backTo pos (starEach (e :: es) X.env)) (backToKw pos (keywordEach [] X.env))) := by rfl) :
    PE X (.Call (.Attribute o m apos) (e :: es) [] pos) (tMC C m r ta t) := by
  refine ⟨fun pins s σ H Q I w => PySem.W.methodCall_KW (pl := pl) (thn (he.run pins s σ H _ I w) fun u s1 hz => ?_) ht⟩
  obtain ⟨x, H1, I1, rx, a, dx, fs, rfl, ea, l, q⟩ := hz
  obtain rfl : u = Value.ref a := rx
  refine getmeth_ok I1 ea c hm l (PySem.W.callWith_K (first := [.ref a]) (h₀ := X.base) I.ok.mod.kin hm.kp (thn (ha.run pos pins s1 σ H1 _ I1 q) fun us s2 hv => ?_) hst hpl)
  obtain ⟨vs, H2, I2, rv, q2⟩ := hv
  exact ⟨I2.kIn, cs pins s2 σ H2 (.ref a :: vs) (.ref a :: us) Q I2 (.cons rfl rv) q2⟩
/-- truth values, taken from one another -/
def rSubB : R2 := fun x y H Q => ∃ p q : Bool, x = .bl p ∧ y = .bl q ∧ Q (.int (PyProof.Rows.b2i p - PyProof.Rows.b2i q)) H
theorem op_subB : OpR X (binaryOp .Sub) rSubB := by
  intro pins s σ H x y v u Q I rx ry h
  obtain ⟨p, q, rfl, rfl, k⟩ := h
  cases rx
  cases ry
  exact PyProof.Rows.sub_bool ⟨.int (PyProof.Rows.b2i p - PyProof.Rows.b2i q), H, I.tok _, ⟨_, rfl⟩, k⟩
end
end Pk
end

section -- PkU
set_option linter.all false
set_option maxRecDepth 100000
set_option maxHeartbeats 2000000
/-! PkU: types that stay; a comprehension whose elements are made on the way. -/
namespace Pk
open PySem PySem.Spec L2 Evl
open PyProof.Rows hiding St
theorem tyof_ext {K : PySem.W.Frag} {H H2 : Hp} {v : V} {T : Value} (h : TyOf K H v T) (e : Ex H H2) : TyOf K H2 v T := by
  cases h with
  | non => exact .non
  | bl x => exact .bl x
  | int i => exact .int i
  | str x => exact .str x
  | flt x => exact .flt x
  | lst q => exact .lst (e _ _ q)
  | frz q => exact .frz (e _ _ q)
  | tup q => exact .tup (e _ _ q)
  | dK q => exact .dK (e _ _ q)
  | dT q => exact .dT (e _ _ q)
  | ins q a b c d r => exact .ins (e _ _ q) a b c d r
theorem tyx_ext {K : PySem.W.Frag} {H H2 : Hp} {v : V} {T : Value} (h : TyX K H v T) (e : Ex H H2) : TyX K H2 v T := by
  cases h with
  | base q => exact .base (tyof_ext q e)
  | byt b => exact .byt b
  | set q => exact .set (e _ _ q)
  | kList q c => exact .kList q c
  | kTuple q c => exact .kTuple q c
  | kDict q c => exact .kDict q c
  | fTuple q => exact .fTuple (e _ _ q)
  | fDict q => exact .fDict (e _ _ q)
section
variable {K : PySem.W.Frag} {σ : L2.St} {H : Hp} {te : TE}
/-- [e for x in ..], the elements made turn by turn: Y i v tells of the i-th, stays told, and is of no list -/
theorem lc_made {J : It} {n : Nat} {G : Hp → Prop} {Z : Nat → Hp → V → Hp → Prop} (w : Walk J n G Z) (hZ : ∀ i H x H2, Z i H x H2 → H2 = H) {Y : Nat → V → Hp → Prop} (hY : ∀ i v H H2, Ex H H2 → Y i v H → Y i v H2) (hL : ∀ i v H D xs ys, H D = some (.lst xs) → Y i v H → Y i v (upd H D (.lst ys))) (hz : n < 1000000)
    {vs : List Nat} {j : Nat} {H1 : Hp} {D : Addr} {Qd : Hp → Prop} (hG : ∀ H, Ex H1 H → G H) (hD : H1 D = none) (hw : ∀ x, wipe ((wipe σ vs).set j (some x)) vs = wipe σ vs)
    (he : ∀ i x H, i < n → Ex H1 H → Z i H x H → ∀ Qe : VK, (∀ v H4, Ex H H4 → Y i v H4 → Qe v H4) → te ((wipe σ vs).set j (some x)) H Qe) (hd : ∀ H xs, Ex H1 H → H D = some (.lst xs) → xs.length = n → (∀ i v, xs[i]? = some v → Y i v H) → Qd H) :
    ∃ W : Nat → Nat → Hp → Prop, (∃ m, W 0 m (upd H1 D (.lst []))) ∧ ∀ i m H, W i m H →
      (J.stop i H ∧ Qd H) ∨ (J.go i H ∧ ∃ Nx : Hp → Prop, (∀ H', Nx H' → ∃ m', m' < m ∧ W (i + 1) m' H') ∧ ∀ x H', J.yld i H x H' → gName j x (wipe σ vs) H' fun σ2 H2 => wipe σ2 vs = wipe σ vs ∧ tYes σ2 H2 fun b H3 =>
        if b = true then te σ2 H3 fun y H4 => ∃ acc, H4 D = some (.lst acc) ∧ acc.length < sizeLine ∧ Nx (upd H4 D (.lst (acc ++ [y]))) else Nx H3) := by
  refine lc_it w (fun i H => Ex H1 H ∧ ∃ xs, H D = some (.lst xs) ∧ xs.length = i ∧ ∀ k v, xs[k]? = some v → Y k v H) ⟨Ex.new hD, [], upd_same, rfl, fun k v h => by simp at h⟩ (fun i H _ p => hG H p.1) (fun i x H H2 hi p y => ?_) (fun H p => ?_)
  · have e := hZ i H x H2 y
    subst e
    obtain ⟨p1, xs, p2, p3, p4⟩ := p
    refine ⟨hw x, ?_⟩
    refine iteT (B := Ex H1 H2 ∧ ∃ xs, H2 D = some (HO.lst xs) ∧ xs.length = i + 1 ∧ ∀ k v, xs[k]? = some v → Y k v H2) ?_
    refine he i x H2 hi p1 y _ fun v H4 e4 yv => ⟨xs, e4 _ _ p2, szl (by omega), (p1.trans e4).mut hD, xs ++ [v], upd_same, by rw [List.length_append, p3]; rfl, fun k u hk => ?_⟩
    have d4 := e4 _ _ p2
    by_cases c : k < xs.length
    · rw [List.getElem?_append_left c] at hk
      exact hL k u H4 D xs _ d4 (hY k u H2 H4 e4 (p4 k u hk))
    · rw [List.getElem?_append_right (by omega)] at hk
      have k0 : k - xs.length = 0 := by
        cases q : k - xs.length with
        | zero => rfl
        | succ m => rw [q] at hk; simp at hk
      rw [k0] at hk
      have eu : u = v := (Option.some.inj hk).symm
      have ek : k = i := by omega
      subst eu ek
      exact hL k u H4 D xs _ d4 yv
  · obtain ⟨p1, xs, p2, p3, p4⟩ := p
    exact hd H xs p1 p2 p3 p4
/-- .. over a list | a tuple -/
theorem el_made {a : Addr} {ys : List V} {tl : TE} {j : Nat} {vs : List Nat} {Y : Nat → V → Hp → Prop} (hY : ∀ i v H H2, Ex H H2 → Y i v H → Y i v H2) (hL : ∀ i v H D xs ys, H D = some (.lst xs) → Y i v H → Y i v (upd H D (.lst ys))) (h : Ev tl σ H (.ref a)) (ha : SqL K H a ys) (hz : ys.length < 1000000)
    (hw : ∀ x, wipe ((wipe σ vs).set j (some x)) vs = wipe σ vs) (he : ∀ i x H1, ys[i]? = some x → Ex H H1 → ∀ Qe : VK, (∀ v H4, Ex H1 H4 → Y i v H4 → Qe v H4) → te ((wipe σ vs).set j (some x)) H1 Qe)
    {Q : VK} (k : ∀ p xs H2, H p = none → Ex H H2 → H2 p = some (.lst xs) → xs.length = ys.length → (∀ i v, xs[i]? = some v → Y i v H2) → Q (.ref p) H2) : tLc (iList K tl) (gName j) tYes te vs σ H Q := h H (Ex.refl H) _ fun H1 e1 => ⟨a, rfl, ⟨ys, ex_l e1 ha⟩, fun D hD =>
  lc_made walk_list (fun _ _ _ _ y => y.1) hY hL hz (fun H2 e2 => ex_l (e1.trans e2) ha) hD hw (fun i x H2 hi e2 y Qe q => he i x H2 y.2 (e1.trans e2) Qe q) fun H2 xs e2 h2 l p => k D xs H2 (fresh_back e1 hD) (e1.trans e2) h2 l p⟩
theorem el_madeT {a : Addr} {ys : List V} {tl : TE} {j : Nat} {vs : List Nat} {Y : Nat → V → Hp → Prop} (hY : ∀ i v H H2, Ex H H2 → Y i v H → Y i v H2) (hL : ∀ i v H D xs ys, H D = some (.lst xs) → Y i v H → Y i v (upd H D (.lst ys))) (h : Ev tl σ H (.ref a)) (ha : SqT K H a ys) (hz : ys.length < 1000000)
    (hw : ∀ x, wipe ((wipe σ vs).set j (some x)) vs = wipe σ vs) (he : ∀ i x H1, ys[i]? = some x → Ex H H1 → ∀ Qe : VK, (∀ v H4, Ex H1 H4 → Y i v H4 → Qe v H4) → te ((wipe σ vs).set j (some x)) H1 Qe)
    {Q : VK} (k : ∀ p xs H2, H p = none → Ex H H2 → H2 p = some (.lst xs) → xs.length = ys.length → (∀ i v, xs[i]? = some v → Y i v H2) → Q (.ref p) H2) : tLc (iTup K tl) (gName j) tYes te vs σ H Q := h H (Ex.refl H) _ fun H1 e1 => ⟨a, rfl, ⟨ys, ex_t e1 ha⟩, fun D hD =>
  lc_made walk_tup (fun _ _ _ _ y => y.1) hY hL hz (fun H2 e2 => ex_t (e1.trans e2) ha) hD hw (fun i x H2 hi e2 y Qe q => he i x H2 y.2 (e1.trans e2) Qe q) fun H2 xs e2 h2 l p => k D xs H2 (fresh_back e1 hD) (e1.trans e2) h2 l p⟩
end
/-- a list or a tuple, walked -/
def iLT (K : PySem.W.Frag) (tl : TE) : TI := fun σ H R => iList K tl σ H R ∨ iTup K tl σ H R
theorem pi_LT {X : Cx} {tg l : Expr} {tl : TE} (hl : PE X l tl) : PI X tg l (iLT X.K tl) := ⟨fun pins s σ H R I h => h.elim ((pi_list hl).run pins s σ H R I) ((pi_tup hl).run pins s σ H R I)⟩
/-- a comprehension over either -/
theorem lt_made {K : PySem.W.Frag} {σ : L2.St} {H : Hp} {te : TE} {a : Addr} {ys : List V} {tl : TE} {j : Nat} {vs : List Nat} {Y : Nat → V → Hp → Prop} (hY : ∀ i v H H2, Ex H H2 → Y i v H → Y i v H2) (hL : ∀ i v H D xs ys, H D = some (.lst xs) → Y i v H → Y i v (upd H D (.lst ys))) (h : Ev tl σ H (.ref a)) (ha : SqL K H a ys ∨ SqT K H a ys) (hz : ys.length < 1000000)
    (hw : ∀ x, wipe ((wipe σ vs).set j (some x)) vs = wipe σ vs) (he : ∀ i x H1, ys[i]? = some x → Ex H H1 → ∀ Qe : VK, (∀ v H4, Ex H1 H4 → Y i v H4 → Qe v H4) → te ((wipe σ vs).set j (some x)) H1 Qe)
    {Q : VK} (k : ∀ p xs H2, H p = none → Ex H H2 → H2 p = some (.lst xs) → xs.length = ys.length → (∀ i v, xs[i]? = some v → Y i v H2) → Q (.ref p) H2) : tLc (iLT K tl) (gName j) tYes te vs σ H Q := ha.elim (fun ha => .inl (el_made hY hL h ha hz hw he k)) (fun ha => .inr (el_madeT hY hL h ha hz hw he k))
section
variable {K : PySem.W.Frag} {σ : L2.St} {H : Hp} {te : TE}
/-- a comprehension over a tuple whose elements are known -/
theorem el_lcMT {a : Addr} {ys : List V} {tl : TE} {j : Nat} {vs : List Nat} (xs : List V) (h : Ev tl σ H (.ref a)) (ha : SqT K H a ys) (hn : xs.length = ys.length) (hz : ys.length < 1000000) (hw : ∀ x, wipe ((wipe σ vs).set j (some x)) vs = wipe σ vs)
    (he : ∀ (i : Nat) (x y : V), ys[i]? = some x → xs[i]? = some y → ∀ H1, Ex H H1 → Ev te ((wipe σ vs).set j (some x)) H1 y) : EvL (tLc (iTup K tl) (gName j) tYes te vs) σ H xs := fun H0 e Q q => h H0 e _ fun H1 e1 => ⟨a, rfl, ⟨ys, ex_t (e.trans e1) ha⟩, fun Dl hD =>
  lc_map walk_tup (fun _ _ _ _ y => y.1) xs hn (szl hz) (fun H2 e2 => ex_t ((e.trans e1).trans e2) ha) hD hw (fun i x y H2 e2 yy hy Qe qe => he i x y yy.2 hy H2 ((e.trans e1).trans e2) H2 (Ex.refl H2) Qe qe)
    fun H2 e2 h2 => q Dl H2 (fresh_back e1 hD) (e1.trans e2) h2⟩
theorem ev_any {ta : TE} {bs : List Bool} (h : EvL ta σ H (bs.map V.bl)) : Ev (tCB (rAny K) (tCons ta tNil)) σ H (.bl (bs.any id)) := fun H1 e Q q => h H1 e _ fun p H2 _ e2 h2 => ⟨p, bs, rfl, sq_of h2, q H2 e2⟩
end
end Pk
end

section -- PkV
set_option linter.all false
set_option maxRecDepth 100000
set_option maxHeartbeats 2000000
/-! PkV: repr of texts, of Booleans, of a pair of an int and a Boolean. -/
namespace Pk
open PySem PySem.Spec L2 Evl
open PyProof.Rows hiding St
open TL (tl numL)
def rReprT : List V → Hp → VK → Prop := fun vs H Q => ∃ a : Str, vs = [.str a] ∧ (reprText a).length ≤ sizeLine ∧ Q (.str (reprText a)) H
def rReprB : List V → Hp → VK → Prop := fun vs H Q => ∃ k : Bool, vs = [.bl k] ∧ Q (.str (if k then "True" else "False")) H
section
variable {X : Cx}
theorem call_reprT : CallR X (.builtin "repr") rReprT := by
  intro pins s σ H vs us Q I rv q
  obtain ⟨a, rfl, hz, q⟩ := q
  cases rv with
  | cons ra rn =>
    cases rn
    obtain ⟨t, rfl⟩ := ra
    exact PySem.P.repr_of_str ⟨.str _, H, I.tok _, ⟨_, rfl⟩, q⟩ hz
theorem call_reprB : CallR X (.builtin "repr") rReprB := by
  intro pins s σ H vs us Q I rv q
  obtain ⟨k, rfl, q⟩ := q
  cases rv with
  | cons ra rn =>
    cases rn
    cases ra
    exact PySem.P.repr_of_bool ⟨.str _, H, I.tok _, ⟨_, rfl⟩, q⟩
end
section
variable {K : PySem.W.Frag} {σ : L2.St} {H : Hp} {ta te : TE}
theorem ev_reprT {z : Str} (h : Ev te σ H (.str z)) (hz : (reprText z).length ≤ 1000000) : Ev (tCB rReprT (tCons te tNil)) σ H (.str (reprText z)) := ev_cb (ea_cons h ea_nil) fun H1 _ _ q => ⟨z, rfl, sz hz, q H1 (Ex.refl H1)⟩
theorem ev_reprB {k : Bool} (h : Ev te σ H (.bl k)) : Ev (tCB rReprB (tCons te tNil)) σ H (.str (if k then "True" else "False")) := ev_cb (ea_cons h ea_nil) fun H1 _ _ q => ⟨k, rfl, q H1 (Ex.refl H1)⟩
def pdb (t : Int) (b : Bool) : PyData := .tuple [.int t, .bool b]
theorem pdb_ok {t : Int} {b : Bool} (ht : t.natAbs.log2 < 1000) : (pdb t b).showable = true ∧ (pdb t b).hasDict = false ∧ (pdb t b).depth ≤ 40 ∧ (pdb t b).shown.length ≤ sizeLine := by
  have h1 : decide (t.natAbs.log2 < 1920) = true := decide_eq_true (by omega)
  refine ⟨?_, ?_, ?_, ?_⟩
  · simp only [pdb, PyData.showable, PyData.showableAll, h1, Bool.and_true]
  · simp only [pdb, PyData.hasDict, PyData.hasDictAll, Bool.or_false]
  · simp only [pdb, PyData.depth, PyData.depthAll]
    decide
  · have l1 := numLen ht
    have l2 : (PyData.bool b).shown.length ≤ 5 := by cases b <;> decide +kernel
    have h := PySem.tupleText_len_le (PyData.shownAll [.int t, .bool b])
    simp only [pdb, PyData.shown] at l2 ⊢
    simp only [PyData.shownAll, PyData.shown, List.map_cons, List.map_nil, List.sum_cons, List.sum_nil, List.length_cons, List.length_nil] at h ⊢
    exact sz (by omega)
theorem ev_reprUB {t : Int} {b : Bool} (ht : t.natAbs.log2 < 1000) (h : EvU ta σ H [.int t, .bl b]) : Ev (tCB (rReprD K) (tCons ta tNil)) σ H (.str (pdb t b).shown) := fun H1 e Q q =>
  h H1 e _ fun p H2 _ e2 hp =>
    have o := pdb_ok (b := b) ht
    ⟨p, pdb t b, rfl, .tup (st_of hp) (.cons (.int t) (.cons (.bl b) .nil)), o.1, o.2.1, o.2.2.1, o.2.2.2, q H2 e2⟩
/-- the text of a ratio, shown -/
theorem ratText_cps (t b : Int) : ∀ c ∈ (ratText t b).cps.toList, c < 16 ^ 8 := by
  have hn : ∀ (i : Int) (c : Nat), c ∈ numI i → c < 16 ^ 8 := fun i c hc => by
    unfold numI at hc
    split at hc
    · rcases List.mem_cons.mp hc with rfl | h
      · decide
      · exact Nat.lt_of_le_of_lt (TL.numL_digits _ c h).2 (by decide)
    · exact Nat.lt_of_le_of_lt (TL.numL_digits _ c hc).2 (by decide)
  intro c hc
  have hc' : c ∈ tl (ratText t b) := hc
  rw [tl_ratText] at hc'
  split at hc'
  · exact hn t c hc'
  · rcases List.mem_append.mp hc' with h | h
    · exact hn t c h
    · rcases List.mem_cons.mp h with rfl | h
      · decide
      · exact hn b c h
end
end Pk
end

section -- PkW
set_option linter.all false
set_option maxRecDepth 100000
set_option maxHeartbeats 2000000
/-! PkW: calls with keywords alone, which may raise; == of lists of unlike lengths. -/
namespace Pk
open PySem PySem.Spec L2 Evl
open PyProof.Rows hiding St
section
variable {X : Cx} {CX : CXT} {k : Nat} {f : Addr} {fd : FuncData} {ps ks : List Str} {sp : Sp} {E : St → XK} {x : Str} {kws : List Keyword} {tk : TA} {p pos : Pos}
/-- f(k = e, ..), nothing by position -/
def tCSK (r : St → List V → Hp → VK → Prop) (tk : TA) : TE := fun σ H Q => tk σ H fun zs H1 => r σ zs H1 Q
theorem pe_csK (F : FnOk X.prog X.w X.K X.mg X.base CX k f fd ps sp) (hr : Room k X.A) (hb : KBinds X.K fd ps ks (fun us ws => us ++ ws) (fun vs zs => vs ++ zs)) (hx : ∀ σ, PassesAt CX X σ (E σ)) (hm : X.mg x = some (.ref f)) (hk : PySem.W.keepIn X.K (.ref f) = true) (hkw : PK X kws tk) (hg : Gl X x := by rfl)
    (hall : (backToKw pos (keywordEach kws X.env)).all (·.1.isSome) = true := by rfl) (hks : (backToKw pos (keywordEach kws X.env)).filterMap (·.1) = ks := by rfl) (hdb : (x == ("__debug__" : Str)) = false := by decide)
    (hpl : ((backTo pos (starEach [] X.env)).any (·.1) || (backToKw pos (keywordEach kws X.env)).any (·.1.isNone)) = false := by rfl) :
    PE X (.Call (.Name x p) [] kws pos) (tCSK (fun σ zs H Q => sp zs H Q (E σ)) tk) := by
  refine ⟨fun pins s σ H Q I h => ?_⟩
  refine wpAny_Call_Name_kw (ld_glob I hg hm ?_ hdb)
  refine PySem.W.callWith_KW0 (h₀ := X.base) (first := []) I.ok.mod.kin hk hall (thn (hkw.run pos pins s σ H _ I h) fun ws s2 ⟨zs, H2, I2, rz, q2⟩ => ⟨I2.kIn, ?_⟩) hpl
  rw [hks]
  have r2 : Vals ([] ++ zs) ([] ++ ws) := hb.rel .nil rz
  have hl : ([] ++ ws).length = ps.length := by rw [← r2.length]; exact F.len _ _ _ _ q2
  refine wpAny_call (codeAny_mono (F.run X.A X.stack s2 H2 ⟨[], ks.zip ws⟩ ([] ++ ws) ([] ++ zs) Q (E σ) hr I2.env0 (hb.to s2 [] ws I2.kIn hl) r2 q2) fun r s' hq => ?_)
  cases r with
  | error e => exact hx σ pins H2 s2 e s' I2 hq
  | ok fl =>
    cases fl with
    | ret u => exact I2.after hq
    | next => exact False.elim hq
    | brk => exact False.elim hq
    | cont => exact False.elim hq
end
/-- xs == ys, two lists: unlike lengths, or both empty -/
def rEqLen : R2 := fun x y H Q => ∃ (a b : Addr) (xs ys : List V), x = .ref a ∧ y = .ref b ∧ H a = some (.lst xs) ∧ H b = some (.lst ys) ∧ (xs = [] ∨ ys = []) ∧ Q (.bl (decide (xs.length = ys.length))) H
theorem op_eqLen {X : Cx} (hu : X.A.units < cLine) : OpR X (compareOp .Eq) rEqLen := by
  intro pins s σ H x y v u Q I rx ry q
  obtain ⟨a, b, xs, ys, rfl, rfl, ha, hb, he, q⟩ := q
  cases rx
  cases ry
  obtain ⟨z, its, k, r, e⟩ := I.hok a _ ha
  obtain ⟨z2, its2, k2, r2, e2⟩ := I.hok b _ hb
  have l1 : xs.length = its.toArray.size := by rw [List.size_toArray]; exact r.length
  have l2 : ys.length = its2.toArray.size := by rw [List.size_toArray]; exact r2.length
  show wpAny _ X.A (richCompare .Eq (.ref a) (.ref b)) _ _ _
  have L1 : s.heap.IsList a its.toArray := ⟨_, e, rfl, k, rfl⟩
  have L2 : s.heap.IsList b its2.toArray := ⟨_, e2, rfl, k2, rfl⟩
  by_cases c : xs.length = ys.length
  · have c0 : its.toArray.size = 0 := by
      rcases he with h | h
      · rw [← l1, h]; rfl
      · rw [← l1, c, h]; rfl
    have w := PySem.SeqAt.RcAt.lists (e := fun _ => true) L1 L2 (by rw [← l1, ← l2]; exact c) hu (fun j h1 _ => by omega) X.prog X.w X.xe (EP X pins σ Q) (by
      rw [c0]
      rw [decide_eq_true c] at q
      exact ⟨.bl true, H, I, rfl, q⟩)
    exact w
  · have w := PySem.SeqAt.RcAt.lists_lengths L1 L2 (by rw [← l1, ← l2]; exact bne_iff_ne.mpr c) hu X.prog X.w X.xe (EP X pins σ Q) (by
      rw [decide_eq_false c] at q
      exact ⟨.bl false, H, I, rfl, q⟩)
    exact w
/-! ### xs[::k], k 1 or -1 -/
theorem pick_one (its : List Value) : slicePick its.toArray none none (some 1) = its.toArray := by
  unfold slicePick
  have e : sliceBounds none none (some 1) its.toArray.size = (((0 : Nat) : Int), ((its.toArray.size : Nat) : Int), (1 : Int)) := rfl
  rw [e]
  simp only [sliceRange_one, pick_run, List.size_toArray, Nat.sub_zero, List.drop_zero, List.take_length]
def tStep (K : PySem.W.Frag) (te : TE) (tk : TO) : TE := fun σ H Q => te σ H fun x H1 => tk σ H1 fun o H2 => ∃ (a : Addr) (xs : List V) (st : Int), x = .ref a ∧ o = some st ∧ (st = 1 ∨ st = -1) ∧ SqL K H2 a xs ∧ ∀ p, H2 p = none → Q (.ref p) (upd H2 p (.lst (if st = 1 then xs else xs.reverse)))
theorem vals_rev : ∀ {vs : List V} {us : List Value}, Vals vs us → Vals vs.reverse us.reverse
  | [], _, h => by cases h; exact .nil
  | v :: vs, _, h => by
    cases h with
    | cons a b =>
      rw [List.reverse_cons, List.reverse_cons]
      exact (vals_rev b).append (.cons a .nil)
theorem pe_step {X : Cx} {e k : Expr} {te : TE} {tk : TO} {pos p2 : Pos} (he : PE X e te) (hk : PO X (some k) tk) : PE X (.Subscript e (.Slice none none (some k) p2) pos) (tStep X.K te tk) := by
  refine ⟨fun pins s σ H Q I h => ?_⟩
  refine Subscript_ (thn (he.run pins s σ H _ I h) fun v s1 ⟨x, H1, I1, r1, q1⟩ => ?_)
  refine wpAny_Slice ?_
  rw [evalPart_none]
  refine wpAny_pure (wpAny_pure (thn (hk.run pins s1 σ H1 _ I1 q1) fun vk s3 ⟨o, H3, I3, pk, q3⟩ => ?_))
  obtain ⟨a, xs, st, rfl, rfl, hst, hx, q⟩ := q3
  have I4 : Inv X pins σ H3 { s3 with heap := s3.heap.push { cls := .type "slice", data := .fields #[.none, .none, vk] } } := I3.kept (t' := s3.toks) fun b ob q => Heap.get?_push_of_some _ q
  cases r1
  obtain ⟨its, r, ht, hz⟩ := I4.list hx
  have hlen := r.length
  have hp : slicePick its.toArray none none (some st) = (if st = 1 then its else its.reverse).toArray := by
    rcases hst with rfl | rfl
    · rw [if_pos rfl]; exact pick_one its
    · rw [if_neg (by decide)]
      have := PySem.W.krv_pick its.toArray
      rw [this] <;> simp
  have rr : Vals (if st = 1 then xs else xs.reverse) (if st = 1 then its else its.reverse) := by
    rcases hst with rfl | rfl
    · rw [if_pos rfl, if_pos rfl]; exact r
    · rw [if_neg (by decide), if_neg (by decide)]; exact vals_rev r
  have hz2 : (if st = 1 then xs else xs.reverse).length ≤ sizeLine := by
    split
    · exact hz
    · rw [List.length_reverse]; exact hz
  show wpAny (model X.prog X.w) X.A (subscriptTail e (.Slice none none (some k) p2) (.ref a) (.ref s3.heap.objs.size)) (EP X pins σ Q) X.xe { s3 with heap := s3.heap.push { cls := .type "slice", data := .fields #[.none, .none, vk] } }
  refine tail_any (ops := [.ref a, .ref s3.heap.objs.size]) ht.isList.typeIs slot_list_getitem.lookup ?_ (by with_unfolding_all rfl)
  refine wpAny_getItem_list_slice ht.isList (Heap.IsSliceOf.new ..) .none .none pk (by rcases hst with rfl | rfl <;> decide) ?_ (by rw [List.size_toArray] <;> omega)
  rw [hp]
  refine ⟨.ref _, _, I4.laid (t' := s3.toks) (o := .lst (if st = 1 then xs else xs.reverse)) (fun b ob q => Heap.get?_push_of_some _ q) (Nat.le_refl _) ?_, rfl, q _ (I4.hok.fresh (Nat.le_refl _))⟩
  exact ⟨hz2, _, 0, rr, Heap.get?_push_size _ rfl⟩
/-! ### what evaluates to what, further -/
def rTupOf (K : PySem.W.Frag) : List V → Hp → VK → Prop := fun xs H Q => ∃ p ys, xs = [.ref p] ∧ ((SqL K H p ys ∧ ∀ l, H l = none → Q (.ref l) (upd H l (.tup ys))) ∨ (SqT K H p ys ∧ Q (.ref p) H))
theorem call_tupOf {X : Cx} : CallR X (.type "tuple") (rTupOf X.K) := call_tuple_of
section
variable {K : PySem.W.Frag} {σ : L2.St} {H : Hp} {ta tb te : TE}
theorem eu_tupOf {p : Addr} {xs : List V} (h : Ev ta σ H (.ref p)) (hp : SqL K H p xs) : EvU (tCB (rTupOf K) (tCons ta tNil)) σ H xs := fun H1 e Q q => h H1 e _ fun H2 e2 => ⟨p, xs, rfl, .inl ⟨ex_l (e.trans e2) hp, fun l nl => q l _ (fresh_back e2 nl) (e2.trans (Ex.new nl)) upd_same⟩⟩
theorem ev_eqLen {p : Addr} {xs : List V} (h : Ev ta σ H (.ref p)) (hp : H p = some (.lst xs)) (hb : EvL tb σ H []) : Ev (tOp rEqLen ta tb) σ H (.bl (decide (xs.length = 0))) := ev_opL h hb fun q H1 hq e => fun H2 e2 Q k => ⟨p, q, xs, [], rfl, rfl, e2 _ _ (e _ _ hp), e2 _ _ hq, .inr rfl, k H2 (Ex.refl H2)⟩
theorem dp_strs {H : Hp} : ∀ zs : List Str, DpAll K H (zs.map V.str) (zs.map PyData.str)
  | [] => .nil
  | z :: zs => .cons (.str z) (dp_strs zs)
theorem lay_strs : ∀ zs : List Str, zs.all PyData.strOk = true → PyData.canLayAll0 (zs.map PyData.str) = true
  | [], _ => rfl
  | z :: zs, h => by
    rw [List.all_cons, Bool.and_eq_true] at h
    simp only [List.map_cons, PyData.canLayAll0, PyData.canLay0, h.1, Bool.true_and]
    exact lay_strs zs h.2
theorem depth_strs : ∀ zs : List Str, PyData.depthAll (zs.map PyData.str) ≤ 1
  | [] => Nat.zero_le _
  | z :: zs => by
    have := depth_strs zs
    simp only [List.map_cons, PyData.depthAll, PyData.depth]
    omega
theorem shaped_strs {zs : List Str} (hz : zs.all PyData.strOk = true) : SeqAt.shaped (.list (zs.map PyData.str)) = true := by
  have h := depth_strs zs
  unfold SeqAt.shaped
  rw [Bool.and_eq_true, decide_eq_true_iff]
  refine ⟨by simp only [PyData.canLay0]; exact lay_strs zs hz, ?_⟩
  simp only [PyData.depth]
  omega
/-- equal lists of texts -/
theorem ev_eqStrs {zs : List Str} (hz : zs.all PyData.strOk = true) (ha : EvL ta σ H (zs.map V.str)) (hb : EvL tb σ H (zs.map V.str)) : Ev (tOp (rEqD K) ta tb) σ H (.bl true) := ev_opLL ha hb fun p q H1 hp hq e => fun H2 e2 Q k =>
  ⟨_, _, .lst (sq_of (e2 _ _ hp)) (dp_strs zs), .lst (sq_of (e2 _ _ hq)) (dp_strs zs), shaped_strs hz, shaped_strs hz, by rw [SeqAt.eqv_refl _ (by simp only [PyData.canLay0]; exact lay_strs zs hz)]; exact k H2 (Ex.refl H2)⟩
theorem ev_neStrs {zs : List Str} (hz : zs.all PyData.strOk = true) (ha : EvL ta σ H (zs.map V.str)) (hb : EvL tb σ H (zs.map V.str)) : Ev (tOp (rNeD K) ta tb) σ H (.bl false) := ev_opLL ha hb fun p q H1 hp hq e => fun H2 e2 Q k =>
  ⟨_, _, .lst (sq_of (e2 _ _ hp)) (dp_strs zs), .lst (sq_of (e2 _ _ hq)) (dp_strs zs), shaped_strs hz, shaped_strs hz, by rw [SeqAt.eqv_refl _ (by simp only [PyData.canLay0]; exact lay_strs zs hz)]; exact k H2 (Ex.refl H2)⟩
theorem el_rep {xs : List V} {n : Int} (ha : EvL ta σ H xs) (hb : Ev tb σ H (.int n)) (h0 : 0 ≤ n) (h1 : n ≤ 1000) (hz : xs.length ≤ 100) : EvL (tOp rRep ta tb) σ H (List.replicate n.toNat xs).flatten := fun H1 e Q k => ha H1 e _ fun p H2 np e2 hp => hb H2 (e.trans e2) _ fun H3 e3 => by
  refine ⟨p, n, xs, rfl, rfl, e3 _ _ hp, by omega, by omega, ?_, fun l nl => k l _ (fresh_back (e2.trans e3) nl) ((e2.trans e3).trans (Ex.new nl)) upd_same⟩
  have : xs.length * n.toNat ≤ 100 * 1000 := Nat.mul_le_mul hz (by omega)
  exact sz (by omega)
end
end Pk
end

section -- PkX
set_option linter.all false
set_option maxRecDepth 100000
set_option maxHeartbeats 4000000
/-! PkX: looks behind the top, that every law shares. -/
namespace Pk
open PySem PySem.Spec L2
open PyProof.Rows hiding St
open He (ga ma)
theorem oexB_ok {K : PySem.W.Frag} {C : Addr} (h : oexB K C = true) : ∃ nm q N bs bm sn sub ab col dd k0 k1 k2 k3 k5, K.lookup C = some (excClassObj nm q C N bs bm true sn sub ab col dd k0 k1 k2 k3 k5 "ValueError.__new__") ∧ PySem.HandSPX.refsVE bm = true := by
  unfold oexB at h
  cases q : K.lookup C with
  | none => rw [q] at h; cases h
  | some o =>
    obtain ⟨oc, od, dt, sl⟩ := o
    rw [q] at h
    cases oc with
    | type t =>
      cases dt with
      | cls cd =>
        obtain ⟨nm, bs, mro, N, qn, hd, sn, sub, ab, col, hdel⟩ := cd
        obtain ⟨h1, h⟩ := Bool.and_eq_true_iff.mp h
        obtain ⟨h2, h⟩ := Bool.and_eq_true_iff.mp h
        obtain ⟨h3, h⟩ := Bool.and_eq_true_iff.mp h
        obtain ⟨h4, h⟩ := Bool.and_eq_true_iff.mp h
        obtain ⟨h5, h⟩ := Bool.and_eq_true_iff.mp h
        cases mro with
        | nil => cases h
        | cons v bm =>
          cases v with
          | ref c =>
            obtain ⟨h6, h7⟩ := Bool.and_eq_true_iff.mp h
            have e1 := of_decide_eq_true h1
            have e6 := of_decide_eq_true h6
            subst e1 e6
            have e2 : hd = true := h2
            have e3 : hdel = false := by cases hdel with
              | false => rfl
              | true => cases h3
            subst e2 e3
            obtain ⟨l, rfl⟩ : ∃ l, sl = ⟨l⟩ := ⟨sl.toList, rfl⟩
            have e4 : l.length = 6 := of_decide_eq_true h4
            match l, e4, h5, q with
            | [k0, k1, k2, k3, k4, k5], _, h5, q =>
              have e5 : k4 = some (.builtin "ValueError.__new__") := of_decide_eq_true h5
              subst e5
              exact ⟨nm, qn, N, bs, bm, sn, sub, ab, col, od, k0, k1, k2, k3, k5, rfl, h7⟩
          | _ => cases h
      | _ => cases h
    | _ => cases dt <;> cases h
theorem intC_of {K : PySem.W.Frag} {C : Addr} {f : Str} {n : Int} (c : (match PySem.W.findCls K (.ref C) (.type "type") f with
    | some (.val (.int i _)) => decide (i = n)
    | _ => false) = true) : ∃ u, ClX.CVal K C (.type "type") f (.int n) u := by
  split at c
  · next i t e =>
    have ei := of_decide_eq_true c
    subst ei
    exact ⟨_, e, t, rfl⟩
  · cases c
theorem strC_of {K : PySem.W.Frag} {C : Addr} {f : Str} {z : Str} (c : (match PySem.W.findCls K (.ref C) (.type "type") f with
    | some (.val (.str i _)) => decide (i = z)
    | _ => false) = true) : ∃ u, ClX.CVal K C (.type "type") f (.str z) u := by
  split at c
  · next i t e =>
    have ei := of_decide_eq_true c
    subst ei
    exact ⟨_, e, t, rfl⟩
  · cases c
theorem strG_of {K : PySem.W.Frag} {h : Heap} {mg : Str → Option Value} (X : K.In h) (G : h.Ns mainGlobals mg) {x z : Str} (c : (match PySem.W.nsIn K mainGlobals x with
    | some (some (.str y _)) => decide (y = z)
    | _ => false) = true) : ∃ u, mg x = some u ∧ RelV (.str z) u := by
  split at c
  · next y t e =>
    have ey := of_decide_eq_true c
    subst ey
    exact ⟨_, PySem.W.mg_of X G e, t, rfl⟩
  · cases c
theorem intG_of {K : PySem.W.Frag} {h : Heap} {mg : Str → Option Value} (X : K.In h) (G : h.Ns mainGlobals mg) {x : Str} {z : Int} (c : (match PySem.W.nsIn K mainGlobals x with
    | some (some (.int y _)) => decide (y = z)
    | _ => false) = true) : ∃ u, mg x = some u ∧ RelV (.int z) u := by
  split at c
  · next y t e =>
    have ey := of_decide_eq_true c
    subst ey
    exact ⟨_, PySem.W.mg_of X G e, t, rfl⟩
  · cases c
/-- the record of a property, a staticmethod -/
def recB (K : PySem.W.Frag) (C : Addr) (T : String) (m : Str) : Bool := match PySem.W.recIn K (ma K C m) T with
  | some (.ref _ :: _) => true
  | _ => false
theorem recB_ok {K : PySem.W.Frag} {C : Addr} {T : String} {m : Str} (h : recB K C T m = true) : ∃ rest, PySem.W.recIn K (ma K C m) T = some (.ref (He5.wf K C T m) :: rest) := by
  unfold He5.wf
  unfold recB at h
  split at h
  · rename_i f r e
    exact ⟨r, by rw [e]⟩
  · cases h
end Pk
end

section -- PkY
set_option linter.all false
set_option maxRecDepth 100000
set_option maxHeartbeats 4000000
/-! PkY: an own exception with its own __init__ as a value, made by position or by keywords. -/
namespace PySem
namespace PkE
open PySem.W PySem.Calls PyProof.Rows PySem.HandSPX
section
variable {M : Model} {A : Around} {E : Value → Shared → Prop} {h : Heap} {g : Array GenState} {d : Drawn} {t : Nat} {os : OsState}
variable {nm q : Str} {C N : Addr} {bs bm bmB : List Value} {hdct : Bool} {sn : List Str} {sub : List Value} {ab : Bool} {col : Option Bool} {dd : Option Addr} {k0 k1 k2 k3 k5 : Option Value} {B newId initId : String}
theorem check_new_kw (F : ExcBaseFacts B newId initId bmB) (hT : ∀ X : String, bm.contains (.type X) = bmB.contains (.type X)) {rest : List Value} {kw : List (Str × Value)} {Q : Unit → Shared → Prop}
    (hC : h.get? C = some (excClassObj nm q C N bs bm hdct sn sub ab col dd k0 k1 k2 k3 k5 newId)) (hq : Q () ⟨h, g, d, t, os⟩) : wpAny M A (checkBuiltinCall newId ⟨.ref C :: rest, kw⟩) Q E ⟨h, g, d, t, os⟩ := by
  have hcont : (Value.ref C :: bm).contains (.type B) = true := by rw [List.contains_cons, hT, F.hasB, Bool.or_true]
  have hstar := F.noStar
  simp only [checkBuiltinCall, F.newKind, F.newSplit, F.newRow]
  repeat (first | refine wpAny_loadPart_at hC ?_ | (refine wpAny_isSubtype_exc hC ?_; rw [hcont]) | refine wpAny_staticBase_exc hC ?_ | refine wpAny_madeBy_exc hC ?_ | simp only [bne_self_eq_false, Bool.false_eq_true, if_false] | wp_step)
  exact hq
end
section
variable {prog : Program} {w : World} {A : Around} {E : Value → Shared → Prop} {R : Result → Shared → Prop} {h : Heap} {g : Array GenState} {d : Drawn} {t : Nat} {os : OsState}
variable {nm q : Str} {C N : Addr} {bs bm bmB : List Value} {hdct : Bool} {sn : List Str} {sub : List Value} {ab : Bool} {col : Option Bool} {dd : Option Addr} {k0 k1 k2 k3 k5 : Option Value} {B newId initId : String}
theorem new_kw (F : ExcBaseFacts B newId initId bmB) (hT : ∀ X : String, bm.contains (.type X) = bmB.contains (.type X)) {rest : List Value} {kw : List (Str × Value)}
    (hC : h.get? C = some (excClassObj nm q C N bs bm hdct sn sub ab col dd k0 k1 k2 k3 k5 newId))
    (hq : R (.ok (.ret (.ref (h.objs.size + 1)))) ⟨(h.push { cls := .type "tuple", data := .seq rest.toArray }).push
      { cls := .ref C, data := .fields #[.ref h.objs.size, .none, .none, .none, .bool false, .none] }, g, d, t, os⟩) (hrest : rest.length ≤ sizeLine) :
    codeAny (model prog w) A (.builtin newId ⟨.ref C :: rest, kw⟩) R ⟨h, g, d, t, os⟩ := by
  have hends := F.ends
  have hcB : (Value.ref C :: bm).contains (.type B) = true := by rw [List.contains_cons, hT, F.hasB, Bool.or_true]
  have hcA : (Value.ref C :: bm).contains (.type "AttributeError") = false := by rw [List.contains_cons, hT, F.noAttr]; rfl
  have hcN : (Value.ref C :: bm).contains (.type "NameError") = false := by rw [List.contains_cons, hT, F.noName]; rfl
  refine codeAny_builtinAt F.entry ?_
  unfold Builtin.«BaseException.__new__»
  refine wpAt_bind ?_
  show wpAt _ _ _ (stack >>= _) _ _ _
  refine wpAt_bind (wpAt_stack fun p below => wpAt_of_wpAny ?_)
  wp_walk
  refine wpAt_of_wpAny ?_
  rw [F.owner]
  repeat (first | with_reducible refine wpAny_madeHere_exc F.canon hC ?_ | with_reducible refine wpAny_loadPart_at hC ?_ | (with_reducible refine wpAny_isSubtype_exc hC ?_; first | rw [hcB] | rw [hcA] | rw [hcN]) | wp_step)
  show R _ _
  rw [Heap.size_push]
  exact hq
theorem type_call_kw (F : ExcBaseFacts B newId initId bmB) (hT : ∀ X : String, bm.contains (.type X) = bmB.contains (.type X)) {rest : List Value} {kw : List (Str × Value)} {fI : Addr} {Q : Fin → Shared → Prop}
    (hC : h.get? C = some (excClassObj nm q C N bs bm hdct sn sub ab col dd k0 k1 k2 k3 k5 newId))
    (hi : W.Looks (model prog w) h (typeLookup (.ref C) "__init__") (some (.ref fI))) (hb : ∀ self, W.Looks (model prog w) h (bindSpecial (.ref fI) self) (.ref fI, [self])) (hrest : rest.length ≤ sizeLine)
    (hq : codeAny (model prog w) A (.call (.ref fI) ⟨.ref (h.objs.size + 1) :: rest, kw⟩)
      (fun r s' => match r with | .ok (.ret v) => v = .none ∧ Q (.done (.ret (.ref (h.objs.size + 1)))) s' | .ok _ => False | .error e => E e s')
      ⟨(h.push (W.kdv_tup rest)).push (excO C h.objs.size), g, d, t, os⟩) :
    wpAny (model prog w) A (Builtin.«type.__call__» ⟨.ref C :: rest, kw⟩) Q E ⟨h, g, d, t, os⟩ := by
  repeat (first | with_reducible refine wpAny_loadPart_at hC ?_ | with_reducible refine wpAny_madeBy_exc hC ?_ | wp_step)
  refine codeAny_call_builtin_code (Code.quiet_builtin _ F.quiet) (check_new_kw F hT hC ?_)
  refine new_kw F hT hC ?_ hrest
  show wpAny _ _ _ _ _ _
  have k : ∀ b o, h.get? b = some o → ((h.push (W.kdv_tup rest)).push (excO C h.objs.size)).get? b = some o := fun b o e => Heap.get?_push_of_some _ (Heap.get?_push_of_some _ e)
  have hC₁ := k _ _ hC
  have hget : ((h.push (W.kdv_tup rest)).push (excO C h.objs.size)).get? (h.objs.size + 1) = some (excO C h.objs.size) := by heap_get
  have hcC : (Value.ref C :: bm).contains (.ref C) = true := by simp
  have i1 := hi.keeps k
  have b1 := (hb (.ref (h.objs.size + 1))).keeps k
  unfold isInstance
  repeat (first | with_reducible refine wpAny_loadPart_at hget ?_ | (with_reducible refine wpAny_isSubtype_exc hC₁ ?_; rw [hcC]) | wp_step)
  show wpAny _ _ (typeLookup (.ref C) _) _ _ _
  refine i1.at ?_
  refine wpAny_holding (wpAny_bind (b1.at ?_))
  refine wpAny_bind (wpAny_call (codeAny_mono hq fun r s' z => ?_))
  rcases r with e | (v | _ | _ | _) <;> first | exact z | exact z.elim | skip
  obtain ⟨rfl, z⟩ := z
  first
    | exact wpAny_pure (wpAny_pure z)
    | (wp_walk; exact z)
theorem call_kw (F : ExcBaseFacts B newId initId bmB) (hT : ∀ X : String, bm.contains (.type X) = bmB.contains (.type X)) {rest : List Value} {kw : List (Str × Value)} {fI : Addr}
    (hC : h.get? C = some (excClassObj nm q C N bs bm hdct sn sub ab col dd k0 k1 k2 k3 k5 newId))
    (hi : W.Looks (model prog w) h (typeLookup (.ref C) "__init__") (some (.ref fI))) (hb : ∀ self, W.Looks (model prog w) h (bindSpecial (.ref fI) self) (.ref fI, [self])) (hrest : rest.length ≤ sizeLine)
    (hq : codeAny (model prog w) (A.under (.builtin "type.__call__" ⟨.ref C :: rest, kw⟩)) (.call (.ref fI) ⟨.ref (h.objs.size + 1) :: rest, kw⟩) (W.InitBack (h.objs.size + 1) R)
      ⟨(h.push (W.kdv_tup rest)).push (excO C h.objs.size), g, d, t, os⟩) :
    codeAny (model prog w) A (.call (.ref C) ⟨rest, kw⟩) R ⟨h, g, d, t, os⟩ := by
  have f1 := tc_lookup
  have f2 := tc_bind (.ref C)
  have hTy : (⟨h, g, d, t, os⟩ : Shared).TypeIs (.ref C) "type" := ⟨_, hC, rfl⟩
  refine codeAny_of_tree ?_
  show wpAny _ _ (callAny (.ref C) _) _ _ _
  repeat (any_goals (first | assumption | with_reducible refine wpAny_loadPart_at hC ?_ | wp_step))
  refine ⟨rfl, ?_⟩
  refine codeAny_call_builtin_at (Code.quiet_builtin _ (by decide +kernel)) entry_typeCall (wpAny_check_type_call_sub hC (type_call_kw F hT hC hi hb hrest ?_))
  refine codeAny_mono hq fun r s' z => ?_
  rcases r with e | (v | _ | _ | _) <;> exact z
end
end PkE
end PySem

namespace Pk
open PySem PySem.Spec L2
open PyProof.Rows hiding St
section
variable {X : Cx}
/-- the end of C(..) as a value: the exception stays, its dict as an exception's dict -/
theorem mk_endV {pins : List (Addr × Obj)} {σ : L2.St} {H1 H2 : Hp} {hp hp2 h2 : Heap} {g1 g2 : Array GenState} {d1 d2 : Drawn} {t1 t2 : Nat} {os1 os2 : OsState} {a C d : Addr} {fs : List (Str × V)} (I1 : L2.Inv X pins σ H1 ⟨hp, g1, d1, t1, os1⟩)
    (ha : hp.objs.size ≤ a) (k : ∀ b o, hp.get? b = some o → hp2.get? b = some o) (un : Un (frs X.stack) [] (upd H1 a (exo a C none)) H2 hp2 h2) (hok : HOk X.prog X.w H2 h2) (ho : os2 = os1) (hb : AllBare g2)
    (ea : H2 a = some (exo a C (some d))) (ed : H2 d = some (exd d fs)) (hd1 : H1 d = none) :
    L2.Inv X pins σ (upd (upd H2 a (exq (.ref C) (some d) a)) d (.xd fs)) ⟨h2, g2, d2, t2, os2⟩ := by
  obtain ⟨t0, hoe⟩ := exo_at hok ea
  obtain ⟨mA, hns, rel⟩ := exd_at hok ed
  have hn : H1 a = none := I1.hok.fresh ha
  have hda : d ≠ a := fun z => by
    obtain ⟨o, es, ep, e1, e2, _⟩ := hns
    rw [z, hoe] at e1
    have z2 := Option.some.inj e1
    subst z2
    cases e2
  have nha : ∀ {b : Addr} {o : Obj}, hp.get? b = some o → b ≠ a := fun {b o} z => Nat.ne_of_lt (Nat.lt_of_lt_of_le (Heap.lt_size z) ha)
  have up : ∀ {b : Addr}, b ≠ a → H1 b = none → upd H1 a (exo a C none) b = none := fun {b} hb n => by rw [upd_ne hb]; exact n
  have nd : ∀ {b : Addr} {o : Obj}, hp.get? b = some o → H1 b = none → b ≠ d := fun {b o} z n e => by
    have y := un.free b o (k b o z) (up (nha z) n) (by simp)
    rw [e, ed] at y
    cases y
  have U : Un (frs X.stack) [] H1 (upd (upd H2 a (exq (.ref C) (some d) a)) d (.xd fs)) hp h2 := {
    keep := fun b o z n hf hx => un.keep b o (k b o z) (up (nha z) n) hf hx
    slot := fun b o z n hf hx => un.slot b o (k b o z) (up (nha z) n) hf hx
    free := fun b o z n hx => by
      rw [upd_ne (nd z n), upd_ne (nha z)]
      exact un.free b o (k b o z) (up (nha z) n) hx
    there := fun b o z hx => un.there b o (k b o z) hx
    tups := fun b xs z => by
      rw [upd_ne (ne_of_none z hd1), upd_ne (ne_of_none z hn)]
      exact un.tups b xs (by rw [upd_ne (ne_of_none z hn)]; exact z)
    frzs := fun b o v z => by
      rw [upd_ne (ne_of_none z hd1), upd_ne (ne_of_none z hn)]
      exact un.frzs b o v (by rw [upd_ne (ne_of_none z hn)]; exact z)
    tbls := fun b ps z => by
      rw [upd_ne (ne_of_none z hd1), upd_ne (ne_of_none z hn)]
      exact un.tbls b ps (by rw [upd_ne (ne_of_none z hn)]; exact z) }
  have hok3 : HOk X.prog X.w (upd (upd H2 a (exq (.ref C) (some d) a)) d (.xd fs)) h2 := fun b o z => by
    by_cases hbd : b = d
    · subst hbd
      rw [upd_same] at z
      cases z
      exact ⟨mA, hns, rel⟩
    · rw [upd_ne hbd] at z
      by_cases hba : b = a
      · subst hba
        rw [upd_same] at z
        cases z
        exact exq_ok hoe ⟨rfl, rfl⟩ rfl
      · rw [upd_ne hba] at z
        exact (hok b o z).stay (fun c v hc y => y)
          (fun c hc => by rw [upd_ne (at_ne ed hc exd_own), upd_ne (at_ne ea hc exo_own)]; exact hc) (fun c xs hc => by rw [upd_ne (at_ne ed hc exd_tup), upd_ne (at_ne ea hc exo_tup)]; exact hc)
  exact I1.call' (ch := []) ho U hok3 hb (fun b z => absurd z (by simp))
/-- C(e, ..) as a value: the values, then C's own __init__; a new exception at a, its dict at d -/
def rMkV (C : Addr) (sp : Sp) : List V → Hp → VK → Prop := fun vs H Q => ∀ a, H a = none → sp (.ref a :: vs) (upd H a (exo a C none))
  (fun v H2 => v = .non ∧ ∃ (d : Addr) (fs : List (Str × V)), H2 a = some (exo a C (some d)) ∧ H2 d = some (exd d fs) ∧ H d = none ∧ Q (.ref a) (upd (upd H2 a (exq (.ref C) (some d) a)) d (.xd fs))) (fun _ _ _ => False)
section
variable {CX : CXT} {C fI : Addr} {k n : Nat} {fd : FuncData} {ps ks : List Str} {sp : Sp} {g : List Value → List Value → List Value} {gV : List V → List V → List V}
theorem run_mkV (T : OexC X.K C) (iC : PySem.W.findIn X.K (.ref C) "__init__" = some (some (.ref fI))) (tI : PySem.W.typeIn X.K (.ref fI) = some (.type "function"))
    (F1 : FnOk X.prog X.w X.K X.mg X.base CX k fI fd ps sp) (hr : Room (k + 1) X.A) (hb : KBn X.K fd ps (n + 1) ks g gV) (hx : Passes CX X (fun _ _ _ => False))
    {pins : List (Addr × Obj)} {σ : L2.St} {H : Hp} {s : Shared} {Q : VK} {us ws : List Value} {vs zs : List V} (hgc : ∀ x, gV (x :: vs) zs = x :: gV vs zs) (I : L2.Inv X pins σ H s) (r : Vals vs us) (rz : Vals zs ws) (l1 : vs.length = n) (l2 : zs.length = ks.length) (hz : n ≤ 1000) (q1 : rMkV C sp (gV vs zs) H Q) :
    wpAny (model X.prog X.w) X.A (call (.ref C) us (ks.zip ws)) (EP X pins σ Q) X.xe s := by
  obtain ⟨nm, q, N, bs, bm, sn, sub, ab, col, dd, k0, k1, k2, k3, k5, hC, hbm⟩ := T.cls
  obtain ⟨hp, gs, dr, tk, os⟩ := s
  have hsz : hp.objs.size ≤ hp.objs.size + 1 := Nat.le_succ _
  have hn : H (hp.objs.size + 1) = none := I.hok.fresh hsz
  have hq := q1 (hp.objs.size + 1) hn
  rw [← hgc] at hq
  have kk : ∀ b o, hp.get? b = some o → ((hp.push (PySem.W.kdv_tup us)).push (PySem.HandSPX.excO C hp.objs.size)).get? b = some o := fun b o e => Heap.get?_push_of_some _ (Heap.get?_push_of_some _ e)
  have hget : ((hp.push (PySem.W.kdv_tup us)).push (PySem.HandSPX.excO C hp.objs.size)).get? (hp.objs.size + 1) = some (PySem.HandSPX.excO C hp.objs.size) := by heap_get
  have I2 : L2.Inv X pins σ (upd H (hp.objs.size + 1) (exo (hp.objs.size + 1) C none)) ⟨(hp.push (PySem.W.kdv_tup us)).push (PySem.HandSPX.excO C hp.objs.size), gs, dr, tk, os⟩ :=
    I.laid (t' := tk) (a := hp.objs.size + 1) (o := exo (hp.objs.size + 1) C none) (h' := (hp.push (PySem.W.kdv_tup us)).push (PySem.HandSPX.excO C hp.objs.size)) kk hsz (L2.exo_ok hget)
  have r1 : Vals (V.ref (hp.objs.size + 1) :: vs) (Value.ref (hp.objs.size + 1) :: us) := .cons rfl r
  have r2 := hb.rel r1 rz
  have e1 : (Value.ref (hp.objs.size + 1) :: us).length = n + 1 := r1.length.symm.trans (congrArg Nat.succ l1)
  have e2 : ws.length = ks.length := rz.length.symm.trans l2
  have hus : us.length ≤ sizeLine := by
    rw [← Paired.length r, l1, sizeLine_eq]
    omega
  refine wpAny_call (PySem.PkE.call_kw F.excBase_ValueError (fun Y => PySem.HandSPX.refsVE_contains Y bm hbm) (I.kIn _ _ hC) (PySem.W.looks_findIn I.kIn iC) (fun self => PySem.W.bind_fn I.kIn self tI) hus
    (codeAny_mono (F1.run _ X.stack _ _ ⟨Value.ref (hp.objs.size + 1) :: us, ks.zip ws⟩ (g (Value.ref (hp.objs.size + 1) :: us) ws) _ _ (fun _ _ _ => False) (hr.make C us (ks.zip ws)) (I2.env0.make C us (ks.zip ws)) (hb.to _ (Value.ref (hp.objs.size + 1) :: us) ws I2.kIn e1 e2) r2 hq) fun r s' hq' => ?_))
  cases r with
  | error er => exact hx pins σ _ _ er s' I2 hq'
  | ok fl =>
    cases fl with
    | ret u =>
      obtain ⟨v, H2, os2, bare2, un2, hok2, rv, ev, d, fs, ea, ed, hd1, q2⟩ := hq'
      subst ev
      obtain ⟨h2, g2, d2, t2, os'⟩ := s'
      exact ⟨rv, .ref (hp.objs.size + 1), _, mk_endV I hsz kk un2 hok2 os2 bare2 ea ed hd1, rfl, q2⟩
    | next => exact False.elim hq'
    | brk => exact False.elim hq'
    | cont => exact False.elim hq'
end
end
end Pk
end

section -- PkZ
set_option linter.all false
set_option maxRecDepth 100000
set_option maxHeartbeats 4000000
/-! PkZ: made exceptions, their fields and classes, lists of them, at the level of what they tell. -/
namespace Pk
open PySem PySem.Spec L2 Evl
open PyProof.Rows hiding St
/-- a class and what an exception of it tells; no dict yet: none -/
abbrev XD := Addr × Option (List (Str × V))
/-- v is an exception that tells p -/
def XcAt (H : Hp) (v : V) (p : XD) : Prop := ∃ a d, v = .ref a ∧ H a = some (exq (.ref p.1) d a) ∧ (match p.2 with | none => d = none | some fs => ∃ dd, d = some dd ∧ H dd = some (.xd fs))
theorem XcAt.ext {H H2 : Hp} {v : V} {p : XD} (h : XcAt H v p) (e : Ex H H2) : XcAt H2 v p := by
  obtain ⟨a, d, rfl, ha, hd⟩ := h
  refine ⟨a, d, rfl, e _ _ ha, ?_⟩
  obtain ⟨C, o⟩ := p
  cases o with
  | none => exact hd
  | some fs =>
    obtain ⟨dd, h1, h2⟩ := hd
    exact ⟨dd, h1, e _ _ h2⟩
def AllX (H : Hp) (vs : List V) (ps : List XD) : Prop := vs.length = ps.length ∧ ∀ (i : Nat) (v : V) (p : XD), vs[i]? = some v → ps[i]? = some p → XcAt H v p
theorem AllX.ext {H H2 : Hp} {vs : List V} {ps : List XD} (h : AllX H vs ps) (e : Ex H H2) : AllX H2 vs ps := ⟨h.1, fun i v p a b => (h.2 i v p a b).ext e⟩
theorem AllX.nil {H : Hp} : AllX H [] [] := ⟨rfl, fun i v p a _ => by cases a⟩
theorem AllX.cons {H : Hp} {v : V} {p : XD} {vs : List V} {ps : List XD} (h : XcAt H v p) (r : AllX H vs ps) : AllX H (v :: vs) (p :: ps) := ⟨by show vs.length + 1 = ps.length + 1; rw [r.1], fun i u q a b => by
  cases i with
  | zero =>
    cases a
    cases b
    exact h
  | succ i => exact r.2 i u q a b⟩
theorem AllX.app {H : Hp} {vs us : List V} {ps qs : List XD} (h : AllX H vs ps) (r : AllX H us qs) : AllX H (vs ++ us) (ps ++ qs) := ⟨by rw [List.length_append, List.length_append, h.1, r.1], fun i v p a b => by
  by_cases c : i < vs.length
  · rw [List.getElem?_append_left c] at a
    rw [List.getElem?_append_left (by rw [← h.1]; exact c)] at b
    exact h.2 i v p a b
  · rw [List.getElem?_append_right (by omega)] at a
    rw [List.getElem?_append_right (by rw [← h.1]; omega), ← h.1] at b
    exact r.2 _ v p a b⟩
/-! ### what evaluates to them -/
def EvC (te : TE) (σ : L2.St) (H : Hp) (p : XD) : Prop := ∀ H1, Ex H H1 → ∀ Q : VK, (∀ v H2, Ex H1 H2 → XcAt H2 v p → Q v H2) → te σ H1 Q
def EaC (ta : TA) (σ : L2.St) (H : Hp) (ps : List XD) : Prop := ∀ H1, Ex H H1 → ∀ Q : List V → Hp → Prop, (∀ vs H2, Ex H1 H2 → AllX H2 vs ps → Q vs H2) → ta σ H1 Q
def ElC (te : TE) (σ : L2.St) (H : Hp) (ps : List XD) : Prop := ∀ H1, Ex H H1 → ∀ Q : VK, (∀ p vs H2, Ex H1 H2 → H2 p = some (.lst vs) → AllX H2 vs ps → Q (.ref p) H2) → te σ H1 Q
section
variable {σ : L2.St} {H : Hp} {te ta tb : TE}
theorem eaC_nil : EaC tNil σ H [] := fun H1 _ _ k => k [] H1 (Ex.refl H1) .nil
theorem eaC_cons {tr : TA} {p : XD} {ps : List XD} (h : EvC te σ H p) (r : EaC tr σ H ps) : EaC (tCons te tr) σ H (p :: ps) := fun H1 e Q k =>
  h H1 e _ fun v H2 e2 hv => r H2 (e.trans e2) _ fun vs H3 e3 hvs => k (v :: vs) H3 (e2.trans e3) (.cons (hv.ext e3) hvs)
theorem elC_lst {t : TA} {ps : List XD} (h : EaC t σ H ps) (hl : ps.length ≤ 100000) : ElC (tLst t) σ H ps := fun H1 e Q k =>
  h H1 e _ fun vs H2 e2 hvs => ⟨sz_of (by rw [hvs.1]; exact hl), fun p np => k p vs _ (e2.trans (Ex.new np)) upd_same (hvs.ext (Ex.new np))⟩
theorem elC_var {i : Nat} {l : Addr} {vs : List V} {ps : List XD} (s : σ[i]? = some (some (.ref l))) (h : H l = some (.lst vs)) (hv : AllX H vs ps) : ElC (tVar i) σ H ps := fun H1 e Q k => ⟨_, s, k l vs H1 (Ex.refl H1) (e _ _ h) (hv.ext e)⟩
theorem elC_cat {ps qs : List XD} (ha : ElC ta σ H ps) (hb : ElC tb σ H qs) (hl : ps.length + qs.length ≤ 1000000) : ElC (tOp rCat ta tb) σ H (ps ++ qs) := fun H1 e Q k =>
  ha H1 e _ fun p us H2 e2 hp au => hb H2 (e.trans e2) _ fun q ws H3 e3 hq aw => ⟨p, q, us, ws, rfl, rfl, e3 p _ hp, hq, sz (by rw [au.1, aw.1]; exact hl), fun l hl => k l _ _ ((e2.trans e3).trans (Ex.new hl)) upd_same (((au.ext e3).app aw).ext (Ex.new hl))⟩
theorem s_asgC {D : Ends} {i : Nat} {ps : List XD} (h : ElC te σ H ps) (k : ∀ p vs H1, Ex H H1 → H1 p = some (.lst vs) → AllX H1 vs ps → D.nx (σ.set i (some (.ref p))) H1) : tAsg te (gName i) D σ H := h H (Ex.refl H) _ k
theorem s_retC {D : Ends} {ps : List XD} (h : ElC te σ H ps) (k : ∀ p vs H1, Ex H H1 → H1 p = some (.lst vs) → AllX H1 vs ps → D.rt (.ref p) H1) : tRet te D σ H := h H (Ex.refl H) _ k
theorem elC_is {ps qs : List XD} (h : ElC te σ H ps) (e : ps = qs) : ElC te σ H qs := e ▸ h
end
/-! ### made -/
/-- C.__init__(self, n, ..): self.n = n, .. -/
def spIn (C : Addr) (ns : List Str) : Sp := fun vs H Q _ => ∃ (a : Addr) (xs : List V), vs = .ref a :: xs ∧ xs.length = ns.length ∧ H a = some (exo a C none) ∧
  ∀ d H2, H d = none → d ≠ a → (∀ b, b ≠ a → b ≠ d → H2 b = H b) → H2 a = some (exo a C (some d)) → H2 d = some (exd d (ns.zip xs).reverse) → Q .non H2
theorem mkV_in {C : Addr} {ns : List Str} {xs : List V} {H : Hp} {Q : VK} (hl : xs.length = ns.length) (k : ∀ v H2, Ex H H2 → XcAt H2 v (C, some (ns.zip xs).reverse) → Q v H2) : rMkV C (spIn C ns) xs H Q := fun a na =>
  ⟨a, xs, rfl, hl, upd_same, fun d H2 nd dne same ea ed => ⟨rfl, d, _, ea, ed, by rw [upd_ne dne] at nd; exact nd, k _ _ (fun b o hb => by
    rw [upd_ne dne] at nd
    have b1 : b ≠ a := ne_of_none hb na
    have b2 : b ≠ d := ne_of_none hb nd
    rw [upd_ne b2, upd_ne b1, same b b1 b2, upd_ne b1]
    exact hb) ⟨a, some d, rfl, by rw [upd_ne (Ne.symm dne), upd_same], d, rfl, upd_same⟩⟩⟩
/-- what is known of an own exception class at C -/
structure XK (P : Program) (w : World) (K : PySem.W.Frag) (mg : Str → Option Value) (base : Heap) (x : Str) (C fI : Addr) (fd : FuncData) (ns : List Str) : Prop where
  gl : mg x = some (.ref C)
  ox : OexC K C
  iC : PySem.W.findIn K (.ref C) "__init__" = some (some (.ref fI))
  tI : PySem.W.typeIn K (.ref fI) = some (.type "function")
  G : FnOk P w K mg base CX0 2 fI fd ("self" :: ns) (spIn C ns)
  b : KBn K fd ("self" :: ns) (ns.length + 1) [] (fun us _ => us) (fun vs _ => vs)
  bk : KBn K fd ("self" :: ns) 1 ns.reverse (fun us ws => us ++ ws.reverse) (fun vs zs => vs ++ zs.reverse)
section
variable {X : Cx} {x : Str} {C fI : Addr} {fd : FuncData} {ns : List Str} {e : Expr} {es : List Expr} {t : TA} {p pos : Pos} {kws : List Keyword}
/-- C(e, ..) -/
def tMkX (C : Addr) (ns : List Str) (t : TA) : TE := fun σ H Q => t σ H fun vs H1 => vs.length = ns.length ∧ rMkV C (spIn C ns) vs H1 Q
theorem pe_mkX (T : XK X.prog X.w X.K X.mg X.base x C fI fd ns) (hr : Room 3 X.A) (hn : ns.length ≤ 1000) (ha : PA X (e :: es) t) (hg : Gl X x := by rfl) (hdb : (x == ("__debug__" : Str)) = false := by decide)
    (he : starEach (e :: es) X.env = (false, eval e X.env) :: starEach es X.env := by rfl) (hpl : (backTo pos (starEach es X.env)).any (·.1) = false := by rfl) : PE X (.Call (.Name x p) (e :: es) [] pos) (tMkX C ns t) := by
  refine ⟨fun pins s σ H Q I q => ?_⟩
  refine wpAny_Call_Name_kw (ld_glob I hg T.gl ?_ hdb)
  refine PySem.W.callWith_K (h₀ := X.base) I.ok.mod.kin T.ox.kC (thn (ha.run pos pins s σ H _ I q) fun us s1 ⟨vs, H1, I1, rv, hl, q1⟩ => ⟨I1.kIn, ?_⟩) he hpl
  exact run_mkV T.ox T.iC T.tI T.G hr T.b pass0 (zs := []) (ws := []) (fun _ => rfl) I1 rv .nil hl rfl hn q1
/-- C(n = e, ..), backwards -/
def tMkXK (C : Addr) (ns : List Str) (t : TA) : TE := fun σ H Q => t σ H fun zs H1 => zs.length = ns.length ∧ rMkV C (spIn C ns) zs.reverse H1 Q
theorem pe_mkXK (T : XK X.prog X.w X.K X.mg X.base x C fI fd ns) (hr : Room 3 X.A) (hkw : PK X kws t) (hg : Gl X x := by rfl)
    (hall : (backToKw pos (keywordEach kws X.env)).all (·.1.isSome) = true := by rfl) (hks : (backToKw pos (keywordEach kws X.env)).filterMap (·.1) = ns.reverse := by rfl) (hdb : (x == ("__debug__" : Str)) = false := by decide)
    (hpl : ((backTo pos (starEach [] X.env)).any (·.1) || (backToKw pos (keywordEach kws X.env)).any (·.1.isNone)) = false := by rfl) : PE X (.Call (.Name x p) [] kws pos) (tMkXK C ns t) := by
  refine ⟨fun pins s σ H Q I h => ?_⟩
  refine wpAny_Call_Name_kw (ld_glob I hg T.gl ?_ hdb)
  refine PySem.W.callWith_KW0 (h₀ := X.base) (first := []) I.ok.mod.kin T.ox.kC hall (thn (hkw.run pos pins s σ H _ I h) fun ws s2 ⟨zs, H2, I2, rz, hl, q2⟩ => ⟨I2.kIn, ?_⟩) hpl
  rw [hks]
  exact run_mkV (n := 0) (vs := []) (us := []) T.ox T.iC T.tI T.G hr T.bk pass0 (fun _ => rfl) I2 .nil rz rfl (by rw [hl, List.length_reverse]) (by decide) q2
/-- C(), C without own __init__ -/
theorem pe_mkX0 {bmB : List Value} {B newId initId : String} (F : ExcBaseFacts B newId initId bmB) (q : PySem.W.excIn X.K C bmB newId = true) (gC : X.mg x = some (.ref C)) (kC : PySem.W.keepIn X.K (.ref C) = true) (hg : Gl X x := by rfl) (hdb : (x == ("__debug__" : Str)) = false := by decide) :
    PE X (.Call (.Name x p) [] [] pos) (fun σ H Q => ∀ v H2, Ex H H2 → XcAt H2 v (C, none) → Q v H2) := by
  refine ⟨fun pins s σ H Q I h => ?_⟩
  refine wpAny_Call_Name_kw (ld_glob I hg gC ?_ hdb)
  refine PySem.W.callWith_KW0 (h₀ := X.base) (first := []) I.ok.mod.kin kC (by rfl) (thn (pk_nil.run pos pins s σ H (fun zs H1 => zs = [] ∧ H1 = H) I ⟨rfl, rfl⟩) fun ws s2 ⟨zs, H2, I2, rz, hl, eH⟩ => ⟨I2.kIn, ?_⟩) (by rfl)
  subst hl eH
  cases rz
  show wpAny _ _ (call (.ref C) []) _ _ _
  obtain ⟨bm, N, nm, qn, bs, hdct, sn, sub, ab, col, dd, k0, k1, k2, k3, k5, mN, hC, hN, hni, T⟩ := exc_obj I2.kIn q
  refine wpAny_call_exc_subT F T hC hN hni (fun h' a hm => ?_) (by show 0 ≤ sizeLine; exact Nat.zero_le _)
  have hn : H2 a = none := I2.hok.gone hm.new
  obtain ⟨t, ht, _, _⟩ := hm.there
  exact ⟨.ref a, upd H2 a (exq (.ref C) none a), I2.laidN hm.keeps hm.new hn (exq_ok ht ⟨rfl, rfl⟩ rfl), rfl, h _ _ (Ex.new hn) ⟨a, none, rfl, upd_same, rfl⟩⟩
/-- e.n, e a kept exception, whatever its class -/
def tXa (K : PySem.W.Frag) (n : Str) (te : TE) : TE := fun σ H Q => te σ H fun x H1 => ∃ (a C dd : Addr) (fs : List (Str × V)) (v : V), x = .ref a ∧ XfC K C ∧ PySem.W.findIn K (.ref C) n = some none ∧ H1 a = some (exq (.ref C) (some dd) a) ∧ H1 dd = some (.xd fs) ∧ fs.lookup n = some v ∧ Q v H1
theorem pe_xa {te : TE} {n : Str} (he : PE X e te) (hb : attributeBase e n X.env (eval e X.env) = eval e X.env := by rfl) : PE X (.Attribute e n pos) (tXa X.K n te) := by
  refine ⟨fun pins s σ H Q I h => attr_of hb (thn (he.run pins s σ H _ I h) fun u s1 ⟨x, H1, I1, rx, a, C, dd, fs, v, ex, T, hno, ea, ed, l, q⟩ => ?_)⟩
  subst ex
  obtain rfl : u = Value.ref a := rx
  obtain ⟨oe, vs, ho, hcl, hdc, hda⟩ := exq_at I1.hok ea
  have hx : ObjOk X.prog X.w H1 s1.heap dd (.xd fs) := I1.hok dd _ ed
  obtain ⟨mA, hns, hr⟩ := hx
  obtain ⟨od, hod, hl⟩ := lookIn_ns hns
  obtain ⟨y, hy, ry⟩ := RelO.some_of (v := v) (o := mA n) (by rw [← l]; exact hr n)
  have J : PySem.W.InstAt s1.heap a oe C (some od) := ⟨ho, hcl, (by unfold PySem.W.notCls; rw [hda] <;> rfl), (by rw [hdc]; exact hod)⟩
  exact HandSPX.exc_get I1.kIn J T.ga T.gg T.exC (PySem.W.findObj_own T.hdC hno rfl (by rw [hl, hy])) (handed_of ry) ⟨v, H1, I1.tok _, ry, q⟩
end
section
variable {K : PySem.W.Frag} {σ : L2.St} {H : Hp} {te ta tb : TE} {C : Addr} {ns : List Str} {xs : List V} {t : TA}
theorem evC_mk (h : EvA t σ H xs) (hl : xs.length = ns.length) : EvC (tMkX C ns t) σ H (C, some (ns.zip xs).reverse) := fun H1 e Q k => h H1 e _ fun H2 e2 => ⟨hl, mkV_in hl fun v H3 e3 hv => k v H3 (e2.trans e3) hv⟩
theorem evC_mkK (h : EvA t σ H xs.reverse) (hl : xs.length = ns.length) : EvC (tMkXK C ns t) σ H (C, some (ns.zip xs).reverse) := fun H1 e Q k => h H1 e _ fun H2 e2 => ⟨by rw [List.length_reverse]; exact hl, by
  rw [List.reverse_reverse]
  exact mkV_in hl fun v H3 e3 hv => k v H3 (e2.trans e3) hv⟩
theorem evC_mk0 : EvC (fun σ H Q => ∀ v H2, Ex H H2 → XcAt H2 v (C, none) → Q v H2) σ H (C, none) := fun H1 e Q k => fun v H2 e2 hv => k v H2 e2 hv
theorem ev_xa {n : Str} {x v : V} {fs : List (Str × V)} (h : Ev te σ H x) (hx : XcAt H x (C, some fs)) (T : XfC K C) (hno : PySem.W.findIn K (.ref C) n = some none) (hl : fs.lookup n = some v) : Ev (tXa K n te) σ H v := fun H1 e Q k => h H1 e _ fun H2 e2 => by
  obtain ⟨a, d, rfl, ha, dd, rfl, hd⟩ := hx.ext (e.trans e2)
  exact ⟨a, C, dd, fs, v, rfl, T, hno, ha, hd, hl, k H2 e2⟩
theorem ev_isQ {x c : V} {cv : Value} {p : XD} {b : Bool} (h : EvA t σ H [x, c]) (hx : XcAt H x p) (hc : ClsV c cv) (T : ExcC K p.1) (hk : PySem.W.kitOne K (.ref p.1) cv = some b) : Ev (tCB (rIsQ K) t) σ H (.bl b) := fun H1 e Q k => h H1 e _ fun H2 e2 => by
  obtain ⟨a, d, rfl, ha, hd⟩ := hx.ext (e.trans e2)
  refine ⟨a, p.1, d, c, cv, b, rfl, fun o ho => ?_, ha, hc, T, hk, k H2 e2⟩
  obtain ⟨C, q⟩ := p
  cases q with
  | none =>
    rw [show d = none from hd] at ho
    cases ho
  | some fs =>
    obtain ⟨dd, h1, h2⟩ := hd
    rw [h1] at ho
    cases ho
    exact ⟨fs, h2⟩
end
end Pk
end

section -- PkAA
set_option linter.all false
set_option maxRecDepth 100000
set_option maxHeartbeats 4000000
/-! PkAA: repr of tuples whose items are data, dicts among them, or instances with their own __repr__. -/
namespace PySem.W
open PySem PySem.Spec PySem.Calls PyProof.Rows
section
variable {prog : Program} {w : World} {A : Around} {E : Value → Shared → Prop} {s : Shared} {K : Frag} {x C f : Addr} {ox : Obj} {od : Option Obj}
/-- the repr of an item that has its own __repr__ -/
theorem pk_reprUnder {b : Nat} {Q : Str → Shared → Prop} (hb : b ≤ sizeLine) (hu : A.units < cLine) (X : K.In s.heap) (I : InstAt s.heap x ox C od) (hs : findIn K (.ref C) "__repr__" = some (some (.ref f))) (hf : isFn K (.ref f) = true)
    (h : wpAny (model prog w) A (call (.ref f) [.ref x]) (fun v s' => ∃ t u, v = .str t u ∧ Q t s') E s) : wpAny (model prog w) A (pyReprUnder b (.ref x)) Q E s := by
  refine wpAny_pyReprUnder_ref hb ?_
  unfold pyReprObjUnder pyReprObjBy
  refine wpAny_bind (wpAny_cRoomFor hu ?_)
  refine wpAny_bind (wpAny_bind (I.type.here ((looks_findIn X hs).here ?_)))
  show wpAny _ _ (if (some (Value.ref f)).isNone = true then _ else _) _ _ _
  rw [if_neg (by simp)]
  refine wpAny_bind (m := callSpecialIfBoundBy? _ (.ref x) (Str.ofString "__repr__")) ?_
  simp only [callSpecialIfBoundBy?, bindSpecialIfBound?]
  refine wpAny_holding (wpAny_bind (wpAny_bind (wpAny_bind (I.type.here ((looks_findIn X hs).here ?_)))))
  refine wpAny_bind (wpAny_askSetting (wpAny_ite ?_))
  have fin : ∀ {R : Option Value → Shared → Prop}, (∀ v s', (∃ t u, v = Value.str t u ∧ Q t s') → R (some v) s') → wpAny (model prog w) A (call (.ref f) [.ref x] >>= fun v => pure (some v)) R E s := fun {R} hR => wpAny_bind (wpAny_mono h (fun v s' h' => wpAny_pure (hR v s' h')) fun _ _ h' => h')
  split
  · refine wpAny_bind ((bind_fn X _ (beq_iff_eq.mp hf)).here (wpAny_pure ?_))
    refine fin fun v s' hv => ?_
    obtain ⟨t, u, rfl, q⟩ := hv
    exact wpAny_bind (wpAny_isInstance (typeIs_str _ _ _) isSubtype_str_str (wpAny_pure ⟨t, u, rfl, q⟩))
  · refine wpAny_tryCatch (wpAny_bind ((bind_fn X _ (beq_iff_eq.mp hf)).here (wpAny_pure ?_)))
    refine fin fun v s' hv => ?_
    obtain ⟨t, u, rfl, q⟩ := hv
    exact wpAny_bind (wpAny_isInstance (typeIs_str _ _ _) isSubtype_str_str (wpAny_pure ⟨t, u, rfl, q⟩))
end
end PySem.W
namespace Pk
open PySem PySem.Spec L2 Evl
open PyProof.Rows hiding St
/-- this value, in this heap, is data that repr shows as t -/
def RkK (P : Program) (w : World) (h : Heap) (u : Value) (t : Str) : Prop := ∃ d as bs, Reads h u d as ∧ ReadAtMost h d.depth bs ∧ ReprK P w bs h d.depth u t ∧ d.depth ≤ 40 ∧ t.length ≤ 2000
/-- the same of what is told -/
def RkD (P : Program) (w : World) (K : PySem.W.Frag) (H : Hp) (v : V) (t : Str) : Prop :=
  ∀ (X : Cx) (pins : List (Addr × Obj)) (σ : L2.St) (s : Shared) (u : Value) (H1 : Hp), Ex H H1 → X.prog = P → X.w = w → X.K = K → L2.Inv X pins σ H1 s → RelV v u → RkK P w s.heap u t
section
variable {P : Program} {w : World} {K : PySem.W.Frag} {H : Hp}
theorem RkD.ext {H2 : Hp} {v : V} {t : Str} (h : RkD P w K H v t) (e : Ex H H2) : RkD P w K H2 v t := fun X pins σ s u H1 e1 => h X pins σ s u H1 (e.trans e1)
mutual
theorem dp_ext {H H2 : Hp} (e : Ex H H2) : ∀ (d : PyData) (v : V), Dp K H v d → Dp K H2 v d
  | .none, _, h => by cases h; exact .non
  | .bool b, _, h => by cases h; exact .bl b
  | .int i, _, h => by cases h; exact .int i
  | .str x, _, h => by cases h; exact .str x
  | .list ds, _, h => by
    cases h with
    | lst hs ha => exact .lst (ex_l e hs) (dpA_ext e ds _ ha)
  | .tuple ds, _, h => by
    cases h with
    | tup hs ha => exact .tup (ex_t e hs) (dpA_ext e ds _ ha)
  | .dict _, _, h => by cases h
theorem dpA_ext {H H2 : Hp} (e : Ex H H2) : ∀ (ds : List PyData) (vs : List V), DpAll K H vs ds → DpAll K H2 vs ds
  | [], _, h => by cases h; exact .nil
  | d :: ds, _, h => by
    cases h with
    | cons h1 h2 => exact .cons (dp_ext e d _ h1) (dpA_ext e ds _ h2)
end
theorem rk_dp {v : V} {d : PyData} (hd : Dp K H v d) (h1 : d.showable = true) (h2 : d.hasDict = false) (h3 : d.depth ≤ 40) (h4 : d.shown.length ≤ 2000) : RkD P w K H v d.shown := fun X pins σ s u H1 e hP hw hK I r => by
  subst hP hw hK
  obtain ⟨as, rd⟩ := Dp.reads I d _ _ (dp_ext e d v hd) r
  obtain ⟨bs, hb, hk⟩ := ReprK.of_reads (prog := X.prog) (w := X.w) rd h1 (PyData.noDict_hsm h2) (sz (by omega))
  exact ⟨d, as, bs, rd, hb, hk, h3, h4⟩
theorem readAtMost_nil {h : Heap} {n : Nat} : ReadAtMost h n [] := fun _ hm => nomatch hm
/-- {k: v}, k a text -/
theorem rk_dict1 {a : Addr} {k : Str} {v : V} (ha : H a = some (.dK [(Sum.inr k, v)])) {d : PyData} (hv : Dp K H v d) (h1d : d.showable = true) (h2d : d.hasDict = false) (hk : (reprText k).length ≤ 400) (ht : d.shown.length ≤ 400) (d30 : d.depth ≤ 30) : RkD P w K H (.ref a) (dictText [reprText k ++ ": " ++ d.shown]) := fun X pins σ s u H1 e hP hw hK I r => by
  subst hP hw hK
  cases r
  obtain ⟨_, hsys, vs, kv, o, es, ep, ho, hex, hdt, _, hp, _⟩ := dk_of I.hok (e _ _ ha)
  cases kv with
  | @cons _ q _ _ h1 h2 =>
    cases h2
    obtain ⟨qk, qv⟩ := q
    obtain ⟨rfl, rv⟩ := h1
    obtain ⟨el⟩ := es
    cases hp with
    | @cons e1 _ _ _ g1 g2 g3 =>
      cases g3
      obtain ⟨tk, hkey⟩ : ∃ tk, e1.key = Value.str k tk := by
        have g1' : keyIs (Sum.inr k) e1.key = true := g1
        rcases keyIs_shape g1' with ⟨i, t, z, _⟩ | ⟨x, t, z, z2⟩
        · cases z
        · cases z
          exact ⟨t, z2⟩
      have hval : e1.val = qv := g2
      obtain ⟨as, rd⟩ := Dp.reads I d _ _ (dp_ext e d v hv) rv
      obtain ⟨bs, hb, hrk⟩ := ReprK.of_reads (prog := X.prog) (w := X.w) rd h1d (PyData.noDict_hsm h2d) (sz (by omega))
      have rdk : Reads s.heap e1.key (.str k) [] := hkey ▸ Reads.str k tk
      have rdv : Reads s.heap e1.val d as := hval ▸ rd
      have rD : Reads s.heap (.ref a) (.dict [(.str k, d)]) (a :: ([] ++ []) ++ (as ++ [])) := Reads.dict ho hex.1 hdt (.cons rdk .nil) (.cons rdv .nil)
      have dD : (PyData.dict [(.str k, d)]).depth = d.depth + 1 := by simp [PyData.depth, PyData.depthKv]
      have hna : a ∉ bs := not_mem_of_deeper rD (by rw [dD]; omega) hb
      have rk0 : ReprK X.prog X.w bs s.heap d.depth e1.key (reprText k) := by
        rw [hkey]
        exact .of_is (ReprIs.str k tk (sz (by omega))) _ _ _
      have rk1 : ReprK X.prog X.w bs s.heap d.depth e1.val d.shown := by
        rw [hval]
        exact hrk
      have l0 : ((": " : String) : Str).length = 2 := by decide +kernel
      have l1 : (("{" : String) : Str).length = 1 := by decide +kernel
      have l2 : (("}" : String) : Str).length = 1 := by decide +kernel
      have lj : (dictText [reprText k ++ ": " ++ d.shown]).length = 1 + ((reprText k).length + 2 + d.shown.length) + 1 := by
        show (("{" : Str) ++ (reprText k ++ ": " ++ d.shown) ++ "}").length = _
        rw [strLen_append, strLen_append, strLen_append, strLen_append, l0, l1, l2]
      refine ⟨_, _, a :: bs, rD, ?_, ?_, by rw [dD]; omega, by rw [lj]; omega⟩
      · exact ReadAtMost.cons rD (by rw [dD]; omega) hb
      · rw [dD]
        exact ReprK.dict ho hex.1 hdt hsys hna (.cons rk0 rk1 .nil)
/-! ### a tuple of such items and of instances -/
/-- what repr shows of an item: data, or an instance of the class at C by the def at f, which keeps r -/
def ItR (P : Program) (w : World) (K : PySem.W.Frag) (C : Addr) (r : V → Str → Hp → Prop) (H : Hp) (v : V) (t : Str) : Prop := RkD P w K H v t ∨ (t.length ≤ 2000 ∧ (∃ a dx fs, v = .ref a ∧ H a = some (.ins C dx fs)) ∧ r v t H)
inductive ItRs (P : Program) (w : World) (K : PySem.W.Frag) (C : Addr) (r : V → Str → Hp → Prop) (H : Hp) : List V → List Str → Prop
  | nil : ItRs P w K C r H [] []
  | cons {v : V} {t : Str} {vs : List V} {ts : List Str} : ItR P w K C r H v t → ItRs P w K C r H vs ts → ItRs P w K C r H (v :: vs) (t :: ts)
theorem ItRs.len {C : Addr} {r : V → Str → Hp → Prop} : ∀ {vs : List V} {ts : List Str}, ItRs P w K C r H vs ts → ts.length = vs.length
  | _, _, .nil => rfl
  | _, _, .cons _ h => congrArg Nat.succ (ItRs.len h)
end
section
variable {X : Cx} {C f : Addr} {r : V → Str → Hp → Prop} {A : Around} {sp : List V → Hp → VK → Prop} {pins : List (Addr × Obj)} {σ : L2.St} {H : Hp}
/-- an item, shown under the tuple at p -/
theorem item_run {p : Addr} {c : Code} {s : Shared} {v : V} {u : Value} {t : Str} {base : Nat} {Q : Str → Shared → Prop} (hg : A.guards = some [c]) (hc : ∃ id rest kw, c = .builtin id ⟨.ref p :: rest, kw⟩) (hu : A.units + 64 < cLine)
    (hs : PySem.W.findIn X.K (.ref C) "__repr__" = some (some (.ref f))) (hf : PySem.W.isFn X.K (.ref f) = true) (run : RunAt X A f sp) (hsp : ∀ v t H Q, r v t H → Q (.str t) H → sp [v] H Q)
    (I : L2.Inv X pins σ H s) (hi : ItR X.prog X.w X.K C r H v t) (rv : RelV v u) (hno : ∀ d as bs, Reads s.heap u d as → ReadAtMost s.heap d.depth bs → p ∉ bs) (hb : base + t.length ≤ sizeLine) (k : ∀ s', L2.Inv X pins σ H s' → Q t s') : wpAny (model X.prog X.w) A (pyReprUnder base u) Q X.xe s := by
  rcases hi with hd | ⟨_, ⟨a, dx, fs, rfl, ha⟩, hr⟩
  · obtain ⟨d, as, bs, rd, hbs, hk, hdp, hln⟩ := hd X pins σ s u H (Ex.refl H) rfl rfl rfl I rv
    have np := hno d as bs rd hbs
    obtain ⟨id, rest, kw, rfl⟩ := hc
    refine hk base hb A _ _ s _ hg (fun b hm => (Clear.nil b).cons fun e => np (e ▸ hm)) (by omega) (fun _ _ e => e) fun h' tk kp => k _ (I.kept (t' := tk) kp)
  · cases (show u = Value.ref a from rv)
    obtain ⟨mA, O, _⟩ := ins_get I.hok ha
    obtain ⟨od, J, _⟩ := O.look
    refine PySem.W.pk_reprUnder (by omega) (by omega) I.kIn J hs hf (thn (run pins s σ H [.ref a] [.ref a] _ I (.cons rfl .nil) (hsp (.ref a) t H (fun v G => v = .str t ∧ G = H) hr ⟨rfl, rfl⟩)) fun u s1 z => ?_)
    obtain ⟨v, G, J1, ru, rfl, rfl⟩ := z
    obtain ⟨tk, rfl⟩ := ru
    exact ⟨t, tk, rfl, k _ J1⟩
theorem readsAll_mem {h : Heap} : ∀ {us : List Value} {ds : List PyData} {as : List Addr}, ReadsAll h us ds as → ∀ u ∈ us, ∃ d bs, Reads h u d bs ∧ d.depth ≤ PyData.depthAll ds
  | _, _, _, .nil, u, hu => nomatch hu
  | _, _, _, .cons (d := d) (ds := ds) r1 r2, u, hu => by
    rcases List.mem_cons.mp hu with rfl | hm
    · exact ⟨_, _, r1, by simp only [PyData.depthAll]; omega⟩
    · obtain ⟨d2, bs, r, hd⟩ := readsAll_mem r2 u hm
      exact ⟨d2, bs, r, by simp only [PyData.depthAll]; omega⟩
theorem reads_depth0 {h : Heap} {u : Value} {d : PyData} {as : List Addr} (r : Reads h u d as) (hu : ∀ a, u ≠ .ref a) : d.depth = 0 := by
  cases r with
  | none => rfl
  | bool b => rfl
  | int i t => rfl
  | str x t => rfl
  | list => exact absurd rfl (hu _)
  | tuple => exact absurd rfl (hu _)
  | dict => exact absurd rfl (hu _)
theorem vals_mem : ∀ {vs : List V} {us : List Value} {a : Addr}, Vals vs us → .ref a ∈ vs → Value.ref a ∈ us
  | _, _, _, .nil, h => nomatch h
  | _, _, _, .cons h1 h2, h => by
    rcases List.mem_cons.mp h with e | hm
    · subst e
      rw [show _ = Value.ref _ from h1]
      exact List.mem_cons_self
    · exact List.mem_cons_of_mem _ (vals_mem h2 hm)
/-- a tuple lies in none of its items -/
theorem not_in_item {p : Addr} {s : Shared} {xs : List V} {v : V} {u : Value} (I : L2.Inv X pins σ H s) (hp : H p = some (.tup xs)) (hv : v ∈ xs) (rv : RelV v u) : ∀ d as bs, Reads s.heap u d as → ReadAtMost s.heap d.depth bs → p ∉ bs := by
  intro d as bs rd hb hm
  obtain ⟨d2, as2, r2, hd2⟩ := hb p hm
  obtain ⟨its, ri, ⟨o, ho, hc, n, hdt⟩, _⟩ := I.tuple (st_of hp)
  cases r2 with
  | list h1 h2 h3 h4 =>
    rw [ho] at h1
    cases h1
    have z := hc.symm.trans h2
    simp at z
  | dict h1 h2 h3 h4 h5 =>
    rw [ho] at h1
    cases h1
    have z := hc.symm.trans h2
    simp at z
  | tuple h1 h2 h3 h4 =>
    rw [ho] at h1
    cases h1
    rw [hdt] at h3
    cases h3
    simp only [PyData.depth] at hd2
    by_cases hr : ∃ a, u = .ref a
    · obtain ⟨a, rfl⟩ := hr
      have ev : v = .ref a := by
        cases v with
        | ref b => cases (show Value.ref a = Value.ref b from rv); rfl
        | non => cases (show Value.ref a = Value.none from rv)
        | bl b => cases (show Value.ref a = Value.bool b from rv)
        | int i => obtain ⟨t, z⟩ := rv; cases z
        | str x => obtain ⟨t, z⟩ := rv; cases z
        | _ => first | (obtain ⟨t, z⟩ := rv; cases z) | cases rv
      subst ev
      obtain ⟨d3, bs3, r3, hd3⟩ := readsAll_mem h4 (.ref a) (by simpa using vals_mem ri hv)
      obtain ⟨e, _⟩ := PyProof.Rows.reads_det (fun _ _ e _ => e) rd r3
      subst e
      omega
    · have z := reads_depth0 rd fun a e => hr ⟨a, e⟩
      omega
theorem fold_run {p : Addr} {c : Code} {ps : List V} (hg : A.guards = some [c]) (hc : ∃ id rest kw, c = .builtin id ⟨.ref p :: rest, kw⟩) (hu : A.units + 64 < cLine)
    (hs : PySem.W.findIn X.K (.ref C) "__repr__" = some (some (.ref f))) (hf : PySem.W.isFn X.K (.ref f) = true) (run : RunAt X A f sp) (hsp : ∀ v t H Q, r v t H → Q (.str t) H → sp [v] H Q) (hp : H p = some (.tup ps)) :
    ∀ (us : List Value) (vs : List V) (ts : List Str) (acc : Array Str) (n : Nat) (s : Shared) (Q : (Array Str × Nat) → Shared → Prop), L2.Inv X pins σ H s → ItRs X.prog X.w X.K C r H vs ts → Vals vs us → (∀ v ∈ vs, v ∈ ps) → n + piled ts ≤ sizeLine →
    (∀ s', L2.Inv X pins σ H s' → Q ⟨acc ++ ts.toArray, n + piled ts⟩ s') → wpAny (model X.prog X.w) A (forIn us (⟨acc, n⟩ : (Array Str × Nat)) tupBody) Q X.xe s := by
  intro us
  induction us with
  | nil =>
    intro vs ts acc n s Q I hT rv _ _ h
    cases rv
    cases hT
    have h0 := h s I
    simp only [List.forIn_nil]
    exact wpAny_pure (by simpa [piled] using h0)
  | cons x l ih =>
    intro vs ts acc n s Q I hT rv hv hn h
    cases rv with
    | cons r1 r2 =>
      cases hT with
      | cons hx hl =>
        rename_i v vs t ts'
        rw [piled_cons] at hn
        rw [List.forIn_cons]
        refine wpAny_bind (wpAny_bind (item_run hg hc hu hs hf run hsp I hx r1 (not_in_item I hp (hv v List.mem_cons_self) r1) (base := n + 1) (by omega) fun s1 I1 => wpAny_pure ?_))
        refine ih vs ts' (acc.push t) (n + (t.length + 2)) _ Q I1 hl r2 (fun y hy => hv y (List.mem_cons_of_mem _ hy)) (by omega) fun s2 I2 => ?_
        have h1 := h s2 I2
        have e : n + piled (t :: ts') = n + (t.length + 2) + piled ts' := by rw [piled_cons]; omega
        rw [e] at h1
        simpa using h1
/-- repr(x), x a tuple of such items -/
def rReprU (P : Program) (w : World) (K : PySem.W.Frag) (C : Addr) (r : V → Str → Hp → Prop) : List V → Hp → VK → Prop := fun vs H Q => ∃ (p : Addr) (xs : List V) (ts : List Str), vs = [.ref p] ∧ H p = some (.tup xs) ∧ ItRs P w K C r H xs ts ∧ (tupleText ts).length ≤ 100000 ∧ Q (.str (tupleText ts)) H
theorem tr_depth {B : Around} {args : Args} : (B.under (.builtin "tuple.__repr__" args)).depth = B.depth + 1 := by
  first | rfl | simp [Around.under, Code.weight, Code.isCreation, Code.isGuard, Code.isCaller, Code.frames, Code.isFrame, guardIds]
theorem tr_frames {B : Around} {args : Args} : (B.under (.builtin "tuple.__repr__" args)).frames = B.frames := by
  first | rfl | simp [Around.under, Code.envs, pushEnvs]
theorem tr_room {k : Nat} {B : Around} {args : Args} (h : Room (k + 1) B) : Room k (B.under (.builtin "tuple.__repr__" args)) :=
  ⟨h.hd, by have := h.dp; rw [tr_depth]; omega, by have := h.un; rw [units_under_tuple_repr]; omega⟩
theorem call_reprU {k : Nat} (hg : X.A.guards = some []) (hr : Room (k + 2) X.A) (hs : PySem.W.findIn X.K (.ref C) "__repr__" = some (some (.ref f))) (hf : PySem.W.isFn X.K (.ref f) = true)
    (run : ∀ A : Around, Room k A → A.frames = X.A.frames → RunAt X A f sp) (hsp : ∀ v t H Q, r v t H → Q (.str t) H → sp [v] H Q) : CallR X (.builtin "repr") (rReprU X.prog X.w X.K C r) := by
  intro pins s σ H vs us Q I rv q
  obtain ⟨p, xs, ts, rfl, hp, hT, hz, q⟩ := q
  cases rv with
  | cons ra rn =>
    cases rn
    cases (show _ = Value.ref p from ra)
    obtain ⟨its, ri, ⟨o, ho, hc, n, hd⟩, _⟩ := I.tuple (st_of hp)
    have hlen : ts.length = its.toArray.size := by rw [List.size_toArray, ← ri.length]; exact hT.len
    have hpl := piled_le_tupleText ts
    have hz1 : (tupleText ts).length ≤ sizeLine := sz_of hz
    have r1 : Room (k + 1) X.A.in1 := hr.in1
    refine call_repr_slot (by have := hr.un; omega) ⟨o, ho, hc⟩ F.slot_tuple_repr ?_
    refine wpAny_call (codeAny_call_builtin_own (Code.quiet_builtin _ (by decide +kernel)) F.entry_tuple_repr (F.slot_tuple_repr.check _ _ _ _ _ _ _ _ ⟨o, ho, hc⟩ (F.args_tuple_repr_1 _) ?_))
    show wpOwn _ _ _ (Builtin.tupleReprAt 0 ⟨[.ref p], []⟩) _ _ s
    rw [tuple_repr_tree, tupleReprUnderWay_eq]
    have hg1 : X.A.in1.guards = some [] := hg
    refine wpOwn_bind (wpOwn_stackTailAny hg1 (tupGuardF_off _) (tupGuardF_pos _) ?_)
    show wpOwn _ _ _ (tupleReprRest 0 (.ref p)) _ _ s
    refine wpOwn_of_wpAny ?_
    unfold tupleReprRest Builtin.Tuple.tupleItemsOf
    refine wpAny_bind (wpAny_bind (wpAny_seqItems ho hd (wpAny_pure ?_)))
    rw [← Array.forIn_toList]
    have rk := tr_room (args := ⟨[Value.ref p], []⟩) r1
    refine wpAny_bind (fold_run (A := X.A.in1.under (.builtin "tuple.__repr__" ⟨[.ref p], []⟩)) (guards_under_guard (isGuard_tuple_repr _) hg1) ⟨_, [], [], rfl⟩ (by have := rk.un; omega) hs hf (run _ rk tr_frames) hsp hp its xs ts #[] 0 s _ I hT ri (fun v hv => hv) (by omega) fun s' I' => ?_)
    refine wpAny_bind (wpAny_mkStr (wpAny_pure ?_) (by simpa [tupleText, hlen] using hz1))
    have I2 : L2.Inv X pins σ H { s' with toks := s'.toks + 1 } := I'.tok _
    have fin : ∃ x t, Value.str (tupleText ts) s'.toks = .str x t ∧ EP X pins σ Q (.str (tupleText ts) s'.toks) { s' with toks := s'.toks + 1 } := ⟨_, _, rfl, .str (tupleText ts), H, I2, ⟨_, rfl⟩, q⟩
    simpa [tupleText, hlen] using fin
end
/-- repr(v) at the top: data -/
def TopD (P : Program) (w : World) (K : PySem.W.Frag) (H : Hp) (v : V) (t : Str) : Prop :=
  ∀ (X : Cx) (pins : List (Addr × Obj)) (σ : L2.St) (s : Shared) (u : Value) (H1 : Hp), Ex H H1 → X.prog = P → X.w = w → X.K = K → L2.Inv X pins σ H1 s → RelV v u →
    ∀ (A : Around) (E : Value → Shared → Prop) (Q : Value → Shared → Prop), A.guards = some [] → A.units + 64 < cLine → (∀ h' tk u', (∀ b o, s.heap.get? b = some o → h'.get? b = some o) → Q (.str t u') { s with heap := h', toks := tk }) → wpAny (model P w) A (call (.builtin "repr") [u]) Q E s
section
variable {P : Program} {w : World} {K : PySem.W.Frag} {H : Hp}
theorem TopD.ext {H2 : Hp} {v : V} {t : Str} (h : TopD P w K H v t) (e : Ex H H2) : TopD P w K H2 v t := fun X pins σ s u H1 e1 => h X pins σ s u H1 (e.trans e1)
theorem top_non : TopD P w K H .non "None" := fun X pins σ s u H1 e hP hw hK I r A E Q hg hu k => by
  cases r
  exact PySem.P.repr_of_none (k s.heap _ _ fun _ _ e => e)
theorem top_bl (b : Bool) : TopD P w K H (.bl b) (if b then "True" else "False") := fun X pins σ s u H1 e hP hw hK I r A E Q hg hu k => by
  cases r
  exact PySem.P.repr_of_bool (k s.heap _ _ fun _ _ e => e)
theorem top_int {i : Int} (hi : i.natAbs.log2 < 1920) : TopD P w K H (.int i) (toString i) := fun X pins σ s u H1 e hP hw hK I r A E Q hg hu k => by
  obtain ⟨t, rfl⟩ := r
  exact PySem.P.repr_of_int hi (k s.heap _ _ fun _ _ e => e)
theorem top_str {x : Str} (hz : (reprText x).length ≤ sizeLine) : TopD P w K H (.str x) (reprText x) := fun X pins σ s u H1 e hP hw hK I r A E Q hg hu k => by
  obtain ⟨t, rfl⟩ := r
  exact PySem.P.repr_of_str (k s.heap _ _ fun _ _ e => e) hz
theorem top_ref {a : Addr} {d : PyData} (hd : Dp K H (.ref a) d) (h1 : d.showable = true) (h2 : d.hasDict = false) (h3 : d.depth ≤ 40) (h4 : d.shown.length ≤ 2000) : TopD P w K H (.ref a) d.shown := fun X pins σ s u H1 e hP hw hK I r A E Q hg hu k => by
  subst hP hw hK
  cases r
  obtain ⟨as, rd⟩ := Dp.reads I d _ _ (dp_ext e d _ hd) rfl
  exact repr_of_reads' rd h1 (PyData.noDict_hsm h2) hg (by omega) (fun _ _ e => e) (fun h' u tk kp => k h' tk u kp) (sz (by omega))
theorem top_dict1 {a : Addr} {kk : Str} {v : V} (ha : H a = some (.dK [(Sum.inr kk, v)])) {d : PyData} (hv : Dp K H v d) (h1d : d.showable = true) (h2d : d.hasDict = false) (hk : (reprText kk).length ≤ 400) (ht : d.shown.length ≤ 400) (d30 : d.depth ≤ 30) : TopD P w K H (.ref a) (dictText [reprText kk ++ ": " ++ d.shown]) := fun X pins σ s u H1 e hP hw hK I r A E Q hg hu k => by
  subst hP hw hK
  cases r
  obtain ⟨_, hsys, vs, kv, o, es, ep, ho, hex, hdt, _, hp, _⟩ := dk_of I.hok (e _ _ ha)
  cases kv with
  | @cons _ q _ _ h1 h2 =>
    cases h2
    obtain ⟨qk, qv⟩ := q
    obtain ⟨rfl, rv⟩ := h1
    obtain ⟨el⟩ := es
    cases hp with
    | @cons e1 _ _ _ g1 g2 g3 =>
      cases g3
      obtain ⟨tk, hkey⟩ : ∃ tk, e1.key = Value.str kk tk := by
        have g1' : keyIs (Sum.inr kk) e1.key = true := g1
        rcases keyIs_shape g1' with ⟨i, t, z, _⟩ | ⟨x, t, z, z2⟩
        · cases z
        · cases z
          exact ⟨t, z2⟩
      have hval : e1.val = qv := g2
      obtain ⟨as, rd⟩ := Dp.reads I d _ _ (dp_ext e d v hv) rv
      obtain ⟨bs, hb, hrk⟩ := ReprK.of_reads (prog := X.prog) (w := X.w) rd h1d (PyData.noDict_hsm h2d) (sz (by omega))
      have rdk : Reads s.heap e1.key (.str kk) [] := hkey ▸ Reads.str kk tk
      have rdv : Reads s.heap e1.val d as := hval ▸ rd
      have rD : Reads s.heap (.ref a) (.dict [(.str kk, d)]) (a :: ([] ++ []) ++ (as ++ [])) := Reads.dict ho hex.1 hdt (.cons rdk .nil) (.cons rdv .nil)
      have dD : (PyData.dict [(.str kk, d)]).depth = d.depth + 1 := by simp [PyData.depth, PyData.depthKv]
      have hna : a ∉ bs := not_mem_of_deeper rD (by rw [dD]; omega) hb
      have rk0 : ReprK X.prog X.w bs s.heap d.depth e1.key (reprText kk) := by
        rw [hkey]
        exact .of_is (ReprIs.str kk tk (sz (by omega))) _ _ _
      have rk1 : ReprK X.prog X.w bs s.heap d.depth e1.val d.shown := by
        rw [hval]
        exact hrk
      have l0 : ((": " : String) : Str).length = 2 := by decide +kernel
      have l1 : (("{" : String) : Str).length = 1 := by decide +kernel
      have l2 : (("}" : String) : Str).length = 1 := by decide +kernel
      have lj : (dictText [reprText kk ++ ": " ++ d.shown]).length = 1 + ((reprText kk).length + 2 + d.shown.length) + 1 := by
        show (("{" : Str) ++ (reprText kk ++ ": " ++ d.shown) ++ "}").length = _
        rw [strLen_append, strLen_append, strLen_append, strLen_append, l0, l1, l2]
      exact call_repr_slot (by omega) ⟨o, ho, hex.1⟩ F.slot_dict_repr (call_dict_reprK (A := A.in1) ho hex.1 hdt hsys hna (.cons rk0 rk1 .nil) hg (fun b _ => Clear.nil b) (by show A.units + 1 + (d.depth + 1) < cLine; omega) (fun _ _ e => e) (fun h' u tk kp => ⟨_, _, rfl, k h' tk u kp⟩) (sz (by rw [lj]; omega)))
end
section
variable {X : Cx}
def rTop (P : Program) (w : World) (K : PySem.W.Frag) : List V → Hp → VK → Prop := fun vs H Q => ∃ (v : V) (t : Str), vs = [v] ∧ TopD P w K H v t ∧ Q (.str t) H
theorem call_reprTop (hg : X.A.guards = some []) (hu : X.A.units + 64 < cLine) : CallR X (.builtin "repr") (rTop X.prog X.w X.K) := by
  intro pins s σ H vs us Q I rv q
  obtain ⟨v, t, rfl, hd, q⟩ := q
  cases rv with
  | cons ra rn =>
    cases rn
    exact hd X pins σ s _ H (Ex.refl H) rfl rfl rfl I ra X.A _ _ hg hu fun h' tk u kp => ⟨.str t, H, I.kept (t' := tk) kp, ⟨u, rfl⟩, q⟩
theorem callR_or {f : Value} {r1 r2 : List V → Hp → VK → Prop} (c1 : CallR X f r1) (c2 : CallR X f r2) : CallR X f (fun vs H Q => r1 vs H Q ∨ r2 vs H Q) := fun pins s σ H vs us Q I rv q => q.elim (c1 pins s σ H vs us Q I rv) (c2 pins s σ H vs us Q I rv)
end
end Pk
end

section -- PvA
set_option linter.all false
set_option maxRecDepth 100000
set_option maxHeartbeats 4000000
/-! PvA: pure values, what stands for them in a heap, what may change beside them. -/
namespace Pv
open PySem PySem.Spec L2 Pk Evl
open PyProof.Rows hiding St
inductive PV where
  | non | bl (b : Bool) | int (i : Int) | str (s : Str) | ty (n : String) | adr (a : Addr) | oth (v : V)
  | lst (xs : List PV) | tup (xs : List PV) | dct (ks : List Key) (xs : List PV) | ins (C : Addr) (ns : List Str) (xs : List PV)
mutual
/-- v stands for the value in H, by objects off A -/
def Rd (A : Addr → Prop) (H : Hp) : PV → V → Prop
  | .non, v => v = .non
  | .bl b, v => v = .bl b
  | .int i, v => v = .int i
  | .str s, v => v = .str s
  | .ty n, v => v = .ty n
  | .adr a, v => v = .ref a
  | .oth u, v => v = u
  | .lst xs, v => ∃ a vs, v = .ref a ∧ ¬ A a ∧ H a = some (.lst vs) ∧ RdL A H xs vs
  | .tup xs, v => ∃ a vs, v = .ref a ∧ ¬ A a ∧ H a = some (.tup vs) ∧ RdL A H xs vs
  | .dct ks xs, v => ∃ a ws, v = .ref a ∧ ¬ A a ∧ L2.Rd H a (.dK ws) ∧ ws.map (·.1) = ks ∧ RdL A H xs (ws.map (·.2))
  | .ins C ns xs, v => ∃ a dx ws, v = .ref a ∧ ¬ A a ∧ H a = some (.ins C dx ws) ∧ ws.map (·.1) = ns ∧ RdL A H xs (ws.map (·.2))
def RdL (A : Addr → Prop) (H : Hp) : List PV → List V → Prop
  | [], vs => vs = []
  | x :: xs, vs => ∃ v ws, vs = v :: ws ∧ Rd A H x v ∧ RdL A H xs ws
end
section
variable {A A' : Addr → Prop} {H H' : Hp}
mutual
theorem Rd.to (h : ∀ a o, ¬ A a → H a = some o → ¬ A' a ∧ H' a = some o) : ∀ {x : PV} {v : V}, Rd A H x v → Rd A' H' x v
  | .non, _, r => r
  | .bl _, _, r => r
  | .int _, _, r => r
  | .str _, _, r => r
  | .ty _, _, r => r
  | .adr _, _, r => r
  | .oth _, _, r => r
  | .lst _, _, ⟨a, vs, e, n, q, r⟩ => ⟨a, vs, e, (h a _ n q).1, (h a _ n q).2, RdL.to h r⟩
  | .tup _, _, ⟨a, vs, e, n, q, r⟩ => ⟨a, vs, e, (h a _ n q).1, (h a _ n q).2, RdL.to h r⟩
  | .dct _ _, _, ⟨a, ws, e, n, q, k, r⟩ => ⟨a, ws, e, q.elim (fun q => (h a _ n q).1) (fun ⟨_, q⟩ => (h a _ n q).1), q.elim (fun q => .inl (h a _ n q).2) (fun ⟨o, q⟩ => .inr ⟨o, (h a _ n q).2⟩), k, RdL.to h r⟩
  | .ins _ _ _, _, ⟨a, dx, ws, e, n, q, k, r⟩ => ⟨a, dx, ws, e, (h a _ n q).1, (h a _ n q).2, k, RdL.to h r⟩
theorem RdL.to (h : ∀ a o, ¬ A a → H a = some o → ¬ A' a ∧ H' a = some o) : ∀ {xs : List PV} {vs : List V}, RdL A H xs vs → RdL A' H' xs vs
  | [], _, r => r
  | _ :: _, _, ⟨v, ws, e, r1, r2⟩ => ⟨v, ws, e, Rd.to h r1, RdL.to h r2⟩
end
/-- .. where a dict may be held as it is, or no longer -/
def Sm (o : HO) (r : Option HO) : Prop := r = some o ∨ ∃ kvs, (o = .dK kvs ∨ ∃ od, o = .frz od (.dK kvs)) ∧ (r = some (.dK kvs) ∨ ∃ od, r = some (.frz od (.dK kvs)))
mutual
theorem Rd.toZ (h : ∀ a o, ¬ A a → H a = some o → ¬ A' a ∧ Sm o (H' a)) : ∀ {x : PV} {v : V}, Rd A H x v → Rd A' H' x v
  | .non, _, r => r
  | .bl _, _, r => r
  | .int _, _, r => r
  | .str _, _, r => r
  | .ty _, _, r => r
  | .adr _, _, r => r
  | .oth _, _, r => r
  | .lst _, _, ⟨a, vs, e, n, q, r⟩ => ⟨a, vs, e, (h a _ n q).1, (by
      rcases (h a _ n q).2 with z | ⟨_, z | ⟨_, z⟩, _⟩
      · exact z
      · cases z
      · cases z), RdL.toZ h r⟩
  | .tup _, _, ⟨a, vs, e, n, q, r⟩ => ⟨a, vs, e, (h a _ n q).1, (by
      rcases (h a _ n q).2 with z | ⟨_, z | ⟨_, z⟩, _⟩
      · exact z
      · cases z
      · cases z), RdL.toZ h r⟩
  | .dct _ _, _, ⟨a, ws, e, n, q, k, r⟩ => ⟨a, ws, e, q.elim (fun q => (h a _ n q).1) (fun ⟨_, q⟩ => (h a _ n q).1), (by
      rcases q with q | ⟨o, q⟩
      · rcases (h a _ n q).2 with z | ⟨kvs, z | ⟨_, z⟩, w⟩
        · exact .inl z
        · cases z; exact w
        · cases z
      · rcases (h a _ n q).2 with z | ⟨kvs, z | ⟨_, z⟩, w⟩
        · exact .inr ⟨o, z⟩
        · cases z
        · cases z; exact w), k, RdL.toZ h r⟩
  | .ins _ _ _, _, ⟨a, dx, ws, e, n, q, k, r⟩ => ⟨a, dx, ws, e, (h a _ n q).1, (by
      rcases (h a _ n q).2 with z | ⟨_, z | ⟨_, z⟩, _⟩
      · exact z
      · cases z
      · cases z), k, RdL.toZ h r⟩
theorem RdL.toZ (h : ∀ a o, ¬ A a → H a = some o → ¬ A' a ∧ Sm o (H' a)) : ∀ {xs : List PV} {vs : List V}, RdL A H xs vs → RdL A' H' xs vs
  | [], _, r => r
  | _ :: _, _, ⟨v, ws, e, r1, r2⟩ => ⟨v, ws, e, Rd.toZ h r1, RdL.toZ h r2⟩
end
theorem RdL.len : ∀ {xs : List PV} {vs : List V}, RdL A H xs vs → xs.length = vs.length
  | [], _, r => by cases r; rfl
  | _ :: _, _, ⟨v, ws, e, _, r2⟩ => by rw [e, List.length_cons, List.length_cons, RdL.len r2]
theorem RdL.nil : RdL A H [] [] := rfl
theorem RdL.cons {x : PV} {v : V} {xs : List PV} {vs : List V} (h : Rd A H x v) (r : RdL A H xs vs) : RdL A H (x :: xs) (v :: vs) := ⟨v, vs, rfl, h, r⟩
theorem RdL.app : ∀ {xs ys : List PV} {vs ws : List V}, RdL A H xs vs → RdL A H ys ws → RdL A H (xs ++ ys) (vs ++ ws)
  | [], _, _, _, r, r' => by cases r; exact r'
  | _ :: _, _, _, _, ⟨v, us, e, h, r⟩, r' => by subst e; exact ⟨v, _, rfl, h, RdL.app r r'⟩
theorem RdL.get : ∀ {xs : List PV} {vs : List V} {i : Nat} {v : V}, RdL A H xs vs → vs[i]? = some v → ∃ x, xs[i]? = some x ∧ Rd A H x v
  | [], _, _, _, r, h => by cases r; cases h
  | _ :: _, _, 0, _, ⟨v, us, e, h, r⟩, q => by subst e; cases q; exact ⟨_, rfl, h⟩
  | _ :: _, _, i + 1, _, ⟨v, us, e, h, r⟩, q => by subst e; have z := RdL.get r q; exact z
theorem RdL.get' : ∀ {xs : List PV} {vs : List V} {i : Nat} {x : PV}, RdL A H xs vs → xs[i]? = some x → ∃ v, vs[i]? = some v ∧ Rd A H x v
  | [], _, _, _, r, h => by cases h
  | _ :: _, _, 0, _, ⟨v, us, e, h, r⟩, q => by subst e; cases q; exact ⟨_, rfl, h⟩
  | _ :: _, _, i + 1, _, ⟨v, us, e, h, r⟩, q => by subst e; have z := RdL.get' r q; exact z
theorem RdL.of : ∀ {xs : List PV} {vs : List V}, xs.length = vs.length → (∀ (i : Nat) (x : PV) (v : V), xs[i]? = some x → vs[i]? = some v → Rd A H x v) → RdL A H xs vs
  | [], vs, l, _ => by cases vs with
    | nil => rfl
    | cons _ _ => cases l
  | x :: xs, vs, l, h => by
    cases vs with
    | nil => cases l
    | cons v vs => exact ⟨v, vs, rfl, h 0 x v rfl rfl, RdL.of (Nat.succ.inj l) fun i y w a b => h (i + 1) y w a b⟩
theorem RdL.take {xs : List PV} {vs : List V} (r : RdL A H xs vs) (n : Nat) : RdL A H (xs.take n) (vs.take n) := .of (by rw [List.length_take, List.length_take, r.len]) fun i x v a b => by
  rw [List.getElem?_take] at a b
  split at a
  · rename_i c
    rw [if_pos c] at b
    obtain ⟨y, e, h⟩ := r.get b
    rw [e] at a
    cases a
    exact h
  · cases a
theorem RdL.drop {xs : List PV} {vs : List V} (r : RdL A H xs vs) (n : Nat) : RdL A H (xs.drop n) (vs.drop n) := .of (by rw [List.length_drop, List.length_drop, r.len]) fun i x v a b => by
  rw [List.getElem?_drop] at a b
  obtain ⟨y, e, h⟩ := r.get b
  rw [e] at a
  cases a
  exact h
theorem RdL.rev {xs : List PV} {vs : List V} (r : RdL A H xs vs) : RdL A H xs.reverse vs.reverse := .of (by rw [List.length_reverse, List.length_reverse, r.len]) fun i x v a b => by
  have li := (List.getElem?_eq_some_iff.mp a).1
  rw [List.length_reverse] at li
  rw [List.getElem?_reverse li] at a
  rw [List.getElem?_reverse (by rw [← r.len]; exact li), ← r.len] at b
  obtain ⟨y, e, h⟩ := r.get b
  rw [e] at a
  cases a
  exact h
theorem RdL.set {xs : List PV} {vs : List V} {x : PV} {v : V} (r : RdL A H xs vs) (h : Rd A H x v) (n : Nat) : RdL A H (xs.set n x) (vs.set n v) := .of (by rw [List.length_set, List.length_set, r.len]) fun i y w a b => by
  rw [List.getElem?_set] at a b
  by_cases c : n = i
  · rw [if_pos c] at a b
    by_cases d : i < xs.length
    · have d' : i < vs.length := by rw [← r.len]; exact d
      subst c
      rw [if_pos d] at a
      rw [if_pos d'] at b
      cases a; cases b
      exact h
    · subst c
      rw [if_neg d] at a
      cases a
  · rw [if_neg c] at a b
    obtain ⟨z, e, h⟩ := r.get b
    rw [e] at a
    cases a
    exact h
end
/-- values of the model as pure ones -/
def toPV : V → PV
  | .non => .non
  | .bl b => .bl b
  | .int i => .int i
  | .str s => .str s
  | .ty n => .ty n
  | .ref a => .adr a
  | v => .oth v
theorem rd_to {A : Addr → Prop} {H : Hp} : ∀ v, Rd A H (toPV v) v
  | .non => rfl
  | .bl _ => rfl
  | .int _ => rfl
  | .str _ => rfl
  | .ty _ => rfl
  | .ref _ => rfl
  | .byt _ => rfl
  | .flt _ => rfl
/-- those that hang on no object -/
def scal : PV → Bool
  | .non | .bl _ | .int _ | .str _ | .ty _ | .adr _ | .oth _ => true
  | _ => false
theorem Rd.scal {A A' : Addr → Prop} {H H' : Hp} {v : V} : ∀ {x : PV}, scal x = true → Rd A H x v → Rd A' H' x v
  | .non, _, r => r
  | .bl _, _, r => r
  | .int _, _, r => r
  | .str _, _, r => r
  | .ty _, _, r => r
  | .adr _, _, r => r
  | .oth _, _, r => r
  | .lst _, h, _ => nomatch h
  | .tup _, h, _ => nomatch h
  | .dct _ _, h, _ => nomatch h
  | .ins _ _ _, h, _ => nomatch h
/-! ### what may change -/
def Fr (pf : Addr → Prop) (H H' : Hp) : Prop := ∀ a o, ¬ pf a → H a = some o → H' a = some o
section
variable {pf : Addr → Prop} {H H1 H2 : Hp}
theorem Fr.refl : Fr pf H H := fun _ _ _ h => h
theorem Fr.trans (a : Fr pf H H1) (b : Fr pf H1 H2) : Fr pf H H2 := fun x o n h => b x o n (a x o n h)
theorem Fr.of (e : Ex H H1) : Fr pf H H1 := fun a o _ h => e a o h
end
/-- a part of the world that may change: what is known of it, where it lies -/
structure Wd (S : Type) where
  rel : Hp → S → Prop
  pf : Addr → Prop
  sp : Addr → Prop
  ps : ∀ {a : Addr}, pf a → sp a
  lives : ∀ {H : Hp} {s : S} {a : Addr}, rel H s → sp a → H a ≠ none
  stabs : ∀ {H H' : Hp} {s : S}, rel H s → (∀ a o, sp a → H a = some o → H' a = some o) → rel H' s
theorem Wd.live {S : Type} (W : Wd S) {H : Hp} {s : S} {a : Addr} (r : W.rel H s) (h : W.pf a) : H a ≠ none := W.lives r (W.ps h)
theorem Wd.stab {S : Type} (W : Wd S) {H H' : Hp} {s : S} (r : W.rel H s) (e : Ex H H') : W.rel H' s := W.stabs r fun a o _ h => e a o h
/-- an object of others changes -/
theorem Wd.stabU {S : Type} (W : Wd S) {H : Hp} {s : S} {q : Addr} {o : HO} (r : W.rel H s) (n : ¬ W.sp q) : W.rel (upd H q o) s := W.stabs r fun a u h e => by
  have ne : a ≠ q := fun z => n (by rw [← z]; exact h)
  rw [upd_ne ne]
  exact e
structure Ct {S : Type} (W : Wd S) (A : Addr → Prop) (H : Hp) (s : S) : Prop where
  sa : ∀ a, W.sp a → A a
  lv : ∀ a, A a → H a ≠ none
  rel : W.rel H s
section
variable {S : Type} {W : Wd S} {A : Addr → Prop} {H H' : Hp} {s s' : S} {x : PV} {v : V}
theorem Ct.pa (c : Ct W A H s) (a : Addr) (h : W.pf a) : A a := c.sa a (W.ps h)
theorem Ct.new (c : Ct W A H s) {q : Addr} (h : H q = none) : ¬ A q := fun z => c.lv q z h
theorem Ct.next (c : Ct W A H s) (f : Fr W.pf H H') (r : W.rel H' s') : Ct W A H' s' := ⟨c.sa, (fun a h z => by
  by_cases p : W.pf a
  · exact W.live r p z
  · cases q : H a with
    | none => exact c.lv a h q
    | some o => rw [f a o p q] at z; cases z), r⟩
theorem Ct.fr (c : Ct W A H s) (r : Rd A H x v) (f : Fr W.pf H H') : Rd A H' x v := r.to fun a o n h => ⟨n, f a o (fun z => n (c.pa a z)) h⟩
theorem Ct.frL (c : Ct W A H s) {xs : List PV} {vs : List V} (r : RdL A H xs vs) (f : Fr W.pf H H') : RdL A H' xs vs := r.to fun a o n h => ⟨n, f a o (fun z => n (c.pa a z)) h⟩
theorem Ct.ext (c : Ct W A H s) (e : Ex H H') : Ct W A H' s := c.next (Fr.of e) (W.stab c.rel e)
/-- with one address more that stands -/
theorem Ct.more (c : Ct W A H s) {q : Addr} (h : H q ≠ none) : Ct W (fun a => A a ∨ a = q) H s := ⟨fun a z => .inl (c.sa a z), fun a z => by
  rcases z with z | rfl
  · exact c.lv a z
  · exact h, c.rel⟩
end
theorem Rd.off {A : Addr → Prop} {H : Hp} {x : PV} {v : V} {q : Addr} (r : Rd A H x v) (h : H q = none) : Rd (fun a => A a ∨ a = q) H x v := r.to fun a o n e => ⟨(fun z => by
  rcases z with z | rfl
  · exact n z
  · rw [h] at e; cases e), e⟩
theorem RdL.off {A : Addr → Prop} {H : Hp} {xs : List PV} {vs : List V} {q : Addr} (r : RdL A H xs vs) (h : H q = none) : RdL (fun a => A a ∨ a = q) H xs vs := r.to fun a o n e => ⟨(fun z => by
  rcases z with z | rfl
  · exact n z
  · rw [h] at e; cases e), e⟩
theorem Rd.ext {A : Addr → Prop} {H H' : Hp} {x : PV} {v : V} (r : Rd A H x v) (e : Ex H H') : Rd A H' x v := r.to fun a o n h => ⟨n, e a o h⟩
theorem RdL.ext {A : Addr → Prop} {H H' : Hp} {xs : List PV} {vs : List V} (r : RdL A H xs vs) (e : Ex H H') : RdL A H' xs vs := r.to fun a o n h => ⟨n, e a o h⟩
theorem Rd.less {A A' : Addr → Prop} {H : Hp} {x : PV} {v : V} (r : Rd A H x v) (h : ∀ a, A' a → A a) : Rd A' H x v := r.to fun a o n e => ⟨fun z => n (h a z), e⟩
theorem RdL.less {A A' : Addr → Prop} {H : Hp} {xs : List PV} {vs : List V} (r : RdL A H xs vs) (h : ∀ a, A' a → A a) : RdL A' H xs vs := r.to fun a o n e => ⟨fun z => n (h a z), e⟩
/-! ### what stands while one walks -/
inductive Pin where
  | rd (x : PV) (v : V) | hl (d : Addr) (o : Obj) (ws : List (Key × V))
def Pin.ok (A : Addr → Prop) (H : Hp) : Pin → Prop
  | .rd x v => Rd A H x v
  | .hl d o ws => ¬ A d ∧ H d = some (.frz o (.dK ws))
theorem Pin.ok.to {A A' : Addr → Prop} {H H' : Hp} (h : ∀ a o, ¬ A a → H a = some o → ¬ A' a ∧ H' a = some o) : ∀ {p : Pin}, Pin.ok A H p → Pin.ok A' H' p
  | .rd _ _, r => Rd.to h r
  | .hl d _ _, r => h d _ r.1 r.2
theorem Pin.ok.ext {A : Addr → Prop} {H H' : Hp} {p : Pin} (r : Pin.ok A H p) (e : Ex H H') : Pin.ok A H' p := r.to fun a o n h => ⟨n, e a o h⟩
theorem Pin.ok.less {A A' : Addr → Prop} {H : Hp} {p : Pin} (r : Pin.ok A H p) (h : ∀ a, A' a → A a) : Pin.ok A' H p := r.to fun a o n e => ⟨fun z => n (h a z), e⟩
theorem Pin.ok.off {A : Addr → Prop} {H : Hp} {p : Pin} {q : Addr} (r : Pin.ok A H p) (h : H q = none) : Pin.ok (fun a => A a ∨ a = q) H p := r.to fun a o n e => ⟨(fun z => by
  rcases z with z | rfl
  · exact n z
  · rw [h] at e; cases e), e⟩
theorem Ct.frP {S : Type} {W : Wd S} {A : Addr → Prop} {H H' : Hp} {s : S} (c : Ct W A H s) {p : Pin} (r : Pin.ok A H p) (f : Fr W.pf H H') : Pin.ok A H' p := r.to fun a o n h => ⟨n, f a o (fun z => n (c.pa a z)) h⟩
/-- an object of its own -/
def OwnAt (A : Addr → Prop) (H : Hp) (x : PV) (a : Addr) : Prop := match x with
  | .lst xs => ∃ vs, H a = some (.lst vs) ∧ RdL A H xs vs
  | .dct ks xs => ∃ ws, H a = some (.dK ws) ∧ ws.map (·.1) = ks ∧ RdL A H xs (ws.map (·.2))
  | .ins C ns xs => ∃ dx ws, H a = some (.ins C dx ws) ∧ ws.map (·.1) = ns ∧ RdL A H xs (ws.map (·.2))
  | _ => False
/-- a value whose own object is new and stands in nothing else -/
def New (A : Addr → Prop) (H H' : Hp) (x : PV) (v : V) : Prop := ∃ a, v = .ref a ∧ H a = none ∧ OwnAt (fun b => A b ∨ b = a) H' x a
theorem OwnAt.to {A A' : Addr → Prop} {H H' : Hp} {x : PV} {a : Addr} (r : OwnAt A H x a) (h0 : ∀ o, H a = some o → H' a = some o) (h : ∀ a o, ¬ A a → H a = some o → ¬ A' a ∧ H' a = some o) : OwnAt A' H' x a := by
  cases x <;> try exact r
  · obtain ⟨vs, e, q⟩ := r
    exact ⟨vs, h0 _ e, q.to h⟩
  · obtain ⟨ws, e, k, q⟩ := r
    exact ⟨ws, h0 _ e, k, q.to h⟩
  · obtain ⟨dx, ws, e, k, q⟩ := r
    exact ⟨dx, ws, h0 _ e, k, q.to h⟩
theorem OwnAt.rd {A : Addr → Prop} {H : Hp} {x : PV} {a : Addr} (r : OwnAt A H x a) (n : ¬ A a) : Rd A H x (.ref a) := by
  cases x <;> try exact r.elim
  · obtain ⟨vs, e, q⟩ := r
    exact ⟨a, vs, rfl, n, e, q⟩
  · obtain ⟨ws, e, k, q⟩ := r
    exact ⟨a, ws, rfl, n, .inl e, k, q⟩
  · obtain ⟨dx, ws, e, k, q⟩ := r
    exact ⟨a, dx, ws, rfl, n, e, k, q⟩
end Pv
end

section -- PvB
set_option linter.all false
set_option maxRecDepth 100000
set_option maxHeartbeats 4000000
/-! PvB: expressions over pure values: what a reading asks, told of pure values alone. -/
namespace Pv
open PySem PySem.Spec L2 Pk Evl
open PyProof.Rows hiding St
/-- a name within an expression: nothing, a value, an object of one's own that may be asked for its parts -/
inductive EV where
  | no | val (x : PV) | own (x : PV)
abbrev En := List EV
abbrev XF (S : Type) := Addr → List Str → List PV → S → Prop
abbrev FE (S : Type) := En → S → (PV → S → Prop) → XF S → Prop
abbrev FT (S : Type) := En → S → (Bool → S → Prop) → XF S → Prop
abbrev FA (S : Type) := En → S → (List PV → S → Prop) → XF S → Prop
structure VR {S : Type} (W : Wd S) (A : Addr → Prop) (H : Hp) (σ : L2.St) (ρ : En) : Prop where
  len : ρ.length = σ.length
  val : ∀ (i : Nat) (x : PV), ρ[i]? = some (.val x) → ∃ v, σ[i]? = some (some v) ∧ Rd A H x v
  own : ∀ (i : Nat) (x : PV), ρ[i]? = some (.own x) → ∃ a, σ[i]? = some (some (.ref a)) ∧ ¬ W.pf a ∧ OwnAt A H x a
/-- what leaves by an exception -/
def XL {S : Type} (W : Wd S) (A : Addr → Prop) (H : Hp) (E : XK) (X : XF S) : Prop := ∀ C d ns xs ws H' s', H' d = some (.xd ws) → ws.map (·.1) = ns → RdL A H' xs (ws.map (·.2)) → Fr W.pf H H' → W.rel H' s' → X C ns xs s' → E (.ref C) (some d) H'
def asB (x : PV) (P : Bool → Prop) : Prop := match x with | .bl b => P b | _ => False
def asI (x : PV) (P : Int → Prop) : Prop := match x with | .int b => P b | _ => False
def asS (x : PV) (P : Str → Prop) : Prop := match x with | .str b => P b | _ => False
def asL (x : PV) (P : List PV → Prop) : Prop := match x with | .lst b => P b | _ => False
def asU (x : PV) (P : List PV → Prop) : Prop := match x with | .tup b => P b | _ => False
def asD (x : PV) (P : List Key → List PV → Prop) : Prop := match x with | .dct k b => P k b | _ => False
def asO (x : PV) (P : Addr → List Str → List PV → Prop) : Prop := match x with | .ins C k b => P C k b | _ => False
def asLU (x : PV) (P : List PV → Prop) : Prop := match x with | .tup b => P b | .lst b => P b | _ => False
theorem asB_ok {x : PV} {P : Bool → Prop} (h : asB x P) : ∃ b, x = .bl b ∧ P b := by cases x <;> first | exact h.elim | exact ⟨_, rfl, h⟩
theorem asI_ok {x : PV} {P : Int → Prop} (h : asI x P) : ∃ b, x = .int b ∧ P b := by cases x <;> first | exact h.elim | exact ⟨_, rfl, h⟩
theorem asS_ok {x : PV} {P : Str → Prop} (h : asS x P) : ∃ b, x = .str b ∧ P b := by cases x <;> first | exact h.elim | exact ⟨_, rfl, h⟩
theorem asL_ok {x : PV} {P : List PV → Prop} (h : asL x P) : ∃ b, x = .lst b ∧ P b := by cases x <;> first | exact h.elim | exact ⟨_, rfl, h⟩
theorem asU_ok {x : PV} {P : List PV → Prop} (h : asU x P) : ∃ b, x = .tup b ∧ P b := by cases x <;> first | exact h.elim | exact ⟨_, rfl, h⟩
theorem asD_ok {x : PV} {P : List Key → List PV → Prop} (h : asD x P) : ∃ k b, x = .dct k b ∧ P k b := by cases x <;> first | exact h.elim | exact ⟨_, _, rfl, h⟩
theorem asO_ok {x : PV} {P : Addr → List Str → List PV → Prop} (h : asO x P) : ∃ C k b, x = .ins C k b ∧ P C k b := by cases x <;> first | exact h.elim | exact ⟨_, _, _, rfl, h⟩
theorem asLU_ok {x : PV} {P : List PV → Prop} (h : asLU x P) : ∃ b, (x = .tup b ∨ x = .lst b) ∧ P b := by cases x <;> first | exact h.elim | exact ⟨_, .inl rfl, h⟩ | exact ⟨_, .inr rfl, h⟩
section
variable {S : Type}
class AE (W : Wd S) (E : XK) (te : TE) (f : outParam (FE S)) (b : outParam Bool) : Prop where
  run : ∀ {A : Addr → Prop} {σ : L2.St} {H : Hp} {ρ : En} {s : S} {F : PV → S → Prop} {X : XF S} {Q : VK}, Ct W A H s → VR W A H σ ρ → XL W A H E X → f ρ s F X →
    (∀ v H' x s', Rd A H' x v → (b = true → New A H H' x v) → Fr W.pf H H' → W.rel H' s' → F x s' → Q v H') → te σ H Q
class AT (W : Wd S) (E : XK) (tt : TT) (f : outParam (FT S)) : Prop where
  run : ∀ {A : Addr → Prop} {σ : L2.St} {H : Hp} {ρ : En} {s : S} {F : Bool → S → Prop} {X : XF S} {Q : Bool → Hp → Prop}, Ct W A H s → VR W A H σ ρ → XL W A H E X → f ρ s F X →
    (∀ b H' s', Fr W.pf H H' → W.rel H' s' → F b s' → Q b H') → tt σ H Q
class AA (W : Wd S) (E : XK) (ta : TA) (f : outParam (FA S)) : Prop where
  run : ∀ {A : Addr → Prop} {σ : L2.St} {H : Hp} {ρ : En} {s : S} {F : List PV → S → Prop} {X : XF S} {Q : List V → Hp → Prop}, Ct W A H s → VR W A H σ ρ → XL W A H E X → f ρ s F X →
    (∀ vs H' xs s', RdL A H' xs vs → Fr W.pf H H' → W.rel H' s' → F xs s' → Q vs H') → ta σ H Q
variable {W : Wd S} {E : XK} {A : Addr → Prop} {H H' : Hp} {s s' : S} {σ : L2.St} {ρ : En} {X : XF S}
theorem VR.next (c : Ct W A H s) (r : VR W A H σ ρ) (f : Fr W.pf H H') : VR W A H' σ ρ := ⟨r.len, fun i x h => by
  obtain ⟨v, e, q⟩ := r.val i x h
  exact ⟨v, e, c.fr q f⟩, fun i x h => by
  obtain ⟨a, e, n, q⟩ := r.own i x h
  exact ⟨a, e, n, q.to (fun o z => f a o n z) fun b o m z => ⟨m, f b o (fun p => m (c.pa b p)) z⟩⟩⟩
theorem XL.next (x : XL W A H E X) (f : Fr W.pf H H') : XL W A H' E X := fun C d ns xs ws H2 s2 a b c g r q => x C d ns xs ws H2 s2 a b c (f.trans g) r q
theorem XL.less {A' : Addr → Prop} (x : XL W A H E X) (h : ∀ a, A a → A' a) : XL W A' H E X := fun C d ns xs ws H2 s2 a b c g r q => x C d ns xs ws H2 s2 a b (c.less h) g r q
theorem back (r : W.rel H' s') (f : Fr W.pf H H') {a : Addr} (h : H' a = none) : H a = none := by
  cases q : H a with
  | none => rfl
  | some o =>
    by_cases p : W.pf a
    · exact absurd h (W.live r p)
    · rw [f a o p q] at h; cases h
theorem New.back {x : PV} {v : V} {H2 : Hp} (n : New A H2 H' x v) (r : W.rel H2 s') (f : Fr W.pf H H2) : New A H H' x v := by
  obtain ⟨a, e, h, q⟩ := n
  exact ⟨a, e, Pv.back r f h, q⟩
/-! ### names, constants -/
def fVar (i : Nat) : FE S := fun ρ s F _ => match ρ[i]? with | some (.val x) => F x s | _ => False
instance ae_var {i : Nat} : AE W E (tVar i) (fVar i) false := ⟨fun {A σ H ρ s F X Q} c r _ h k => by
  unfold fVar at h
  split at h
  · rename_i x e
    obtain ⟨v, ev, q⟩ := r.val i x e
    exact ⟨v, ev, k v H x s q (fun z => nomatch z) Fr.refl c.rel h⟩
  · exact h.elim⟩
def fC (v : V) : FE S := fun _ s F _ => F (toPV v) s
instance ae_c {v : V} : AE W E (tC v) (fC v) false := ⟨fun c _ _ h k => k v _ (toPV v) _ (rd_to v) (fun z => nomatch z) Fr.refl c.rel h⟩
/-! ### operators -/
class AO (r : R2) (g : outParam (PV → PV → (PV → Prop) → Prop)) (b : outParam Bool) : Prop where
  run : ∀ {A : Addr → Prop} {H : Hp} {x y : PV} {u v : V} {F : PV → Prop} {Q : VK}, (∀ a, A a → H a ≠ none) → Rd A H x u → Rd A H y v → g x y F →
    (∀ w H' z, Rd A H' z w → (b = true → New A H H' z w) → Ex H H' → F z → Q w H') → r u v H Q
class AU (r : V → Hp → VK → Prop) (g : outParam (PV → (PV → Prop) → Prop)) (b : outParam Bool) : Prop where
  run : ∀ {A : Addr → Prop} {H : Hp} {x : PV} {u : V} {F : PV → Prop} {Q : VK}, (∀ a, A a → H a ≠ none) → Rd A H x u → g x F →
    (∀ w H' z, Rd A H' z w → (b = true → New A H H' z w) → Ex H H' → F z → Q w H') → r u H Q
class AC (r : List V → Hp → VK → Prop) (g : outParam (List PV → (PV → Prop) → Prop)) (b : outParam Bool) : Prop where
  run : ∀ {A : Addr → Prop} {H : Hp} {xs : List PV} {us : List V} {F : PV → Prop} {Q : VK}, (∀ a, A a → H a ≠ none) → RdL A H xs us → g xs F →
    (∀ w H' z, Rd A H' z w → (b = true → New A H H' z w) → Ex H H' → F z → Q w H') → r us H Q
def fOp (g : PV → PV → (PV → Prop) → Prop) (fa fb : FE S) : FE S := fun ρ s F X => fa ρ s (fun x s1 => fb ρ s1 (fun y s2 => g x y fun z => F z s2) X) X
instance ae_op {ta tb : TE} {fa fb : FE S} {ba bb b : Bool} {r : R2} {g} [ia : AE W E ta fa ba] [ib : AE W E tb fb bb] [io : AO r g b] : AE W E (tOp r ta tb) (fOp g fa fb) b := ⟨fun {A σ H ρ s F X Q} c r0 x h k =>
  ia.run c r0 x h fun u H1 p s1 rp _ f1 w1 h1 => ib.run (c.next f1 w1) (r0.next c f1) (x.next f1) h1 fun v H2 q s2 rq _ f2 w2 h2 =>
    have c2 := (c.next f1 w1).next f2 w2
    io.run c2.lv ((c.next f1 w1).fr rp f2) rq h2 fun w H3 z rz nz e3 hz => k w H3 z s2 rz (fun b => (nz b).back w2 (f1.trans f2)) ((f1.trans f2).trans (Fr.of e3)) (W.stab w2 e3) hz⟩
def fUn (g : PV → (PV → Prop) → Prop) (fa : FE S) : FE S := fun ρ s F X => fa ρ s (fun x s1 => g x fun z => F z s1) X
instance ae_un {ta : TE} {fa : FE S} {ba b : Bool} {r : V → Hp → VK → Prop} {g} [ia : AE W E ta fa ba] [io : AU r g b] : AE W E (tUn r ta) (fUn g fa) b := ⟨fun {A σ H ρ s F X Q} c r0 x h k =>
  ia.run c r0 x h fun u H1 p s1 rp _ f1 w1 h1 => io.run (c.next f1 w1).lv rp h1 fun w H3 z rz nz e3 hz => k w H3 z s1 rz (fun b => (nz b).back w1 f1) (f1.trans (Fr.of e3)) (W.stab w1 e3) hz⟩
def fCB (g : List PV → (PV → Prop) → Prop) (fa : FA S) : FE S := fun ρ s F X => fa ρ s (fun x s1 => g x fun z => F z s1) X
instance ae_cb {ta : TA} {fa : FA S} {b : Bool} {r : List V → Hp → VK → Prop} {g} [ia : AA W E ta fa] [io : AC r g b] : AE W E (tCB r ta) (fCB g fa) b := ⟨fun {A σ H ρ s F X Q} c r0 x h k =>
  ia.run c r0 x h fun u H1 p s1 rp f1 w1 h1 => io.run (c.next f1 w1).lv rp h1 fun w H3 z rz nz e3 hz => k w H3 z s1 rz (fun b => (nz b).back w1 f1) (f1.trans (Fr.of e3)) (W.stab w1 e3) hz⟩
/-! ### lists of arguments, displays -/
def fNil : FA S := fun _ s F _ => F [] s
def fCons (fa : FE S) (fr : FA S) : FA S := fun ρ s F X => fa ρ s (fun x s1 => fr ρ s1 (fun xs s2 => F (x :: xs) s2) X) X
instance aa_nil : AA W E tNil fNil := ⟨fun c _ _ h k => k [] _ [] _ rfl Fr.refl c.rel h⟩
instance aa_cons {ta : TE} {tr : TA} {fa : FE S} {fr : FA S} {ba : Bool} [ia : AE W E ta fa ba] [ir : AA W E tr fr] : AA W E (tCons ta tr) (fCons fa fr) := ⟨fun {A σ H ρ s F X Q} c r0 x h k =>
  ia.run c r0 x h fun u H1 p s1 rp _ f1 w1 h1 => ir.run (c.next f1 w1) (r0.next c f1) (x.next f1) h1 fun vs H2 qs s2 rq f2 w2 h2 =>
    k _ H2 _ s2 (RdL.cons ((c.next f1 w1).fr rp f2) rq) (f1.trans f2) w2 h2⟩
theorem rd_lst {xs : List PV} {vs : List V} {p : Addr} (c : Ct W A H s) (h : H p = none) (r : RdL A H xs vs) : Rd A (upd H p (.lst vs)) (.lst xs) (.ref p) := ⟨p, vs, rfl, c.new h, upd_same, r.ext (Ex.new h)⟩
theorem rd_tup {xs : List PV} {vs : List V} {p : Addr} (c : Ct W A H s) (h : H p = none) (r : RdL A H xs vs) : Rd A (upd H p (.tup vs)) (.tup xs) (.ref p) := ⟨p, vs, rfl, c.new h, upd_same, r.ext (Ex.new h)⟩
theorem new_lst {xs : List PV} {vs : List V} {p : Addr} (h : H p = none) (r : RdL A H xs vs) : New A H (upd H p (.lst vs)) (.lst xs) (.ref p) := ⟨p, rfl, h, vs, upd_same, (r.off h).ext (Ex.new h)⟩
def fLst (fa : FA S) : FE S := fun ρ s F X => fa ρ s (fun xs s1 => xs.length ≤ 1000000 ∧ F (.lst xs) s1) X
def fTup (fa : FA S) : FE S := fun ρ s F X => fa ρ s (fun xs s1 => xs.length ≤ 1000000 ∧ F (.tup xs) s1) X
instance ae_lst {ta : TA} {fa : FA S} [ia : AA W E ta fa] : AE W E (tLst ta) (fLst fa) true := ⟨fun {A σ H ρ s F X Q} c r0 x h k =>
  ia.run c r0 x h fun vs H1 xs s1 rv f1 w1 h1 => ⟨sz (by rw [← rv.len]; exact h1.1), fun p hp =>
    k _ _ _ s1 (rd_lst (c.next f1 w1) hp rv) (fun _ => (new_lst hp rv).back w1 f1) (f1.trans (Fr.of (Ex.new hp))) (W.stab w1 (Ex.new hp)) h1.2⟩⟩
instance ae_tup {ta : TA} {fa : FA S} [ia : AA W E ta fa] : AE W E (tTup ta) (fTup fa) false := ⟨fun {A σ H ρ s F X Q} c r0 x h k =>
  ia.run c r0 x h fun vs H1 xs s1 rv f1 w1 h1 => ⟨sz (by rw [← rv.len]; exact h1.1), fun p hp =>
    k _ _ _ s1 (rd_tup (c.next f1 w1) hp rv) (fun z => nomatch z) (f1.trans (Fr.of (Ex.new hp))) (W.stab w1 (Ex.new hp)) h1.2⟩⟩
/-! ### tests -/
def fB (fa : FE S) : FT S := fun ρ s F X => fa ρ s (fun x s1 => asB x fun b => F b s1) X
instance at_test {ta : TE} {fa : FE S} {ba : Bool} [ia : AE W E ta fa ba] : AT W E (tTest ta) (fB fa) := ⟨fun {A σ H ρ s F X Q} c r0 x h k =>
  ia.run c r0 x h fun u H1 p s1 rp _ f1 w1 h1 => by
    obtain ⟨b, rfl, q⟩ := asB_ok h1
    exact ⟨b, rp, k b H1 s1 f1 w1 q⟩⟩
instance at_B {ta : TE} {fa : FE S} {ba : Bool} [ia : AE W E ta fa ba] : AT W E (tB ta) (fB fa) := ⟨fun {A σ H ρ s F X Q} c r0 x h k =>
  ia.run c r0 x h fun u H1 p s1 rp _ f1 w1 h1 => by
    obtain ⟨b, rfl, q⟩ := asB_ok h1
    exact ⟨b, rp, k b H1 s1 f1 w1 q⟩⟩
def fAnd (fa fb : FT S) : FT S := fun ρ s F X => fa ρ s (fun b s1 => if b = true then fb ρ s1 F X else F false s1) X
def fOr (fa fb : FT S) : FT S := fun ρ s F X => fa ρ s (fun b s1 => if b = true then F true s1 else fb ρ s1 F X) X
def fNot (fa : FT S) : FT S := fun ρ s F X => fa ρ s (fun b s1 => F (!b) s1) X
def fYes : FT S := fun _ s F _ => F true s
instance at_yes : AT W E tYes fYes := ⟨fun c _ _ h k => k true _ _ Fr.refl c.rel h⟩
instance at_not {ta : TT} {fa : FT S} [ia : AT W E ta fa] : AT W E (tNot ta) (fNot fa) := ⟨fun c r0 x h k => ia.run c r0 x h fun b H1 s1 f1 w1 h1 => k _ _ _ f1 w1 h1⟩
instance at_and {ta tb : TT} {fa fb : FT S} [ia : AT W E ta fa] [ib : AT W E tb fb] : AT W E (tAnd ta tb) (fAnd fa fb) := ⟨fun {A σ H ρ s F X Q} c r0 x h k => ia.run c r0 x h fun b H1 s1 f1 w1 h1 => by
  cases b with
  | true =>
    have h1' : fb ρ s1 F X := h1
    show tb σ H1 Q
    exact ib.run (c.next f1 w1) (r0.next c f1) (x.next f1) h1' fun b2 H2 s2 f2 w2 h2 => k _ _ _ (f1.trans f2) w2 h2
  | false => exact k false H1 s1 f1 w1 h1⟩
instance at_or {ta tb : TT} {fa fb : FT S} [ia : AT W E ta fa] [ib : AT W E tb fb] : AT W E (tOr ta tb) (fOr fa fb) := ⟨fun {A σ H ρ s F X Q} c r0 x h k => ia.run c r0 x h fun b H1 s1 f1 w1 h1 => by
  cases b with
  | false =>
    have h1' : fb ρ s1 F X := h1
    show tb σ H1 Q
    exact ib.run (c.next f1 w1) (r0.next c f1) (x.next f1) h1' fun b2 H2 s2 f2 w2 h2 => k _ _ _ (f1.trans f2) w2 h2
  | true => exact k true H1 s1 f1 w1 h1⟩
def fIf (ft : FT S) (fa fb : FE S) : FE S := fun ρ s F X => ft ρ s (fun b s1 => if b = true then fa ρ s1 F X else fb ρ s1 F X) X
instance ae_if {tt : TT} {ta tb : TE} {ft : FT S} {fa fb : FE S} {ba bb : Bool} [it : AT W E tt ft] [ia : AE W E ta fa ba] [ib : AE W E tb fb bb] : AE W E (tIf tt ta tb) (fIf ft fa fb) (ba && bb) := ⟨fun {A σ H ρ s F X Q} c r0 x h k =>
  it.run c r0 x h fun b H1 s1 f1 w1 h1 => by
    cases b with
    | true =>
      have h1' : fa ρ s1 F X := h1
      show ta σ H1 Q
      exact ia.run (c.next f1 w1) (r0.next c f1) (x.next f1) h1' fun v H2 z s2 rz nz f2 w2 h2 => k v H2 z s2 rz (fun b => (nz (by cases ba <;> simp_all)).back w1 f1) (f1.trans f2) w2 h2
    | false =>
      have h1' : fb ρ s1 F X := h1
      show tb σ H1 Q
      exact ib.run (c.next f1 w1) (r0.next c f1) (x.next f1) h1' fun v H2 z s2 rz nz f2 w2 h2 => k v H2 z s2 rz (fun b => (nz (by cases bb <;> simp_all)).back w1 f1) (f1.trans f2) w2 h2⟩
def fAndV (fa fb : FE S) : FE S := fun ρ s F X => fa ρ s (fun x s1 => asB x fun b => if b = true then fb ρ s1 F X else F (.bl false) s1) X
def fOrV (fa fb : FE S) : FE S := fun ρ s F X => fa ρ s (fun x s1 => asB x fun b => if b = true then F (.bl true) s1 else fb ρ s1 F X) X
def fNotV (fa : FE S) : FE S := fun ρ s F X => fa ρ s (fun x s1 => asB x fun b => F (.bl (!b)) s1) X
instance ae_andV {ta tb : TE} {fa fb : FE S} {ba bb : Bool} [ia : AE W E ta fa ba] [ib : AE W E tb fb bb] : AE W E (tAndV ta tb) (fAndV fa fb) false := ⟨fun {A σ H ρ s F X Q} c r0 x h k =>
  ia.run c r0 x h fun u H1 p s1 rp _ f1 w1 h1 => by
    obtain ⟨b, rfl, q⟩ := asB_ok h1
    refine ⟨b, rp, ?_⟩
    cases b with
    | true =>
      have h1' : fb ρ s1 F X := q
      show tb σ H1 Q
      exact ib.run (c.next f1 w1) (r0.next c f1) (x.next f1) h1' fun v H2 z s2 rz nz f2 w2 h2 => k v H2 z s2 rz (fun z => nomatch z) (f1.trans f2) w2 h2
    | false => exact k _ H1 (.bl false) s1 rfl (fun z => nomatch z) f1 w1 q⟩
instance ae_orV {ta tb : TE} {fa fb : FE S} {ba bb : Bool} [ia : AE W E ta fa ba] [ib : AE W E tb fb bb] : AE W E (tOrV ta tb) (fOrV fa fb) false := ⟨fun {A σ H ρ s F X Q} c r0 x h k =>
  ia.run c r0 x h fun u H1 p s1 rp _ f1 w1 h1 => by
    obtain ⟨b, rfl, q⟩ := asB_ok h1
    refine ⟨b, rp, ?_⟩
    cases b with
    | false =>
      have h1' : fb ρ s1 F X := q
      show tb σ H1 Q
      exact ib.run (c.next f1 w1) (r0.next c f1) (x.next f1) h1' fun v H2 z s2 rz nz f2 w2 h2 => k v H2 z s2 rz (fun z => nomatch z) (f1.trans f2) w2 h2
    | true => exact k _ H1 (.bl true) s1 rfl (fun z => nomatch z) f1 w1 q⟩
instance ae_notV {ta : TE} {fa : FE S} {ba : Bool} [ia : AE W E ta fa ba] : AE W E (tNotV ta) (fNotV fa) false := ⟨fun {A σ H ρ s F X Q} c r0 x h k =>
  ia.run c r0 x h fun u H1 p s1 rp _ f1 w1 h1 => by
    obtain ⟨b, rfl, q⟩ := asB_ok h1
    exact ⟨b, rp, k _ H1 (.bl (!b)) s1 rfl (fun z => nomatch z) f1 w1 q⟩⟩
def fChain (g g' : PV → PV → (PV → Prop) → Prop) (fa fb fc : FE S) : FE S := fun ρ s F X => fa ρ s (fun x s1 => fb ρ s1 (fun y s2 => g x y fun z => asB z fun b => if b = true then fc ρ s2 (fun w s3 => g' y w fun z => F z s3) X else F (.bl false) s2) X) X
instance ae_chain {ta tb tc : TE} {fa fb fc : FE S} {ba bb bc b1 b2 : Bool} {r r' : R2} {g g'} [ia : AE W E ta fa ba] [ib : AE W E tb fb bb] [ic : AE W E tc fc bc] [io : AO r g b1] [io' : AO r' g' b2] : AE W E (tChain r r' ta tb tc) (fChain g g' fa fb fc) false := ⟨fun {A σ H ρ s F X Q} c r0 x h k =>
  ia.run c r0 x h fun u H1 p s1 rp _ f1 w1 h1 => ib.run (c.next f1 w1) (r0.next c f1) (x.next f1) h1 fun v H2 q s2 rq _ f2 w2 h2 =>
    have c2 := (c.next f1 w1).next f2 w2
    io.run c2.lv ((c.next f1 w1).fr rp f2) rq h2 fun w H3 z rz _ e3 hz => by
      obtain ⟨b, rfl, q3⟩ := asB_ok hz
      refine ⟨b, rz, ?_⟩
      have w3 := W.stab w2 e3
      have f13 := (f1.trans f2).trans (Fr.of e3)
      cases b with
      | false => exact k _ H3 (.bl false) s2 rfl (fun z => nomatch z) f13 w3 q3
      | true =>
        have q3' : fc ρ s2 (fun w s3 => g' q w fun z => F z s3) X := q3
        show tc σ H3 fun w' H4 => r' v w' H4 Q
        exact ic.run (c2.ext e3) (r0.next c f13) (x.next f13) q3' fun u4 H4 y4 s4 r4 _ f4 w4 h4 =>
          io'.run ((c2.ext e3).next f4 w4).lv ((c2.ext e3).fr (rq.ext e3) f4) r4 h4 fun u5 H5 z5 r5 n5 e5 h5 => k u5 H5 z5 s4 r5 (fun z => nomatch z) ((f13.trans f4).trans (Fr.of e5)) (W.stab w4 e5) h5⟩
end
end Pv
end

section -- PvC
set_option linter.all false
set_option maxRecDepth 100000
set_option maxHeartbeats 4000000
/-! PvC: operators and built-ins over pure values. -/
namespace Pv
open PySem PySem.Spec L2 Pk Evl
open PyProof.Rows hiding St
open TL (tl numL)
def gI0 (g : Int → Int → V) : PV → PV → (PV → Prop) → Prop := fun x y F => asI x fun i => asI y fun j => F (toPV (g i j))
instance ao_I0 {g : Int → Int → V} : AO (rI0 g) (gI0 g) false := ⟨fun l r1 r2 h k => by
  obtain ⟨i, rfl, h1_⟩ := asI_ok h
  obtain ⟨j, rfl, h2_⟩ := asI_ok h1_
  exact ⟨i, j, r1, r2, k _ _ _ (rd_to _) (fun z => nomatch z) (Ex.refl _) h2_⟩⟩
def gI (C : Int → Int → Prop) (g : Int → Int → V) : PV → PV → (PV → Prop) → Prop := fun x y F => asI x fun i => asI y fun j => C i j ∧ F (toPV (g i j))
instance ao_I {C : Int → Int → Prop} {g : Int → Int → V} : AO (rI C g) (gI C g) false := ⟨fun l r1 r2 h k => by
  obtain ⟨i, rfl, h1_⟩ := asI_ok h
  obtain ⟨j, rfl, h2_⟩ := asI_ok h1_
  exact ⟨i, j, r1, r2, h2_.1, k _ _ _ (rd_to _) (fun z => nomatch z) (Ex.refl _) h2_.2⟩⟩
def gU (g : Int → V) : PV → (PV → Prop) → Prop := fun x F => asI x fun i => F (toPV (g i))
instance au_U {g : Int → V} : AU (rU g) (gU g) false := ⟨fun l r1 h k => by
  obtain ⟨i, rfl, h1_⟩ := asI_ok h
  exact ⟨i, r1, k _ _ _ (rd_to _) (fun z => nomatch z) (Ex.refl _) h1_⟩⟩
def gAddT : PV → PV → (PV → Prop) → Prop := fun x y F => asS x fun a => asS y fun b => a.length + b.length ≤ 1000000 ∧ F (.str (a ++ b))
instance ao_addT : AO rAddT gAddT false := ⟨fun l r1 r2 h k => by
  obtain ⟨i, rfl, h1_⟩ := asS_ok h
  obtain ⟨j, rfl, h2_⟩ := asS_ok h1_
  exact ⟨i, j, r1, r2, sz h2_.1, k _ _ (.str (i ++ j)) rfl (fun z => nomatch z) (Ex.refl _) h2_.2⟩⟩
/-- == of what hangs on no object -/
def eqS : PV → PV → (Bool → Prop) → Prop
  | .non, .non, F => F true
  | .non, .int _, F => F false
  | .int _, .non, F => F false
  | .non, .bl _, F => F false
  | .bl _, .non, F => F false
  | .non, .str _, F => F false
  | .str _, .non, F => F false
  | .int i, .int j, F => F (decide (i = j))
  | .bl i, .bl j, F => F (decide (i = j))
  | .str i, .str j, F => F (decide (i = j))
  | .int _, .str _, F => F false
  | .str _, .int _, F => F false
  | .bl _, .str _, F => F false
  | .str _, .bl _, F => F false
  | _, _, _ => False
theorem eqS_ok {A : Addr → Prop} {H : Hp} {x y : PV} {u v : V} {F : Bool → Prop} (h : eqS x y F) (r1 : Rd A H x u) (r2 : Rd A H y v) : L2.scal u v = true ∧ F (decide (u = v)) := by
  cases x <;> cases y <;> first | exact h.elim | (cases r1; cases r2; exact ⟨rfl, by first | exact h | (simp only [V.int.injEq, V.bl.injEq, V.str.injEq]; exact h)⟩)
def gEq (neg : Bool) : PV → PV → (PV → Prop) → Prop := fun x y F => eqS x y fun b => F (.bl (if neg then !b else b))
instance ao_eq : AO rEq (gEq false) false := ⟨fun l r1 r2 h k => by
  obtain ⟨h1, h2⟩ := eqS_ok h r1 r2
  exact ⟨h1, k _ _ (.bl _) rfl (fun z => nomatch z) (Ex.refl _) h2⟩⟩
instance ao_ne : AO rNe (gEq true) false := ⟨fun l r1 r2 h k => by
  obtain ⟨h1, h2⟩ := eqS_ok h r1 r2
  exact ⟨h1, k _ _ (.bl _) rfl (fun z => nomatch z) (Ex.refl _) h2⟩⟩
def isN : PV → Bool | .non => true | .oth v => decide (v = .non) | _ => false
theorem isN_ok {A : Addr → Prop} {H : Hp} {x : PV} {u : V} (r : Rd A H x u) : decide (u = .non) = isN x := by
  cases x <;> first | (cases r; rfl) | (obtain ⟨a, vs, e, _⟩ := r; subst e; rfl) | (obtain ⟨a, dx, ws, e, _⟩ := r; subst e; rfl)
def gIsN (neg : Bool) : PV → PV → (PV → Prop) → Prop := fun x y F => match y with | .non => F (.bl (if neg then !isN x else isN x)) | _ => False
instance ao_isN : AO Pk.rIsN (gIsN false) false := ⟨fun {A H x y u v F Q} l r1 r2 h k => by
  cases y <;> first | exact h.elim | skip
  refine ⟨r2, k _ _ (.bl _) rfl (fun z => nomatch z) (Ex.refl _) ?_⟩
  rw [isN_ok r1]
  exact h⟩
instance ao_notN : AO Pk.rNotN (gIsN true) false := ⟨fun {A H x y u v F Q} l r1 r2 h k => by
  cases y <;> first | exact h.elim | skip
  refine ⟨r2, k _ _ (.bl _) rfl (fun z => nomatch z) (Ex.refl _) ?_⟩
  rw [isN_ok r1]
  exact h⟩
/-! ### in -/
def toF : PV → Option V | .non => some .non | .bl b => some (.bl b) | .int i => some (.int i) | .str s => some (.str s) | _ => none
theorem toF_ok {A : Addr → Prop} {H : Hp} {x : PV} {u w : V} (r : Rd A H x u) (h : toF x = some w) : u = w ∧ flatV w = true := by
  cases x <;> first | (cases r; cases h; exact ⟨rfl, rfl⟩) | cases h
theorem toF_all {A : Addr → Prop} {H : Hp} : ∀ {xs : List PV} {us ws : List V}, RdL A H xs us → xs.mapM toF = some ws → us = ws ∧ ws.all flatV = true
  | [], us, ws, r, h => by cases r; cases h; exact ⟨rfl, rfl⟩
  | x :: xs, us, ws, ⟨v, vs, e, r, rs⟩, h => by
    rw [List.mapM_cons] at h
    cases q : toF x with
    | none => rw [q] at h; cases h
    | some w =>
      rw [q] at h
      cases q2 : xs.mapM toF with
      | none => rw [q2] at h; cases h
      | some w2 =>
        rw [q2] at h
        have h' : w :: w2 = ws := Option.some.inj h
        subst h' e
        obtain ⟨a1, a2⟩ := toF_ok r q
        obtain ⟨b1, b2⟩ := toF_all rs q2
        subst a1 b1
        exact ⟨rfl, by rw [List.all_cons, a2, b2]; rfl⟩
def gIn (neg : Bool) : PV → PV → (PV → Prop) → Prop := fun x y F => asLU y fun ys => ∃ u us, toF x = some u ∧ ys.mapM toF = some us ∧ F (.bl (if neg then !inV u us else inV u us))
instance ao_in {K : PySem.W.Frag} {neg : Bool} : AO (rIn K neg) (gIn neg) false := ⟨fun {A H x y u v F Q} l r1 r2 h k => by
  obtain ⟨ys, e, w, ws, h1, h2, h3⟩ := asLU_ok h
  obtain ⟨e1, f1⟩ := toF_ok r1 h1
  subst e1
  rcases e with rfl | rfl
  · obtain ⟨a, vs, rfl, _, q, rl⟩ := r2
    obtain ⟨e2, f2⟩ := toF_all rl h2
    subst e2
    exact ⟨a, vs, rfl, .inr (st_of q), f1, f2, k _ _ (.bl _) rfl (fun z => nomatch z) (Ex.refl _) h3⟩
  · obtain ⟨a, vs, rfl, _, q, rl⟩ := r2
    obtain ⟨e2, f2⟩ := toF_all rl h2
    subst e2
    exact ⟨a, vs, rfl, .inl (sq_of q), f1, f2, k _ _ (.bl _) rfl (fun z => nomatch z) (Ex.refl _) h3⟩⟩
theorem mapM_str : ∀ ts : List Str, (ts.map PV.str).mapM toF = some (ts.map V.str)
  | [] => rfl
  | t :: ts => by rw [List.map_cons, List.mapM_cons, mapM_str ts]; rfl
def gInS (neg : Bool) : PV → PV → (PV → Prop) → Prop := fun x y F => asS x fun a => asS y fun z => ∃ c, a = ⟨#[c]⟩ ∧ F (.bl (if neg then !decide (c ∈ tl z) else decide (c ∈ tl z)))
instance ao_inS : AO rInS (gInS false) false := ⟨fun {A H x y u v F Q} l r1 r2 h k => by
  obtain ⟨a, rfl, h1_⟩ := asS_ok h
  obtain ⟨z, rfl, c, rfl, h2_⟩ := asS_ok h1_
  exact ⟨c, z, r1, r2, k _ _ (.bl _) rfl (fun z => nomatch z) (Ex.refl _) h2_⟩⟩
instance ao_notInS : AO rNotInS (gInS true) false := ⟨fun {A H x y u v F Q} l r1 r2 h k => by
  obtain ⟨a, rfl, h1_⟩ := asS_ok h
  obtain ⟨z, rfl, c, rfl, h2_⟩ := asS_ok h1_
  exact ⟨c, z, r1, r2, k _ _ (.bl _) rfl (fun z => nomatch z) (Ex.refl _) h2_⟩⟩
/-! ### lists, tuples, items, slices -/
def gCat : PV → PV → (PV → Prop) → Prop := fun x y F => asL x fun a => asL y fun b => a.length + b.length ≤ 1000000 ∧ F (.lst (a ++ b))
instance ao_cat : AO rCat gCat true := ⟨fun {A H x y u v F Q} l r1 r2 h k => by
  obtain ⟨a, rfl, h1_⟩ := asL_ok h
  obtain ⟨b, rfl, h2_⟩ := asL_ok h1_
  obtain ⟨p, vs, rfl, np, hp, rp⟩ := r1
  obtain ⟨q, ws, rfl, nq, hq, rq⟩ := r2
  refine ⟨p, q, vs, ws, rfl, rfl, hp, hq, sz (by rw [← rp.len, ← rq.len]; exact h2_.1), fun o ho => ?_⟩
  have ra := rp.app rq
  exact k _ _ (.lst (a ++ b)) ⟨o, _, rfl, fun z => l o z ho, upd_same, ra.ext (Ex.new ho)⟩ (fun _ => ⟨o, rfl, ho, _, upd_same, (ra.off ho).ext (Ex.new ho)⟩) (Ex.new ho) h2_.2⟩
theorem atI_rd {A : Addr → Prop} {H : Hp} {xs : List PV} {vs : List V} {i : Int} {x : PV} (r : RdL A H xs vs) (h : atI xs i = some x) : ∃ v, atI vs i = some v ∧ Rd A H x v := by
  unfold atI at h ⊢
  rw [r.len] at h
  cases q : ixN vs.length i with
  | none => rw [q] at h; cases h
  | some j =>
    rw [q] at h
    have h' : xs[j]? = some x := h
    exact r.get' h'
def pick {α : Type} (o : Option α) (F : α → Prop) : Prop := match o with | some z => F z | none => False
theorem pick_ok {α : Type} {o : Option α} {F : α → Prop} (h : pick o F) : ∃ z, o = some z ∧ F z := by cases o <;> first | exact h.elim | exact ⟨_, rfl, h⟩
def gIxL : PV → PV → (PV → Prop) → Prop := fun x y F => asL x fun xs => asI y fun i => pick (atI xs i) F
def gIxT : PV → PV → (PV → Prop) → Prop := fun x y F => asU x fun xs => asI y fun i => pick (atI xs i) F
instance ao_ixL {K : PySem.W.Frag} : AO (rIxL K) gIxL false := ⟨fun {A H x y u v F Q} l r1 r2 h k => by
  obtain ⟨xs, rfl, h1_⟩ := asL_ok h
  obtain ⟨i, rfl, h2_⟩ := asI_ok h1_
  obtain ⟨z, e, h3_⟩ := pick_ok h2_
  obtain ⟨p, vs, rfl, np, hp, rp⟩ := r1
  obtain ⟨w, e2, rw_⟩ := atI_rd rp e
  exact ⟨p, vs, i, w, rfl, r2, sq_of hp, e2, k _ _ z rw_ (fun z => nomatch z) (Ex.refl _) h3_⟩⟩
instance ao_ixT {K : PySem.W.Frag} : AO (rIxT K) gIxT false := ⟨fun {A H x y u v F Q} l r1 r2 h k => by
  obtain ⟨xs, rfl, h1_⟩ := asU_ok h
  obtain ⟨i, rfl, h2_⟩ := asI_ok h1_
  obtain ⟨z, e, h3_⟩ := pick_ok h2_
  obtain ⟨p, vs, rfl, np, hp, rp⟩ := r1
  obtain ⟨w, e2, rw_⟩ := atI_rd rp e
  exact ⟨p, vs, i, w, rfl, r2, st_of hp, e2, k _ _ z rw_ (fun z => nomatch z) (Ex.refl _) h3_⟩⟩
def gIxS : PV → PV → (PV → Prop) → Prop := fun x y F => asS x fun z => asI y fun i => z.length ≤ 1000000 ∧ pick (atI (tl z) i) fun c => F (.str ⟨#[c]⟩)
instance ao_ixS : AO rIxS gIxS false := ⟨fun {A H x y u v F Q} l r1 r2 h k => by
  obtain ⟨z, rfl, h1_⟩ := asS_ok h
  obtain ⟨i, rfl, h2_⟩ := asI_ok h1_
  obtain ⟨c, e, h2⟩ := pick_ok h2_.2
  exact ⟨z, i, c, r1, r2, sz h2_.1, e, k _ _ (.str ⟨#[c]⟩) rfl (fun z => nomatch z) (Ex.refl _) h2⟩⟩
/-! ### built-ins -/
def one (xs : List PV) (P : PV → Prop) : Prop := match xs with | [x] => P x | _ => False
def two (xs : List PV) (P : PV → PV → Prop) : Prop := match xs with | [x, y] => P x y | _ => False
theorem one_ok {A : Addr → Prop} {H : Hp} {xs : List PV} {us : List V} {P : PV → Prop} (h : one xs P) (r : RdL A H xs us) : ∃ x u, xs = [x] ∧ us = [u] ∧ Rd A H x u ∧ P x := by
  match xs, h with
  | [x], h =>
    obtain ⟨v, ws, rfl, r1, r2⟩ := r
    cases r2
    exact ⟨x, v, rfl, rfl, r1, h⟩
theorem two_ok {A : Addr → Prop} {H : Hp} {xs : List PV} {us : List V} {P : PV → PV → Prop} (h : two xs P) (r : RdL A H xs us) : ∃ x y u v, xs = [x, y] ∧ us = [u, v] ∧ Rd A H x u ∧ Rd A H y v ∧ P x y := by
  match xs, h with
  | [x, y], h =>
    obtain ⟨v, ws, rfl, r1, r2⟩ := r
    obtain ⟨v2, ws2, rfl, r3, r4⟩ := r2
    cases r4
    exact ⟨x, y, v, v2, rfl, rfl, r1, r3, h⟩
def gLen : List PV → (PV → Prop) → Prop := fun xs F => one xs fun x => asLU x fun l => F (.int l.length)
instance ac_len {K : PySem.W.Frag} : AC (rLenS K) gLen false := ⟨fun {A H xs us F Q} l r h k => by
  obtain ⟨x, u, rfl, rfl, rx, h1_⟩ := one_ok h r
  obtain ⟨ys, e, h2_⟩ := asLU_ok h1_
  rcases e with rfl | rfl
  · obtain ⟨p, vs, rfl, _, hp, rl⟩ := rx
    exact ⟨p, vs, rfl, .inr (st_of hp), k _ _ (.int ys.length) (by rw [rl.len]; rfl) (fun z => nomatch z) (Ex.refl _) h2_⟩
  · obtain ⟨p, vs, rfl, _, hp, rl⟩ := rx
    exact ⟨p, vs, rfl, .inl (sq_of hp), k _ _ (.int ys.length) (by rw [rl.len]; rfl) (fun z => nomatch z) (Ex.refl _) h2_⟩⟩
def gLenT : List PV → (PV → Prop) → Prop := fun xs F => one xs fun x => asS x fun z => z.length ≤ 1000000 ∧ F (.int z.length)
instance ac_lenT : AC rLenT gLenT false := ⟨fun {A H xs us F Q} l r h k => by
  obtain ⟨x, u, rfl, rfl, rx, h1_⟩ := one_ok h r
  obtain ⟨z, rfl, h2_⟩ := asS_ok h1_
  cases rx
  exact ⟨z, rfl, sz h2_.1, k _ _ (.int z.length) rfl (fun z => nomatch z) (Ex.refl _) h2_.2⟩⟩
def gListS : List PV → (PV → Prop) → Prop := fun xs F => one xs fun x => asLU x fun l => F (.lst l)
instance ac_list {K : PySem.W.Frag} : AC (rListS K) gListS true := ⟨fun {A H xs us F Q} l r h k => by
  obtain ⟨x, u, rfl, rfl, rx, h1_⟩ := one_ok h r
  obtain ⟨ys, e, h2_⟩ := asLU_ok h1_
  have fin : ∀ (vs : List V), RdL A H ys vs → ∀ o, H o = none → Q (.ref o) (upd H o (.lst vs)) := fun vs ra o ho =>
    k _ _ (.lst ys) ⟨o, _, rfl, fun z => l o z ho, upd_same, ra.ext (Ex.new ho)⟩ (fun _ => ⟨o, rfl, ho, _, upd_same, (ra.off ho).ext (Ex.new ho)⟩) (Ex.new ho) h2_
  rcases e with rfl | rfl
  · obtain ⟨p, vs, rfl, _, hp, rl⟩ := rx
    exact ⟨p, vs, rfl, .inr (st_of hp), fin vs rl⟩
  · obtain ⟨p, vs, rfl, _, hp, rl⟩ := rx
    exact ⟨p, vs, rfl, .inl (sq_of hp), fin vs rl⟩⟩
def rTupS (K : PySem.W.Frag) : List V → Hp → VK → Prop := fun xs H Q => ∃ p ys, xs = [.ref p] ∧ ((SqL K H p ys ∧ ∀ l, H l = none → Q (.ref l) (upd H l (.tup ys))) ∨ (SqT K H p ys ∧ Q (.ref p) H))
theorem call_tupS {X : Cx} : CallR X (.type "tuple") (rTupS X.K) := call_tuple_of
theorem call_listS {X : Cx} : CallR X (.type "list") (rListS X.K) := call_list_of
def gTupS : List PV → (PV → Prop) → Prop := fun xs F => one xs fun x => asLU x fun l => F (.tup l)
instance ac_tup {K : PySem.W.Frag} : AC (rTupS K) gTupS false := ⟨fun {A H xs us F Q} l r h k => by
  obtain ⟨x, u, rfl, rfl, rx, h1_⟩ := one_ok h r
  obtain ⟨ys, e, h2_⟩ := asLU_ok h1_
  rcases e with rfl | rfl
  · obtain ⟨p, vs, rfl, np, hp, rl⟩ := rx
    exact ⟨p, vs, rfl, .inr ⟨st_of hp, k _ _ (.tup ys) ⟨p, vs, rfl, np, hp, rl⟩ (fun z => nomatch z) (Ex.refl _) h2_⟩⟩
  · obtain ⟨p, vs, rfl, _, hp, rl⟩ := rx
    exact ⟨p, vs, rfl, .inl ⟨sq_of hp, fun o ho => k _ _ (.tup ys) ⟨o, _, rfl, fun z => l o z ho, upd_same, rl.ext (Ex.new ho)⟩ (fun z => nomatch z) (Ex.new ho) h2_⟩⟩⟩
def blsOf : List PV → Option (List Bool)
  | [] => some []
  | .bl b :: r => (blsOf r).map (b :: ·)
  | _ => none
theorem bls_ok {A : Addr → Prop} {H : Hp} : ∀ {xs : List PV} {us : List V} {bs : List Bool}, RdL A H xs us → blsOf xs = some bs → us = bs.map V.bl
  | [], us, bs, r, h => by cases r; cases h; rfl
  | x :: xs, us, bs, ⟨v, vs, e, r, rs⟩, h => by
    cases x <;> first | cases h | skip
    rename_i b
    cases q : blsOf xs with
    | none => unfold blsOf at h; rw [q] at h; cases h
    | some w =>
      unfold blsOf at h
      rw [q] at h
      have h' : b :: w = bs := Option.some.inj h
      subst h' e
      cases r
      rw [bls_ok rs q]
      rfl
theorem bls_map {α : Type} (f : α → Bool) : ∀ xs : List α, blsOf (xs.map fun x => PV.bl (f x)) = some (xs.map f)
  | [] => rfl
  | x :: xs => by
    show (blsOf (xs.map fun x => PV.bl (f x))).map (f x :: ·) = _
    rw [bls_map f xs]
    rfl
def gAll : List PV → (PV → Prop) → Prop := fun xs F => one xs fun x => asL x fun l => pick (blsOf l) fun bs => F (.bl (bs.all id))
def gAny : List PV → (PV → Prop) → Prop := fun xs F => one xs fun x => asL x fun l => pick (blsOf l) fun bs => F (.bl (bs.any id))
instance ac_all {K : PySem.W.Frag} : AC (rAll K) gAll false := ⟨fun {A H xs us F Q} l r h k => by
  obtain ⟨x, u, rfl, rfl, rx, h1_⟩ := one_ok h r
  obtain ⟨ys, rfl, h2_⟩ := asL_ok h1_
  obtain ⟨bs, e, h3_⟩ := pick_ok h2_
  obtain ⟨p, vs, rfl, _, hp, rl⟩ := rx
  rw [bls_ok rl e] at hp
  exact ⟨p, bs, rfl, sq_of hp, k _ _ (.bl _) rfl (fun z => nomatch z) (Ex.refl _) h3_⟩⟩
instance ac_any {K : PySem.W.Frag} : AC (rAny K) gAny false := ⟨fun {A H xs us F Q} l r h k => by
  obtain ⟨x, u, rfl, rfl, rx, h1_⟩ := one_ok h r
  obtain ⟨ys, rfl, h2_⟩ := asL_ok h1_
  obtain ⟨bs, e, h3_⟩ := pick_ok h2_
  obtain ⟨p, vs, rfl, _, hp, rl⟩ := rx
  rw [bls_ok rl e] at hp
  exact ⟨p, bs, rfl, sq_of hp, k _ _ (.bl _) rfl (fun z => nomatch z) (Ex.refl _) h3_⟩⟩
def gStrI : List PV → (PV → Prop) → Prop := fun xs F => one xs fun x => asI x fun i => i.natAbs.log2 < 1920 ∧ F (.str (Str.ofString (toString i)))
instance ac_strI : AC rStrI gStrI false := ⟨fun {A H xs us F Q} l r h k => by
  obtain ⟨x, u, rfl, rfl, rx, h1_⟩ := one_ok h r
  obtain ⟨i, rfl, h2_⟩ := asI_ok h1_
  cases rx
  exact ⟨i, rfl, h2_.1, k _ _ (.str _) rfl (fun z => nomatch z) (Ex.refl _) h2_.2⟩⟩
def gInt1 : List PV → (PV → Prop) → Prop := fun xs F => one xs fun x => match x with | .int i => F (.int i) | .bl b => F (.int (if b then 1 else 0)) | _ => False
instance ac_int1 : AC rInt1 gInt1 false := ⟨fun {A H xs us F Q} l r h k => by
  obtain ⟨x, u, rfl, rfl, rx, h1_⟩ := one_ok h r
  cases x <;> first | exact h1_.elim | skip
  · cases rx
    exact .inr ⟨_, rfl, k _ _ (.int _) rfl (fun z => nomatch z) (Ex.refl _) h1_⟩
  · cases rx
    exact .inl ⟨_, rfl, k _ _ (.int _) rfl (fun z => nomatch z) (Ex.refl _) h1_⟩⟩
/-- isinstance: the type of a value that is of no own class -/
def tyB : PV → Option String | .non => some "NoneType" | .bl _ => some "bool" | .int _ => some "int" | .str _ => some "str" | .lst _ => some "list" | .tup _ => some "tuple" | .dct _ _ => some "dict" | _ => none
theorem tyB_ok {K : PySem.W.Frag} {A : Addr → Prop} {H : Hp} {x : PV} {u : V} {t : String} (r : Rd A H x u) (h : tyB x = some t) : TyX K H u (.type t) := by
  cases x <;> first | (cases r; cases h; first | exact .base .non | exact .base (.bl _) | exact .base (.int _) | exact .base (.str _)) | cases h
  · obtain ⟨a, vs, rfl, _, q, _⟩ := r
    exact .base (.lst q)
  · obtain ⟨a, vs, rfl, _, q, _⟩ := r
    exact .base (.tup q)
  · obtain ⟨a, vs, rfl, _, q, _⟩ := r
    rcases q with q | ⟨o, q⟩
    · exact .base (.dK q)
    · exact .fDict q
/-- what is known of an own class for isinstance -/
structure TyC (K : PySem.W.Frag) (C : Addr) : Prop where
  cl : Cls K C
  ha : PySem.W.findIn K (.ref C) "__class__" = some (some (.builtin "object.__class__"))
  hn : PySem.W.specialIn K (.builtin "object.__class__") "__get__" = some (some (.builtin "getset_descriptor.__get__"))
  ht : PySem.W.takesIn K (.builtin "object.__class__") = some true
  hm : PySem.W.mroIn K C (.type "object") = some true
/-- the model's type of a value -/
def TyP (K : PySem.W.Frag) (x : PV) (t : Value) : Prop := match x with
  | .ins C _ _ => TyC K C ∧ t = .ref C
  | x => match tyB x with
    | some n => t = .type n
    | none => False
theorem TyP.ok {K : PySem.W.Frag} {A : Addr → Prop} {H : Hp} {x : PV} {u : V} {t : Value} (r : Rd A H x u) (h : TyP K x t) : TyX K H u t := by
  cases x <;> first | exact h.elim | (subst h; exact tyB_ok r rfl) | skip
  · obtain ⟨c, rfl⟩ := h
    obtain ⟨a, dx, ws, rfl, _, q, _⟩ := r
    exact .base (.ins q c.cl c.ha c.hn c.ht c.hm)
def clsP : PV → Option Value | .ty n => some (.type n) | .adr a => some (.ref a) | _ => none
def gIsi (K : PySem.W.Frag) : List PV → (PV → Prop) → Prop := fun xs F => two xs fun x c => ∃ t w b, clsP c = some w ∧ TyP K x t ∧ PySem.W.kitOne K t w = some b ∧ F (.bl b)
instance ac_isi {K : PySem.W.Frag} : AC (rIsi K) (gIsi K) false := ⟨fun {A H xs us F Q} l r h k => by
  obtain ⟨x, y, u, v, rfl, rfl, rx, ry, t, w, b, h1, h2, h3, h4⟩ := two_ok h r
  have hc : ClsV v w := by
    cases y <;> first | cases h1 | skip
    · cases ry; exact .ty _
    · cases ry; exact .own _
  exact ⟨u, v, t, w, b, rfl, hc, h2.ok rx, h3, k _ _ (.bl b) rfl (fun z => nomatch z) (Ex.refl _) h4⟩⟩
end Pv
end

section -- PvD
set_option linter.all false
set_option maxRecDepth 100000
set_option maxHeartbeats 4000000
/-! PvD: what is walked, comprehensions, slices, fields, calls. -/
namespace Pv
open PySem PySem.Spec L2 Pk Evl
open PyProof.Rows hiding St
open TL (tl numL)
section
variable {S : Type} {W : Wd S} {E : XK}
abbrev FI (S : Type) := En → S → (List PV → S → Prop) → XF S → Prop
/-- what is walked: items that stand while what they lie in does -/
class AI (W : Wd S) (E : XK) (wi : TI) (f : outParam (FI S)) : Prop where
  run : ∀ {A : Addr → Prop} {σ : L2.St} {H : Hp} {ρ : En} {s : S} {F : List PV → S → Prop} {X : XF S} {R : It → Hp → Prop}, Ct W A H s → VR W A H σ ρ → XL W A H E X → f ρ s F X →
    (∀ J H' items s' (pv : List Pin) (G : Hp → Prop) (Y : Nat → Hp → V → Hp → Prop), Walk J items.length G Y → (∀ p ∈ pv, Pin.ok A H' p) → (∀ A2 H2, (∀ p ∈ pv, Pin.ok A2 H2 p) → G H2) →
      (∀ A2 : Addr → Prop, ∀ i H1 v H2, i < items.length → (∀ a, A2 a → H1 a ≠ none) → (∀ p ∈ pv, Pin.ok A2 H1 p) → Y i H1 v H2 → Ex H1 H2 ∧ ∃ x, items[i]? = some x ∧ Rd A2 H2 x v) →
      Fr W.pf H H' → W.rel H' s' → F items s' → R J H') → wi σ H R
def fiL (fa : FE S) : FI S := fun ρ s F X => fa ρ s (fun x s1 => asL x fun l => F l s1) X
def fiT (fa : FE S) : FI S := fun ρ s F X => fa ρ s (fun x s1 => asU x fun l => F l s1) X
theorem walk_l {K : PySem.W.Frag} {a : Addr} {n : Nat} : Walk (Itl K a) n (fun H => ∃ vs : List V, H a = some (.lst vs) ∧ vs.length = n) (fun i H v H' => H' = H ∧ ∀ vs, H a = some (.lst vs) → vs[i]? = some v) :=
  ⟨fun i H hi ⟨vs, q, l⟩ => ⟨vs, vs[i]'(by omega), sq_of q, by simp [show i < vs.length by omega]⟩, fun H ⟨vs, q, l⟩ => ⟨vs, sq_of q, by omega⟩, fun i H v H' _ _ y => ⟨y.1, fun vs q => y.2 vs (sq_of q)⟩⟩
theorem walk_t {K : PySem.W.Frag} {a : Addr} {n : Nat} : Walk (Itt K a) n (fun H => ∃ vs : List V, H a = some (.tup vs) ∧ vs.length = n) (fun i H v H' => H' = H ∧ ∀ vs, H a = some (.tup vs) → vs[i]? = some v) :=
  ⟨fun i H hi ⟨vs, q, l⟩ => ⟨vs, vs[i]'(by omega), st_of q, by simp [show i < vs.length by omega]⟩, fun H ⟨vs, q, l⟩ => ⟨vs, st_of q, by omega⟩, fun i H v H' _ _ y => ⟨y.1, fun vs q => y.2 vs (st_of q)⟩⟩
theorem rd_lstA {A : Addr → Prop} {H : Hp} {l : List PV} {a : Addr} (r : Rd A H (.lst l) (.ref a)) : ∃ vs, H a = some (.lst vs) ∧ RdL A H l vs := by
  obtain ⟨b, vs, e, _, h, q⟩ := r
  cases e
  exact ⟨vs, h, q⟩
theorem rd_tupA {A : Addr → Prop} {H : Hp} {l : List PV} {a : Addr} (r : Rd A H (.tup l) (.ref a)) : ∃ vs, H a = some (.tup vs) ∧ RdL A H l vs := by
  obtain ⟨b, vs, e, _, h, q⟩ := r
  cases e
  exact ⟨vs, h, q⟩
instance ai_list {K : PySem.W.Frag} {tl : TE} {fa : FE S} {b : Bool} [ia : AE W E tl fa b] : AI W E (iList K tl) (fiL fa) := ⟨fun {A σ H ρ s F X R} c r0 x h k =>
  ia.run c r0 x h fun u H1 p s1 rp _ f1 w1 h1 => by
    obtain ⟨l, rfl, h2⟩ := asL_ok h1
    obtain ⟨a, vs, rfl, na, ha, rl⟩ := id rp
    refine ⟨a, rfl, ⟨vs, sq_of ha⟩, k _ H1 l s1 [Pin.rd (.lst l) (.ref a)] _ _ walk_l (fun p m => by rw [List.mem_singleton.mp m]; exact rp) (fun A2 H2 q => ?_) (fun A2 i H2 v H3 hi lv q y => ?_) f1 w1 h2⟩
    · obtain ⟨ws, e, r⟩ := rd_lstA (q _ (List.mem_singleton.mpr rfl))
      exact ⟨ws, e, r.len.symm⟩
    · obtain ⟨ws, e, r⟩ := rd_lstA (q _ (List.mem_singleton.mpr rfl))
      obtain ⟨rfl, y⟩ := y
      exact ⟨Ex.refl _, r.get (y ws e)⟩⟩
instance ai_tup {K : PySem.W.Frag} {tl : TE} {fa : FE S} {b : Bool} [ia : AE W E tl fa b] : AI W E (iTup K tl) (fiT fa) := ⟨fun {A σ H ρ s F X R} c r0 x h k =>
  ia.run c r0 x h fun u H1 p s1 rp _ f1 w1 h1 => by
    obtain ⟨l, rfl, h2⟩ := asU_ok h1
    obtain ⟨a, vs, rfl, na, ha, rl⟩ := id rp
    refine ⟨a, rfl, ⟨vs, st_of ha⟩, k _ H1 l s1 [Pin.rd (.tup l) (.ref a)] _ _ walk_t (fun p m => by rw [List.mem_singleton.mp m]; exact rp) (fun A2 H2 q => ?_) (fun A2 i H2 v H3 hi lv q y => ?_) f1 w1 h2⟩
    · obtain ⟨ws, e, r⟩ := rd_tupA (q _ (List.mem_singleton.mpr rfl))
      exact ⟨ws, e, r.len.symm⟩
    · obtain ⟨ws, e, r⟩ := rd_tupA (q _ (List.mem_singleton.mpr rfl))
      obtain ⟨rfl, y⟩ := y
      exact ⟨Ex.refl _, r.get (y ws e)⟩⟩
/-- a list or a tuple (Pk.iLT) -/
def fiLT (fa : FE S) : FI S := fun ρ s F X => fa ρ s (fun x s1 => asLU x fun l => F l s1) X
def fiS (fa : FE S) : FI S := fun ρ s F X => fa ρ s (fun x s1 => asS x fun z => F ((tl z).map fun c => PV.str ⟨#[c]⟩) s1) X
instance ai_str {tz : TE} {fa : FE S} {b : Bool} [ia : AE W E tz fa b] : AI W E (iStr tz) (fiS fa) := ⟨fun {A σ H ρ s F X R} c r0 x h k =>
  ia.run c r0 x h fun u H1 p s1 rp _ f1 w1 h1 => by
    obtain ⟨z, rfl, h2⟩ := asS_ok h1
    have e : ((tl z).map fun c => PV.str ⟨#[c]⟩).length = z.cps.size := by rw [List.length_map]; simp [tl]
    refine ⟨z, rp, k _ H1 _ s1 [] (fun _ => True) _ (by rw [e]; exact walk_str) (fun p m => nomatch m) (fun _ _ _ => trivial) (fun A2 i H2 v H3 hi lv q y => ?_) f1 w1 h2⟩
    obtain ⟨rfl, c, hc, rfl⟩ := y
    have hc' : (tl z)[i]? = some c := by simpa [tl] using hc
    exact ⟨Ex.refl _, .str ⟨#[c]⟩, by rw [List.getElem?_map, hc']; rfl, rfl⟩⟩
def rngP (lo : Int) (n : Nat) : List PV := (List.range n).map fun (i : Nat) => PV.int (lo + (i : Int))
theorem rngP_len (lo : Int) (n : Nat) : (rngP lo n).length = n := by unfold rngP; rw [List.length_map, List.length_range]
theorem rngP_get {lo : Int} {n i : Nat} (h : i < n) : (rngP lo n)[i]? = some (.int (lo + (i : Int))) := by
  unfold rngP
  rw [List.getElem?_map, List.getElem?_range h]
  rfl
def fiR1 (fa : FA S) : FI S := fun ρ s F X => fa ρ s (fun xs s1 => one xs fun x => asI x fun j => (-(2 ^ 62) ≤ j ∧ j < 2 ^ 62) ∧ F (rngP 0 j.toNat) s1) X
def fiR2 (fa : FA S) : FI S := fun ρ s F X => fa ρ s (fun xs s1 => two xs fun x y => asI x fun i => asI y fun j => (-(2 ^ 62) ≤ i ∧ i < 2 ^ 62 ∧ -(2 ^ 62) ≤ j ∧ j < 2 ^ 62) ∧ F (rngP i (j - i).toNat) s1) X
instance ai_rng1 {ta : TA} {fa : FA S} [ia : AA W E ta fa] : AI W E (iRng1 ta) (fiR1 fa) := ⟨fun {A σ H ρ s F X R} c r0 x h k =>
  ia.run c r0 x h fun u H1 p s1 rp f1 w1 h1 => by
    obtain ⟨z, v, rfl, rfl, rz, h2⟩ := one_ok h1 rp
    obtain ⟨j, rfl, h3, h4⟩ := asI_ok h2
    refine ⟨j, by rw [show v = .int j from rz], h3.1, h3.2, k _ H1 _ s1 [] (fun _ => True) _ (by rw [rngP_len]; exact walk_range) (fun p m => nomatch m) (fun _ _ _ => trivial) (fun A2 i H2 v H3 hi lv q y => ?_) f1 w1 h4⟩
    obtain ⟨rfl, rfl⟩ := y
    rw [rngP_len] at hi
    exact ⟨Ex.refl _, _, rngP_get hi, rfl⟩⟩
instance ai_rng2 {ta : TA} {fa : FA S} [ia : AA W E ta fa] : AI W E (iRng2 ta) (fiR2 fa) := ⟨fun {A σ H ρ s F X R} c r0 x h k =>
  ia.run c r0 x h fun u H1 p s1 rp f1 w1 h1 => by
    obtain ⟨z, z2, v, v2, rfl, rfl, rz, rz2, h2⟩ := two_ok h1 rp
    obtain ⟨i0, rfl, h2b⟩ := asI_ok h2
    obtain ⟨j, rfl, h3, h4⟩ := asI_ok h2b
    refine ⟨i0, j, by rw [show v = .int i0 from rz, show v2 = .int j from rz2], h3, k _ H1 _ s1 [] (fun _ => True) _ (by rw [rngP_len]; exact walk_range) (fun p m => nomatch m) (fun _ _ _ => trivial) (fun A2 i H2 v H3 hi lv q y => ?_) f1 w1 h4⟩
    obtain ⟨rfl, rfl⟩ := y
    rw [rngP_len] at hi
    exact ⟨Ex.refl _, _, rngP_get hi, rfl⟩⟩
/-- pairs, each a new tuple -/
theorem pair_rd {A' : Addr → Prop} {H1 H2 : Hp} {T : Addr} {u v : V} {x y : PV} (lv : ∀ a, A' a → H1 a ≠ none) (hT : H1 T = none) (e : H2 = upd H1 T (.tup [u, v])) (r1 : Rd A' H1 x u) (r2 : Rd A' H1 y v) : Ex H1 H2 ∧ Rd A' H2 (.tup [x, y]) (.ref T) := by
  subst e
  exact ⟨Ex.new hT, T, _, rfl, fun z => lv T z hT, upd_same, RdL.cons (r1.ext (Ex.new hT)) (RdL.cons (r2.ext (Ex.new hT)) RdL.nil)⟩
def zipP (xs ys : List PV) : List PV := (xs.zip ys).map fun p => .tup [p.1, p.2]
def fiZ (fa : FA S) : FI S := fun ρ s F X => fa ρ s (fun xs s1 => two xs fun x y => asL x fun l => asL y fun m => F (zipP l m) s1) X
theorem walk_z {K : PySem.W.Frag} {a b : Addr} {n m l : Nat} (hl : l = min n m) : Walk (Itz K a b) l (fun H => ∃ vs ws : List V, H a = some (.lst vs) ∧ vs.length = n ∧ H b = some (.lst ws) ∧ ws.length = m)
    (fun i H v H' => ∃ T x y, v = .ref T ∧ H T = none ∧ H' = upd H T (.tup [x, y]) ∧ (∀ vs, H a = some (.lst vs) → vs[i]? = some x) ∧ ∀ vs, H b = some (.lst vs) → vs[i]? = some y) := by
  subst hl
  refine ⟨fun i H hi ⟨vs, ws, q, l1, q2, l2⟩ => ?_, fun H ⟨vs, ws, q, l1, q2, l2⟩ => ⟨vs, ws, sq_of q, sq_of q2, by omega⟩, fun i H v H' _ _ y => ?_⟩
  · exact ⟨vs, ws, vs[i]'(by omega), ws[i]'(by omega), sq_of q, sq_of q2, by simp [show i < vs.length by omega], by simp [show i < ws.length by omega]⟩
  · obtain ⟨T, x, z, h1, h2, h3, h4, h5⟩ := y
    exact ⟨T, x, z, h1, h2, h3, fun vs q => h4 vs (sq_of q), fun vs q => h5 vs (sq_of q)⟩
instance ai_zip {K : PySem.W.Frag} {ta : TA} {fa : FA S} [ia : AA W E ta fa] : AI W E (iZip K ta) (fiZ fa) := ⟨fun {A σ H ρ s F X R} c r0 x h k =>
  ia.run c r0 x h fun u H1 p s1 rp f1 w1 h1 => by
    obtain ⟨z, z2, v, v2, rfl, rfl, rz, rz2, h2⟩ := two_ok h1 rp
    obtain ⟨l, rfl, h2b⟩ := asL_ok h2
    obtain ⟨m, rfl, h4⟩ := asL_ok h2b
    obtain ⟨a, vs, rfl, na, ha, rl⟩ := id rz
    obtain ⟨b, ws, rfl, nb, hb, rm⟩ := id rz2
    have e : (zipP l m).length = min l.length m.length := by unfold zipP; rw [List.length_map, List.length_zip]
    refine ⟨a, b, vs, ws, rfl, sq_of ha, sq_of hb, k _ H1 _ s1 [Pin.rd (.lst l) (.ref a), Pin.rd (.lst m) (.ref b)] _ _ (walk_z e) (fun p m => ?_) (fun A2 H2 q => ?_) (fun A2 i H2 v H3 hi lv q y => ?_) f1 w1 h4⟩
    · rcases List.mem_cons.mp m with rfl | m
      · exact rz
      · rw [List.mem_singleton.mp m]; exact rz2
    · obtain ⟨us, e1, r1⟩ := rd_lstA (q _ List.mem_cons_self)
      obtain ⟨ws, e2, r2⟩ := rd_lstA (q _ (List.mem_cons_of_mem _ (List.mem_singleton.mpr rfl)))
      exact ⟨us, ws, e1, r1.len.symm, e2, r2.len.symm⟩
    · obtain ⟨us, e1, r1⟩ := rd_lstA (q _ List.mem_cons_self)
      obtain ⟨ws, e2, r2⟩ := rd_lstA (q _ (List.mem_cons_of_mem _ (List.mem_singleton.mpr rfl)))
      obtain ⟨T, u1, u2, rfl, hT, e3, g1, g2⟩ := y
      obtain ⟨x1, f1, q1⟩ := r1.get (g1 us e1)
      obtain ⟨x2, f2, q2⟩ := r2.get (g2 ws e2)
      obtain ⟨ex, rt⟩ := pair_rd lv hT e3 q1 q2
      refine ⟨ex, _, ?_, rt⟩
      unfold zipP
      rw [List.getElem?_map, show (l.zip m)[i]? = some (x1, x2) from List.getElem?_zip_eq_some.mpr ⟨f1, f2⟩]
      rfl⟩
def enumP (xs : List PV) : List PV := zipP (rngP 0 xs.length) xs
def fiE (fa : FA S) : FI S := fun ρ s F X => fa ρ s (fun xs s1 => one xs fun x => asL x fun l => F (enumP l) s1) X
theorem walk_e {K : PySem.W.Frag} {a : Addr} {n : Nat} : Walk (Ite K a) n (fun H => ∃ vs : List V, H a = some (.lst vs) ∧ vs.length = n)
    (fun i H v H' => ∃ T x, v = .ref T ∧ H T = none ∧ H' = upd H T (.tup [.int (i : Nat), x]) ∧ ∀ vs, H a = some (.lst vs) → vs[i]? = some x) :=
  ⟨fun i H hi ⟨vs, q, l⟩ => ⟨vs, vs[i]'(by omega), sq_of q, by simp [show i < vs.length by omega]⟩, fun H ⟨vs, q, l⟩ => ⟨vs, sq_of q, by omega⟩, fun i H v H' _ _ ⟨T, x, h1, h2, h3, h4⟩ => ⟨T, x, h1, h2, h3, fun vs q => h4 vs (sq_of q)⟩⟩
instance ai_enum {K : PySem.W.Frag} {ta : TA} {fa : FA S} [ia : AA W E ta fa] : AI W E (iEnum K ta) (fiE fa) := ⟨fun {A σ H ρ s F X R} c r0 x h k =>
  ia.run c r0 x h fun u H1 p s1 rp f1 w1 h1 => by
    obtain ⟨z, v, rfl, rfl, rz, h2⟩ := one_ok h1 rp
    obtain ⟨l, rfl, h4⟩ := asL_ok h2
    obtain ⟨a, vs, rfl, na, ha, rl⟩ := id rz
    have e : (enumP l).length = l.length := by unfold enumP zipP; rw [List.length_map, List.length_zip, rngP_len, Nat.min_self]
    refine ⟨a, vs, rfl, sq_of ha, k _ H1 _ s1 [Pin.rd (.lst l) (.ref a)] _ _ (by rw [e]; exact walk_e) (fun p m => by rw [List.mem_singleton.mp m]; exact rz) (fun A2 H2 q => ?_) (fun A2 i H2 v H3 hi lv q y => ?_) f1 w1 h4⟩
    · obtain ⟨ws, e, r⟩ := rd_lstA (q _ (List.mem_singleton.mpr rfl))
      exact ⟨ws, e, r.len.symm⟩
    · obtain ⟨ws, e1, r⟩ := rd_lstA (q _ (List.mem_singleton.mpr rfl))
      obtain ⟨T, u2, rfl, hT, e3, g2⟩ := y
      obtain ⟨x2, f2, q2⟩ := r.get (g2 ws e1)
      have hi2 : i < l.length := by rw [e] at hi; exact hi
      obtain ⟨ex, rt⟩ := pair_rd (x := .int (i : Nat)) lv hT e3 rfl q2
      refine ⟨ex, _, ?_, rt⟩
      have e1 := rngP_get (lo := 0) hi2
      rw [Int.zero_add] at e1
      unfold enumP zipP
      rw [List.getElem?_map, show ((rngP 0 l.length).zip l)[i]? = some (.int (i : Nat), x2) from List.getElem?_zip_eq_some.mpr ⟨e1, f2⟩]
      rfl⟩
/-! ### targets within expressions -/
def wipeP (ρ : En) : List Nat → En
  | [] => ρ
  | v :: vs => (wipeP ρ vs).set v .no
theorem set_swap {α : Type} {l : List (Option α)} {i j : Nat} {x : Option α} : i ≠ j → (l.set i x).set j none = (l.set j none).set i x := fun h => by
  rw [List.set_comm _ _ h]
theorem wipe_set {σ : L2.St} {j : Nat} {o : Option V} : ∀ {vs : List Nat}, j ∈ vs → wipe (σ.set j o) vs = wipe σ vs
  | [], h => nomatch h
  | v :: vs, h => by
    show (wipe (σ.set j o) vs).set v none = (wipe σ vs).set v none
    by_cases m : j ∈ vs
    · rw [wipe_set m]
    · have e : j = v := by
        rcases List.mem_cons.mp h with e | e
        · exact e
        · exact absurd e m
      subst e
      have g : ∀ ws : List Nat, j ∉ ws → wipe (σ.set j o) ws = (wipe σ ws).set j o := fun ws => by
        induction ws with
        | nil => intro _; rfl
        | cons w ws ih =>
          intro n
          have n1 : j ≠ w := fun z => n (z ▸ List.mem_cons_self)
          show (wipe (σ.set j o) ws).set w none = ((wipe σ ws).set w none).set j o
          rw [ih fun z => n (List.mem_cons_of_mem _ z), List.set_comm _ _ n1]
      rw [g vs m, List.set_set]
theorem wipe_wipe {σ : L2.St} (vs : List Nat) : wipe (wipe σ vs) vs = wipe σ vs := by
  have g : ∀ (ws us : List Nat), (∀ w ∈ ws, w ∈ us) → wipe (wipe σ ws) us = wipe σ us := fun ws => by
    induction ws with
    | nil => intro us _; rfl
    | cons w ws ih =>
      intro us h
      show wipe ((wipe σ ws).set w none) us = _
      rw [wipe_set (h w List.mem_cons_self), ih us fun z hz => h z (List.mem_cons_of_mem _ hz)]
  exact g vs vs fun _ h => h
theorem VR.set {A : Addr → Prop} {H : Hp} {σ : L2.St} {ρ : En} {x : PV} {v : V} (r : VR W A H σ ρ) (h : Rd A H x v) (j : Nat) : VR W A H (σ.set j (some v)) (ρ.set j (.val x)) := ⟨by rw [List.length_set, List.length_set, r.len], fun i y e => by
  by_cases c : j = i
  · subst c
    by_cases d : j < ρ.length
    · rw [List.getElem?_set_self d] at e
      cases e
      exact ⟨v, List.getElem?_set_self (by rw [← r.len]; exact d), h⟩
    · rw [List.getElem?_eq_none (by rw [List.length_set]; omega)] at e
      cases e
  · rw [List.getElem?_set_ne c] at e
    rw [List.getElem?_set_ne c]
    exact r.val i y e, fun i y e => by
  by_cases c : j = i
  · subst c
    by_cases d : j < ρ.length
    · rw [List.getElem?_set_self d] at e; cases e
    · rw [List.getElem?_eq_none (by rw [List.length_set]; omega)] at e; cases e
  · rw [List.getElem?_set_ne c] at e
    rw [List.getElem?_set_ne c]
    exact r.own i y e⟩
theorem VR.clear {A : Addr → Prop} {H : Hp} {σ : L2.St} {ρ : En} (r : VR W A H σ ρ) (j : Nat) : VR W A H (σ.set j none) (ρ.set j .no) := ⟨by rw [List.length_set, List.length_set, r.len], fun i y e => by
  by_cases c : j = i
  · subst c
    by_cases d : j < ρ.length
    · rw [List.getElem?_set_self d] at e; cases e
    · rw [List.getElem?_eq_none (by rw [List.length_set]; omega)] at e; cases e
  · rw [List.getElem?_set_ne c] at e
    rw [List.getElem?_set_ne c]
    exact r.val i y e, fun i y e => by
  by_cases c : j = i
  · subst c
    by_cases d : j < ρ.length
    · rw [List.getElem?_set_self d] at e; cases e
    · rw [List.getElem?_eq_none (by rw [List.length_set]; omega)] at e; cases e
  · rw [List.getElem?_set_ne c] at e
    rw [List.getElem?_set_ne c]
    exact r.own i y e⟩
theorem VR.wipe {A : Addr → Prop} {H : Hp} {σ : L2.St} {ρ : En} (r : VR W A H σ ρ) : ∀ vs, VR W A H (wipe σ vs) (wipeP ρ vs)
  | [] => r
  | v :: vs => (VR.wipe r vs).clear v
theorem VR.to {A A' : Addr → Prop} {H H' : Hp} {σ : L2.St} {ρ : En} (r : VR W A H σ ρ) (h0 : ∀ a o, ¬ W.pf a → H a = some o → H' a = some o) (h : ∀ a o, ¬ A a → H a = some o → ¬ A' a ∧ H' a = some o) : VR W A' H' σ ρ := ⟨r.len, fun i x e => by
  obtain ⟨v, e2, q⟩ := r.val i x e
  exact ⟨v, e2, q.to h⟩, fun i x e => by
  obtain ⟨a, e2, n, q⟩ := r.own i x e
  exact ⟨a, e2, n, q.to (fun o z => h0 a o n z) h⟩⟩
/-- a target of a comprehension: which slots it binds, and how -/
class AG {S : Type} (W : Wd S) (g : TG) (js : outParam (List Nat)) (f : outParam (PV → En → (En → Prop) → Prop)) : Prop where
  run : ∀ {A : Addr → Prop} {σ : L2.St} {H : Hp} {ρ : En} {x : PV} {v : V} {F : En → Prop} {Q : L2.St → Hp → Prop}, VR W A H σ ρ → Rd A H x v → f x ρ F →
    (∀ σ' ρ', VR W A H σ' ρ' → (∀ vs, (∀ j ∈ js, j ∈ vs) → L2.wipe σ' vs = L2.wipe σ vs) → F ρ' → Q σ' H) → g v σ H Q
class AGs {S : Type} (W : Wd S) (g : TGs) (js : outParam (List Nat)) (f : outParam (List PV → En → (En → Prop) → Prop)) : Prop where
  run : ∀ {A : Addr → Prop} {σ : L2.St} {H : Hp} {ρ : En} {xs : List PV} {vs : List V} {F : En → Prop} {Q : L2.St → Hp → Prop}, VR W A H σ ρ → RdL A H xs vs → f xs ρ F →
    (∀ σ' ρ', VR W A H σ' ρ' → (∀ vs, (∀ j ∈ js, j ∈ vs) → L2.wipe σ' vs = L2.wipe σ vs) → F ρ' → Q σ' H) → g vs σ H Q
def bName (i : Nat) : PV → En → (En → Prop) → Prop := fun x ρ F => F (ρ.set i (.val x))
instance ag_name {i : Nat} : AG W (gName i) [i] (bName i) := ⟨fun r h f k => k _ _ (r.set h i) (fun vs m => wipe_set (m i (List.mem_singleton.mpr rfl))) f⟩
def bNil : List PV → En → (En → Prop) → Prop := fun xs ρ F => match xs with | [] => F ρ | _ => False
def bCons (f : PV → En → (En → Prop) → Prop) (fs : List PV → En → (En → Prop) → Prop) : List PV → En → (En → Prop) → Prop := fun xs ρ F => match xs with | x :: r => f x ρ fun ρ1 => fs r ρ1 F | [] => False
instance ags_nil : AGs W gNil [] bNil := ⟨fun {A σ H ρ xs vs F Q} r h f k => by
  cases xs with
  | nil => cases h; exact ⟨rfl, k _ _ r (fun _ _ => rfl) f⟩
  | cons _ _ => exact f.elim⟩
instance ags_cons {g : TG} {gs : TGs} {j1 j2 : List Nat} {f fs} [i1 : AG W g j1 f] [i2 : AGs W gs j2 fs] : AGs W (gCons g gs) (j1 ++ j2) (bCons f fs) := ⟨fun {A σ H ρ xs vs F Q} r h f k => by
  cases xs with
  | nil => exact f.elim
  | cons x xs =>
    obtain ⟨v, ws, rfl, r1, r2⟩ := h
    refine ⟨v, ws, rfl, i1.run r r1 f fun σ1 ρ1 q1 e1 f1 => i2.run q1 r2 f1 fun σ2 ρ2 q2 e2 f2 => k σ2 ρ2 q2 (fun vs m => ?_) f2⟩
    rw [e2 vs fun j hj => m j (List.mem_append_right _ hj), e1 vs fun j hj => m j (List.mem_append_left _ hj)]⟩
def bTup (n : Nat) (fs : List PV → En → (En → Prop) → Prop) : PV → En → (En → Prop) → Prop := fun x ρ F => asU x fun l => l.length = n ∧ fs l ρ F
instance ag_tup {K : PySem.W.Frag} {n : Nat} {gs : TGs} {js : List Nat} {fs} [i2 : AGs W gs js fs] : AG W (gTup K n gs) js (bTup n fs) := ⟨fun {A σ H ρ x v F Q} r h f k => by
  obtain ⟨l, rfl, h1, h2⟩ := asU_ok f
  obtain ⟨a, ws, rfl, na, ha, rl⟩ := h
  exact ⟨a, ws, rfl, st_of ha, by rw [← rl.len]; exact h1, i2.run r rl h2 k⟩⟩
/-! ### comprehensions -/
def lcP (bg : PV → En → (En → Prop) → Prop) (ft : FT S) (fe : FE S) (ρ0 : En) (X : XF S) : List PV → List PV → S → (List PV → S → Prop) → Prop
  | [], acc, s, F => F acc s
  | x :: r, acc, s, F => bg x ρ0 fun ρ1 => ft ρ1 s (fun b s1 => if b = true then fe ρ1 s1 (fun y s2 => lcP bg ft fe ρ0 X r (acc ++ [y]) s2 F) X else lcP bg ft fe ρ0 X r acc s1 F) X
def fLc (js : List Nat) (fi : FI S) (bg : PV → En → (En → Prop) → Prop) (ft : FT S) (fe : FE S) (vs : List Nat) : FE S := fun ρ s F X => (js.all fun j => vs.contains j) = true ∧ fi ρ s (fun items s1 => items.length ≤ 900000 ∧ lcP bg ft fe (wipeP ρ vs) X items [] s1 (fun acc s2 => F (.lst acc) s2)) X
instance ae_lc {wi : TI} {g : TG} {tt : TT} {te : TE} {vs : List Nat} {fi : FI S} {bg : PV → En → (En → Prop) → Prop} {ft : FT S} {fe : FE S} {js : List Nat} {b : Bool} [ii : AI W E wi fi] [ig : AG W g js bg] [it : AT W E tt ft] [ie : AE W E te fe b] : AE W E (tLc wi g tt te vs) (fLc js fi bg ft fe vs) true := ⟨fun {A σ H ρ s F X Q} c r0 x hh k =>
  have hj := hh.1
  ii.run c r0 x hh.2 fun J H1 items s1 pv G Y w hp0 hG hY f1 w1 h1 => fun D hD => by
    obtain ⟨hl, h2⟩ := h1
    have hjs : ∀ j ∈ js, j ∈ vs := fun j m => by
      have z := List.all_eq_true.mp hj j m
      simpa using z
    obtain ⟨A1, hA1⟩ : ∃ A1 : Addr → Prop, A1 = fun a => A a ∨ a = D := ⟨_, rfl⟩
    have c1 := c.next f1 w1
    have nD : ¬ A D := c1.new hD
    have off : ∀ a o, ¬ A a → H1 a = some o → ¬ A1 a := fun a o n e z => by
      rw [hA1] at z
      rcases z with z | rfl
      · exact n z
      · rw [hD] at e; cases e
    have pfD : ∀ a, W.pf a → a ≠ D := fun a p z => nD (z ▸ c.pa a p)
    have offU : ∀ (H0 : Hp) (o : HO), ∀ a u, ¬ A1 a → H0 a = some u → ¬ A1 a ∧ (upd H0 D o) a = some u := fun H0 o a u n e => ⟨n, by
      rw [upd_ne (fun z => n (by rw [hA1]; exact .inr z))]
      exact e⟩
    refine lc_it w (fun i H' => ∃ (acc : List PV) (us : List V) (s' : S), Ct W A1 H' s' ∧ Fr W.pf H1 H' ∧ H' D = some (.lst us) ∧ RdL A1 H' acc us ∧ acc.length ≤ i ∧ (∀ p ∈ pv, Pin.ok A1 H' p) ∧ lcP bg ft fe (wipeP ρ vs) X (items.drop i) acc s' (fun acc s2 => F (.lst acc) s2)) ?_ ?_ ?_ ?_
    · refine ⟨[], [], s1, ⟨fun a p => ?_, fun a z => ?_, W.stab w1 (Ex.new hD)⟩, Fr.of (Ex.new hD), upd_same, rfl, Nat.zero_le _, (fun p m => by rw [hA1]; exact ((hp0 p m).off hD).ext (Ex.new hD)), h2⟩
      · rw [hA1]; exact .inl (c.sa a p)
      · rw [hA1] at z
        rcases z with z | rfl
        · by_cases q : a = D
          · rw [q, upd_same]; intro z; cases z
          · rw [upd_ne q]; exact c1.lv a z
        · rw [upd_same]; intro z; cases z
    · rintro i H' _ ⟨acc, us, s', c', f', _, _, _, pp, _⟩
      exact hG A1 H' pp
    · rintro i v H' H2 hi ⟨acc, us, s', c', f', hD', rl, la, pp, hp⟩ y
      obtain ⟨ex, z, ez, rz⟩ := hY A1 i H' v H2 hi c'.lv pp y
      have ed : items.drop i = z :: items.drop (i + 1) := by
        have e := List.drop_eq_getElem_cons hi
        rw [List.getElem?_eq_getElem hi] at ez
        rw [e, Option.some.inj ez]
      rw [ed] at hp
      have c2 : Ct W A1 H2 s' := c'.ext ex
      have rw0 : VR W A1 H2 (L2.wipe σ vs) (wipeP ρ vs) := (((r0.next c f1).to (fun a o n e => ex a o (f' a o n e)) fun a o n e => ⟨off a o n e, ex a o (f' a o (fun z => n (c.pa a z)) e)⟩)).wipe vs
      have x2 : XL W A1 H2 E X := (x.next ((f1.trans f').trans (Fr.of ex))).less fun a z => by rw [hA1]; exact .inl z
      refine ig.run rw0 rz hp fun σ' ρ' q' e' h' => ⟨?_, ?_⟩
      · rw [e' vs hjs, wipe_wipe]
      refine it.run c2 q' x2 h' fun bb H3 s3 f3 w3 h3 => ?_
      have c3 := c2.next f3 w3
      have D3 : ∀ {Ha Hb : Hp} {u : HO}, Fr W.pf Ha Hb → Ha D = some u → Hb D = some u := fun f e => f D _ (fun p => pfD D p rfl) e
      have f13 : Fr W.pf H1 H3 := (f'.trans (Fr.of ex)).trans f3
      cases bb with
      | false =>
        show ∃ acc us s', _
        exact ⟨acc, us, s3, c3, f13, D3 f3 (ex D _ hD'), c2.frL (rl.ext ex) f3, Nat.le_succ_of_le la, (fun p m => c2.frP ((pp p m).ext ex) f3), h3⟩
      | true =>
        have h3' : fe ρ' s3 (fun y s2 => lcP bg ft fe (wipeP ρ vs) X (items.drop (i + 1)) (acc ++ [y]) s2 (fun acc s2 => F (.lst acc) s2)) X := h3
        refine ie.run c3 (q'.next c2 f3) (x2.next f3) h3' fun u H4 yy s4 ry _ f4 w4 h4 => ?_
        have d4 := D3 f4 (D3 f3 (ex D _ hD'))
        have rl4 := c3.frL (c2.frL (rl.ext ex) f3) f4
        refine ⟨us, d4, szl (by rw [← rl4.len]; omega), acc ++ [yy], us ++ [u], s4, ?_, ?_, upd_same, ?_, by rw [List.length_append]; exact Nat.succ_le_succ la, (fun p m => (c3.frP (c2.frP ((pp p m).ext ex) f3) f4).to fun a o n e => offU _ _ a o n e), h4⟩
        · have c4 := c3.next f4 w4
          refine ⟨c4.sa, fun a z => ?_, ?_⟩
          · by_cases q : a = D
            · rw [q, upd_same]; intro z; cases z
            · rw [upd_ne q]; exact c4.lv a z
          · exact W.stabU w4 fun p => nD (c.sa D p)
        · intro a o n e
          have ne : a ≠ D := fun z => by rw [z, hD] at e; cases e
          rw [upd_ne ne]
          exact f4 a o n (f13 a o n e)
        · exact (rl4.app (RdL.cons ry RdL.nil)).to fun a o n e => offU _ _ a o n e
    · rintro H' ⟨acc, us, s', c', f', hD', rl, la, _, hp⟩
      rw [List.drop_length] at hp
      have D0 : H D = none := back w1 f1 hD
      refine k _ H' (.lst acc) s' ⟨D, us, rfl, nD, hD', rl.less fun a z => by rw [hA1]; exact .inl z⟩ (fun _ => ⟨D, rfl, D0, us, hD', ?_⟩) (f1.trans f') c'.rel hp
      rw [hA1] at rl
      exact rl⟩
end
end Pv
end

section -- PvE
set_option linter.all false
set_option maxRecDepth 100000
set_option maxHeartbeats 4000000
/-! PvE: statements over pure values; lists and dicts of one's own. -/
namespace Pv
open PySem PySem.Spec L2 Pk Evl
open PyProof.Rows hiding St
/-- a slot: nothing, a value that others may hold, an object of one's own -/
inductive SL where
  | no | sh (x : PV) | own (a : Addr) (x : PV)
abbrev SEn := List SL
def hide : SEn → En := List.map fun | .sh x => .val x | .own _ x => .own x | .no => .no
def view : SEn → En := List.map fun | .sh x => .val x | .own _ x => .val x | .no => .no
/-- what must not be stood on: what others have, and what is one's own -/
def AO_ (A0 : Addr → Prop) (σ : L2.St) (ρ : SEn) : Addr → Prop := fun a => A0 a ∨ ∃ (i : Nat) (x : PV), ρ[i]? = some (.own a x) ∧ σ[i]? = some (some (.ref a))
abbrev Pins := List Pin
structure RS {S : Type} (W : Wd S) (A0 : Addr → Prop) (H0 : Hp) (ps : Pins) (H : Hp) (σ : L2.St) (ρ : SEn) (s : S) : Prop where
  sa : ∀ a, W.sp a → A0 a
  lv : ∀ a, A0 a → H0 a ≠ none
  fr : Fr W.pf H0 H
  rel : W.rel H s
  len : ρ.length = σ.length
  sh : ∀ (i : Nat) (x : PV), ρ[i]? = some (.sh x) → ∃ v, σ[i]? = some (some v) ∧ Rd (AO_ A0 σ ρ) H x v
  ow : ∀ (i : Nat) (a : Addr) (x : PV), ρ[i]? = some (.own a x) → σ[i]? = some (some (.ref a)) ∧ H0 a = none ∧ OwnAt (AO_ A0 σ ρ) H x a
  dj : ∀ (i j : Nat) (x y : PV) (a : Addr), ρ[i]? = some (.own a x) → ρ[j]? = some (.own a y) → σ[i]? = some (some (.ref a)) → σ[j]? = some (some (.ref a)) → i = j
  pin : ∀ p ∈ ps, Pin.ok (AO_ A0 σ ρ) H p
structure DD (S : Type) where
  nx : SEn → S → Prop
  rt : PV → S → Prop
  bk : SEn → S → Prop
  ct : SEn → S → Prop
  ex : XF S
abbrev FS (S : Type) := SEn → S → DD S → Prop
section
variable {S : Type} {W : Wd S} {A0 : Addr → Prop} {H0 H H' : Hp} {ps : Pins} {σ : L2.St} {ρ : SEn} {s s' : S} {E : XK}
theorem RS.own0 (r : RS W A0 H0 ps H σ ρ s) {i : Nat} {x : PV} {a : Addr} (h : ρ[i]? = some (.own a x)) (e : σ[i]? = some (some (.ref a))) : H0 a = none ∧ OwnAt (AO_ A0 σ ρ) H x a := by
  obtain ⟨_, n, o⟩ := r.ow i a x h
  exact ⟨n, o⟩
theorem OwnAt.some {A : Addr → Prop} {x : PV} {a : Addr} (o : OwnAt A H x a) : H a ≠ none := by
  cases x <;> try exact o.elim
  · obtain ⟨vs, e, _⟩ := o; rw [e]; intro z; cases z
  · obtain ⟨vs, e, _⟩ := o; rw [e]; intro z; cases z
  · obtain ⟨_, vs, e, _⟩ := o; rw [e]; intro z; cases z
theorem RS.lvO (r : RS W A0 H0 ps H σ ρ s) (a : Addr) (h : AO_ A0 σ ρ a) : H a ≠ none := by
  rcases h with h | ⟨i, x, h1, h2⟩
  · intro z
    by_cases p : W.pf a
    · exact W.live r.rel p z
    · cases q : H0 a with
      | none => exact r.lv a h q
      | some o => rw [r.fr a o p q] at z; cases z
  · exact (r.own0 h1 h2).2.some
theorem RS.nown (r : RS W A0 H0 ps H σ ρ s) {i : Nat} {x : PV} {a : Addr} (h : ρ[i]? = some (.own a x)) (e : σ[i]? = some (some (.ref a))) : ¬ A0 a := fun z => r.lv a z (r.own0 h e).1
theorem RS.npf (r : RS W A0 H0 ps H σ ρ s) {i : Nat} {x : PV} {a : Addr} (h : ρ[i]? = some (.own a x)) (e : σ[i]? = some (some (.ref a))) : ¬ W.pf a := fun z => r.nown h e (r.sa a (W.ps z))
/-- the two ways to read an expression: without one's own objects, with them as others' -/
theorem RS.ctH (r : RS W A0 H0 ps H σ ρ s) : Ct W (AO_ A0 σ ρ) H s := ⟨fun a h => .inl (r.sa a h), r.lvO, r.rel⟩
theorem RS.ctV (r : RS W A0 H0 ps H σ ρ s) : Ct W A0 H s := ⟨r.sa, fun a h => r.lvO a (.inl h), r.rel⟩
theorem hide_get {i : Nat} {x : PV} (h : (hide ρ)[i]? = some (.val x)) : ρ[i]? = some (.sh x) := by
  unfold hide at h
  rw [List.getElem?_map] at h
  cases q : ρ[i]? with
  | none => rw [q] at h; cases h
  | some y =>
    rw [q] at h
    cases y <;> simp at h
    rw [h]
theorem view_get {i : Nat} {x : PV} (h : (view ρ)[i]? = some (.val x)) : ρ[i]? = some (.sh x) ∨ ∃ a, ρ[i]? = some (.own a x) := by
  unfold view at h
  rw [List.getElem?_map] at h
  cases q : ρ[i]? with
  | none => rw [q] at h; cases h
  | some y =>
    rw [q] at h
    cases y <;> simp at h
    · left; rw [h]
    · right; rw [h]; exact ⟨_, rfl⟩
theorem hide_own {i : Nat} {x : PV} (h : (hide ρ)[i]? = some (.own x)) : ∃ a, ρ[i]? = some (.own a x) := by
  unfold hide at h
  rw [List.getElem?_map] at h
  cases q : ρ[i]? with
  | none => rw [q] at h; cases h
  | some y =>
    rw [q] at h
    cases y <;> simp at h
    rw [h]; exact ⟨_, rfl⟩
theorem view_own {i : Nat} {x : PV} (h : (view ρ)[i]? = some (.own x)) : False := by
  unfold view at h
  rw [List.getElem?_map] at h
  cases q : ρ[i]? with
  | none => rw [q] at h; cases h
  | some y =>
    rw [q] at h
    cases y <;> simp at h
theorem hide_len : (hide ρ).length = ρ.length := List.length_map _
theorem view_len : (view ρ).length = ρ.length := List.length_map _
theorem RS.vrH (r : RS W A0 H0 ps H σ ρ s) : VR W (AO_ A0 σ ρ) H σ (hide ρ) := ⟨hide_len.trans r.len, fun i x h => r.sh i x (hide_get h), fun i x h => by
  obtain ⟨a, ha⟩ := hide_own h
  obtain ⟨e, n, o⟩ := r.ow i a x ha
  exact ⟨a, e, r.npf ha e, o⟩⟩
theorem RS.vrV (r : RS W A0 H0 ps H σ ρ s) : VR W A0 H σ (view ρ) := ⟨view_len.trans r.len, fun i x h => by
  rcases view_get h with h | ⟨a, h⟩
  · obtain ⟨v, e, q⟩ := r.sh i x h
    exact ⟨v, e, q.less fun a z => .inl z⟩
  · obtain ⟨e, n, o⟩ := r.ow i a x h
    exact ⟨_, e, (o.to (A' := A0) (fun _ e => e) fun a u n e => ⟨fun z => n (.inl z), e⟩).rd (r.nown h e)⟩, fun i x h => (view_own h).elim⟩
/-- what leaves a statement -/
def EL (W : Wd S) (A0 : Addr → Prop) (H0 : Hp) (E : XK) (X : XF S) : Prop := XL W A0 H0 E X
theorem RS.xlV {X : XF S} (r : RS W A0 H0 ps H σ ρ s) (x : XL W A0 H0 E X) : XL W A0 H E X := x.next r.fr
theorem RS.xlH {X : XF S} (r : RS W A0 H0 ps H σ ρ s) (x : XL W A0 H0 E X) : XL W (AO_ A0 σ ρ) H E X := (x.next r.fr).less fun a z => .inl z
/-- behind an expression -/
theorem RS.next (r : RS W A0 H0 ps H σ ρ s) (f : Fr W.pf H H') (w : W.rel H' s') : RS W A0 H0 ps H' σ ρ s' := by
  have st : ∀ a o, ¬ AO_ A0 σ ρ a → H a = some o → ¬ AO_ A0 σ ρ a ∧ H' a = some o := fun a o n e => ⟨n, f a o (fun z => n (.inl (r.sa a (W.ps z)))) e⟩
  refine ⟨r.sa, r.lv, r.fr.trans f, w, r.len, fun i x h => ?_, fun i a x h => ?_, r.dj, fun p m => (r.pin p m).to st⟩
  · obtain ⟨v, e, q⟩ := r.sh i x h
    exact ⟨v, e, q.to st⟩
  · obtain ⟨e, n, o⟩ := r.ow i a x h
    exact ⟨e, n, o.to (fun u q => f a u (r.npf h e) q) st⟩
/-- a slot gets a value -/
theorem AO_set {i : Nat} {v : V} {x : PV} {a : Addr} (hl : ρ.length = σ.length) (h : AO_ A0 (σ.set i (some v)) (ρ.set i (.sh x)) a) : AO_ A0 σ ρ a := by
  rcases h with h | ⟨j, y, h1, h2⟩
  · exact .inl h
  · by_cases c : i = j
    · subst c
      by_cases d : i < ρ.length
      · rw [List.getElem?_set_self d] at h1; cases h1
      · rw [List.getElem?_eq_none (by rw [List.length_set]; omega)] at h1; cases h1
    · rw [List.getElem?_set_ne c] at h1 h2
      exact .inr ⟨j, y, h1, h2⟩
theorem RS.setS (r : RS W A0 H0 ps H σ ρ s) {x : PV} {v : V} (h : Rd (AO_ A0 σ ρ) H x v) (i : Nat) : RS W A0 H0 ps H (σ.set i (some v)) (ρ.set i (.sh x)) s := by
  have st : ∀ a o, ¬ AO_ A0 σ ρ a → H a = some o → ¬ AO_ A0 (σ.set i (some v)) (ρ.set i (.sh x)) a ∧ H a = some o := fun a o n e => ⟨fun z => n (AO_set r.len z), e⟩
  refine ⟨r.sa, r.lv, r.fr, r.rel, by rw [List.length_set, List.length_set, r.len], fun j y h1 => ?_, fun j a y h1 => ?_, fun j k y z a h1 h2 h3 h4 => ?_, fun p m => (r.pin p m).to st⟩
  · by_cases c : i = j
    · subst c
      by_cases d : i < ρ.length
      · rw [List.getElem?_set_self d] at h1
        cases h1
        exact ⟨v, List.getElem?_set_self (by rw [← r.len]; exact d), h.to st⟩
      · rw [List.getElem?_eq_none (by rw [List.length_set]; omega)] at h1; cases h1
    · rw [List.getElem?_set_ne c] at h1
      obtain ⟨u, e, q⟩ := r.sh j y h1
      exact ⟨u, by rw [List.getElem?_set_ne c]; exact e, q.to st⟩
  · by_cases c : i = j
    · subst c
      by_cases d : i < ρ.length
      · rw [List.getElem?_set_self d] at h1; cases h1
      · rw [List.getElem?_eq_none (by rw [List.length_set]; omega)] at h1; cases h1
    · rw [List.getElem?_set_ne c] at h1
      obtain ⟨e, n, o⟩ := r.ow j a y h1
      exact ⟨by rw [List.getElem?_set_ne c]; exact e, n, o.to (fun _ q => q) st⟩
  · have g : ∀ {j : Nat} {b : Addr} {y : PV}, (ρ.set i (SL.sh x))[j]? = some (.own b y) → i ≠ j := fun {j b y} q c => by
      subst c
      by_cases d : i < ρ.length
      · rw [List.getElem?_set_self d] at q; cases q
      · rw [List.getElem?_eq_none (by rw [List.length_set]; omega)] at q; cases q
    have cj := g h1
    have ck := g h2
    rw [List.getElem?_set_ne cj] at h1 h3
    rw [List.getElem?_set_ne ck] at h2 h4
    exact r.dj j k y z a h1 h2 h3 h4
/-- own objects given to others: all of them -/
def frz : SEn → SEn := List.map fun | .own _ x => .sh x | y => y
theorem frz_get {i : Nat} {y : SL} (h : (frz ρ)[i]? = some y) : ρ[i]? = some y ∧ (∀ a x, y ≠ .own a x) ∨ ∃ a x, ρ[i]? = some (.own a x) ∧ y = .sh x := by
  unfold frz at h
  rw [List.getElem?_map] at h
  cases q : ρ[i]? with
  | none => rw [q] at h; cases h
  | some z =>
    rw [q] at h
    cases z with
    | no => simp at h; subst h; exact .inl ⟨rfl, fun a x z => by cases z⟩
    | sh x => simp at h; subst h; exact .inl ⟨rfl, fun a x z => by cases z⟩
    | own a x => simp at h; subst h; exact .inr ⟨a, x, rfl, rfl⟩
theorem RS.frz (r : RS W A0 H0 ps H σ ρ s) : RS W A0 H0 ps H σ (frz ρ) s := by
  have sub : ∀ a, AO_ A0 σ (Pv.frz ρ) a → AO_ A0 σ ρ a := fun a z => by
    rcases z with z | ⟨i, x, h1, h2⟩
    · exact .inl z
    · rcases frz_get h1 with ⟨_, q⟩ | ⟨_, y, _, q⟩
      · exact absurd rfl (q _ x)
      · cases q
  have off : ∀ (i : Nat) (x : PV) (a : Addr), ρ[i]? = some (SL.own a x) → σ[i]? = some (some (V.ref a)) → ¬ AO_ A0 σ (Pv.frz ρ) a := fun i x a h e z => by
    rcases z with z | ⟨j, y, h1, h2⟩
    · exact r.nown h e z
    · rcases frz_get h1 with ⟨_, q⟩ | ⟨_, y, _, q⟩
      · exact absurd rfl (q _ _)
      · cases q
  have noown : ∀ (i : Nat) (a : Addr) (x : PV), ¬ (Pv.frz ρ)[i]? = some (.own a x) := fun i a x h => by
    rcases frz_get h with ⟨_, q⟩ | ⟨_, y, _, q⟩
    · exact absurd rfl (q _ x)
    · cases q
  refine ⟨r.sa, r.lv, r.fr, r.rel, by unfold Pv.frz; rw [List.length_map, r.len], fun i x h => ?_, fun i a x h => absurd h (noown i a x), fun i j x y a h1 _ _ _ => absurd h1 (noown i a x), fun p m => (r.pin p m).less sub⟩
  rcases frz_get h with ⟨q, _⟩ | ⟨a, y, q, e⟩
  · obtain ⟨v, e, g⟩ := r.sh i x q
    exact ⟨v, e, g.less sub⟩
  · cases e
    obtain ⟨e, n, o⟩ := r.ow i a x q
    exact ⟨_, e, (o.to (fun _ z => z) fun a u n e => ⟨fun z => n (sub a z), e⟩).rd (off i x a q e)⟩
/-- what follows a statement, told of pure values -/
structure Lk (W : Wd S) (A0 : Addr → Prop) (H0 : Hp) (ps : Pins) (D : Ends) (G : DD S) : Prop where
  nx : ∀ σ' H' ρ' s', RS W A0 H0 ps H' σ' ρ' s' → G.nx ρ' s' → D.nx σ' H'
  bk : ∀ σ' H' ρ' s', RS W A0 H0 ps H' σ' ρ' s' → G.bk ρ' s' → D.bk σ' H'
  ct : ∀ σ' H' ρ' s', RS W A0 H0 ps H' σ' ρ' s' → G.ct ρ' s' → D.ct σ' H'
  rt : ∀ v H' x s', Rd A0 H' x v → Fr W.pf H0 H' → W.rel H' s' → G.rt x s' → D.rt v H'
class AS (W : Wd S) (E : XK) (ts : TS) (f : outParam (FS S)) : Prop where
  run : ∀ {A0 : Addr → Prop} {H0 : Hp} {ps : Pins} {H : Hp} {σ : L2.St} {ρ : SEn} {s : S} {D : Ends} {G : DD S}, RS W A0 H0 ps H σ ρ s → XL W A0 H0 E G.ex → f ρ s G → Lk W A0 H0 ps D G → ts D σ H
def fNx : FS S := fun ρ s G => G.nx ρ s
def fBk : FS S := fun ρ s G => G.bk ρ s
def fCt : FS S := fun ρ s G => G.ct ρ s
def fSeq (f g : FS S) : FS S := fun ρ s G => f ρ s { G with nx := fun ρ' s' => g ρ' s' G }
/-- what is one's own is others' from here on -/
def fFz (f : FS S) : FS S := fun ρ s G => f ρ s G ∨ f (frz ρ) s G
def fRet (f : FE S) : FS S := fun ρ s G => f (view ρ) s G.rt G.ex
def fRetN : FS S := fun _ s G => G.rt .non s
def fIfS (ft : FT S) (f g : FS S) : FS S := fun ρ s G => ft (view ρ) s (fun b s1 => if b = true then f ρ s1 G else g ρ s1 G) G.ex
def fDrop (f : FE S) : FS S := fun ρ s G => f (view ρ) s (fun _ s1 => G.nx ρ s1) G.ex
/-- x = e: without one's own objects; with them, for what hangs on none; a new object as one's own; giving all away -/
def fAsg (b : Bool) (i : Nat) (f : FE S) : FS S := fun ρ s G => f (hide ρ) s (fun x s1 => G.nx (ρ.set i (.sh x)) s1) G.ex ∨ f (view ρ) s (fun x s1 => scal x = true ∧ G.nx (ρ.set i (.sh x)) s1) G.ex ∨ (b = true ∧ f (hide ρ) s (fun x s1 => ∀ a, G.nx (ρ.set i (.own a x)) s1) G.ex)
def fNever : FS S := fun _ _ _ => False
instance as_never : AS W E tNever fNever := ⟨fun _ _ h _ => h⟩
instance as_nx : AS W E tNext fNx := ⟨fun r _ h k => k.nx _ _ _ _ r h⟩
instance as_bk : AS W E tBreak fBk := ⟨fun r _ h k => k.bk _ _ _ _ r h⟩
instance as_ct : AS W E tCont fCt := ⟨fun r _ h k => k.ct _ _ _ _ r h⟩
instance as_seq {t u : TS} {f g : FS S} [i1 : AS W E t f] [i2 : AS W E u g] : AS W E (tSeq t u) (fSeq f (fFz g)) := ⟨fun {A0 H0 ps H σ ρ s D G} r x h k =>
  i1.run (G := { G with nx := fun ρ' s' => fFz g ρ' s' G }) r x h ⟨fun σ' H' ρ' s' r' h' => by
    rcases h' with h' | h'
    · exact i2.run r' x h' k
    · exact i2.run r'.frz x h' k, k.bk, k.ct, k.rt⟩⟩
instance as_ret {te : TE} {f : FE S} {b : Bool} [i : AE W E te f b] : AS W E (tRet te) (fRet f) := ⟨fun {A0 H0 ps H σ ρ s D G} r x h k => i.run r.ctV r.vrV (r.xlV x) h fun v H' y s' ry _ f' w' h' => k.rt v H' y s' ry (r.fr.trans f') w' h'⟩
instance as_retN : AS W E tRetN fRetN := ⟨fun r _ h k => k.rt .non _ .non _ rfl r.fr r.rel h⟩
instance as_if {tt : TT} {t u : TS} {ft : FT S} {f g : FS S} [i0 : AT W E tt ft] [i1 : AS W E t f] [i2 : AS W E u g] : AS W E (tIfS tt t u) (fIfS ft f g) := ⟨fun {A0 H0 ps H σ ρ s D G} r x h k => i0.run r.ctV r.vrV (r.xlV x) h fun b H' s' f' w' h' => by
  cases b with
  | true => exact i1.run (r.next f' w') x h' k
  | false => exact i2.run (r.next f' w') x h' k⟩
instance as_drop {te : TE} {f : FE S} {b : Bool} [i : AE W E te f b] : AS W E (tDrop te) (fDrop f) := ⟨fun {A0 H0 ps H σ ρ s D G} r x h k => i.run r.ctV r.vrV (r.xlV x) h fun v H' y s' _ _ f' w' h' => k.nx _ _ _ _ (r.next f' w') h'⟩
theorem RS.setO (r : RS W A0 H0 ps H σ ρ s) (f : Fr W.pf H H') (w : W.rel H' s') {x : PV} {v : V} (n : New (AO_ A0 σ ρ) H H' x v) (i : Nat) : ∃ a, RS W A0 H0 ps H' (σ.set i (some v)) (ρ.set i (.own a x)) s' := by
  obtain ⟨a, rfl, ha, o⟩ := n
  have sub : ∀ b, AO_ A0 (σ.set i (some (.ref a))) (ρ.set i (.own a x)) b → AO_ A0 σ ρ b ∨ b = a := fun b z => by
    rcases z with z | ⟨j, y, h1, h2⟩
    · exact .inl (.inl z)
    · by_cases c : i = j
      · subst c
        by_cases d : i < ρ.length
        · rw [List.getElem?_set_self (by rw [← r.len]; exact d)] at h2
          cases h2
          exact .inr rfl
        · rw [List.getElem?_eq_none (by rw [List.length_set]; omega)] at h1; cases h1
      · rw [List.getElem?_set_ne c] at h1 h2
        exact .inl (.inr ⟨j, y, h1, h2⟩)
  have st : ∀ b u, ¬ AO_ A0 σ ρ b → H b = some u → ¬ AO_ A0 (σ.set i (some (.ref a))) (ρ.set i (.own a x)) b ∧ H' b = some u := fun b u n e => ⟨(fun z => by
    rcases sub b z with z | rfl
    · exact n z
    · rw [ha] at e; cases e), f b u (fun z => n (.inl (r.sa b (W.ps z)))) e⟩
  have h0 : H0 a = none := by
    cases q : H0 a with
    | none => rfl
    | some u =>
      by_cases p : W.pf a
      · exact absurd ha (W.live r.rel p)
      · rw [r.fr a u p q] at ha; cases ha
  have ne : ∀ (j : Nat) (y : PV), ρ[j]? = some (SL.own a y) → σ[j]? ≠ some (some (V.ref a)) := fun j y h e => (r.own0 h e).2.some ha
  refine ⟨a, r.sa, r.lv, r.fr.trans f, w, by rw [List.length_set, List.length_set, r.len], fun j y h1 => ?_, fun j b y h1 => ?_, fun j k y z b h1 h2 h3 h4 => ?_, fun p m => (r.pin p m).to st⟩
  · by_cases c : i = j
    · subst c
      by_cases d : i < ρ.length
      · rw [List.getElem?_set_self d] at h1; cases h1
      · rw [List.getElem?_eq_none (by rw [List.length_set]; omega)] at h1; cases h1
    · rw [List.getElem?_set_ne c] at h1
      obtain ⟨u, e, q⟩ := r.sh j y h1
      exact ⟨u, by rw [List.getElem?_set_ne c]; exact e, q.to st⟩
  · by_cases c : i = j
    · subst c
      by_cases d : i < ρ.length
      · rw [List.getElem?_set_self d] at h1
        cases h1
        exact ⟨List.getElem?_set_self (by rw [← r.len]; exact d), h0, o.to (fun _ q => q) fun b u n e => ⟨fun z => n (sub b z), e⟩⟩
      · rw [List.getElem?_eq_none (by rw [List.length_set]; omega)] at h1; cases h1
    · rw [List.getElem?_set_ne c] at h1
      obtain ⟨e, n, o⟩ := r.ow j b y h1
      exact ⟨by rw [List.getElem?_set_ne c]; exact e, n, o.to (fun u q => f b u (r.npf h1 e) q) st⟩
  · by_cases cj : i = j
    · by_cases ck : i = k
      · exact cj.symm.trans ck
      · subst cj
        rw [List.getElem?_set_ne ck] at h2 h4
        by_cases d : i < ρ.length
        · rw [List.getElem?_set_self (by rw [← r.len]; exact d)] at h3
          cases h3
          exact absurd h4 (ne k z h2)
        · rw [List.getElem?_eq_none (by rw [List.length_set]; omega)] at h1; cases h1
    · rw [List.getElem?_set_ne cj] at h1 h3
      by_cases ck : i = k
      · subst ck
        by_cases d : i < ρ.length
        · rw [List.getElem?_set_self (by rw [← r.len]; exact d)] at h4
          cases h4
          exact absurd h3 (ne j y h1)
        · rw [List.getElem?_eq_none (by rw [List.length_set]; omega)] at h2; cases h2
      · rw [List.getElem?_set_ne ck] at h2 h4
        exact r.dj j k y z b h1 h2 h3 h4
instance as_asg {te : TE} {f : FE S} {b : Bool} {i : Nat} [ie : AE W E te f b] : AS W E (tAsg te (gName i)) (fAsg b i f) := ⟨fun {A0 H0 ps H σ ρ s D G} r x h k => by
  rcases h with h | h | ⟨hb, h⟩
  · exact ie.run r.ctH r.vrH (r.xlH x) h fun v H' y s' ry _ f' w' h' => k.nx _ _ _ _ ((r.next f' w').setS ry i) h'
  · exact ie.run r.ctV r.vrV (r.xlV x) h fun v H' y s' ry _ f' w' h' => k.nx _ _ _ _ ((r.next f' w').setS (ry.scal h'.1) i) h'.2
  · exact ie.run r.ctH r.vrH (r.xlH x) h fun v H' y s' ry ny f' w' h' => (r.setO f' w' (ny hb) i).elim fun a q => k.nx _ _ _ _ q (h' a)⟩
end
end Pv
end

section -- PvF
set_option linter.all false
set_option maxRecDepth 100000
set_option maxHeartbeats 4000000
/-! PvF: one's own objects changed; loops. -/
namespace Pv
open PySem PySem.Spec L2 Pk Evl
open PyProof.Rows hiding St
section
variable {S : Type} {W : Wd S} {A0 : Addr → Prop} {H0 H H' : Hp} {ps : Pins} {σ : L2.St} {ρ : SEn} {s s' : S} {E : XK}
theorem AO_mut {i : Nat} {x0 x1 : PV} {a b : Addr} (h0 : ρ[i]? = some (.own a x0)) : AO_ A0 σ (ρ.set i (.own a x1)) b ↔ AO_ A0 σ ρ b := by
  have d : i < ρ.length := (List.getElem?_eq_some_iff.mp h0).1
  constructor
  · rintro (z | ⟨j, y, h1, h2⟩)
    · exact .inl z
    · by_cases c : i = j
      · subst c
        rw [List.getElem?_set_self d] at h1
        cases h1
        exact .inr ⟨i, x0, h0, h2⟩
      · rw [List.getElem?_set_ne c] at h1; exact .inr ⟨j, y, h1, h2⟩
  · rintro (z | ⟨j, y, h1, h2⟩)
    · exact .inl z
    · by_cases c : i = j
      · subst c
        rw [h0] at h1
        cases h1
        exact .inr ⟨i, x1, List.getElem?_set_self d, h2⟩
      · exact .inr ⟨j, y, by rw [List.getElem?_set_ne c]; exact h1, h2⟩
/-- one's own object changes -/
theorem RS.mutO (r : RS W A0 H0 ps H σ ρ s) {i : Nat} {x0 x1 : PV} {a : Addr} {o : HO} (h0 : ρ[i]? = some (.own a x0)) (e0 : σ[i]? = some (some (.ref a))) (n : OwnAt (AO_ A0 σ ρ) (upd H a o) x1 a) : RS W A0 H0 ps (upd H a o) σ (ρ.set i (.own a x1)) s := by
  have d : i < ρ.length := (List.getElem?_eq_some_iff.mp h0).1
  have ia : AO_ A0 σ ρ a := .inr ⟨i, x0, h0, e0⟩
  have st : ∀ b u, ¬ AO_ A0 σ ρ b → H b = some u → ¬ AO_ A0 σ (ρ.set i (.own a x1)) b ∧ (upd H a o) b = some u := fun b u nb e => ⟨fun z => nb ((AO_mut (a := a) h0).mp z), by
    have ne : b ≠ a := fun z => nb (by rw [z]; exact ia)
    rw [upd_ne ne]
    exact e⟩
  have same : ∀ b u, ¬ AO_ A0 σ ρ b → (upd H a o) b = some u → ¬ AO_ A0 σ (ρ.set i (.own a x1)) b ∧ (upd H a o) b = some u := fun b u nb e => ⟨fun z => nb ((AO_mut (a := a) h0).mp z), e⟩
  refine ⟨r.sa, r.lv, fun b u p e => ?_, W.stabU r.rel fun z => r.nown h0 e0 (r.sa a z), by rw [List.length_set]; exact r.len, fun j y h1 => ?_, fun j b y h1 => ?_, fun j k y z b h1 h2 h3 h4 => ?_, fun p m => (r.pin p m).to st⟩
  · have ne : b ≠ a := fun z => by rw [z, (r.own0 h0 e0).1] at e; cases e
    rw [upd_ne ne]
    exact r.fr b u p e
  · by_cases c : i = j
    · subst c; rw [List.getElem?_set_self d] at h1; cases h1
    · rw [List.getElem?_set_ne c] at h1
      obtain ⟨v, e, q⟩ := r.sh j y h1
      exact ⟨v, e, q.to st⟩
  · by_cases c : i = j
    · subst c
      rw [List.getElem?_set_self d] at h1
      cases h1
      exact ⟨e0, (r.own0 h0 e0).1, n.to (fun _ q => q) same⟩
    · rw [List.getElem?_set_ne c] at h1
      obtain ⟨e, nb, ob⟩ := r.ow j b y h1
      have ne : b ≠ a := fun z => by
        subst z
        exact c (r.dj i j x0 y b h0 h1 e0 e)
      exact ⟨e, nb, ob.to (fun u q => by rw [upd_ne ne]; exact q) st⟩
  · have g : ∀ {j : Nat} {c' : Addr} {y : PV}, (ρ.set i (SL.own a x1))[j]? = some (.own c' y) → ∃ y', ρ[j]? = some (.own c' y') := fun {j c' y} q => by
      by_cases c : i = j
      · subst c
        rw [List.getElem?_set_self d] at q
        cases q
        exact ⟨x0, h0⟩
      · rw [List.getElem?_set_ne c] at q; exact ⟨y, q⟩
    obtain ⟨y', q1⟩ := g h1
    obtain ⟨z', q2⟩ := g h2
    exact r.dj j k y' z' b q1 q2 h3 h4
def ownL (ρ : SEn) (i : Nat) (P : Addr → List PV → Prop) : Prop := match ρ[i]? with | some (.own a (.lst xs)) => P a xs | _ => False
theorem ownL_ok {i : Nat} {P : Addr → List PV → Prop} (h : ownL ρ i P) : ∃ a xs, ρ[i]? = some (.own a (.lst xs)) ∧ P a xs := by
  unfold ownL at h
  split at h
  · rename_i a xs e; exact ⟨a, xs, e, h⟩
  · exact h.elim
def ownD (ρ : SEn) (i : Nat) (P : Addr → List Key → List PV → Prop) : Prop := match ρ[i]? with | some (.own a (.dct ks xs)) => P a ks xs | _ => False
theorem ownD_ok {i : Nat} {P : Addr → List Key → List PV → Prop} (h : ownD ρ i P) : ∃ a ks xs, ρ[i]? = some (.own a (.dct ks xs)) ∧ P a ks xs := by
  unfold ownD at h
  split at h
  · rename_i a ks xs e; exact ⟨a, ks, xs, e, h⟩
  · exact h.elim
/-- the two ways to hand a value to one's own object -/
def fPut (f : FE S) (ρ : SEn) (s : S) (X : XF S) (P : PV → S → Prop) : Prop := f (hide ρ) s P X ∨ f (view ρ) s (fun x s1 => scal x = true ∧ P x s1) X
theorem fPut_run {te : TE} {f : FE S} {b : Bool} [ie : AE W E te f b] {X : XF S} {P : PV → S → Prop} {Q : VK} (r : RS W A0 H0 ps H σ ρ s) (x : XL W A0 H0 E X) (h : fPut f ρ s X P) (k : ∀ v H' y s', RS W A0 H0 ps H' σ ρ s' → Fr W.pf H H' → Rd (AO_ A0 σ ρ) H' y v → P y s' → Q v H') : te σ H Q := by
  rcases h with h | h
  · exact ie.run r.ctH r.vrH (r.xlH x) h fun v H' y s' ry _ f' w' h' => k v H' y s' (r.next f' w') f' ry h'
  · exact ie.run r.ctV r.vrV (r.xlV x) h fun v H' y s' ry _ f' w' h' => k v H' y s' (r.next f' w') f' (ry.scal h'.1) h'.2
/-- xs.append(e) -/
def fApp (i : Nat) (f : FE S) : FS S := fun ρ s G => ownL ρ i fun a xs => xs.length < 900000 ∧ fPut f ρ s G.ex fun x s1 => G.nx (ρ.set i (.own a (.lst (xs ++ [x])))) s1
instance as_app {K : PySem.W.Frag} {i : Nat} {te : TE} {f : FE S} {b : Bool} [ie : AE W E te f b] : AS W E (tDrop (tBM K "list" rAppend (tVar i) (tCons te tNil))) (fApp i f) := ⟨fun {A0 H0 ps H σ ρ s D G} r x h k => by
  obtain ⟨a, xs, e, hl, h1⟩ := ownL_ok h
  obtain ⟨ea, n0, vs, ha, rl⟩ := r.ow i _ _ e
  refine ⟨_, ea, .inl ⟨rfl, vs, sq_of ha⟩, fPut_run r x h1 fun v H' y s' r' f' ry h' => ?_⟩
  obtain ⟨_, vs', ha', rl'⟩ := r'.own0 e ea
  have off : ∀ b u, ¬ AO_ A0 σ ρ b → H' b = some u → ¬ AO_ A0 σ ρ b ∧ (upd H' a (.lst (vs' ++ [v]))) b = some u := fun b u nb q => ⟨nb, by
    have ne : b ≠ a := fun z => nb (by rw [z]; exact .inr ⟨i, _, e, ea⟩)
    rw [upd_ne ne]
    exact q⟩
  have o1 : OwnAt (AO_ A0 σ ρ) (upd H' a (.lst (vs' ++ [v]))) (.lst (xs ++ [y])) a := ⟨_, upd_same, (rl'.app (RdL.cons ry RdL.nil)).to off⟩
  exact ⟨a, vs', v, rfl, rfl, ha', szl (by rw [← rl'.len]; omega), k.nx _ _ _ _ (r'.mutO e ea o1) h'⟩⟩
/-- xs[j] = e, xs one's own -/
def fSetL (i : Nat) (f fj : FE S) : FS S := fun ρ s G => ownL ρ i fun a xs => fPut f ρ s G.ex fun x s1 => fj (view ρ) s1 (fun y s2 => asI y fun j => pick (ixN xs.length j) fun m => G.nx (ρ.set i (.own a (.lst (xs.set m x)))) s2) G.ex
instance as_setL {i : Nat} {te tj : TE} {f fj : FE S} {b bj : Bool} [ie : AE W E te f b] [ij : AE W E tj fj bj] : AS W E (tAsg te (gSub (tVar i) tj rSetL)) (fSetL i f fj) := ⟨fun {A0 H0 ps H σ ρ s D G} r x h k => by
  obtain ⟨a, xs, e, h1⟩ := ownL_ok h
  refine fPut_run r x h1 fun v H' y s' r' f' ry h' => ?_
  obtain ⟨ea, n0, _⟩ := r'.ow i _ _ e
  refine ⟨_, ea, ij.run r'.ctV r'.vrV (r'.xlV x) h' fun u H2 y2 s2 ry2 _ f2 w2 h2 => ?_⟩
  obtain ⟨j, rfl, h4⟩ := asI_ok h2
  obtain ⟨m, em, h5⟩ := pick_ok h4
  have r2 := r'.next f2 w2
  obtain ⟨_, vs', ha', rl'⟩ := r2.own0 e ea
  have off : ∀ b u, ¬ AO_ A0 σ ρ b → H2 b = some u → ¬ AO_ A0 σ ρ b ∧ (upd H2 a (.lst (vs'.set m v))) b = some u := fun b u nb q => ⟨nb, by
    have ne : b ≠ a := fun z => nb (by rw [z]; exact .inr ⟨i, _, e, ea⟩)
    rw [upd_ne ne]
    exact q⟩
  have o1 : OwnAt (AO_ A0 σ ρ) (upd H2 a (.lst (vs'.set m v))) (.lst (xs.set m y)) a := ⟨_, upd_same, (rl'.set (r'.ctH.fr ry f2) m).to off⟩
  exact ⟨a, vs', j, m, rfl, ry2, ha', by rw [← rl'.len]; exact em, k.nx _ _ _ _ (r2.mutO e ea o1) h5⟩⟩
/-- x += e of numbers -/
def fAug (i : Nat) (g : Int → Int → Int) (f : FE S) : FS S := fun ρ s G => match ρ[i]? with | some (.sh (.int a)) => f (view ρ) s (fun y s1 => asI y fun b => G.nx (ρ.set i (.sh (.int (g a b)))) s1) G.ex | _ => False
instance as_aug {i : Nat} {te : TE} {f : FE S} {b : Bool} {g : Int → Int → Int} [ie : AE W E te f b] : AS W E (tAug i te (ipI g)) (fAug i g f) := ⟨fun {A0 H0 ps H σ ρ s D G} r x h k => by
  unfold fAug at h
  split at h
  · rename_i a e
    obtain ⟨v, ev, q⟩ := r.sh i _ e
    refine ⟨v, ev, ie.run r.ctV r.vrV (r.xlV x) h fun u H' y s' ry _ f' w' h' => ?_⟩
    obtain ⟨b2, rfl, h2⟩ := asI_ok h'
    exact ⟨a, b2, q, ry, k.nx _ _ _ _ ((r.next f' w').setS (x := .int (g a b2)) rfl i) h2⟩
  · exact h.elim⟩
/-! ### targets of statements -/
class AGS (W : Wd S) (g : TG) (f : outParam (PV → SEn → (SEn → Prop) → Prop)) : Prop where
  run : ∀ {A0 : Addr → Prop} {H0 : Hp} {ps : Pins} {H : Hp} {σ : L2.St} {ρ : SEn} {s : S} {x : PV} {v : V} {F : SEn → Prop} {Q : L2.St → Hp → Prop}, RS W A0 H0 ps H σ ρ s → Rd (AO_ A0 σ ρ) H x v → f x ρ F →
    (∀ σ' ρ', RS W A0 H0 ps H σ' ρ' s → (∀ a, AO_ A0 σ' ρ' a → AO_ A0 σ ρ a) → F ρ' → Q σ' H) → g v σ H Q
class AGSs (W : Wd S) (g : TGs) (f : outParam (List PV → SEn → (SEn → Prop) → Prop)) : Prop where
  run : ∀ {A0 : Addr → Prop} {H0 : Hp} {ps : Pins} {H : Hp} {σ : L2.St} {ρ : SEn} {s : S} {xs : List PV} {vs : List V} {F : SEn → Prop} {Q : L2.St → Hp → Prop}, RS W A0 H0 ps H σ ρ s → RdL (AO_ A0 σ ρ) H xs vs → f xs ρ F →
    (∀ σ' ρ', RS W A0 H0 ps H σ' ρ' s → (∀ a, AO_ A0 σ' ρ' a → AO_ A0 σ ρ a) → F ρ' → Q σ' H) → g vs σ H Q
def sName (i : Nat) : PV → SEn → (SEn → Prop) → Prop := fun x ρ F => F (ρ.set i (.sh x))
instance ags_n {i : Nat} : AGS W (gName i) (sName i) := ⟨fun r h f k => k _ _ (r.setS h i) (fun a z => AO_set r.len z) f⟩
def sNil : List PV → SEn → (SEn → Prop) → Prop := fun xs ρ F => match xs with | [] => F ρ | _ => False
def sCons (f : PV → SEn → (SEn → Prop) → Prop) (fs : List PV → SEn → (SEn → Prop) → Prop) : List PV → SEn → (SEn → Prop) → Prop := fun xs ρ F => match xs with | x :: r => f x ρ fun ρ1 => fs r ρ1 F | [] => False
instance agss_nil : AGSs W gNil sNil := ⟨fun {A0 H0 ps H σ ρ s xs vs F Q} r h f k => by
  cases xs with
  | nil => cases h; exact ⟨rfl, k _ _ r (fun _ z => z) f⟩
  | cons _ _ => exact f.elim⟩
instance agss_cons {g : TG} {gs : TGs} {f fs} [i1 : AGS W g f] [i2 : AGSs W gs fs] : AGSs W (gCons g gs) (sCons f fs) := ⟨fun {A0 H0 ps H σ ρ s xs vs F Q} r h f k => by
  cases xs with
  | nil => exact f.elim
  | cons x xs =>
    obtain ⟨v, ws, rfl, r1, r2⟩ := h
    exact ⟨v, ws, rfl, i1.run r r1 f fun σ1 ρ1 q1 e1 f1 => i2.run q1 (r2.less e1) f1 fun σ2 ρ2 q2 e2 f2 => k σ2 ρ2 q2 (fun a z => e1 a (e2 a z)) f2⟩⟩
def sTup (n : Nat) (fs : List PV → SEn → (SEn → Prop) → Prop) : PV → SEn → (SEn → Prop) → Prop := fun x ρ F => asU x fun l => l.length = n ∧ fs l ρ F
instance ags_tup {K : PySem.W.Frag} {n : Nat} {gs : TGs} {fs} [i2 : AGSs W gs fs] : AGS W (gTup K n gs) (sTup n fs) := ⟨fun {A0 H0 ps H σ ρ s x v F Q} r h f k => by
  obtain ⟨l, rfl, h1, h2⟩ := asU_ok f
  obtain ⟨a, ws, rfl, na, ha, rl⟩ := h
  exact ⟨a, ws, rfl, st_of ha, by rw [← rl.len]; exact h1, i2.run r rl h2 k⟩⟩
/-- x, y = e -/
def fAsgG (fg : PV → SEn → (SEn → Prop) → Prop) (f : FE S) : FS S := fun ρ s G => f (hide ρ) s (fun x s1 => fg x ρ fun ρ1 => G.nx ρ1 s1) G.ex
instance as_asgG {te : TE} {f : FE S} {b : Bool} {K : PySem.W.Frag} {n : Nat} {gs : TGs} {fg} [ie : AE W E te f b] [ig : AGS W (gTup K n gs) fg] : AS W E (tAsg te (gTup K n gs)) (fAsgG fg f) := ⟨fun {A0 H0 ps H σ ρ s D G} r x h k =>
  ie.run r.ctH r.vrH (r.xlH x) h fun v H' y s' ry _ f' w' h' => ig.run (r.next f' w') ry h' fun σ' ρ' r' _ h2 => k.nx _ _ _ _ r' h2⟩
/-- x, y = a, b -/
def fPar (i j : Nat) (f : FA S) : FS S := fun ρ s G => f (hide ρ) s (fun xs s1 => two xs fun x y => G.nx ((ρ.set i (.sh x)).set j (.sh y)) s1) G.ex
instance as_par {ta : TA} {f : FA S} {i j : Nat} [ia : AA W E ta f] : AS W E (tPar i j ta) (fPar i j f) := ⟨fun {A0 H0 ps H σ ρ s D G} r x h k =>
  ia.run r.ctH r.vrH (r.xlH x) h fun vs H' xs s' rv f' w' h' => by
    obtain ⟨y, z, u, w, rfl, rfl, ry, rz, h2⟩ := two_ok h' rv
    have r' := r.next f' w'
    exact ⟨u, w, rfl, k.nx _ _ _ _ ((r'.setS ry i).setS (rz.less fun a q => AO_set r'.len q) j) h2⟩⟩
/-! ### loops -/
def forP (bg : PV → SEn → (SEn → Prop) → Prop) (fb : FS S) : List PV → SEn → S → DD S → Prop
  | [], ρ, s, G => G.nx ρ s
  | x :: r, ρ, s, G => bg x ρ fun ρ1 => fFz fb ρ1 s { G with nx := fun ρ' s' => forP bg fb r ρ' s' G, ct := fun ρ' s' => forP bg fb r ρ' s' G, bk := G.nx }
def fFor (fi : FI S) (bg : PV → SEn → (SEn → Prop) → Prop) (fb : FS S) : FS S := fun ρ s G => fi (hide ρ) s (fun items s1 => forP bg fb items ρ s1 G) G.ex
theorem RS.pinned (r : RS W A0 H0 ps H σ ρ s) {pv : Pins} (h : ∀ p ∈ pv, Pin.ok (AO_ A0 σ ρ) H p) : RS W A0 H0 (pv ++ ps) H σ ρ s := { r with pin := fun p m => (List.mem_append.mp m).elim (h p) (r.pin p) }
theorem RS.unpin {pv : Pins} (r : RS W A0 H0 (pv ++ ps) H σ ρ s) : RS W A0 H0 ps H σ ρ s := { r with pin := fun p m => r.pin p (List.mem_append_right _ m) }
theorem as_fz {t : TS} {f : FS S} [i1 : AS W E t f] {D : Ends} {G : DD S} (r : RS W A0 H0 ps H σ ρ s) (x : XL W A0 H0 E G.ex) (h : fFz f ρ s G) (k : Lk W A0 H0 ps D G) : t D σ H := by
  rcases h with h | h
  · exact i1.run r x h k
  · exact i1.run r.frz x h k
instance as_for {wi : TI} {g : TG} {tb : TS} {fi : FI S} {bg} {fb : FS S} [ii : AI W E wi fi] [ig : AGS W g bg] [ib : AS W E tb fb] : AS W E (tFor wi g tb) (fFor fi bg fb) := ⟨fun {A0 H0 ps H σ ρ s D G} r x h k =>
  ii.run r.ctH r.vrH (r.xlH x) h fun J H1 items s1 pv Gg Y w hp0 hG hY f1 w1 h1 => by
    refine for_it w (fun i σ' H' => ∃ ρ' s', RS W A0 H0 (pv ++ ps) H' σ' ρ' s' ∧ forP bg fb (items.drop i) ρ' s' G) ⟨ρ, s1, (r.next f1 w1).pinned hp0, h1⟩ (fun i σ' H' _ p => ?_) (fun i v σ' H' H2 hi p y => ?_) (fun σ' H' p => ?_)
    · obtain ⟨ρ', s', r', _⟩ := p
      exact hG _ H' fun p m => r'.pin p (List.mem_append_left _ m)
    · obtain ⟨ρ', s', r', hp⟩ := p
      obtain ⟨ex, z, ez, rz⟩ := hY _ i H' v H2 hi r'.lvO (fun p m => r'.pin p (List.mem_append_left _ m)) y
      have ed : items.drop i = z :: items.drop (i + 1) := by
        have e := List.drop_eq_getElem_cons hi
        rw [List.getElem?_eq_getElem hi] at ez
        rw [e, Option.some.inj ez]
      rw [ed] at hp
      have r2 := r'.next (Fr.of ex) (W.stab r'.rel ex)
      refine ig.run r2 rz hp fun σ3 ρ3 r3 _ h3 => ?_
      refine as_fz (t := tb) (G := { G with nx := fun ρ' s' => forP bg fb (items.drop (i + 1)) ρ' s' G, ct := fun ρ' s' => forP bg fb (items.drop (i + 1)) ρ' s' G, bk := G.nx }) r3 x h3 ⟨fun σ4 H4 ρ4 s4 r4 h4 => ⟨ρ4, s4, r4, h4⟩, fun σ4 H4 ρ4 s4 r4 h4 => k.nx _ _ _ _ r4.unpin h4, fun σ4 H4 ρ4 s4 r4 h4 => ⟨ρ4, s4, r4, h4⟩, k.rt⟩
    · obtain ⟨ρ', s', r', hp⟩ := p
      rw [List.drop_length] at hp
      exact k.nx _ _ _ _ r'.unpin hp⟩
/-- while: a word of the slots that falls -/
def fWhile (ft : FT S) (fb : FS S) : FS S := fun ρ s G => ∃ I : Nat → SEn → S → Prop, (∃ m, I m ρ s) ∧ ∀ m ρ s, I m ρ s → ft (view ρ) s (fun b s1 => if b = true then fFz fb ρ s1 { G with nx := fun ρ' s' => ∃ m', m' < m ∧ I m' ρ' s', ct := fun ρ' s' => ∃ m', m' < m ∧ I m' ρ' s', bk := G.nx } else G.nx ρ s1) G.ex
instance as_while {tt : TT} {tb : TS} {ft : FT S} {fb : FS S} [it : AT W E tt ft] [ib : AS W E tb fb] : AS W E (tWhile tt tb) (fWhile ft fb) := ⟨fun {A0 H0 ps H σ ρ s D G} r x h k => by
  obtain ⟨I, ⟨m0, h0⟩, hs⟩ := h
  refine ⟨fun m σ' H' => ∃ ρ' s', RS W A0 H0 ps H' σ' ρ' s' ∧ I m ρ' s', ⟨m0, ρ, s, r, h0⟩, fun m σ' H' ⟨ρ', s', r', hi⟩ => ?_⟩
  refine it.run r'.ctV r'.vrV (r'.xlV x) (hs m ρ' s' hi) fun b H2 s2 f2 w2 h2 => ?_
  have r2 := r'.next f2 w2
  cases b with
  | false => exact k.nx _ _ _ _ r2 h2
  | true =>
    have h2' : fFz fb ρ' s2 { G with nx := fun ρ' s' => ∃ m', m' < m ∧ I m' ρ' s', ct := fun ρ' s' => ∃ m', m' < m ∧ I m' ρ' s', bk := G.nx } := h2
    refine ⟨fun σ3 H3 => ∃ m', m' < m ∧ ∃ ρ3 s3, RS W A0 H0 ps H3 σ3 ρ3 s3 ∧ I m' ρ3 s3, fun σ3 H3 z => z, ?_⟩
    refine as_fz (t := tb) (G := { G with nx := fun ρ' s' => ∃ m', m' < m ∧ I m' ρ' s', ct := fun ρ' s' => ∃ m', m' < m ∧ I m' ρ' s', bk := G.nx }) r2 x h2' ⟨fun σ4 H4 ρ4 s4 r4 h4 => ?_, fun σ4 H4 ρ4 s4 r4 h4 => k.nx _ _ _ _ r4 h4, fun σ4 H4 ρ4 s4 r4 h4 => ?_, k.rt⟩
    · obtain ⟨m', l, q⟩ := h4
      exact ⟨m', l, ρ4, s4, r4, q⟩
    · obtain ⟨m', l, q⟩ := h4
      exact ⟨m', l, ρ4, s4, r4, q⟩⟩
end
end Pv
end

section -- PvG
set_option linter.all false
set_option maxRecDepth 100000
set_option maxHeartbeats 4000000
/-! PvG: defs and their calls; exceptions raised; fields. -/
namespace Pv
open PySem PySem.Spec L2 Pk Evl
open PyProof.Rows hiding St
abbrev FP (S : Type) := List PV → S → (PV → S → Prop) → XF S → Prop
section
variable {S : Type} {W : Wd S} {A A0 : Addr → Prop} {H0 H H' : Hp} {ps : Pins} {σ : L2.St} {ρ : SEn} {s s' : S} {E : XK}
/-- what a def promises, of n parameters -/
def spF (W : Wd S) (n : Nat) (pre : FP S) : Sp := fun vs H Q E => vs.length = n ∧ ∃ (A : Addr → Prop) (xs : List PV) (s : S) (F : PV → S → Prop) (X : XF S), Ct W A H s ∧ RdL A H xs vs ∧ XL W A H E X ∧ pre xs s F X ∧
  ∀ v H' x s', Rd A H' x v → Fr W.pf H H' → W.rel H' s' → F x s' → Q v H'
def initS (N : List Str) (xs : List PV) : SEn := xs.map SL.sh ++ List.replicate (N.length - xs.length) SL.no
theorem no_own {N : List Str} {xs : List PV} {i : Nat} {a : Addr} {x : PV} : ¬ (initS N xs)[i]? = some (.own a x) := fun h => by
  unfold initS at h
  by_cases c : i < (xs.map SL.sh).length
  · rw [List.getElem?_append_left c, List.getElem?_map] at h
    cases q : xs[i]? with
    | none => rw [q] at h; cases h
    | some y => rw [q] at h; cases h
  · rw [List.getElem?_append_right (by omega), List.getElem?_replicate] at h
    split at h <;> cases h
theorem rs_start {N : List Str} {xs : List PV} {vs : List V} (c : Ct W A H s) (r : RdL A H xs vs) : RS W A H [] H (L2.start N vs) (initS N xs) s := by
  have e : AO_ A (L2.start N vs) (initS N xs) = A := funext fun a => propext ⟨fun z => by
    rcases z with z | ⟨i, x, h, _⟩
    · exact z
    · exact absurd h no_own, fun z => .inl z⟩
  refine ⟨c.sa, c.lv, Fr.refl, c.rel, ?_, fun i x h => ?_, fun i a x h => absurd h no_own, fun i j x y a h _ _ _ => absurd h no_own, fun p m => nomatch m⟩
  · unfold L2.start initS
    rw [List.length_append, List.length_append, List.length_map, List.length_map, List.length_replicate, List.length_replicate, r.len]
  · rw [e]
    unfold initS at h
    have hi : i < (xs.map SL.sh).length := by
      by_cases c : i < (xs.map SL.sh).length
      · exact c
      · rw [List.getElem?_append_right (by omega), List.getElem?_replicate] at h
        split at h <;> cases h
    rw [List.getElem?_append_left hi, List.getElem?_map] at h
    cases q : xs[i]? with
    | none => rw [q] at h; cases h
    | some y =>
      rw [q] at h
      cases h
      obtain ⟨v, hv, rv⟩ := r.get' q
      refine ⟨v, ?_, rv⟩
      unfold L2.start
      rw [List.getElem?_append_left (by rw [List.length_map]; exact (List.getElem?_eq_some_iff.mp hv).1), List.getElem?_map, hv]
      rfl
def ends (F : PV → S → Prop) (X : XF S) : DD S := ⟨fun _ s => F .non s, F, fun _ _ => False, fun _ _ => False, X⟩
/-- a body, told of pure values -/
theorem pure_run {t : TS} {fs : FS S} [AS W E t fs] {n : Nat} {pre : FP S} {vs : List V} {Q : VK} {N : List Str} (h : spF W n pre vs H Q E) (hp : ∀ xs s F X, xs.length = n → pre xs s F X → fs (initS N xs) s (ends F X)) :
    t { nx := fun _ G => Q .non G, rt := Q } (L2.start N vs) H := by
  obtain ⟨hl, A, xs, s, F, X, c, r, x, q, k⟩ := h
  refine AS.run (W := W) (E := E) (ts := t) (rs_start c r) x (hp xs s F X (by rw [r.len]; exact hl) q) ⟨fun σ' H' ρ' s' r' h' => ?_, fun _ _ _ _ _ h' => h'.elim, fun _ _ _ _ _ h' => h'.elim, fun v H' y s' ry f w h' => k v H' y s' ry f w h'⟩
  exact k .non H' .non s' rfl r'.fr r'.rel h'
theorem spF.len {n : Nat} {pre : FP S} {vs : List V} {Q : VK} (h : spF W n pre vs H Q E) : vs.length = n := h.1
/-- f(e, ..) -/
def fCall (n : Nat) (pre : FP S) (ds : List PV) (fa : FA S) : FE S := fun ρ s F X => fa ρ s (fun xs s1 => (xs ++ ds).length = n ∧ pre (xs ++ ds) s1 F X) X
theorem rdl_to : ∀ dvs : List V, RdL A H (dvs.map toPV) dvs
  | [] => rfl
  | v :: vs => ⟨v, vs, rfl, rd_to v, rdl_to vs⟩
/-- what the caller lets out is what the callee may -/
class EE (E : XK) (E' : L2.St → XK) : Prop where
  ok : ∀ σ c d H, E c d H → E' σ c d H
instance ee_same : EE E (fun _ => E) := ⟨fun _ _ _ _ h => h⟩
instance ee_W : EE E (fun σ => WE (fun cls d _ H => E cls d H) σ) := ⟨fun _ _ _ _ h => h⟩
instance ae_call {n : Nat} {pre : FP S} {dvs : List V} {ta : TA} {fa : FA S} {E' : L2.St → XK} [ia : AA W E ta fa] [ee : EE E E'] : AE W E (tCS (fun σ vs H Q => spF W n pre (vs ++ dvs) H Q (E' σ)) ta) (fCall n pre (dvs.map toPV) fa) false := ⟨fun {A σ H ρ s F X Q} c r0 x h k =>
  ia.run c r0 x h fun vs H1 xs s1 rv f1 w1 h1 => by
    have ra : RdL A H1 (xs ++ dvs.map toPV) (vs ++ dvs) := rv.app (rdl_to dvs)
    exact ⟨by rw [← ra.len]; exact h1.1, A, _, s1, F, X, c.next f1 w1, ra, fun C d ns ys ws H2 s2 a b g f w q => ee.ok _ _ _ _ (x C d ns ys ws H2 s2 a b g (f1.trans f) w q), h1.2, fun v H2 z s2 rz f2 w2 h2 => k v H2 z s2 rz (fun z => nomatch z) (f1.trans f2) w2 h2⟩⟩
/-- .. of a def that lets nothing out -/
def fCall0 (n : Nat) (pre : FP S) (ds : List PV) (fa : FA S) : FE S := fun ρ s F X => fa ρ s (fun xs s1 => (xs ++ ds).length = n ∧ pre (xs ++ ds) s1 F fun _ _ _ _ => False) X
instance ae_call0 {n : Nat} {pre : FP S} {dvs : List V} {ta : TA} {fa : FA S} [ia : AA W E ta fa] : AE W E (tCS (fun _ vs H Q => spF W n pre (vs ++ dvs) H Q E0) ta) (fCall0 n pre (dvs.map toPV) fa) false := ⟨fun {A σ H ρ s F X Q} c r0 x h k =>
  ia.run c r0 x h fun vs H1 xs s1 rv f1 w1 h1 => by
    have ra : RdL A H1 (xs ++ dvs.map toPV) (vs ++ dvs) := rv.app (rdl_to dvs)
    exact ⟨by rw [← ra.len]; exact h1.1, A, _, s1, F, _, c.next f1 w1, ra, fun C d ns ys ws H2 s2 a b g f w q => q.elim, h1.2, fun v H2 z s2 rz f2 w2 h2 => k v H2 z s2 rz (fun z => nomatch z) (f1.trans f2) w2 h2⟩⟩
/-! ### an exception of one's own, raised -/
def tRz (E : XK) (C : Addr) (ns : List Str) (ta : TA) : TS := fun _ σ H => tMkO C (spIn C ns) [] ta σ H fun cls d H' => E cls d H'
def fRz (C : Addr) (ns : List Str) (fa : FA S) : FS S := fun ρ s G => fa (view ρ) s (fun xs s1 => xs.length = ns.length ∧ ns.length ≤ 1000 ∧ G.ex C ns.reverse xs.reverse s1) G.ex
theorem map_fst_zip : ∀ {α β : Type} (xs : List α) (ys : List β), ys.length = xs.length → (xs.zip ys).map (·.1) = xs
  | _, _, [], [], _ => rfl
  | _, _, [], _ :: _, h => nomatch h
  | _, _, _ :: _, [], h => nomatch h
  | _, _, x :: xs, y :: ys, h => by rw [List.zip_cons_cons, List.map_cons, map_fst_zip xs ys (Nat.succ.inj h)]
theorem map_snd_zip : ∀ {α β : Type} (xs : List α) (ys : List β), ys.length = xs.length → (xs.zip ys).map (·.2) = ys
  | _, _, [], [], _ => rfl
  | _, _, [], _ :: _, h => nomatch h
  | _, _, _ :: _, [], h => nomatch h
  | _, _, x :: xs, y :: ys, h => by rw [List.zip_cons_cons, List.map_cons, map_snd_zip xs ys (Nat.succ.inj h)]
instance as_rz {C : Addr} {ns : List Str} {ta : TA} {fa : FA S} [ia : AA W E ta fa] : AS W E (tRz E C ns ta) (fRz C ns fa) := ⟨fun {A0 H0 ps H σ ρ s D G} r x h k =>
  ia.run r.ctV r.vrV (r.xlV x) h fun vs H1 xs s1 rv f1 w1 ⟨hl, hn, h1⟩ => by
    have lv : vs.length = ns.length := by rw [← rv.len]; exact hl
    refine ⟨by rw [lv]; exact hn, fun a na => ⟨a, vs, by rw [List.append_nil], lv, upd_same, fun d H2 nd dne same ea ed => ⟨rfl, d, _, ea, ed, by rw [upd_ne dne] at nd; exact nd, ?_⟩⟩⟩
    rw [upd_ne dne] at nd
    have keep : ∀ b u, H1 b = some u → (upd (del H2 a) d (HO.xd (ns.zip vs).reverse)) b = some u := fun b u hb => by
      have b1 : b ≠ a := ne_of_none hb na
      have b2 : b ≠ d := ne_of_none hb nd
      rw [upd_ne b2, del_ne b1, same b b1 b2, upd_ne b1]
      exact hb
    refine x C d _ _ (ns.zip vs).reverse _ s1 upd_same (by rw [List.map_reverse, map_fst_zip _ _ lv]) ?_ ((r.fr.trans f1).trans (Fr.of keep)) (W.stab w1 keep) h1
    rw [List.map_reverse, map_snd_zip _ _ lv]
    exact (rv.ext keep).rev⟩
/-! ### fields -/
def lookP (f : Str) : List Str → List PV → Option PV
  | n :: ns, x :: xs => if f == n then some x else lookP f ns xs
  | _, _ => none
theorem lookP_ok {f : Str} {x : PV} : ∀ {ns : List Str} {xs : List PV} {ws : List (Str × V)}, ws.map (·.1) = ns → RdL A H xs (ws.map (·.2)) → lookP f ns xs = some x → ∃ v, ws.lookup f = some v ∧ Rd A H x v
  | [], _, _, _, _, h => nomatch h
  | _ :: _, [], _, _, _, h => nomatch h
  | n :: ns, y :: xs, [], e, _, _ => nomatch e
  | n :: ns, y :: xs, (m, v) :: ws, e, ⟨u, us, e2, r1, r2⟩, h => by
    have e0 : m :: ws.map (·.1) = n :: ns := e
    have e2' : v :: ws.map (·.2) = u :: us := e2
    obtain ⟨rfl, e1⟩ := List.cons.inj e0
    obtain ⟨rfl, rfl⟩ := List.cons.inj e2'
    unfold lookP at h
    rw [List.lookup_cons]
    by_cases c : (f == m) = true
    · rw [if_pos c] at h
      cases h
      rw [c]
      exact ⟨v, rfl, r1⟩
    · rw [if_neg c] at h
      have c' : (f == m) = false := by simpa using c
      rw [c']
      exact lookP_ok e1 r2 h
def fFld (K : PySem.W.Frag) (fa : FE S) (f : Str) : FE S := fun ρ s F X => fa ρ s (fun x s1 => asO x fun C ns xs => Cls K C ∧ NoAttr K C f ∧ pick (lookP f ns xs) fun y => F y s1) X
instance ae_fld {K : PySem.W.Frag} {ta : TE} {fa : FE S} {b : Bool} {f : Str} [ia : AE W E ta fa b] : AE W E (tFld K ta f) (fFld K fa f) false := ⟨fun {A σ H ρ s F X Q} c r0 x h k =>
  ia.run c r0 x h fun u H1 p s1 rp _ f1 w1 h1 => by
    obtain ⟨C, ns, xs, rfl, hc, hn, h2⟩ := asO_ok h1
    obtain ⟨y, e, h3⟩ := pick_ok h2
    obtain ⟨a, dx, ws, rfl, na, ha, en, rl⟩ := rp
    obtain ⟨v, ev, rv⟩ := lookP_ok en rl e
    exact ⟨a, C, dx, ws, v, rfl, ha, hc, hn, ev, k v H1 y s1 rv (fun z => nomatch z) f1 w1 h3⟩⟩
/-- a field of one's own object -/
def fFldO (K : PySem.W.Frag) (i : Nat) (f : Str) : FE S := fun ρ s F _ => match ρ[i]? with
  | some (.val x) => asO x fun C ns xs => Cls K C ∧ NoAttr K C f ∧ pick (lookP f ns xs) fun y => F y s
  | some (.own x) => asO x fun C ns xs => Cls K C ∧ NoAttr K C f ∧ pick (lookP f ns xs) fun y => F y s
  | _ => False
instance ae_fldO {K : PySem.W.Frag} {i : Nat} {f : Str} : AE W E (tFld K (tVar i) f) (fFldO K i f) false := ⟨fun {A σ H ρ s F X Q} c r0 x h k => by
  unfold fFldO at h
  split at h
  · rename_i x0 e
    obtain ⟨C, ns, xs, rfl, hc, hn, h2⟩ := asO_ok h
    obtain ⟨y, ey, h3⟩ := pick_ok h2
    obtain ⟨v, ev, a, dx, ws, rfl, na, ha, en, rl⟩ := r0.val i _ e
    obtain ⟨u, eu, rv⟩ := lookP_ok en rl ey
    exact ⟨_, ev, a, C, dx, ws, u, rfl, ha, hc, hn, eu, k u H y s rv (fun z => nomatch z) Fr.refl c.rel h3⟩
  · rename_i x0 e
    obtain ⟨C, ns, xs, rfl, hc, hn, h2⟩ := asO_ok h
    obtain ⟨y, ey, h3⟩ := pick_ok h2
    obtain ⟨a, ev, np, dx, ws, ha, en, rl⟩ := r0.own i _ e
    obtain ⟨u, eu, rv⟩ := lookP_ok en rl ey
    exact ⟨_, ev, a, C, dx, ws, u, rfl, ha, hc, hn, eu, k u H y s rv (fun z => nomatch z) Fr.refl c.rel h3⟩
  · exact h.elim⟩
/-- o.m(e, ..) -/
def fMeth (C : Addr) (m : Str) (n : Nat) (pre : FP S) (ds : List PV) (fo : FE S) (fa : FA S) : FE S := fun ρ s F X => fo ρ s (fun x s1 => asO x fun C' ns _ => C' = C ∧ ns.contains m = false ∧ fa ρ s1 (fun xs s2 => (x :: (xs ++ ds)).length = n ∧ pre (x :: (xs ++ ds)) s2 F X) X) X
theorem lookup_none {ws : List (Str × V)} {m : Str} {ns : List Str} (e : ws.map (·.1) = ns) (h : ns.contains m = false) : ws.lookup m = none := by
  subst e
  induction ws with
  | nil => rfl
  | cons w ws ih =>
    obtain ⟨n, v⟩ := w
    rw [List.map_cons, List.contains_cons] at h
    obtain ⟨h1, h2⟩ := Bool.or_eq_false_iff.mp h
    rw [List.lookup_cons, h1]
    exact ih h2
instance ae_methC {C : Addr} {m : Str} {n : Nat} {pre : FP S} {dvs : List V} {ta : TE} {t : TA} {fo : FE S} {fa : FA S} {b : Bool} {E' : L2.St → XK} [io : AE W E ta fo b] [ia : AA W E t fa] [ee : EE E E'] :
    AE W E (tMC C m (fun σ vs H Q => spF W n pre (vs ++ dvs) H Q (E' σ)) ta t) (fMeth C m n pre (dvs.map toPV) fo fa) false := ⟨fun {A σ H ρ s F X Q} c r0 x h k =>
  io.run c r0 x h fun u H1 p s1 rp _ f1 w1 h1 => by
    obtain ⟨C', ns, ys, rfl, rfl, hn, h2⟩ := asO_ok h1
    obtain ⟨a, dx, ws, rfl, na, ha, en, rl⟩ := id rp
    refine ⟨a, dx, ws, rfl, ha, lookup_none en hn, ia.run (c.next f1 w1) (r0.next c f1) (x.next f1) h2 fun vs H2 xs s2 rv f2 w2 h3 => ?_⟩
    have c2 := (c.next f1 w1).next f2 w2
    have ra : RdL A H2 (.ins C' ns ys :: (xs ++ dvs.map toPV)) (.ref a :: (vs ++ dvs)) := RdL.cons ((c.next f1 w1).fr rp f2) (rv.app (rdl_to dvs))
    exact ⟨by rw [List.cons_append, ← ra.len]; exact h3.1, A, _, s2, F, X, c2, ra, fun D d ns ys ws H2 s2 a b g f w q => ee.ok _ _ _ _ (x D d ns ys ws H2 s2 a b g ((f1.trans f2).trans f) w q), h3.2, fun v H3 z s3 rz f3 w3 h4 => k v H3 z s3 rz (fun z => nomatch z) ((f1.trans f2).trans f3) w3 h4⟩⟩
end
section
variable {X : Cx} {ta : TA}
theorem ps_raiseP {E : XK} {C : Addr} {ns : List Str} {e : Expr} {pos : Pos} (hc : X.calm = true) (tk : Takes X (fun cls d _ H => E cls d H)) (he : PMk X e (tMkO C (spIn C ns) [] ta)) : PS X (.Raise (some e) none pos) (tRz E C ns ta) := ps_raise hc tk he
end
end Pv
end

section -- PvH
set_option linter.all false
set_option maxRecDepth 100000
set_option maxHeartbeats 4000000
/-! PvH: slices, dicts, texts' methods, truth, stars. -/
namespace Pv
open PySem PySem.Spec L2 Pk Evl
open PyProof.Rows hiding St
open TL (tl numL)
section
variable {S : Type} {W : Wd S} {E : XK}
/-! ### slices -/
abbrev FO (S : Type) := En → S → (Option Int → S → Prop) → XF S → Prop
class AP (W : Wd S) (E : XK) (to : TO) (f : outParam (FO S)) : Prop where
  run : ∀ {A : Addr → Prop} {σ : L2.St} {H : Hp} {ρ : En} {s : S} {F : Option Int → S → Prop} {X : XF S} {Q : Option Int → Hp → Prop}, Ct W A H s → VR W A H σ ρ → XL W A H E X → f ρ s F X →
    (∀ b H' s', Fr W.pf H H' → W.rel H' s' → F b s' → Q b H') → to σ H Q
def fNoP : FO S := fun _ s F _ => F none s
def fPart (fa : FE S) : FO S := fun ρ s F X => fa ρ s (fun x s1 => asI x fun i => F (some i) s1) X
instance ap_no : AP W E tNoPart fNoP := ⟨fun c _ _ h k => k none _ _ Fr.refl c.rel h⟩
instance ap_part {te : TE} {fa : FE S} {b : Bool} [ia : AE W E te fa b] : AP W E (tPart te) (fPart fa) := ⟨fun {A σ H ρ s F X Q} c r0 x h k => ia.run c r0 x h fun u H1 p s1 rp _ f1 w1 h1 => by
  obtain ⟨i, rfl, h2⟩ := asI_ok h1
  exact ⟨i, rp, k _ H1 s1 f1 w1 h2⟩⟩
class ASl (r : V → Option Int → Option Int → Hp → VK → Prop) (g : outParam (PV → Option Int → Option Int → (PV → Prop) → Prop)) (b : outParam Bool) : Prop where
  run : ∀ {A : Addr → Prop} {H : Hp} {x : PV} {u : V} {lo hi : Option Int} {F : PV → Prop} {Q : VK}, (∀ a, A a → H a ≠ none) → Rd A H x u → g x lo hi F →
    (∀ w H' z, Rd A H' z w → (b = true → New A H H' z w) → Ex H H' → F z → Q w H') → r u lo hi H Q
def fSl (g : PV → Option Int → Option Int → (PV → Prop) → Prop) (fa : FE S) (fl fh : FO S) : FE S := fun ρ s F X => fa ρ s (fun x s1 => fl ρ s1 (fun lo s2 => fh ρ s2 (fun hi s3 => g x lo hi fun z => F z s3) X) X) X
instance ae_sl {ta : TE} {t1 t2 : TO} {fa : FE S} {fl fh : FO S} {ba b : Bool} {r g} [ia : AE W E ta fa ba] [i1 : AP W E t1 fl] [i2 : AP W E t2 fh] [io : ASl r g b] : AE W E (tSl r ta t1 t2) (fSl g fa fl fh) b := ⟨fun {A σ H ρ s F X Q} c r0 x h k =>
  ia.run c r0 x h fun u H1 p s1 rp _ f1 w1 h1 => i1.run (c.next f1 w1) (r0.next c f1) (x.next f1) h1 fun lo H2 s2 f2 w2 h2 =>
    i2.run ((c.next f1 w1).next f2 w2) (r0.next c (f1.trans f2)) (x.next (f1.trans f2)) h2 fun hi H3 s3 f3 w3 h3 =>
      have c3 := ((c.next f1 w1).next f2 w2).next f3 w3
      io.run c3.lv ((c.next f1 w1).fr rp (f2.trans f3)) h3 fun w H4 z rz nz e4 hz => k w H4 z s3 rz (fun b => (nz b).back w3 ((f1.trans f2).trans f3)) (((f1.trans f2).trans f3).trans (Fr.of e4)) (W.stab w3 e4) hz⟩
def cutP (xs : List PV) (lo hi : Option Int) : List PV := (xs.drop (HT.sIx xs.length 0 lo)).take (HT.sIx xs.length xs.length hi - HT.sIx xs.length 0 lo)
theorem cut_rd {A : Addr → Prop} {H : Hp} {xs : List PV} {vs : List V} (r : RdL A H xs vs) (lo hi : Option Int) : RdL A H (cutP xs lo hi) (cutV vs lo hi) := by
  unfold cutP cutV
  rw [r.len]
  exact (r.drop _).take _
def gSlL : PV → Option Int → Option Int → (PV → Prop) → Prop := fun x lo hi F => asL x fun l => F (.lst (cutP l lo hi))
instance asl_L {K : PySem.W.Frag} : ASl (rSlL K) gSlL true := ⟨fun {A H x u lo hi F Q} l r h k => by
  obtain ⟨xs, rfl, h1⟩ := asL_ok h
  obtain ⟨a, vs, rfl, na, ha, rl⟩ := r
  have rc := cut_rd rl lo hi
  exact ⟨a, vs, rfl, sq_of ha, fun o ho => k _ _ (.lst (cutP xs lo hi)) ⟨o, _, rfl, fun z => l o z ho, upd_same, rc.ext (Ex.new ho)⟩ (fun _ => ⟨o, rfl, ho, _, upd_same, (rc.off ho).ext (Ex.new ho)⟩) (Ex.new ho) h1⟩⟩
def gSlS : PV → Option Int → Option Int → (PV → Prop) → Prop := fun x lo hi F => asS x fun z => z.length ≤ 1000000 ∧ F (.str (cutS z lo hi))
instance asl_S : ASl rSlS gSlS false := ⟨fun {A H x u lo hi F Q} l r h k => by
  obtain ⟨z, rfl, h1⟩ := asS_ok h
  exact ⟨z, r, sz h1.1, k _ _ (.str _) rfl (fun z => nomatch z) (Ex.refl _) h1.2⟩⟩
/-! ### stars in displays and calls -/
def fStar (fa : FE S) (fr : FA S) : FA S := fun ρ s F X => fa ρ s (fun x s1 => asLU x fun l => fr ρ s1 (fun xs s2 => F (l ++ xs) s2) X) X
instance aa_star {K : PySem.W.Frag} {ta : TE} {tr : TA} {fa : FE S} {fr : FA S} {ba : Bool} [ia : AE W E ta fa ba] [ir : AA W E tr fr] : AA W E (StX.tStar K ta tr) (fStar fa fr) := ⟨fun {A σ H ρ s F X Q} c r0 x h k =>
  ia.run c r0 x h fun u H1 p s1 rp _ f1 w1 h1 => by
    obtain ⟨l, e, h2⟩ := asLU_ok h1
    have fin : ∀ (a : Addr) (vs : List V), RdL A H1 l vs → tr σ H1 fun ys H2 => Q (vs ++ ys) H2 := fun a vs rl => ir.run (c.next f1 w1) (r0.next c f1) (x.next f1) h2 fun ys H2 qs s2 rq f2 w2 h3 => k _ H2 _ s2 (((c.next f1 w1).frL rl f2).app rq) (f1.trans f2) w2 h3
    rcases e with rfl | rfl
    · obtain ⟨a, vs, rfl, na, ha, rl⟩ := rp
      exact ⟨a, vs, rfl, .inl (st_of ha), fin a vs rl⟩
    · obtain ⟨a, vs, rfl, na, ha, rl⟩ := rp
      exact ⟨a, vs, rfl, .inr (sq_of ha), fin a vs rl⟩⟩
/-! ### truth -/
def truP (x : PV) (F : Bool → Prop) : Prop := match x with
  | .non => F false
  | .bl b => F b
  | .int i => F (i != 0)
  | .str z => z.length ≤ 1000000 ∧ F ((z.length : Int) != 0)
  | .lst l => F (!l.isEmpty)
  | .tup l => F (!l.isEmpty)
  | .dct ks _ => F (!ks.isEmpty)
  | _ => False
end
theorem empty_len {α β : Type} : ∀ {xs : List α} {ys : List β}, xs.length = ys.length → xs.isEmpty = ys.isEmpty
  | [], [], _ => rfl
  | [], _ :: _, h => nomatch h
  | _ :: _, [], h => nomatch h
  | _ :: _, _ :: _, _ => rfl
/-! ### dicts -/
/-- the key that a value is -/
def keyP (x : PV) (F : Key → Prop) : Prop := match x with | .int i => F (.inl i) | .str z => F (.inr z) | _ => False
theorem keyP_ok {A : Addr → Prop} {H : Hp} {x : PV} {u : V} {F : Key → Prop} (h : keyP x F) (r : Rd A H x u) : ∃ k, u = kV k ∧ F k := by
  cases x <;> first | exact h.elim | (cases r; exact ⟨_, rfl, h⟩)
def valP : List Key → List PV → Key → Option PV
  | k :: ks, x :: xs, j => if k = j then some x else valP ks xs j
  | _, _, _ => none
theorem valP_ok {A : Addr → Prop} {H : Hp} {j : Key} : ∀ {ks : List Key} {xs : List PV} {ws : List (Key × V)}, ws.map (·.1) = ks → RdL A H xs (ws.map (·.2)) → match valP ks xs j with | some x => ∃ v, valV ws j = some v ∧ Rd A H x v | none => valV ws j = none
  | [], xs, ws, e, r => by
    cases ws with
    | nil => show valV [] j = none; rfl
    | cons _ _ => cases e
  | k :: ks, [], ws, e, r => by
    cases ws with
    | nil => cases e
    | cons _ _ => cases r
  | k :: ks, x :: xs, [], e, _ => nomatch e
  | k :: ks, x :: xs, (m, v) :: ws, e, ⟨u, us, e2, r1, r2⟩ => by
    have e0 : m :: ws.map (·.1) = k :: ks := e
    have e2' : v :: ws.map (·.2) = u :: us := e2
    obtain ⟨rfl, e1⟩ := List.cons.inj e0
    obtain ⟨rfl, rfl⟩ := List.cons.inj e2'
    unfold valP
    by_cases c : m = j
    · rw [if_pos c]
      exact ⟨v, valV_pos (p := (m, v)) c, r1⟩
    · rw [if_neg c]
      have z := valP_ok (j := j) e1 r2
      rw [valV_neg (p := (m, v)) c]
      exact z
theorem valP_some {A : Addr → Prop} {H : Hp} {j : Key} {ks : List Key} {xs : List PV} {ws : List (Key × V)} {x : PV} (e : ws.map (·.1) = ks) (r : RdL A H xs (ws.map (·.2))) (h : valP ks xs j = some x) : ∃ v, valV ws j = some v ∧ Rd A H x v := by
  have z := valP_ok (j := j) e r
  rw [h] at z
  exact z
theorem valP_is {A : Addr → Prop} {H : Hp} {j : Key} {ks : List Key} {xs : List PV} {ws : List (Key × V)} (e : ws.map (·.1) = ks) (r : RdL A H xs (ws.map (·.2))) : (valV ws j).isSome = (valP ks xs j).isSome := by
  have z := valP_ok (j := j) e r
  cases q : valP ks xs j with
  | none => rw [q] at z; rw [show valV ws j = none from z]; rfl
  | some x => rw [q] at z; obtain ⟨v, h, _⟩ := z; rw [h]; rfl
theorem dget_of {H : Hp} {a : Addr} {ws : List (Key × V)} (h : L2.Rd H a (.dK ws)) (k : Key) : DGet H a (kV k) (valV ws k) := .inl ⟨ws, k, h, rfl, rfl⟩
/-- k in d, k in a list or a tuple of flat things -/
def rInAny (K : PySem.W.Frag) (neg : Bool) : R2 := fun x y H Q => rIn K neg x y H Q ∨ ∃ a o, y = .ref a ∧ DGet H a x o ∧ Q (.bl (if neg then !o.isSome else o.isSome)) H
section
variable {X : Cx}
theorem op_inAny (hu : X.A.units + 1 < cLine) : OpR X (compareOp .In) (rInAny X.K false) := by
  intro pins s σ H x y v u Q I rx ry h
  rcases h with h | ⟨a, o, rfl, g, q⟩
  · exact op_in_seq pins s σ H x y v u Q I rx ry h
  · obtain rfl : u = Value.ref a := ry
    exact d_in hu I g rx fun s3 I3 => ⟨.bl o.isSome, H, I3, rfl, q⟩
theorem op_notInAny (hu : X.A.units + 1 < cLine) : OpR X (compareOp .NotIn) (rInAny X.K true) := by
  intro pins s σ H x y v u Q I rx ry h
  rcases h with h | ⟨a, o, rfl, g, q⟩
  · exact op_notIn_seq pins s σ H x y v u Q I rx ry h
  · obtain rfl : u = Value.ref a := ry
    exact d_notIn hu I g rx fun s3 I3 => ⟨.bl (!o.isSome), H, I3, rfl, q⟩
end
def gInAny (neg : Bool) : PV → PV → (PV → Prop) → Prop := fun x y F => match y with
  | .dct ks xs => keyP x fun k => F (.bl (if neg then !(valP ks xs k).isSome else (valP ks xs k).isSome))
  | y => gIn neg x y F
instance ao_inAny {K : PySem.W.Frag} {neg : Bool} : AO (rInAny K neg) (gInAny neg) false := ⟨fun {A H x y u v F Q} l r1 r2 h k => by
  cases y with
  | dct ks xs =>
    have h' : keyP x fun k => F (.bl (if neg then !(valP ks xs k).isSome else (valP ks xs k).isSome)) := h
    obtain ⟨j, rfl, h2⟩ := keyP_ok h' r1
    obtain ⟨a, ws, rfl, na, ha, e, rl⟩ := r2
    refine .inr ⟨a, _, rfl, dget_of ha j, ?_⟩
    rw [valP_is e rl]
    exact k _ _ (.bl _) rfl (fun z => nomatch z) (Ex.refl _) h2
  | _ => exact .inl ((ao_in (K := K) (neg := neg)).run l r1 r2 h k)⟩
section
variable {S : Type} {W : Wd S} {E : XK}
def fDGet (fd fk : FE S) : FE S := fun ρ s F X => fd ρ s (fun x s1 => fk ρ s1 (fun y s2 => asD x fun ks xs => keyP y fun k => pick (valP ks xs k) fun z => F z s2) X) X
instance ae_dget {td tk : TE} {fd fk : FE S} {b1 b2 : Bool} [i1 : AE W E td fd b1] [i2 : AE W E tk fk b2] : AE W E (tDGet td tk) (fDGet fd fk) false := ⟨fun {A σ H ρ s F X Q} c r0 x h k =>
  i1.run c r0 x h fun u H1 p s1 rp _ f1 w1 h1 => i2.run (c.next f1 w1) (r0.next c f1) (x.next f1) h1 fun v H2 q s2 rq _ f2 w2 h2 => by
    obtain ⟨ks, xs, rfl, h3⟩ := asD_ok h2
    obtain ⟨j, rfl, h4⟩ := keyP_ok h3 rq
    obtain ⟨z, ez, h5⟩ := pick_ok h4
    obtain ⟨a, ws, rfl, na, ha, e, rl⟩ := (c.next f1 w1).fr rp f2
    obtain ⟨w, ew, rw_⟩ := valP_some e rl ez
    have g := dget_of ha j
    rw [ew] at g
    exact ⟨a, w, rfl, g, k w H2 z s2 rw_ (fun z => nomatch z) (f1.trans f2) w2 h5⟩⟩
/-- d.get(k, e) -/
def fDGet2 (fd fk fx : FE S) : FE S := fun ρ s F X => fd ρ s (fun x s1 => asD x fun ks xs => fk ρ s1 (fun y s2 => fx ρ s2 (fun z s3 => keyP y fun k => F ((valP ks xs k).getD z) s3) X) X) X
instance ae_dget2 {td tk tx : TE} {fd fk fx : FE S} {b1 b2 b3 : Bool} [i1 : AE W E td fd b1] [i2 : AE W E tk fk b2] [i3 : AE W E tx fx b3] : AE W E (tDGet2 td tk tx) (fDGet2 fd fk fx) false := ⟨fun {A σ H ρ s F X Q} c r0 x h k =>
  i1.run c r0 x h fun u H1 p s1 rp _ f1 w1 h1 => by
    obtain ⟨ks, xs, rfl, h2⟩ := asD_ok h1
    obtain ⟨a, ws0, rfl, _, ha0, _⟩ := id rp
    refine ⟨a, rfl, .inl ⟨_, ha0⟩, i2.run (c.next f1 w1) (r0.next c f1) (x.next f1) h2 fun v H2 q s2 rq _ f2 w2 h3 => i3.run ((c.next f1 w1).next f2 w2) (r0.next c (f1.trans f2)) (x.next (f1.trans f2)) h3 fun u3 H3 z s3 rz _ f3 w3 h4 => ?_⟩
    obtain ⟨j, rfl, h5⟩ := keyP_ok h4 rq
    obtain ⟨a', ws, ea, na, ha, e, rl⟩ := (c.next f1 w1).fr rp (f2.trans f3)
    cases ea
    refine ⟨_, dget_of ha j, ?_⟩
    have zz := valP_ok (j := j) e rl
    cases qv : valP ks xs j with
    | none =>
      rw [qv] at zz h5
      rw [show valV ws j = none from zz]
      exact k u3 H3 z s3 rz (fun z => nomatch z) ((f1.trans f2).trans f3) w3 h5
    | some y =>
      rw [qv] at zz h5
      obtain ⟨w, ew, rw_⟩ := zz
      rw [ew]
      exact k w H3 y s3 rw_ (fun z => nomatch z) ((f1.trans f2).trans f3) w3 h5⟩
/-! ### methods of texts -/
def fSplit (fa fb : FE S) : FE S := fun ρ s F X => fa ρ s (fun x s1 => asS x fun a => fb ρ s1 (fun y s2 => asS y fun b => (b.length == 0) = false ∧ a.length ≤ 900000 ∧ F (.lst ((Txt.split a b).map PV.str)) s2) X) X
theorem rdl_str {A : Addr → Prop} {H : Hp} : ∀ ts : List Str, RdL A H (ts.map PV.str) (ts.map V.str)
  | [] => rfl
  | t :: ts => ⟨.str t, _, rfl, rfl, rdl_str ts⟩
instance ae_split {ta tb : TE} {fa fb : FE S} {b1 b2 : Bool} [i1 : AE W E ta fa b1] [i2 : AE W E tb fb b2] : AE W E (tSplit ta tb) (fSplit fa fb) true := ⟨fun {A σ H ρ s F X Q} c r0 x h k =>
  i1.run c r0 x h fun u H1 p s1 rp _ f1 w1 h1 => by
    obtain ⟨a, rfl, h2⟩ := asS_ok h1
    refine ⟨⟨a, rp⟩, i2.run (c.next f1 w1) (r0.next c f1) (x.next f1) h2 fun v H2 q s2 rq _ f2 w2 h3 => ?_⟩
    obtain ⟨b, rfl, h4, h5, h6⟩ := asS_ok h3
    have c2 := (c.next f1 w1).next f2 w2
    refine ⟨a, b, rp, by rw [show v = .str b from rq], h4, sz (by omega), fun o ho => ?_⟩
    exact k _ _ _ s2 (rd_lst c2 ho (rdl_str _)) (fun _ => (new_lst ho (rdl_str _)).back w2 (f1.trans f2)) ((f1.trans f2).trans (Fr.of (Ex.new ho))) (W.stab w2 (Ex.new ho)) h6⟩
def strsOf : List PV → Option (List Str)
  | [] => some []
  | .str b :: r => (strsOf r).map (b :: ·)
  | _ => none
theorem strs_ok {A : Addr → Prop} {H : Hp} : ∀ {xs : List PV} {us : List V} {bs : List Str}, RdL A H xs us → strsOf xs = some bs → us = bs.map V.str
  | [], us, bs, r, h => by cases r; cases h; rfl
  | x :: xs, us, bs, ⟨v, vs, e, r, rs⟩, h => by
    cases x <;> first | cases h | skip
    rename_i b
    cases q : strsOf xs with
    | none => unfold strsOf at h; rw [q] at h; cases h
    | some w =>
      unfold strsOf at h
      rw [q] at h
      have h' : b :: w = bs := Option.some.inj h
      subst h' e
      cases r
      rw [strs_ok rs q]
      rfl
theorem strs_map : ∀ ts : List Str, strsOf (ts.map PV.str) = some ts
  | [] => rfl
  | t :: ts => by
    show (strsOf (ts.map PV.str)).map (t :: ·) = _
    rw [strs_map ts]
    rfl
def tJoin (K : PySem.W.Frag) (ta tb : TE) : TE := tM1 (fun x xs H Q => ∃ a p, ∃ ys : List Str, x = .str a ∧ xs = [.ref p] ∧ (SqL K H p (ys.map V.str) ∨ SqT K H p (ys.map V.str)) ∧ (ys.map (·.length)).sum + ys.length * a.length ≤ 16777216 ∧ Q (.str (Txt.join a ys)) H) ta tb
theorem pe_joinN {X : Cx} {o e : Expr} {to te : TE} {apos pos : Pos} (ho : PE X o to) (he : PE X e te) (hs : starEach [e] X.env = [(false, eval e X.env)] := by rfl) (hb : attributeBase o "join" X.env (eval o X.env) = eval o X.env := by rfl) (hl : (apos.endLine == pos.line) = true := by rfl) :
    PE X (.Call (.Attribute o "join" apos) [e] [] pos) (tJoin X.K to te) := pe_join ho he hs hb hl
def fJoin (fa fb : FE S) : FE S := fun ρ s F X => fa ρ s (fun x s1 => asS x fun a => fb ρ s1 (fun y s2 => asLU y fun l => pick (strsOf l) fun ys => (ys.map (·.length)).sum + ys.length * a.length ≤ 16777216 ∧ F (.str (Txt.join a ys)) s2) X) X
instance ae_join {K : PySem.W.Frag} {ta tb : TE} {fa fb : FE S} {b1 b2 : Bool} [i1 : AE W E ta fa b1] [i2 : AE W E tb fb b2] : AE W E (tJoin K ta tb) (fJoin fa fb) false := ⟨fun {A σ H ρ s F X Q} c r0 x h k =>
  i1.run c r0 x h fun u H1 p s1 rp _ f1 w1 h1 => by
    obtain ⟨a, rfl, h2⟩ := asS_ok h1
    refine ⟨⟨a, rp⟩, i2.run (c.next f1 w1) (r0.next c f1) (x.next f1) h2 fun v H2 q s2 rq _ f2 w2 h3 => ?_⟩
    obtain ⟨l, e, h4⟩ := asLU_ok h3
    obtain ⟨ys, ey, h5, h6⟩ := pick_ok h4
    have fin : Q (.str (Txt.join a ys)) H2 := k _ H2 (.str _) s2 rfl (fun z => nomatch z) (f1.trans f2) w2 h6
    rcases e with rfl | rfl
    · obtain ⟨o, vs, rfl, no, ho, rl⟩ := rq
      rw [strs_ok rl ey] at ho
      exact ⟨a, o, ys, rp, rfl, .inr (st_of ho), h5, fin⟩
    · obtain ⟨o, vs, rfl, no, ho, rl⟩ := rq
      rw [strs_ok rl ey] at ho
      exact ⟨a, o, ys, rp, rfl, .inl (sq_of ho), h5, fin⟩⟩
end
/-! ### truth, the rule -/
section
variable {S : Type} {W : Wd S} {E : XK}
/-- the truth of a value, a dict held as it is too -/
def TruZ (K : PySem.W.Frag) (x : V) (H : Hp) (k : Bool) : Prop := TruV K x H k ∨ ∃ p kvs, x = .ref p ∧ L2.Rd H p (.dK kvs) ∧ k = !kvs.isEmpty
def tTruZ (K : PySem.W.Frag) (ta : TE) : TT := fun σ H Q => ta σ H fun x H' => ∃ k, TruZ K x H' k ∧ Q k H'
theorem truZ_ok {X : Cx} : TruR X (fun x H Q => ∃ k, TruZ X.K x H k ∧ Q k H) := by
  intro pins s σ H x v Q I rx h
  obtain ⟨k, e, q⟩ := h
  rcases e with e | ⟨p, kvs, rfl, hx, rfl⟩
  · exact L2.tru_ok pins s σ H x v Q I rx ⟨k, e, q⟩
  · cases rx
    have b16 : sizeLine = 16777216 := sizeLine_eq
    obtain ⟨lz, ns, vs, r, m⟩ := dk_rd I.hok hx
    have el : kvs.length = vs.length := Paired.length r
    have small : vs.length < 2 ^ 63 := by omega
    exact wpAny_truthy_dict ns m (by omega) ⟨H, I.tok _, by rw [isEmpty_kv r]; exact q⟩
theorem pt_truthZ {X : Cx} {a : Expr} {ta : TE} (ha : PE X a ta) (he : ∀ whole, isTrue a X.env whole = (do let v ← whole; standAt a.pos; holding [v] (truthy v))) : PT X a (tTruZ X.K ta) :=
  ⟨fun pins s σ H Q I h => isTrue_plain (thn (ha.run pins s σ H _ I h) fun v s1 ⟨x, H1, I1, r1, q1⟩ => truZ_ok pins s1 σ H1 x v Q I1 r1 q1) (he _)⟩
theorem truP_ok {K : PySem.W.Frag} {A : Addr → Prop} {H : Hp} {x : PV} {u : V} {F : Bool → Prop} (h : truP x F) (r : Rd A H x u) : ∃ k, TruZ K u H k ∧ F k := by
  cases x <;> first | exact h.elim | skip
  · cases r; exact ⟨_, .inl rfl, h⟩
  · cases r; exact ⟨_, .inl rfl, h⟩
  · cases r; exact ⟨_, .inl rfl, h⟩
  · cases r; exact ⟨_, .inl ⟨sz h.1, rfl⟩, h.2⟩
  · obtain ⟨a, vs, rfl, na, ha, rl⟩ := r
    exact ⟨_, .inl (.inl ⟨vs, sq_of ha, by rw [empty_len rl.len]⟩), h⟩
  · obtain ⟨a, vs, rfl, na, ha, rl⟩ := r
    exact ⟨_, .inl (.inr (.inl ⟨vs, st_of ha, by rw [empty_len rl.len]⟩)), h⟩
  · obtain ⟨a, ws, rfl, na, ha, e, rl⟩ := r
    refine ⟨_, .inr ⟨a, ws, rfl, ha, ?_⟩, h⟩
    subst e
    rw [empty_len (xs := ws.map (·.1)) (ys := ws) (by rw [List.length_map])]
def fTru (fa : FE S) : FT S := fun ρ s F X => fa ρ s (fun x s1 => truP x fun b => F b s1) X
instance at_tru {K : PySem.W.Frag} {ta : TE} {fa : FE S} {ba : Bool} [ia : AE W E ta fa ba] : AT W E (tTruZ K ta) (fTru fa) := ⟨fun {A σ H ρ s F X Q} c r0 x h k =>
  ia.run c r0 x h fun u H1 p s1 rp _ f1 w1 h1 => by
    obtain ⟨b, hb, h2⟩ := truP_ok h1 rp
    exact ⟨b, hb, k b H1 s1 f1 w1 h2⟩⟩
end
end Pv
end

section -- PvI
set_option linter.all false
set_option maxRecDepth 100000
set_option maxHeartbeats 4000000
/-! PvI: lists or tuples walked; dict comprehensions; the items of a dict. -/
namespace Pv
open PySem PySem.Spec L2 Pk Evl
open PyProof.Rows hiding St
open TL (tl numL)
section
variable {S : Type} {W : Wd S} {E : XK}
def iSeq (K : PySem.W.Frag) (tl : TE) : TI := fun σ H R => tl σ H fun x H1 => ∃ a, x = .ref a ∧ (((∃ xs, SqL K H1 a xs) ∧ R (Itl K a) H1) ∨ ((∃ xs, SqT K H1 a xs) ∧ R (Itt K a) H1))
theorem walk_of {X : Cx} {tg : Expr} {pins : List (Addr × Obj)} {σ : L2.St} {H : Hp} {s : Shared} {a : Addr} {R : It → Hp → Prop} (I : Inv X pins σ H s) (h : ((∃ xs, SqL X.K H a xs) ∧ R (Itl X.K a) H) ∨ ((∃ xs, SqT X.K H a xs) ∧ R (Itt X.K a) H)) :
    wpAny (model X.prog X.w) X.A (pyIter (.ref a)) (PIE X pins σ tg R) X.xe s := by
  rcases h with ⟨⟨xs, q⟩, r⟩ | ⟨⟨xs, q⟩, r⟩
  · obtain ⟨its, _, p, _⟩ := I.list q
    exact wpAny_pyIter_list p.isList (pi_one (tk := s.toks) I _ (turn_list a _) ⟨_, Heap.get?_push_size _ rfl, rfl, rfl⟩ r)
  · obtain ⟨its, _, p, _⟩ := I.tuple q
    exact wpAny_pyIter_tuple (show s.heap.IsTuple a its.toArray from p) (pi_one (tk := s.toks) I _ (turn_tuple a _) ⟨_, Heap.get?_push_size _ rfl, rfl, rfl⟩ r)
theorem pi_seq {X : Cx} {tg l : Expr} {tl : TE} (hl : PE X l tl) : PI X tg l (iSeq X.K tl) := ⟨fun pins s σ H R I h => thn (hl.run pins s σ H _ I h) fun u s1 ⟨x, H1, I1, rx, a, ex, q⟩ => by
  subst ex
  cases rx
  exact walk_of I1 q⟩
instance ai_seq {K : PySem.W.Frag} {tl : TE} {fa : FE S} {b : Bool} [ia : AE W E tl fa b] : AI W E (iSeq K tl) (fiLT fa) := ⟨fun {A σ H ρ s F X R} c r0 x h k =>
  ia.run c r0 x h fun u H1 p s1 rp _ f1 w1 h1 => by
    obtain ⟨l, e, h2⟩ := asLU_ok h1
    rcases e with rfl | rfl
    · obtain ⟨a, vs, rfl, na, ha, rl⟩ := id rp
      refine ⟨a, rfl, .inr ⟨⟨vs, st_of ha⟩, k _ H1 l s1 [Pin.rd (.tup l) (.ref a)] _ _ walk_t (fun p m => by rw [List.mem_singleton.mp m]; exact rp) (fun A2 H2 q => ?_) (fun A2 i H2 v H3 hi lv q y => ?_) f1 w1 h2⟩⟩
      · obtain ⟨ws, e, r⟩ := rd_tupA (q _ (List.mem_singleton.mpr rfl))
        exact ⟨ws, e, r.len.symm⟩
      · obtain ⟨ws, e, r⟩ := rd_tupA (q _ (List.mem_singleton.mpr rfl))
        obtain ⟨rfl, y⟩ := y
        exact ⟨Ex.refl _, r.get (y ws e)⟩
    · obtain ⟨a, vs, rfl, na, ha, rl⟩ := id rp
      refine ⟨a, rfl, .inl ⟨⟨vs, sq_of ha⟩, k _ H1 l s1 [Pin.rd (.lst l) (.ref a)] _ _ walk_l (fun p m => by rw [List.mem_singleton.mp m]; exact rp) (fun A2 H2 q => ?_) (fun A2 i H2 v H3 hi lv q y => ?_) f1 w1 h2⟩⟩
      · obtain ⟨ws, e, r⟩ := rd_lstA (q _ (List.mem_singleton.mpr rfl))
        exact ⟨ws, e, r.len.symm⟩
      · obtain ⟨ws, e, r⟩ := rd_lstA (q _ (List.mem_singleton.mpr rfl))
        obtain ⟨rfl, y⟩ := y
        exact ⟨Ex.refl _, r.get (y ws e)⟩⟩
/-! ### one key more -/
def keysP (ks : List Key) (k : Key) : List Key := if (ks.any fun j => decide (j = k)) = true then ks else ks ++ [k]
def valsP (ks : List Key) (xs : List PV) (k : Key) (x : PV) : List PV := if (ks.any fun j => decide (j = k)) = true then List.zipWith (fun j y => if j = k then x else y) ks xs else xs ++ [x]
theorem any_keys {k : Key} : ∀ ws : List (Key × V), (ws.any fun kv => decide (kv.1 = k)) = ((ws.map (·.1)).any fun j => decide (j = k))
  | [] => rfl
  | w :: ws => by rw [List.any_cons, List.map_cons, List.any_cons, any_keys ws]
theorem rd_zipW {A : Addr → Prop} {H : Hp} {k : Key} {x : PV} {v : V} (h : Rd A H x v) : ∀ {ws : List (Key × V)} {xs : List PV}, RdL A H xs (ws.map (·.2)) → RdL A H (List.zipWith (fun j y => if j = k then x else y) (ws.map (·.1)) xs) ((ws.map fun kv => if kv.1 = k then (kv.1, v) else kv).map (·.2))
  | [], xs, r => by
    cases xs with
    | nil => rfl
    | cons _ _ => obtain ⟨_, _, e, _⟩ := r; cases e
  | w :: ws, [], r => by cases r
  | w :: ws, y :: xs, ⟨u, us, e, r1, r2⟩ => by
    have e' : w.2 :: ws.map (·.2) = u :: us := e
    obtain ⟨rfl, rfl⟩ := List.cons.inj e'
    refine ⟨_, _, rfl, ?_, rd_zipW h r2⟩
    show Rd A H (if w.1 = k then x else y) (if w.1 = k then (w.1, v) else w).2
    by_cases c : w.1 = k
    · rw [if_pos c, if_pos c]; exact h
    · rw [if_neg c, if_neg c]; exact r1
theorem put_ok {A : Addr → Prop} {H : Hp} {k : Key} {x : PV} {v : V} {ws : List (Key × V)} {ks : List Key} {xs : List PV} (e : ws.map (·.1) = ks) (r : RdL A H xs (ws.map (·.2))) (h : Rd A H x v) :
    (putK ws k v).map (·.1) = keysP ks k ∧ RdL A H (valsP ks xs k x) ((putK ws k v).map (·.2)) := by
  subst e
  unfold putK keysP valsP
  rw [any_keys]
  by_cases c : ((ws.map (·.1)).any fun j => decide (j = k)) = true
  · rw [if_pos c, if_pos c, if_pos c]
    refine ⟨?_, rd_zipW h r⟩
    rw [List.map_map]
    refine List.map_congr_left fun w _ => ?_
    show (if w.1 = k then (w.1, v) else w).1 = w.1
    split <;> rfl
  · rw [if_neg c, if_neg c, if_neg c]
    refine ⟨by rw [List.map_append]; rfl, ?_⟩
    rw [List.map_append]
    exact r.app (RdL.cons h RdL.nil)
theorem putK_len {ws : List (Key × V)} {k : Key} {v : V} : (putK ws k v).length ≤ ws.length + 1 := length_putK ws k v
/-! ### dict comprehensions -/
theorem dc_it {J : It} {n : Nat} {G : Hp → Prop} {Y : Nat → Hp → V → Hp → Prop} (w : Walk J n G Y) {g : TG} {tt : TT} {tk tv : TE} {vs : List Nat} {σ : L2.St} {H1 : Hp} {D : Addr} {Qd : Hp → Prop} (P : Nat → Hp → Prop) (h0 : P 0 (upd H1 D (.dK []))) (hG : ∀ i H, i ≤ n → P i H → G H)
    (hs : ∀ i x H H', i < n → P i H → Y i H x H' → g x (L2.wipe σ vs) H' fun σ2 H2 => L2.wipe σ2 vs = L2.wipe σ vs ∧ tt σ2 H2 fun b H3 =>
      if b = true then tk σ2 H3 fun y H4 => tv σ2 H4 fun z H5 => ∃ kvs k, y = kV k ∧ H5 D = some (.dK kvs) ∧ kvs.length < sizeLine ∧ P (i + 1) (upd H5 D (.dK (putK kvs k z))) else P (i + 1) H3) (hd : ∀ H, P n H → Qd H) :
    ∃ W : Nat → Nat → Hp → Prop, (∃ m, W 0 m (upd H1 D (.dK []))) ∧ ∀ i m H, W i m H →
      (J.stop i H ∧ Qd H) ∨ (J.go i H ∧ ∃ Nx : Hp → Prop, (∀ H', Nx H' → ∃ m', m' < m ∧ W (i + 1) m' H') ∧ ∀ x H', J.yld i H x H' → g x (L2.wipe σ vs) H' fun σ2 H2 => L2.wipe σ2 vs = L2.wipe σ vs ∧ tt σ2 H2 fun b H3 =>
        if b = true then tk σ2 H3 fun y H4 => tv σ2 H4 fun z H5 => ∃ kvs k, y = kV k ∧ H5 D = some (.dK kvs) ∧ kvs.length < sizeLine ∧ Nx (upd H5 D (.dK (putK kvs k z))) else Nx H3) :=
  ⟨fun i m H => i ≤ n ∧ m = n - i ∧ P i H, ⟨n - 0, Nat.zero_le n, rfl, h0⟩, fun i m H ⟨hi, hm, p⟩ => by
    have gg := hG i H hi p
    rcases Nat.lt_or_ge i n with lt | ge
    · exact .inr ⟨w.goes i H lt gg, fun H' => P (i + 1) H', fun H' p' => ⟨n - (i + 1), by omega, lt, rfl, p'⟩, fun x H' y => hs i x H H' lt p (w.yields i H x H' lt gg y)⟩
    · have e : i = n := Nat.le_antisymm hi ge
      exact .inl ⟨by rw [e]; exact w.stops H gg, hd H (by rw [← e]; exact p)⟩⟩
def dcP (bg : PV → En → (En → Prop) → Prop) (ft : FT S) (fk fe : FE S) (ρ0 : En) (X : XF S) : List PV → List Key → List PV → S → (List Key → List PV → S → Prop) → Prop
  | [], ks, acc, s, F => F ks acc s
  | x :: r, ks, acc, s, F => bg x ρ0 fun ρ1 => ft ρ1 s (fun b s1 => if b = true then fk ρ1 s1 (fun kx s2 => keyP kx fun k => fe ρ1 s2 (fun y s3 => dcP bg ft fk fe ρ0 X r (keysP ks k) (valsP ks acc k y) s3 F) X) X else dcP bg ft fk fe ρ0 X r ks acc s1 F) X
def fDc (js : List Nat) (fi : FI S) (bg : PV → En → (En → Prop) → Prop) (ft : FT S) (fk fe : FE S) (vs : List Nat) : FE S := fun ρ s F X => (js.all fun j => vs.contains j) = true ∧ fi ρ s (fun items s1 => items.length ≤ 900000 ∧ dcP bg ft fk fe (wipeP ρ vs) X items [] [] s1 (fun ks acc s2 => F (.dct ks acc) s2)) X
instance ae_dc {wi : TI} {g : TG} {tt : TT} {tk te : TE} {vs : List Nat} {fi : FI S} {bg : PV → En → (En → Prop) → Prop} {ft : FT S} {fk fe : FE S} {js : List Nat} {b b' : Bool} [ii : AI W E wi fi] [ig : AG W g js bg] [it : AT W E tt ft] [ik : AE W E tk fk b'] [ie : AE W E te fe b] : AE W E (tDc wi g tt tk te vs) (fDc js fi bg ft fk fe vs) true := ⟨fun {A σ H ρ s F X Q} c r0 x hh k =>
  have hj := hh.1
  ii.run c r0 x hh.2 fun J H1 items s1 pv G Y w hp0 hG hY f1 w1 h1 => fun D hD => by
    obtain ⟨hl, h2⟩ := h1
    have hjs : ∀ j ∈ js, j ∈ vs := fun j m => by
      have z := List.all_eq_true.mp hj j m
      simpa using z
    obtain ⟨A1, hA1⟩ : ∃ A1 : Addr → Prop, A1 = fun a => A a ∨ a = D := ⟨_, rfl⟩
    have c1 := c.next f1 w1
    have nD : ¬ A D := c1.new hD
    have off : ∀ a o, ¬ A a → H1 a = some o → ¬ A1 a := fun a o n e z => by
      rw [hA1] at z
      rcases z with z | rfl
      · exact n z
      · rw [hD] at e; cases e
    have pfD : ∀ a, W.pf a → a ≠ D := fun a p z => nD (z ▸ c.pa a p)
    have offU : ∀ (H0 : Hp) (o : HO), ∀ a u, ¬ A1 a → H0 a = some u → ¬ A1 a ∧ (upd H0 D o) a = some u := fun H0 o a u n e => ⟨n, by
      rw [upd_ne (fun z => n (by rw [hA1]; exact .inr z))]
      exact e⟩
    refine dc_it w (fun i H' => ∃ (ks : List Key) (acc : List PV) (us : List (Key × V)) (s' : S), Ct W A1 H' s' ∧ Fr W.pf H1 H' ∧ H' D = some (.dK us) ∧ us.map (·.1) = ks ∧ RdL A1 H' acc (us.map (·.2)) ∧ us.length ≤ i ∧ (∀ p ∈ pv, Pin.ok A1 H' p) ∧ dcP bg ft fk fe (wipeP ρ vs) X (items.drop i) ks acc s' (fun ks acc s2 => F (.dct ks acc) s2)) ?_ ?_ ?_ ?_
    · refine ⟨[], [], [], s1, ⟨fun a p => ?_, fun a z => ?_, W.stab w1 (Ex.new hD)⟩, Fr.of (Ex.new hD), upd_same, rfl, rfl, Nat.zero_le _, (fun p m => by rw [hA1]; exact ((hp0 p m).off hD).ext (Ex.new hD)), h2⟩
      · rw [hA1]; exact .inl (c.sa a p)
      · rw [hA1] at z
        rcases z with z | rfl
        · by_cases q : a = D
          · rw [q, upd_same]; intro z; cases z
          · rw [upd_ne q]; exact c1.lv a z
        · rw [upd_same]; intro z; cases z
    · rintro i H' _ ⟨ks, acc, us, s', c', f', _, _, _, _, pp, _⟩
      exact hG A1 H' pp
    · rintro i v H' H2 hi ⟨ks, acc, us, s', c', f', hD', ek, rl, la, pp, hp⟩ y
      obtain ⟨ex, z, ez, rz⟩ := hY A1 i H' v H2 hi c'.lv pp y
      have ed : items.drop i = z :: items.drop (i + 1) := by
        have e := List.drop_eq_getElem_cons hi
        rw [List.getElem?_eq_getElem hi] at ez
        rw [e, Option.some.inj ez]
      rw [ed] at hp
      have c2 : Ct W A1 H2 s' := c'.ext ex
      have rw0 : VR W A1 H2 (L2.wipe σ vs) (wipeP ρ vs) := (((r0.next c f1).to (fun a o n e => ex a o (f' a o n e)) fun a o n e => ⟨off a o n e, ex a o (f' a o (fun z => n (c.pa a z)) e)⟩)).wipe vs
      have x2 : XL W A1 H2 E X := (x.next ((f1.trans f').trans (Fr.of ex))).less fun a z => by rw [hA1]; exact .inl z
      refine ig.run rw0 rz hp fun σ' ρ' q' e' h' => ⟨?_, ?_⟩
      · rw [e' vs hjs, wipe_wipe]
      refine it.run c2 q' x2 h' fun bb H3 s3 f3 w3 h3 => ?_
      have c3 := c2.next f3 w3
      have D3 : ∀ {Ha Hb : Hp} {u : HO}, Fr W.pf Ha Hb → Ha D = some u → Hb D = some u := fun f e => f D _ (fun p => pfD D p rfl) e
      have f13 : Fr W.pf H1 H3 := (f'.trans (Fr.of ex)).trans f3
      cases bb with
      | false =>
        exact ⟨ks, acc, us, s3, c3, f13, D3 f3 (ex D _ hD'), ek, c2.frL (rl.ext ex) f3, Nat.le_succ_of_le la, (fun p m => c2.frP ((pp p m).ext ex) f3), h3⟩
      | true =>
        have h3' : fk ρ' s3 (fun kx s2 => keyP kx fun k => fe ρ' s2 (fun y s3 => dcP bg ft fk fe (wipeP ρ vs) X (items.drop (i + 1)) (keysP ks k) (valsP ks acc k y) s3 (fun ks acc s2 => F (.dct ks acc) s2)) X) X := h3
        refine ik.run c3 (q'.next c2 f3) (x2.next f3) h3' fun ku H4 kx s4 rk _ f4 w4 h4 => ?_
        have c4 := c3.next f4 w4
        obtain ⟨kk, rfl, h5⟩ := keyP_ok h4 rk
        refine ie.run c4 ((q'.next c2 f3).next c3 f4) ((x2.next f3).next f4) h5 fun u H5 yy s5 ry _ f5 w5 h6 => ?_
        have d5 := D3 f5 (D3 f4 (D3 f3 (ex D _ hD')))
        have rl5 := c4.frL (c3.frL (c2.frL (rl.ext ex) f3) f4) f5
        have pk := put_ok (k := kk) ek rl5 ry
        refine ⟨us, kk, rfl, d5, szl (by have := List.length_drop (i := i) (l := items); omega), _, _, putK us kk u, s5, ?_, ?_, upd_same, pk.1, ?_, ?_, (fun p m => (c4.frP (c3.frP (c2.frP ((pp p m).ext ex) f3) f4) f5).to fun a o n e => offU _ _ a o n e), h6⟩
        · have c5 := c4.next f5 w5
          refine ⟨c5.sa, fun a z => ?_, ?_⟩
          · by_cases q : a = D
            · rw [q, upd_same]; intro z; cases z
            · rw [upd_ne q]; exact c5.lv a z
          · exact W.stabU w5 fun p => nD (c.sa D p)
        · intro a o n e
          have ne : a ≠ D := fun z => by rw [z, hD] at e; cases e
          rw [upd_ne ne]
          exact f5 a o n (f4 a o n (f13 a o n e))
        · exact pk.2.to fun a o n e => offU _ _ a o n e
        · exact Nat.le_trans putK_len (Nat.succ_le_succ la)
    · rintro H' ⟨ks, acc, us, s', c', f', hD', ek, rl, la, _, hp⟩
      rw [List.drop_length] at hp
      have D0 : H D = none := back w1 f1 hD
      refine k _ H' (.dct ks acc) s' ⟨D, us, rfl, nD, .inl hD', ek, rl.less fun a z => by rw [hA1]; exact .inl z⟩ (fun _ => ⟨D, rfl, D0, us, hD', ek, ?_⟩) (f1.trans f') c'.rel hp
      rw [hA1] at rl
      exact rl⟩
end
end Pv
end

section -- PvJ
set_option linter.all false
set_option maxRecDepth 100000
set_option maxHeartbeats 4000000
/-! PvJ: the items of a dict, held while they are walked. -/
namespace Pv
open PySem PySem.Spec L2 Pk Evl
open PyProof.Rows hiding St
/-- what may leave while something is held -/
def unlE (NF : Addr → Prop) (E : XK) : XK := fun c d H => E c d H ∨ ∃ q od u, H q = some (.frz od u) ∧ Mut (some u) ∧ NF q ∧ E c d (upd H q u)
def nfOf (X : Cx) : Addr → Prop := fun q => ∀ o' u', X.H_0 q ≠ some (.frz o' u')
theorem takes_unl {X : Cx} {E : XK} (t : Takes X (fun c d _ H => E c d H)) : Takes X (fun c d _ H => unlE (nfOf X) E c d H) := fun u s' h => by
  obtain ⟨a, B, sI, pins, σ, H, cls, d, e, I, nb, up, sky, na, os, ag, w⟩ := h
  rcases w with w | ⟨q, od, v, hq, mu, nf, w⟩
  · exact t u s' ⟨a, B, sI, pins, σ, H, cls, d, e, I, nb, up, sky, na, os, ag, w⟩
  · have ne : a ≠ q := fun z => by rw [z, hq] at na; cases na
    exact t u s' ⟨a, B, sI, pins, σ, _, cls, d, e, I.unlock hq nf, nb, up, sky, by rw [upd_ne ne]; exact na, os, ag, w⟩
def tLk (NF : Addr → Prop) (t : TS) : TS := fun D σ H => t D σ H ∨ ∃ d u, H d = some u ∧ Mut (some u) ∧ (NF d → ∀ od, t ⟨fun σ' H' => H' d = some (.frz od u) ∧ D.nx σ' (upd H' d u), fun v H' => H' d = some (.frz od u) ∧ D.rt v (upd H' d u), fun σ' H' => H' d = some (.frz od u) ∧ D.bk σ' (upd H' d u), fun σ' H' => H' d = some (.frz od u) ∧ D.ct σ' (upd H' d u)⟩ σ (upd H d (.frz od u)))
def tLkE (NF : Addr → Prop) (t : TE) : TE := fun σ H Q => t σ H Q ∨ ∃ d u, H d = some u ∧ Mut (some u) ∧ (NF d → ∀ od, t σ (upd H d (.frz od u)) fun v H' => H' d = some (.frz od u) ∧ Q v (upd H' d u))
theorem ps_lk {X : Cx} {st : Stmt} {t : TS} (h : PS X st t) : PS X st (tLk (nfOf X) t) := ⟨fun pins s σ H D I w => by
  rcases w with w | ⟨d, u, hd, mu, w⟩
  · exact h.run pins s σ H D I w
  · exact (ps_lock h).run pins s σ H D I ⟨d, u, hd, mu, w (I.nofrz hd mu)⟩⟩
theorem pe_lk {X : Cx} {e : Expr} {t : TE} (h : PE X e t) : PE X e (tLkE (nfOf X) t) := ⟨fun pins s σ H Q I w => by
  rcases w with w | ⟨d, u, hd, mu, w⟩
  · exact h.run pins s σ H Q I w
  · exact (pe_lock h).run pins s σ H Q I ⟨d, u, hd, mu, w (I.nofrz hd mu)⟩⟩
/-! ### held, no longer held -/
theorem sm_hold {H : Hp} {a : Addr} {od : Obj} {ws : List (Key × V)} (h : H a = some (.dK ws)) {A : Addr → Prop} : ∀ b o, ¬ A b → H b = some o → ¬ A b ∧ Sm o ((upd H a (.frz od (.dK ws))) b) := fun b o n e => ⟨n, by
  by_cases c : b = a
  · subst c
    rw [h] at e
    cases e
    exact .inr ⟨ws, .inl rfl, .inr ⟨od, upd_same⟩⟩
  · exact .inl (by rw [upd_ne c]; exact e)⟩
theorem sm_free {H : Hp} {a : Addr} {od : Obj} {ws : List (Key × V)} (h : H a = some (.frz od (.dK ws))) {A : Addr → Prop} : ∀ b o, ¬ A b → H b = some o → ¬ A b ∧ Sm o ((upd H a (.dK ws)) b) := fun b o n e => ⟨n, by
  by_cases c : b = a
  · subst c
    rw [h] at e
    cases e
    exact .inr ⟨ws, .inr ⟨od, rfl⟩, .inl upd_same⟩
  · exact .inl (by rw [upd_ne c]; exact e)⟩
theorem own_toZ {A A' : Addr → Prop} {H H' : Hp} {x : PV} {a : Addr} (r : OwnAt A H x a) (h0 : ∀ o, H a = some o → H' a = some o) (h : ∀ a o, ¬ A a → H a = some o → ¬ A' a ∧ Sm o (H' a)) : OwnAt A' H' x a := by
  cases x <;> try exact r
  · obtain ⟨vs, e, q⟩ := r
    exact ⟨vs, h0 _ e, q.toZ h⟩
  · obtain ⟨ws, e, k, q⟩ := r
    exact ⟨ws, h0 _ e, k, q.toZ h⟩
  · obtain ⟨dx, ws, e, k, q⟩ := r
    exact ⟨dx, ws, h0 _ e, k, q.toZ h⟩
theorem Pin.ok.toZ {A A' : Addr → Prop} {H H' : Hp} (h : ∀ a o, ¬ A a → H a = some o → ¬ A' a ∧ Sm o (H' a)) (hf : ∀ d o ws, ¬ A d → H d = some (.frz o (.dK ws)) → H' d = some (.frz o (.dK ws))) : ∀ {p : Pin}, Pin.ok A H p → Pin.ok A' H' p
  | .rd _ _, r => Rd.toZ h r
  | .hl d _ _, r => ⟨(h d _ r.1 r.2).1, hf d _ _ r.1 r.2⟩
/-! ### items -/
def keyV : Key → PV
  | .inl i => .int i
  | .inr z => .str z
theorem rd_key {A : Addr → Prop} {H : Hp} : ∀ k : Key, Rd A H (keyV k) (kV k)
  | .inl _ => rfl
  | .inr _ => rfl
def itemsP (ks : List Key) (xs : List PV) : List PV := zipP (ks.map keyV) xs
section
variable {S : Type} {W : Wd S} {E : XK}
def frozen (i : Nat) (σ : L2.St) (H : Hp) : Prop := ∃ a o u, σ[i]? = some (some (.ref a)) ∧ H a = some (.frz o u)
def iItF (i : Nat) : TI := fun σ H R => frozen i σ H → iItems (tVar i) σ H R
def fItems (i : Nat) : FI S := fun ρ s F _ => match ρ[i]? with | some (.val x) => asD x fun ks xs => F (itemsP ks xs) s | _ => False
instance ai_itF {i : Nat} : AI W E (iItF i) (fItems i) := ⟨fun {A σ H ρ s F X R} c r0 x h k fr => by
  unfold fItems at h
  split at h
  · rename_i y e
    obtain ⟨ks, xs, rfl, h2⟩ := asD_ok h
    obtain ⟨v, ev, rv⟩ := r0.val i _ e
    obtain ⟨a, ws, rfl, na, ha, ek, rl⟩ := id rv
    obtain ⟨a', o, u, e2, hz⟩ := fr
    rw [ev] at e2
    cases e2
    have hz2 : H a = some (.frz o (.dK ws)) := by
      rcases ha with ha | ⟨o', ha⟩
      · rw [ha] at hz; cases hz
      · rw [ha] at hz; cases hz; exact ha
    have len : (itemsP ks xs).length = ws.length := by
      unfold itemsP zipP
      rw [List.length_map, List.length_zip, List.length_map, ← ek, List.length_map, rl.len, List.length_map, Nat.min_self]
    refine ⟨_, ev, a, o, ws, rfl, hz2, k _ H _ s [Pin.rd (.dct ks xs) (.ref a), Pin.hl a o ws] _ _ (by rw [len]; exact walk_items) (fun p m => ?_) (fun A2 H2 q => ?_) (fun A2 j H2 v H3 hi lv q y => ?_) Fr.refl c.rel h2⟩
    · rcases List.mem_cons.mp m with rfl | m
      · exact rv
      · rw [List.mem_singleton.mp m]; exact ⟨na, hz2⟩
    · exact (q (Pin.hl a o ws) (List.mem_cons_of_mem _ (List.mem_singleton.mpr rfl))).2
    · have q1 := q (Pin.rd (.dct ks xs) (.ref a)) List.mem_cons_self
      have q2 := (q (Pin.hl a o ws) (List.mem_cons_of_mem _ (List.mem_singleton.mpr rfl))).2
      obtain ⟨b, ws', eb, nb, hb, ek', rl'⟩ := q1
      cases eb
      obtain rfl : ws' = ws := by
        rcases hb with hb | ⟨o', hb⟩
        · rw [q2] at hb; cases hb
        · rw [q2] at hb; cases hb; rfl
      obtain ⟨T, u1, u2, rfl, hT, e3, g1, g2⟩ := y
      have g1' : (ws'[j]?).map (fun kv => kV kv.1) = some u1 := g1
      have g2' : (ws'[j]?).map Prod.snd = some u2 := g2
      cases ez : ws'[j]? with
      | none => rw [ez] at g1'; cases g1'
      | some kv =>
        rw [ez] at g1' g2'
        cases g1'
        cases g2'
        have ex2 : (ws'.map (·.2))[j]? = some kv.2 := by rw [List.getElem?_map, ez]; rfl
        obtain ⟨x2, f2, q3⟩ := rl'.get ex2
        obtain ⟨ex, rt⟩ := pair_rd (x := keyV kv.1) lv hT e3 (rd_key kv.1) q3
        refine ⟨ex, _, ?_, rt⟩
        have e1 : (ks.map keyV)[j]? = some (keyV kv.1) := by rw [← ek', List.map_map, List.getElem?_map, ez]; rfl
        unfold itemsP zipP
        rw [List.getElem?_map, show ((ks.map keyV).zip xs)[j]? = some (keyV kv.1, x2) from List.getElem?_zip_eq_some.mpr ⟨e1, f2⟩]
        rfl
  · exact h.elim⟩
/-! ### expressions -/
def strip : En → En := List.map fun | .own _ => .no | y => y
theorem strip_val {ρ : En} {i : Nat} {x : PV} (h : (strip ρ)[i]? = some (.val x)) : ρ[i]? = some (.val x) := by
  unfold strip at h
  rw [List.getElem?_map] at h
  cases q : ρ[i]? with
  | none => rw [q] at h; cases h
  | some y =>
    rw [q] at h
    cases y <;> simp at h
    rw [h]
theorem strip_own {ρ : En} {i : Nat} {x : PV} (h : (strip ρ)[i]? = some (.own x)) : False := by
  unfold strip at h
  rw [List.getElem?_map] at h
  cases q : ρ[i]? with
  | none => rw [q] at h; cases h
  | some y =>
    rw [q] at h
    cases y <;> simp at h
def fLkE (i : Nat) (f : FE S) : FE S := fun ρ s F X => (∃ ks xs, ρ[i]? = some (.val (.dct ks xs))) ∧ f (strip ρ) s F X
theorem lkE_run {NF : Addr → Prop} {i : Nat} {te tF : TE} {f : FE S} {b : Bool} [ie : AE W (unlE NF E) tF f b] (hF : ∀ σ H Q, frozen i σ H → tF σ H Q → te σ H Q) : AE W E (tLkE NF te) (fLkE i f) b := ⟨fun {A σ H ρ s F X Q} c r0 x h k => by
  obtain ⟨⟨ks, xs, e⟩, h2⟩ := h
  obtain ⟨v, ev, rv⟩ := r0.val i _ e
  obtain ⟨a, ws, rfl, na, ha, ek, rl⟩ := id rv
  have nsp : ¬ W.sp a := fun z => na (c.sa a z)
  rcases ha with ha | ⟨o, ha⟩
  · refine .inr ⟨a, _, ha, trivial, fun nf od => ?_⟩
    obtain ⟨H', hH⟩ : ∃ H', H' = upd H a (.frz od (.dK ws)) := ⟨_, rfl⟩
    rw [← hH]
    have ha' : H' a = some (.frz od (.dK ws)) := by rw [hH]; exact upd_same
    have up : ∀ b o, ¬ A b → H b = some o → ¬ A b ∧ Sm o (H' b) := by rw [hH]; exact sm_hold ha
    have same : ∀ {b : Addr}, b ≠ a → H' b = H b := fun n => by rw [hH, upd_ne n]
    have c' : Ct W A H' s := ⟨c.sa, fun b hb z => by
      have n : b ≠ a := fun q => by rw [q, ha'] at z; cases z
      rw [same n] at z
      exact c.lv b hb z, by rw [hH]; exact W.stabU c.rel nsp⟩
    have r' : VR W A H' σ (strip ρ) := ⟨by unfold strip; rw [List.length_map]; exact r0.len, fun j y hy => by
      obtain ⟨u, eu, ru⟩ := r0.val j y (strip_val hy)
      exact ⟨u, eu, ru.toZ up⟩, fun j y hy => (strip_own hy).elim⟩
    have dn : ∀ {H2 : Hp}, Fr W.pf H' H2 → H2 a = some (.frz od (.dK ws)) := fun f => f a _ (fun p => nsp (W.ps p)) ha'
    have frd : ∀ {H2 : Hp}, Fr W.pf H' H2 → Fr W.pf H (upd H2 a (.dK ws)) := fun f b o p hb => by
      by_cases n : b = a
      · subst n; rw [upd_same]; rw [ha] at hb; exact hb
      · rw [upd_ne n]; exact f b o p (by rw [same n]; exact hb)
    have x' : XL W A H' (unlE NF E) X := fun C d ns ys ys' H2 s2 h1 h2 h3 h4 h5 h6 => by
      have h7 := dn h4
      have nd : d ≠ a := fun z => by rw [z, h7] at h1; cases h1
      exact .inr ⟨a, od, _, h7, trivial, nf, x C d ns ys ys' _ s2 (by rw [upd_ne nd]; exact h1) h2 (h3.toZ (sm_free h7)) (frd h4) (W.stabU h5 nsp) h6⟩
    refine hF _ _ _ ⟨a, od, _, ev, ha'⟩ (ie.run c' r' x' h2 fun v H2 y s' ry ny f' w' h' => ⟨dn f', k v _ y s' (ry.toZ (sm_free (dn f'))) (fun hb => ?_) (frd f') (W.stabU w' nsp) h'⟩)
    obtain ⟨q, rfl, hq, oq⟩ := ny hb
    have nq : q ≠ a := fun z => by rw [z, ha'] at hq; cases hq
    exact ⟨q, rfl, by rw [← same nq]; exact hq, own_toZ oq (fun o eo => by rw [upd_ne nq]; exact eo) (sm_free (dn f'))⟩
  · refine .inl (hF _ _ _ ⟨a, o, _, ev, ha⟩ (ie.run c ⟨by unfold strip; rw [List.length_map]; exact r0.len, fun j y hy => r0.val j y (strip_val hy), fun j y hy => (strip_own hy).elim⟩ (fun C d ns ys ys' H2 s2 h1 h2 h3 h4 h5 h6 => .inl (x C d ns ys ys' H2 s2 h1 h2 h3 h4 h5 h6)) h2 k))⟩
instance ae_lkLc {NF : Addr → Prop} {i : Nat} {g : TG} {tt : TT} {te : TE} {vs : List Nat} {bg : PV → En → (En → Prop) → Prop} {ft : FT S} {fe : FE S} {js : List Nat} {b : Bool} [ig : AG W g js bg] [it : AT W (unlE NF E) tt ft] [ie : AE W (unlE NF E) te fe b] :
    AE W E (tLkE NF (tLc (iItems (tVar i)) g tt te vs)) (fLkE i (fLc js (fItems i) bg ft fe vs)) true := lkE_run (tF := tLc (iItF i) g tt te vs) fun σ H Q fr h => h fr
instance ae_lkDc {NF : Addr → Prop} {i : Nat} {g : TG} {tt : TT} {tk te : TE} {vs : List Nat} {bg : PV → En → (En → Prop) → Prop} {ft : FT S} {fk fe : FE S} {js : List Nat} {b b' : Bool} [ig : AG W g js bg] [it : AT W (unlE NF E) tt ft] [ik : AE W (unlE NF E) tk fk b'] [ie : AE W (unlE NF E) te fe b] :
    AE W E (tLkE NF (tDc (iItems (tVar i)) g tt tk te vs)) (fLkE i (fDc js (fItems i) bg ft fk fe vs)) true := lkE_run (tF := tDc (iItF i) g tt tk te vs) fun σ H Q fr h => h fr
/-! ### statements -/
def fLkS (i : Nat) (f : FS S) : FS S := fun ρ s G => (∃ ks xs, ρ[i]? = some (.sh (.dct ks xs))) ∧ f ρ s G
theorem lkS_run {NF : Addr → Prop} {i : Nat} {ts tF : TS} {f : FS S} [ie : AS W (unlE NF E) tF f] (hF : ∀ D σ H, frozen i σ H → tF D σ H → ts D σ H) : AS W E (tLk NF ts) (fLkS i f) := ⟨fun {A0 H0 ps H σ ρ s D G} r x h k => by
  obtain ⟨⟨ks, xs, e⟩, h2⟩ := h
  obtain ⟨v, ev, rv⟩ := r.sh i _ e
  obtain ⟨a, ws, rfl, na, ha, ek, rl⟩ := id rv
  have na0 : ¬ A0 a := fun z => na (.inl z)
  have nsp : ¬ W.sp a := fun z => na0 (r.sa a z)
  have npf : ¬ W.pf a := fun p => nsp (W.ps p)
  rcases ha with ha | ⟨o, ha⟩
  · refine .inr ⟨a, _, ha, trivial, fun nf od => ?_⟩
    obtain ⟨H', hH⟩ : ∃ H', H' = upd H a (.frz od (.dK ws)) := ⟨_, rfl⟩
    obtain ⟨B, hB⟩ : ∃ B, B = upd H0 a (.frz od (.dK ws)) := ⟨_, rfl⟩
    rw [← hH]
    have ha' : H' a = some (.frz od (.dK ws)) := by rw [hH]; exact upd_same
    have hb' : B a = some (.frz od (.dK ws)) := by rw [hB]; exact upd_same
    have up : ∀ {A : Addr → Prop}, ∀ b o, ¬ A b → H b = some o → ¬ A b ∧ Sm o (H' b) := by rw [hH]; exact sm_hold ha
    have same : ∀ {b : Addr}, b ≠ a → H' b = H b := fun n => by rw [hH, upd_ne n]
    have sameB : ∀ {b : Addr}, b ≠ a → B b = H0 b := fun n => by rw [hB, upd_ne n]
    have offB : ∀ {b : Addr}, B b = none → b ≠ a := fun q z => by rw [z, hb'] at q; cases q
    have dn : ∀ {H2 : Hp}, Fr W.pf B H2 → H2 a = some (.frz od (.dK ws)) := fun f => f a _ npf hb'
    have frd : ∀ {H2 : Hp}, Fr W.pf B H2 → Fr W.pf H0 (upd H2 a (.dK ws)) := fun f b o p hb => by
      by_cases n : b = a
      · subst n
        have z := r.fr b o p hb
        rw [ha] at z
        rw [upd_same]; exact z
      · rw [upd_ne n]; exact f b o p (by rw [sameB n]; exact hb)
    have own_ne : ∀ {i : Nat} {b : Addr} {y : PV}, ρ[i]? = some (.own b y) → b ≠ a := fun {i b y} hi z => na (.inr ⟨i, y, by rw [← z]; exact hi, by rw [← z]; exact (r.ow i b y hi).1⟩)
    have r' : RS W A0 B ps H' σ ρ s := ⟨r.sa, fun b hb z => r.lv b hb (by rw [← sameB (offB z)]; exact z), fun b o p hb => by
      by_cases n : b = a
      · subst n; rw [hb'] at hb; rw [ha']; exact hb
      · rw [same n]; rw [sameB n] at hb; exact r.fr b o p hb, by rw [hH]; exact W.stabU r.rel nsp, r.len, fun j y hy => by
      obtain ⟨u, eu, ru⟩ := r.sh j y hy
      exact ⟨u, eu, ru.toZ up⟩, fun j b y hy => by
      obtain ⟨eb, nb, ob⟩ := r.ow j b y hy
      have n := own_ne hy
      exact ⟨eb, by rw [sameB n]; exact nb, own_toZ ob (fun o z => by rw [same n]; exact z) up⟩, r.dj, fun p m => (r.pin p m).toZ up fun d o w nd hd => by
      have n : d ≠ a := fun z => by rw [z, ha] at hd; cases hd
      rw [same n]; exact hd⟩
    have x' : XL W A0 B (unlE NF E) G.ex := fun C d ns ys ys' H2 s2 h1 h2 h3 h4 h5 h6 => by
      have h7 := dn h4
      have nd : d ≠ a := fun z => by rw [z, h7] at h1; cases h1
      exact .inr ⟨a, od, _, h7, trivial, nf, x C d ns ys ys' _ s2 (by rw [upd_ne nd]; exact h1) h2 (h3.toZ (sm_free h7)) (frd h4) (W.stabU h5 nsp) h6⟩
    have back : ∀ {σ' : L2.St} {H2 : Hp} {ρ' : SEn} {s' : S}, RS W A0 B ps H2 σ' ρ' s' → H2 a = some (.frz od (.dK ws)) ∧ RS W A0 H0 ps (upd H2 a (.dK ws)) σ' ρ' s' := fun {σ' H2 ρ' s'} q => by
      have h7 := dn q.fr
      have n0 : ∀ {i : Nat} {b : Addr} {y : PV}, ρ'[i]? = some (.own b y) → b ≠ a := fun {i b y} hi => offB (q.ow i b y hi).2.1
      refine ⟨h7, q.sa, r.lv, frd q.fr, W.stabU q.rel nsp, q.len, fun j y hy => ?_, fun j b y hy => ?_, q.dj, fun p m => ?_⟩
      · obtain ⟨u, eu, ru⟩ := q.sh j y hy
        exact ⟨u, eu, ru.toZ (sm_free h7)⟩
      · obtain ⟨eb, nb, ob⟩ := q.ow j b y hy
        have n := n0 hy
        exact ⟨eb, by rw [← sameB n]; exact nb, own_toZ ob (fun o z => by rw [upd_ne n]; exact z) (sm_free h7)⟩
      · have old := r.pin p m
        have new := q.pin p m
        match p, old, new with
        | .rd _ _, _, new => exact Rd.toZ (sm_free h7) new
        | .hl d o w, old, new =>
          have n : d ≠ a := fun z => by
            have z2 := old.2
            rw [z, ha] at z2; cases z2
          exact ⟨new.1, by rw [upd_ne n]; exact new.2⟩
    refine hF _ _ _ ⟨a, od, _, ev, ha'⟩ (ie.run r' x' h2 ⟨fun σ' H2 ρ' s' q h' => ⟨(back q).1, k.nx _ _ _ _ (back q).2 h'⟩, fun σ' H2 ρ' s' q h' => ⟨(back q).1, k.bk _ _ _ _ (back q).2 h'⟩, fun σ' H2 ρ' s' q h' => ⟨(back q).1, k.ct _ _ _ _ (back q).2 h'⟩, fun v H2 y s' ry f' w' h' => ⟨dn f', k.rt v _ y s' (ry.toZ (sm_free (dn f'))) (frd f') (W.stabU w' nsp) h'⟩⟩)
  · exact .inl (hF _ _ _ ⟨a, o, _, ev, ha⟩ (ie.run r (fun C d ns ys ys' H2 s2 h1 h2 h3 h4 h5 h6 => .inl (x C d ns ys ys' H2 s2 h1 h2 h3 h4 h5 h6)) h2 k))⟩
instance as_lkFor {NF : Addr → Prop} {i : Nat} {g : TG} {tb : TS} {bg} {fb : FS S} [ig : AGS W g bg] [ib : AS W (unlE NF E) tb fb] : AS W E (tLk NF (tFor (iItems (tVar i)) g tb)) (fLkS i (fFor (fItems i) bg fb)) := lkS_run (tF := tFor (iItF i) g tb) fun D σ H fr h => h fr
end
end Pv
end

section -- PvK
set_option linter.all false
set_option maxRecDepth 100000
set_option maxHeartbeats 4000000
/-! PvK: fields stored, instances made, names of a class, == of data. -/
namespace Pv
open PySem PySem.Spec L2 Pk Evl
open PyProof.Rows hiding St
section
variable {S : Type} {W : Wd S} {A A0 : Addr → Prop} {H0 H H' : Hp} {ps : Pins} {σ : L2.St} {ρ : SEn} {s s' : S} {E : XK}
/-! ### self.f = e -/
def putN (f : Str) : List Str → List Str
  | [] => [f]
  | g :: r => if g = f then g :: r else g :: putN f r
def putX (f : Str) (x : PV) : List Str → List PV → List PV
  | [], _ => [x]
  | g :: r, y :: ys => if g = f then x :: ys else y :: putX f x r ys
  | _ :: _, [] => []
theorem putF_ok {f : Str} {x : PV} {v : V} (h : Rd A H x v) : ∀ {ws : List (Str × V)} {xs : List PV}, RdL A H xs (ws.map (·.2)) → (putF f v ws).map (·.1) = putN f (ws.map (·.1)) ∧ RdL A H (putX f x (ws.map (·.1)) xs) ((putF f v ws).map (·.2))
  | [], xs, r => by
    cases xs with
    | nil => exact ⟨rfl, RdL.cons h RdL.nil⟩
    | cons _ _ => obtain ⟨_, _, e, _⟩ := r; cases e
  | w :: ws, [], r => by cases r
  | (g, w) :: ws, y :: xs, ⟨u, us, e, r1, r2⟩ => by
    have e' : w :: ws.map (·.2) = u :: us := e
    obtain ⟨rfl, rfl⟩ := List.cons.inj e'
    have ih := putF_ok (f := f) h r2
    rw [List.map_cons]
    show (putF f v ((g, w) :: ws)).map (·.1) = putN f (g :: ws.map (·.1)) ∧ RdL A H (putX f x (g :: ws.map (·.1)) (y :: xs)) ((putF f v ((g, w) :: ws)).map (·.2))
    unfold putF putN putX
    by_cases c : g = f
    · rw [if_pos c, if_pos c, if_pos c]
      exact ⟨rfl, RdL.cons h r2⟩
    · rw [if_neg c, if_neg c, if_neg c]
      exact ⟨by rw [List.map_cons, ih.1], RdL.cons r1 ih.2⟩
def fSet (K : PySem.W.Frag) (i : Nat) (f : Str) (fe : FE S) : FS S := fun ρ s G => match ρ[i]? with
  | some (.own a (.ins C ns xs)) => Cls K C ∧ NoAttr K C f ∧ ns.length < 1000 ∧ fPut fe ρ s G.ex fun x s1 => G.nx (ρ.set i (.own a (.ins C (putN f ns) (putX f x ns xs)))) s1
  | _ => False
instance as_fld {K : PySem.W.Frag} {i : Nat} {f : Str} {te : TE} {fe : FE S} {b : Bool} [ie : AE W E te fe b] : AS W E (sFld K (tVar i) te f) (fSet K i f fe) := ⟨fun {A0 H0 ps H σ ρ s D G} r x h k => by
  unfold fSet at h
  split at h
  · rename_i a C ns xs e
    obtain ⟨hc, hn, hl, h1⟩ := h
    refine fPut_run r x h1 fun v H' y s' r' f' ry h' => ?_
    obtain ⟨ea, n0, dx, ws, ha, ek, rl⟩ := r'.ow i _ _ e
    subst ek
    have pk := putF_ok (f := f) ry rl
    have off : ∀ b u, ¬ AO_ A0 σ ρ b → H' b = some u → ¬ AO_ A0 σ ρ b ∧ (upd H' a (.ins C dx (putF f v ws))) b = some u := fun b u nb q => ⟨nb, by
      have ne : b ≠ a := fun z => nb (by rw [z]; exact .inr ⟨i, _, e, ea⟩)
      rw [upd_ne ne]
      exact q⟩
    have o1 : OwnAt (AO_ A0 σ ρ) (upd H' a (.ins C dx (putF f v ws))) (.ins C (putN f (ws.map (·.1))) (putX f y (ws.map (·.1)) xs)) a := ⟨dx, _, upd_same, pk.1, pk.2.to off⟩
    exact ⟨_, ea, a, C, dx, ws, rfl, ha, hc, hn, by rw [List.length_map] at hl; exact hl, k.nx _ _ _ _ (r'.mutO e ea o1) h'⟩
  · exact h.elim⟩
/-! ### an instance made -/
abbrev FI_ (S : Type) := List PV → S → (List Str → List PV → S → Prop) → XF S → Prop
/-- what an __init__ promises: n parameters behind self -/
def spI (W : Wd S) (C : Addr) (n : Nat) (pre : FI_ S) : Sp := fun vs H Q E => ∃ (x dx : Addr) (ws : List V) (B : Hp), vs = .ref x :: ws ∧ H = upd (upd B dx (.own x)) x (.ins C dx []) ∧ B x = none ∧ B dx = none ∧ dx ≠ x ∧ ws.length = n ∧
  ∃ (A : Addr → Prop) (xs : List PV) (s : S) (F : List Str → List PV → S → Prop) (X : XF S), Ct W A B s ∧ RdL A B xs ws ∧ XL W A B E X ∧ pre xs s F X ∧
    ∀ H' ns ys s', OwnAt (fun b => A b ∨ b = x) H' (.ins C ns ys) x → Fr W.pf B H' → W.rel H' s' → F ns ys s' → Q .non H'
def initI (N : List Str) (C x : Addr) (xs : List PV) : SEn := SL.own x (.ins C [] []) :: (xs.map SL.sh ++ List.replicate (N.length - (xs.length + 1)) SL.no)
def endsI (x C : Addr) (F : List Str → List PV → S → Prop) (X : XF S) : DD S := ⟨fun ρ s => ∃ ns ys, ρ[0]? = some (.own x (.ins C ns ys)) ∧ F ns ys s, fun _ _ => False, fun _ _ => False, fun _ _ => False, X⟩
theorem initI_own {N : List Str} {C x a : Addr} {xs : List PV} {i : Nat} {y : PV} (h : (initI N C x xs)[i]? = some (.own a y)) : i = 0 ∧ a = x ∧ y = .ins C [] [] := by
  cases i with
  | zero =>
    unfold initI at h
    rw [List.getElem?_cons_zero] at h
    cases h
    exact ⟨rfl, rfl, rfl⟩
  | succ i =>
    unfold initI at h
    rw [List.getElem?_cons_succ] at h
    by_cases c : i < (xs.map SL.sh).length
    · rw [List.getElem?_append_left c, List.getElem?_map] at h
      cases q : xs[i]? with
      | none => rw [q] at h; cases h
      | some y => rw [q] at h; cases h
    · rw [List.getElem?_append_right (by omega), List.getElem?_replicate] at h
      split at h <;> cases h
theorem init_run {t : TS} {fs : FS S} [AS W E t fs] {C : Addr} {n : Nat} {pre : FI_ S} {vs : List V} {Q : VK} {N : List Str} (h : spI W C n pre vs H Q E) (hp : ∀ x xs s F X, xs.length = n → pre xs s F X → fs (initI N C x xs) s (endsI x C F X)) :
    t { nx := fun _ G => Q .non G, rt := Q } (L2.start N vs) H := by
  obtain ⟨x, dx, ws, B, rfl, rfl, hx, hd, ne, hl, A, xs, s, F, X, c, r, xl, q, k⟩ := h
  have ax : ∀ b, AO_ A (L2.start N (.ref x :: ws)) (initI N C x xs) b → A b ∨ b = x := fun b z => by
    rcases z with z | ⟨i, y, h1, _⟩
    · exact .inl z
    · exact .inr (initI_own h1).2.1
  have s0 : (L2.start N (.ref x :: ws))[0]? = some (some (.ref x)) := rfl
  have ex : Ex B (upd (upd B dx (.own x)) x (.ins C dx [])) := fun a o e => by
    have n1 : a ≠ x := fun z => by rw [z, hx] at e; cases e
    have n2 : a ≠ dx := fun z => by rw [z, hd] at e; cases e
    rw [upd_ne n1, upd_ne n2]; exact e
  have lr := r.len
  refine AS.run (W := W) (E := E) (ts := t) (A0 := A) (H0 := B) (ps := []) (ρ := initI N C x xs) (s := s) ⟨c.sa, c.lv, Fr.of ex, W.stab c.rel ex, ?_, fun i y hy => ?_, fun i a y hy => ?_, fun i j y z a h1 h2 _ _ => ?_, fun p m => nomatch m⟩ xl (hp x xs s F X (by rw [r.len]; exact hl) q) ⟨fun σ' H' ρ' s' r' h' => ?_, fun _ _ _ _ _ h' => h'.elim, fun _ _ _ _ _ h' => h'.elim, fun _ _ _ _ _ _ _ h' => h'.elim⟩
  · unfold L2.start initI
    rw [List.length_cons, List.length_append, List.length_append, List.length_map, List.length_map, List.length_replicate, List.length_replicate, List.length_cons, lr]
    omega
  · cases i with
    | zero => unfold initI at hy; rw [List.getElem?_cons_zero] at hy; cases hy
    | succ i =>
      unfold initI at hy
      rw [List.getElem?_cons_succ] at hy
      have hi : i < (xs.map SL.sh).length := by
        by_cases c : i < (xs.map SL.sh).length
        · exact c
        · rw [List.getElem?_append_right (by omega), List.getElem?_replicate] at hy
          split at hy <;> cases hy
      rw [List.getElem?_append_left hi, List.getElem?_map] at hy
      cases z : xs[i]? with
      | none => rw [z] at hy; cases hy
      | some y' =>
        rw [z] at hy
        cases hy
        obtain ⟨v, hv, rv⟩ := r.get' z
        refine ⟨v, ?_, rv.to fun a o n e => ⟨fun z => ?_, ex a o e⟩⟩
        · unfold L2.start
          have li : i + 1 < ((V.ref x :: ws).map some).length := by rw [List.length_map, List.length_cons]; exact Nat.succ_lt_succ (List.getElem?_eq_some_iff.mp hv).1
          rw [List.getElem?_append_left li, List.getElem?_map, List.getElem?_cons_succ, hv]
          rfl
        · rcases ax a z with z | z
          · exact n z
          · rw [z, hx] at e; cases e
  · obtain ⟨rfl, rfl, rfl⟩ := initI_own hy
    exact ⟨s0, hx, dx, [], upd_same, rfl, rfl⟩
  · exact (initI_own h1).1.trans (initI_own h2).1.symm
  · obtain ⟨ns, ys, e0, h2⟩ := h'
    obtain ⟨ea, _, o⟩ := r'.ow 0 x _ e0
    exact k H' ns ys s' (o.to (fun _ z => z) fun a u n e => ⟨fun z => n (z.elim .inl fun z => by subst z; exact .inr ⟨0, _, e0, ea⟩), e⟩) r'.fr r'.rel h2
/-- C(e, ..) -/
def fMake (C : Addr) (n : Nat) (pre : FI_ S) (ds : List PV) (fa : FA S) : FE S := fun ρ s F X => fa ρ s (fun xs s1 => (xs ++ ds).length = n ∧ pre (xs ++ ds) s1 (fun ns ys s2 => F (.ins C ns ys) s2) X) X
instance ae_make {C : Addr} {n : Nat} {pre : FI_ S} {dvs : List V} {ta : TA} {fa : FA S} {E' : XK} [ia : AA W E ta fa] [ee : EE E fun _ => E'] :
    AE W E (tCS (fun _ vs H Q => ∀ x dx, H x = none → H dx = none → dx ≠ x → spI W C n pre (.ref x :: (vs ++ dvs)) (upd (upd H dx (.own x)) x (.ins C dx [])) (fun v H2 => v = .non ∧ Q (.ref x) H2) E') ta) (fMake C n pre (dvs.map toPV) fa) true := ⟨fun {A σ H ρ s F X Q} c r0 x h k =>
  ia.run c r0 x h fun vs H1 xs s1 rv f1 w1 h1 => fun p dp hp hdp ne => by
    have ra : RdL A H1 (xs ++ dvs.map toPV) (vs ++ dvs) := rv.app (rdl_to dvs)
    refine ⟨p, dp, vs ++ dvs, H1, rfl, rfl, hp, hdp, ne, by rw [← ra.len]; exact h1.1, A, _, s1, _, X, c.next f1 w1, ra, fun C d ns ys ws H2 s2 a b g f w q => ee.ok σ _ _ _ (x C d ns ys ws H2 s2 a b g (f1.trans f) w q), h1.2, fun H2 ns ys s2 o f2 w2 h2 => ⟨rfl, ?_⟩⟩
    have np : ¬ A p := (c.next f1 w1).new hp
    refine k _ H2 (.ins C ns ys) s2 ?_ (fun _ => ⟨p, rfl, back w1 f1 hp, o⟩) (f1.trans f2) w2 h2
    obtain ⟨dx, ws, e1, e2, e3⟩ := o
    exact ⟨p, dx, ws, rfl, np, e1, e2, e3.less fun a z => .inl z⟩⟩
/-! ### names of a class -/
def fCVal (K : PySem.W.Frag) (f : Str) (fa : FE S) : FE S := fun ρ s F X => fa ρ s (fun x s1 => match x with | .adr C => ∃ mc v u, ClX.CRead K C mc ∧ ClX.CVal K C mc f v u ∧ F (toPV v) s1 | _ => False) X
instance ae_cval {K : PySem.W.Frag} {ta : TE} {fa : FE S} {b : Bool} {f : Str} [ia : AE W E ta fa b] : AE W E (ClX.tCVal K ta f) (fCVal K f fa) false := ⟨fun {A σ H ρ s F X Q} c r0 x h k =>
  ia.run c r0 x h fun u H1 p s1 rp _ f1 w1 h1 => by
    cases p <;> first | exact h1.elim | skip
    obtain ⟨mc, v, u2, q1, q2, q3⟩ := h1
    cases rp
    exact ⟨_, mc, v, u2, rfl, q1, q2, k v H1 _ s1 (rd_to v) (fun z => nomatch z) f1 w1 q3⟩⟩
end
/-! ### == of data -/
mutual
def pvD : PV → Option PyData
  | .non => some .none
  | .bl b => some (.bool b)
  | .int i => some (.int i)
  | .str z => some (.str z)
  | .lst xs => (pvDs xs).map .list
  | .tup xs => (pvDs xs).map .tuple
  | _ => none
def pvDs : List PV → Option (List PyData)
  | [] => some []
  | x :: xs => match pvD x, pvDs xs with | some d, some ds => some (d :: ds) | _, _ => none
end
section
variable {K : PySem.W.Frag} {A : Addr → Prop} {H : Hp}
mutual
theorem pvD_ok : ∀ {x : PV} {v : V} {d : PyData}, Rd A H x v → pvD x = some d → Dp K H v d
  | .non, v, d, r, h => by cases r; unfold pvD at h; cases h; exact .non
  | .bl b, v, d, r, h => by cases r; unfold pvD at h; cases h; exact .bl b
  | .int b, v, d, r, h => by cases r; unfold pvD at h; cases h; exact .int b
  | .str b, v, d, r, h => by cases r; unfold pvD at h; cases h; exact .str b
  | .ty _, v, d, r, h => by unfold pvD at h; cases h
  | .adr _, v, d, r, h => by unfold pvD at h; cases h
  | .oth _, v, d, r, h => by unfold pvD at h; cases h
  | .dct _ _, v, d, r, h => by unfold pvD at h; cases h
  | .ins _ _ _, v, d, r, h => by unfold pvD at h; cases h
  | .lst xs, v, d, r, h => by
    unfold pvD at h
    cases q : pvDs xs with
    | none => rw [q] at h; cases h
    | some ds =>
      rw [q] at h
      cases h
      obtain ⟨a, vs, rfl, _, ha, rl⟩ := r
      exact .lst (sq_of ha) (pvDs_ok rl q)
  | .tup xs, v, d, r, h => by
    unfold pvD at h
    cases q : pvDs xs with
    | none => rw [q] at h; cases h
    | some ds =>
      rw [q] at h
      cases h
      obtain ⟨a, vs, rfl, _, ha, rl⟩ := r
      exact .tup (st_of ha) (pvDs_ok rl q)
theorem pvDs_ok : ∀ {xs : List PV} {vs : List V} {ds : List PyData}, RdL A H xs vs → pvDs xs = some ds → DpAll K H vs ds
  | [], vs, ds, r, h => by cases r; unfold pvDs at h; cases h; exact .nil
  | x :: xs, vs, ds, ⟨v, ws, e, r1, r2⟩, h => by
    unfold pvDs at h
    cases q : pvD x with
    | none => rw [q] at h; cases h
    | some d =>
      cases q2 : pvDs xs with
      | none => rw [q, q2] at h; cases h
      | some es =>
        rw [q, q2] at h
        cases h
        subst e
        exact .cons (pvD_ok r1 q) (pvDs_ok r2 q2)
end
end
def gEqD (neg : Bool) : PV → PV → (PV → Prop) → Prop := fun x y F => pick (pvD x) fun d => pick (pvD y) fun e => SeqAt.shaped d = true ∧ SeqAt.shaped e = true ∧ F (.bl (if neg then !PyData.eqv d e else PyData.eqv d e))
instance ao_eqD {K : PySem.W.Frag} : AO (rEqD K) (gEqD false) false := ⟨fun l r1 r2 h k => by
  obtain ⟨d, e1, h1⟩ := pick_ok h
  obtain ⟨e, e2, s1, s2, h2⟩ := pick_ok h1
  exact ⟨d, e, pvD_ok r1 e1, pvD_ok r2 e2, s1, s2, k _ _ (.bl _) rfl (fun z => nomatch z) (Ex.refl _) h2⟩⟩
instance ao_neD {K : PySem.W.Frag} : AO (rNeD K) (gEqD true) false := ⟨fun l r1 r2 h k => by
  obtain ⟨d, e1, h1⟩ := pick_ok h
  obtain ⟨e, e2, s1, s2, h2⟩ := pick_ok h1
  exact ⟨d, e, pvD_ok r1 e1, pvD_ok r2 e2, s1, s2, k _ _ (.bl _) rfl (fun z => nomatch z) (Ex.refl _) h2⟩⟩
/-! ### list * number, dict(d), list(d) -/
def gRep : PV → PV → (PV → Prop) → Prop := fun x y F => asL x fun a => asI y fun n => (-(2 ^ 63) ≤ n ∧ n < 2 ^ 63) ∧ a.length * n.toNat ≤ 1000000 ∧ F (.lst (List.replicate n.toNat a).flatten)
theorem rdl_rep {A : Addr → Prop} {H : Hp} {xs : List PV} {vs : List V} (r : RdL A H xs vs) : ∀ n : Nat, RdL A H (List.replicate n xs).flatten (List.replicate n vs).flatten
  | 0 => rfl
  | n + 1 => by rw [List.replicate_succ, List.replicate_succ, List.flatten_cons, List.flatten_cons]; exact r.app (rdl_rep r n)
instance ao_rep : AO rRep gRep true := ⟨fun {A H x y u v F Q} l r1 r2 h k => by
  obtain ⟨a, rfl, h1⟩ := asL_ok h
  obtain ⟨n, rfl, h2, h3, h4⟩ := asI_ok h1
  obtain ⟨p, vs, rfl, np, hp, rp⟩ := r1
  have ra := rdl_rep rp n.toNat
  refine ⟨p, n, vs, rfl, r2, hp, h2.1, h2.2, sz (by rw [← rp.len]; exact h3), fun o ho => ?_⟩
  exact k _ _ (.lst _) ⟨o, _, rfl, fun z => l o z ho, upd_same, ra.ext (Ex.new ho)⟩ (fun _ => ⟨o, rfl, ho, _, upd_same, (ra.off ho).ext (Ex.new ho)⟩) (Ex.new ho) h4⟩
def rDictD : List V → Hp → VK → Prop := fun xs H Q => ∃ (a : Addr) (kvs : List (Key × V)), xs = [.ref a] ∧ L2.Rd H a (.dK kvs) ∧ ∀ p, H p = none → Q (.ref p) (upd H p (.dK kvs))
theorem call_dictP {X : Cx} : CallR X (.type "dict") rDictD := call_dictD
def gDictD : List PV → (PV → Prop) → Prop := fun xs F => one xs fun x => asD x fun ks ys => F (.dct ks ys)
instance ac_dict : AC rDictD gDictD true := ⟨fun {A H xs us F Q} l r h k => by
  obtain ⟨x, u, rfl, rfl, rx, h1⟩ := one_ok h r
  obtain ⟨ks, ys, rfl, h2⟩ := asD_ok h1
  obtain ⟨p, ws, rfl, np, hp, e, rl⟩ := rx
  refine ⟨p, ws, rfl, hp, fun o ho => k _ _ (.dct ks ys) ⟨o, ws, rfl, fun z => l o z ho, .inl upd_same, e, rl.ext (Ex.new ho)⟩ (fun _ => ⟨o, rfl, ho, ws, upd_same, e, (rl.off ho).ext (Ex.new ho)⟩) (Ex.new ho) h2⟩⟩
def rListD : List V → Hp → VK → Prop := fun xs H Q => ∃ (a : Addr) (kvs : List (Key × V)), xs = [.ref a] ∧ L2.Rd H a (.dK kvs) ∧ ∀ p, H p = none → Q (.ref p) (upd H p (.lst (kvs.map fun kv => kV kv.1)))
theorem call_listP {X : Cx} (hc : X.calm = true) : CallR X (.type "list") rListD := call_listD hc
theorem rdl_keys {A : Addr → Prop} {H : Hp} : ∀ ws : List (Key × V), RdL A H ((ws.map (·.1)).map keyV) (ws.map fun kv => kV kv.1)
  | [] => rfl
  | w :: ws => ⟨_, _, rfl, rd_key w.1, rdl_keys ws⟩
def gListD : List PV → (PV → Prop) → Prop := fun xs F => one xs fun x => asD x fun ks _ => F (.lst (ks.map keyV))
instance ac_listD : AC rListD gListD true := ⟨fun {A H xs us F Q} l r h k => by
  obtain ⟨x, u, rfl, rfl, rx, h1⟩ := one_ok h r
  obtain ⟨ks, ys, rfl, h2⟩ := asD_ok h1
  obtain ⟨p, ws, rfl, np, hp, e, rl⟩ := rx
  subst e
  refine ⟨p, ws, rfl, hp, fun o ho => k _ _ (.lst _) ⟨o, _, rfl, fun z => l o z ho, upd_same, rdl_keys ws⟩ (fun _ => ⟨o, rfl, ho, _, upd_same, rdl_keys ws⟩) (Ex.new ho) h2⟩⟩
end Pv
end

section -- PkSt
set_option linter.all false
set_option maxRecDepth 100000
set_option maxHeartbeats 8000000
/-! PkSt: set(xs) of a list or a tuple of texts, however many; how many there are. -/
namespace Pk
open PySem PySem.Spec PyProof.Rows L2
/-- how many different ones stand among the first i -/
def cntD (xs : List Str) : Nat → Nat
  | 0 => 0
  | i + 1 => if (xs.take i).any (· == xs.getD i Str.empty) then cntD xs i else cntD xs i + 1
abbrev amid (xs : List Str) (i : Nat) : Str → Bool := fun y => (xs.take i).any (· == y)
theorem cntD_le (xs : List Str) : ∀ i, cntD xs i ≤ i
  | 0 => Nat.le_refl 0
  | i + 1 => by
    have := cntD_le xs i
    unfold cntD
    split <;> omega
theorem amid_step {xs : List Str} {i : Nat} (h : i < xs.length) (y : Str) : (amid xs i y || decide (y = xs.getD i Str.empty)) = amid xs (i + 1) y := by
  have e : xs.take (i + 1) = xs.take i ++ [xs.getD i Str.empty] := by
    rw [List.take_add_one, List.getElem?_eq_getElem h, List.getD_eq_getElem?_getD, List.getElem?_eq_getElem h]
    rfl
  show _ = (xs.take (i + 1)).any (· == y)
  rw [e, List.any_append, List.any_cons, List.any_nil, Bool.or_false]
  congr 1
  generalize xs.getD i Str.empty = x
  by_cases c : x = y
  · rw [c]; simp
  · rw [beq_eq_false_iff_ne.mpr c]
    exact decide_eq_false fun z => c z.symm
section
variable {P : Program} {w : World} {A : Around} {E : Value → Shared → Prop}
theorem grow_txt {it S : Addr} {fp wr : List Addr} {G : Array GenState → Array GenState → Prop} {n : Nat} {Pi : Nat → Value → Prop} {St : Nat → Shared → Prop} {R : Result → Shared → Prop} (W : WalksS P w A.in1 it fp wr G n Pi St) (nf : S ∉ fp) (xs : List Str) (ln : xs.length = n) (room : n + 1 < scanBound)
    (val : ∀ i v, Pi i v → ∃ t, v = .str (xs.getD i Str.empty) t) : ∀ (d i : Nat) (s : Shared), n - i = d → i ≤ n → St i s → s.heap.SetOf (PySem.strKind P w) S (amid xs i) (cntD xs i) →
      (∀ z, Moved (S :: wr) G s z → z.heap.SetOf (PySem.strKind P w) S (amid xs n) (cntD xs n) → R (.ok (.ret .none)) z) → codeAny (model P w) A (.builtin "set.update.loop" ⟨[.ref S, .ref it], []⟩) R s := by
  have nw : S ∉ wr := fun z => nf (W.sub S z)
  have sub : ∀ b ∈ wr, b ∈ S :: wr := fun _ z => .tail _ z
  have same : ∀ {z z' : Shared} {f : Str → Bool} {c : Nat}, Moved wr G z z' → z.heap.SetOf (PySem.strKind P w) S f c → z'.heap.SetOf (PySem.strKind P w) S f c := fun m ⟨o, es, ep, t, ho, q⟩ => ⟨o, es, ep, t, m.heap S o nw ho, q⟩
  intro d
  induction d with
  | zero =>
    intro i s hd hi st hS hR
    obtain rfl : i = n := by omega
    refine codeAny_builtin (PyProof.Rows.F.entry_set_update_loop) ?_; rw [Around.under_plainId (PyProof.Rows.F.plain_set_update_loop) _]
    show wpAny _ A.in1 (pyNext (.ref it) >>= _) _ _ s
    refine wpAny_bind (W.done s _ _ st fun z m => ?_)
    show wpAny _ A.in1 (ret _) _ _ z
    exact wpAny_pure (hR z (m.mono sub) (same m hS))
  | succ d ih =>
    intro i s hd hi st hS hR
    have lt : i < n := by omega
    refine codeAny_builtin (PyProof.Rows.F.entry_set_update_loop) ?_; rw [Around.under_plainId (PyProof.Rows.F.plain_set_update_loop) _]
    show wpAny _ A.in1 (pyNext (.ref it) >>= _) _ _ s
    refine wpAny_bind (W.item i s _ _ lt st fun v z pv st' m => ?_)
    obtain ⟨t, rfl⟩ := val i v pv
    have hZ := same m hS
    have le := cntD_le xs i
    show wpAny _ A.in1 (holding [_] (setAdd S (.str (xs.getD i Str.empty) t)) >>= _) _ _ z
    refine wpAny_bind (wpAny_holding ?_); unfold setAdd
    refine wpAny_holding (wpAny_bind ((PySem.strKind P w).pyHash (k := xs.getD i Str.empty) (strKind_is _ _ _ _) ?_))
    refine wpAny_setAddHashed_of (knd := PySem.strKind P w) (s := { z with toks := z.toks + 1 }) (strKind_is _ _ _ _) rfl hZ (by omega) fun h' sb hS2 => ?_
    have hS3 : h'.SetOf (PySem.strKind P w) S (amid xs (i + 1)) (cntD xs (i + 1)) := SetOf_congr hS2 (fun y => amid_step (by omega) y) rfl
    have out : ∀ {b : Addr} {o : Obj}, b ≠ S → z.heap.get? b = some o → h'.get? b = some o := fun nb e => (sb.2 _ nb).trans e
    refine wpAny_pure ⟨plainId_quiet PyProof.Rows.F.plain_set_update_loop _, ih (i + 1) _ (by omega) lt (W.frame _ z _ _ st' (Nat.le_succ _) fun b hb o e => out (fun q => nf (q ▸ hb)) e) hS3 fun z2 m2 hS4 => hR z2 (Moved.trans W.gtrans ((m.mono sub).then_heap (Nat.le_succ _) fun b o hb e => out (fun q => hb (q ▸ .head _)) e) m2) hS4⟩
abbrev freshS (led : Bool) : Obj := { cls := .type "set", dict := none, data := .set #[] 0 (.fresh 0 0 led) }
theorem call_setT {s : Shared} {l : Addr} {its : Array Value} {xs : List Str} {Q : Value → Shared → Prop} (hh : A.handled = none) (hl : s.heap.IsList l its ∨ s.heap.IsTuple l its) (ln : xs.length = its.size) (room : its.size + 1 < scanBound) (val : ∀ (i : Nat) v, its[i]? = some v → ∃ t, v = .str (xs.getD i Str.empty) t)
    (k : ∀ (h' : Heap) (tk : Nat), h'.SetOf (PySem.strKind P w) s.heap.objs.size (amid xs its.size) (cntD xs its.size) → (∀ b o, b < s.heap.objs.size → s.heap.get? b = some o → h'.get? b = some o) → Q (.ref s.heap.objs.size) { s with heap := h', toks := tk }) :
    wpAny (model P w) A (call (.type "set") [.ref l]) Q E s := by
  obtain ⟨mc, ml, mr⟩ := F.called_set.mro
  have c1 := F.called_set.made; have c2 := F.called_set.sub; have c3 := F.called_set.notType; have c4 := F.called_set.canCreate
  have c5 := F.typeCall_set_1 (.ref l)
  refine wpAny_call (codeAny_of_tree ?_); show wpAny _ _ (callAny (.type "set") _) _ _ _
  refine wpAny_pure ⟨Code.quiet_builtin _ (by decide +kernel), codeAny_builtin (F.entry_type_call) ?_⟩
  rw [Around.under_plain (weight_type_call_type "set" [.ref l] []) (rfl)]
  repeat (any_goals (first | assumption | wp_step))
  refine codeAny_mono (code_set_new_1 (.ref l) (E := E) (Q₁ := fun ob z => ∃ led : Bool, ob = .ref s.heap.objs.size ∧ z = { s with heap := s.heap.push (freshS led) }) fun led => ⟨led, rfl, rfl⟩) fun r z hr => ?_
  cases r with
  | error e => exact hr
  | ok fl =>
    cases fl <;> first | exact hr.elim | skip
    rename_i ob
    obtain ⟨led, rfl, rfl⟩ := hr
    have new : (s.heap.push (freshS led)).get? s.heap.objs.size = some (freshS led) := Heap.get?_push_size _ rfl
    have ty : Shared.TypeIs { s with heap := s.heap.push (freshS led) } (.ref s.heap.objs.size) "set" := ⟨_, new, rfl⟩
    have c6 := F.called_set.init.lookup; have c7 := F.called_set.init.bind (.ref s.heap.objs.size)
    repeat (any_goals (first | assumption | wp_step))
    refine codeAny_mono (codeAny_call_builtin (R := wants (fun r z => r = .none ∧ ∃ h' tk, z = { s with heap := h', toks := tk } ∧ h'.SetOf (PySem.strKind P w) s.heap.objs.size (amid xs its.size) (cntD xs its.size) ∧ (∀ b o, b < s.heap.objs.size → s.heap.get? b = some o → h'.get? b = some o)) E) F.called_set.init.plain F.entry_set_init (check_set_init_1 ty ?_)) fun r2 z2 hr2 => ?_
    · rcases hl with hl | hl
      · obtain ⟨⟨oc, od, odt, osl⟩, ho, hc, m, hd⟩ := hl; simp only at hc hd; subst hc hd
        have lt : l < s.heap.objs.size := Heap.lt_size ho
        have ho2 : (s.heap.push (freshS led)).get? l = some { cls := .type "list", dict := od, data := .seq its m, slots := osl } := Heap.get?_push_of_some _ ho
        have q1 := F.sub_list_set; have q2 := F.sub_list_frozenset; have q3 : (Value.type "list" == Value.type "dict") = false := by decide
        have seq : (s.heap.push (freshS led)).IsList l its := ⟨_, ho2, rfl, m, rfl⟩
        unfold Builtin.«set.__init__» noKeywords Builtin.Frozenset.updateFrom
        generalize hpi : pyIter = pi_; wp_walk; subst hpi
        refine wpAny_pyIter_list seq (wpAny_bind (wpAny_runValue ?_))
        have nH : A.in1.in1.in1.handled = none := by simp [hh]
        have sz1 : (s.heap.push (freshS led)).objs.size = s.heap.objs.size + 1 := by rw [Heap.size_push]
        have nI : l ≠ (s.heap.push (freshS led)).objs.size := by rw [sz1]; exact Nat.ne_of_lt (Nat.lt_succ_of_lt lt)
        refine grow_txt (S := s.heap.objs.size) ((Walks.list nH _ l nI its).toS) ?nf xs ln room val (its.size - 0) 0 _ (by omega) (Nat.zero_le _) ⟨⟨_, Heap.get?_push_size _ rfl, rfl, rfl⟩, seq.push _⟩ ?start ?fin
        case nf => simp only [List.mem_cons, List.not_mem_nil, or_false, not_or]; exact ⟨by rw [sz1]; exact Nat.ne_of_lt (Nat.lt_succ_self _), Nat.ne_of_gt lt⟩
        case start => exact SetOf_congr ((setObjOf_fresh (knd := PySem.strKind P w) led).setOf (Heap.get?_push_of_some _ new) (by unfold scanBound; omega)) (fun _ => rfl) rfl
        case fin =>
          rintro ⟨h', g', d', tk', os'⟩ mv hS
          obtain rfl : g' = s.gens := mv.gens
          obtain rfl : d' = s.drawn := mv.drawn
          obtain rfl : os' = s.os := mv.os
          show wpAny _ _ _ _ _ _
          refine wpAny_pure ?_; show wpAny _ _ (ret Value.none) _ _ _
          refine wpAny_pure ⟨rfl, h', tk', rfl, hS, fun b o lb e => mv.heap b o (fun z => ?_) (Heap.get?_push_of_some _ (Heap.get?_push_of_some _ e))⟩
          simp only [List.mem_cons, List.not_mem_nil, or_false] at z
          rcases z with z | z
          · exact absurd z (Nat.ne_of_lt lb)
          · rw [sz1] at z; exact absurd z (Nat.ne_of_lt (Nat.lt_succ_of_lt lb))
      · obtain ⟨⟨oc, od, odt, osl⟩, ho, hc, m, hd⟩ := hl; simp only at hc hd; subst hc hd
        have lt : l < s.heap.objs.size := Heap.lt_size ho
        have ho2 : (s.heap.push (freshS led)).get? l = some { cls := .type "tuple", dict := od, data := .seq its m, slots := osl } := Heap.get?_push_of_some _ ho
        have q1 := F.sub_tuple_set; have q2 := F.sub_tuple_frozenset; have q3 : (Value.type "tuple" == Value.type "dict") = false := by decide
        have seq : (s.heap.push (freshS led)).IsTuple l its := ⟨_, ho2, rfl, m, rfl⟩
        unfold Builtin.«set.__init__» noKeywords Builtin.Frozenset.updateFrom
        generalize hpi : pyIter = pi_; wp_walk; subst hpi
        refine wpAny_pyIter_tuple seq (wpAny_bind (wpAny_runValue ?_))
        have nH : A.in1.in1.in1.handled = none := by simp [hh]
        have sz1 : (s.heap.push (freshS led)).objs.size = s.heap.objs.size + 1 := by rw [Heap.size_push]
        have nI : l ≠ (s.heap.push (freshS led)).objs.size := by rw [sz1]; exact Nat.ne_of_lt (Nat.lt_succ_of_lt lt)
        refine grow_txt (S := s.heap.objs.size) ((Walks.tuple nH _ l nI its).toS) ?nf xs ln room val (its.size - 0) 0 _ (by omega) (Nat.zero_le _) ⟨⟨_, Heap.get?_push_size _ rfl, rfl, rfl⟩, seq.push _⟩ ?start ?fin
        case nf => simp only [List.mem_cons, List.not_mem_nil, or_false, not_or]; exact ⟨by rw [sz1]; exact Nat.ne_of_lt (Nat.lt_succ_self _), Nat.ne_of_gt lt⟩
        case start => exact SetOf_congr ((setObjOf_fresh (knd := PySem.strKind P w) led).setOf (Heap.get?_push_of_some _ new) (by unfold scanBound; omega)) (fun _ => rfl) rfl
        case fin =>
          rintro ⟨h', g', d', tk', os'⟩ mv hS
          obtain rfl : g' = s.gens := mv.gens
          obtain rfl : d' = s.drawn := mv.drawn
          obtain rfl : os' = s.os := mv.os
          show wpAny _ _ _ _ _ _
          refine wpAny_pure ?_; show wpAny _ _ (ret Value.none) _ _ _
          refine wpAny_pure ⟨rfl, h', tk', rfl, hS, fun b o lb e => mv.heap b o (fun z => ?_) (Heap.get?_push_of_some _ (Heap.get?_push_of_some _ e))⟩
          simp only [List.mem_cons, List.not_mem_nil, or_false] at z
          rcases z with z | z
          · exact absurd z (Nat.ne_of_lt lb)
          · rw [sz1] at z; exact absurd z (Nat.ne_of_lt (Nat.lt_succ_of_lt lb))
    · cases r2 with
      | error e => exact hr2
      | ok f2 =>
        cases f2 <;> first | exact hr2.elim | skip
        rename_i r
        obtain ⟨rfl, h', tk, rfl, hS, keep⟩ := hr2
        repeat (any_goals (first | assumption | wp_step))
        exact k _ _ hS keep
end
end Pk
end

section -- PkSu
set_option linter.all false
set_option maxRecDepth 100000
set_option maxHeartbeats 4000000
/-! PkSu: len(set(xs)), xs a list or a tuple of texts. -/
namespace Pk
open PySem PySem.Spec PyProof.Rows L2
def tLenSetS (K : PySem.W.Frag) (ta : TE) : TE := fun σ H Q => ta σ H fun x H1 => ∃ (l : Addr) (xs : List Str), x = .ref l ∧ (SqL K H1 l (xs.map V.str) ∨ SqT K H1 l (xs.map V.str)) ∧ xs.length ≤ 4000 ∧ Q (.int (cntD xs xs.length : Nat)) H1
theorem txt_at {xs : List Str} {its : List Value} (r : Vals (xs.map V.str) its) (i : Nat) (v : Value) (h : its.toArray[i]? = some v) : ∃ t, v = .str (xs.getD i Str.empty) t := by
  have h' : its[i]? = some v := by simpa using h
  have li : i < xs.length := by
    have z := (List.getElem?_eq_some_iff.mp h').1
    rw [← r.length, List.length_map] at z
    exact z
  obtain ⟨u, hu, ru⟩ := r.get (show (xs.map V.str)[i]? = some (.str xs[i]) by rw [List.getElem?_map, List.getElem?_eq_getElem li]; rfl)
  rw [hu] at h'
  cases h'
  obtain ⟨t, rfl⟩ := ru
  exact ⟨t, by rw [List.getD_eq_getElem?_getD, List.getElem?_eq_getElem li]; rfl⟩
theorem pe_lenSetS {X : Cx} {a : Expr} {ta : TE} {p p2 q pos : Pos} (hg : Gl X "len") (hm : X.mg "len" = none) (gs : Gl X "set") (ms : X.mg "set" = none) (ha : PE X a ta) (calm : X.calm = true := by rfl) (na : starEach [a] X.env = (false, eval a X.env) :: starEach [] X.env := by rfl) :
    PE X (.Call (.Name "len" p) [.Call (.Name "set" p2) [a] [] q] [] pos) (tLenSetS X.K ta) := ⟨fun pins s σ H Q I h => by
  refine Call_ (ld_blt I hg hm boot_len (PyProof.Rows.callWith_builtin1 (PyProof.Rows.args_cons ?_ rfl) rfl rfl))
  refine Call_ (ld_blt I gs ms boot_set (PyProof.Rows.callWith_type1 (PyProof.Rows.args_cons (thn (ha.run pins s σ H _ I h) fun v s1 ⟨x, H1, I1, rx, l, xs, ex, sq, hl, hq⟩ => PyProof.Rows.args_nil ?_) na) na rfl))
  subst ex; cases rx
  obtain ⟨its, r, pl⟩ : ∃ its, Vals (xs.map V.str) its ∧ (s1.heap.IsList l its.toArray ∨ s1.heap.IsTuple l its.toArray) := by
    rcases sq with sq | sq
    · obtain ⟨its, r, pl, _⟩ := I1.list sq
      exact ⟨its, r, .inl pl.isList⟩
    · obtain ⟨its, r, pl, _⟩ := I1.tuple sq
      exact ⟨its, r, .inr pl⟩
  have ln : xs.length = its.toArray.size := by rw [List.size_toArray, ← r.length, List.length_map]
  refine call_setT (I1.ok.hd calm) pl ln (by rw [← ln]; unfold scanBound; omega) (txt_at r) fun h' tk hS keep => PyProof.Rows.args_nil ?_
  rw [← ln] at hS
  have c := cntD_le xs xs.length
  obtain ⟨o, es, ep, t, ho, hx, hd, _, _, _, hf, hn⟩ := hS
  have I2 : Inv X pins σ H1 { s1 with heap := h', toks := tk } := I1.kept fun b o e => keep b o (Heap.lt_size e) e
  exact call_len_set ho hx hd hf (by rw [hn]; omega) ⟨.int (cntD xs xs.length : Nat), H1, I2.tok _, ⟨_, by rw [hn]⟩, hq⟩⟩
end Pk
end

section -- PvL
set_option linter.all false
set_option maxRecDepth 100000
set_option maxHeartbeats 4000000
/-! PvL: how many different texts; lists or tuples unpacked and indexed; len of a dict; dicts of pairs. -/
namespace Pv
open PySem PySem.Spec L2 Pk Evl
open PyProof.Rows hiding St
section
variable {S : Type} {W : Wd S} {E : XK}
/-! ### len(set(xs)) -/
def fLenSet (fa : FE S) : FE S := fun ρ s F X => fa ρ s (fun x s1 => asLU x fun l => pick (strsOf l) fun ts => ts.length ≤ 4000 ∧ F (.int (cntD ts ts.length : Nat)) s1) X
instance ae_lenSet {K : PySem.W.Frag} {ta : TE} {fa : FE S} {b : Bool} [ia : AE W E ta fa b] : AE W E (tLenSetS K ta) (fLenSet fa) false := ⟨fun {A σ H ρ s F X Q} c r0 x h k =>
  ia.run c r0 x h fun u H1 p s1 rp _ f1 w1 h1 => by
    obtain ⟨l, e, h2⟩ := asLU_ok h1
    obtain ⟨ts, et, hl, h3⟩ := pick_ok h2
    rcases e with rfl | rfl
    · obtain ⟨a, vs, rfl, _, ha, rl⟩ := rp
      rw [strs_ok rl et] at ha
      exact ⟨a, ts, rfl, .inr (st_of ha), hl, k _ H1 (.int _) s1 rfl (fun z => nomatch z) f1 w1 h3⟩
    · obtain ⟨a, vs, rfl, _, ha, rl⟩ := rp
      rw [strs_ok rl et] at ha
      exact ⟨a, ts, rfl, .inl (sq_of ha), hl, k _ H1 (.int _) s1 rfl (fun z => nomatch z) f1 w1 h3⟩⟩
/-! ### a list or a tuple unpacked -/
def gLT (K : PySem.W.Frag) (n : Nat) (t : TGs) : TG := fun v σ H Q => gTup K n t v σ H Q ∨ gUnl K n t v σ H Q
theorem pg_LT {X : Cx} {pos : Pos} {es : List Expr} {k : Nat} {t : TGs} {n : Nat} (hc : X.calm = true) (h : PGs X es t) (hn : (assignEach es X.env).length = n := by rfl) (hst : (assignEach es X.env).findIdx? (·.1) = none := by rfl) : PG X (.Tuple es k pos) (gLT X.K n t) :=
  ⟨fun pins s σ H v u Q I r w => w.elim ((pg_tup (pos := pos) (k := k) hc h hn hst).run pins s σ H v u Q I r) ((pg_unl (pos := pos) (k := k) hc h hn hst).run pins s σ H v u Q I r)⟩
def bLT (n : Nat) (fs : List PV → En → (En → Prop) → Prop) : PV → En → (En → Prop) → Prop := fun x ρ F => asLU x fun l => l.length = n ∧ fs l ρ F
instance ag_LT {K : PySem.W.Frag} {n : Nat} {gs : TGs} {js : List Nat} {fs} [i2 : AGs W gs js fs] : AG W (gLT K n gs) js (bLT n fs) := ⟨fun {A σ H ρ x v F Q} r h f k => by
  obtain ⟨l, e, h1, h2⟩ := asLU_ok f
  rcases e with rfl | rfl
  · obtain ⟨a, ws, rfl, na, ha, rl⟩ := h
    exact .inl ⟨a, ws, rfl, st_of ha, by rw [← rl.len]; exact h1, i2.run r rl h2 k⟩
  · obtain ⟨a, ws, rfl, na, ha, rl⟩ := h
    exact .inr ⟨a, ws, rfl, sq_of ha, by rw [← rl.len]; exact h1, i2.run r rl h2 k⟩⟩
def sLT (n : Nat) (fs : List PV → SEn → (SEn → Prop) → Prop) : PV → SEn → (SEn → Prop) → Prop := fun x ρ F => asLU x fun l => l.length = n ∧ fs l ρ F
instance ags_LT {K : PySem.W.Frag} {n : Nat} {gs : TGs} {fs} [i2 : AGSs W gs fs] : AGS W (gLT K n gs) (sLT n fs) := ⟨fun {A0 H0 ps H σ ρ s x v F Q} r h f k => by
  obtain ⟨l, e, h1, h2⟩ := asLU_ok f
  rcases e with rfl | rfl
  · obtain ⟨a, ws, rfl, na, ha, rl⟩ := h
    exact .inl ⟨a, ws, rfl, st_of ha, by rw [← rl.len]; exact h1, i2.run r rl h2 k⟩
  · obtain ⟨a, ws, rfl, na, ha, rl⟩ := h
    exact .inr ⟨a, ws, rfl, sq_of ha, by rw [← rl.len]; exact h1, i2.run r rl h2 k⟩⟩
instance as_asgLT {te : TE} {f : FE S} {b : Bool} {K : PySem.W.Frag} {n : Nat} {gs : TGs} {fg} [ie : AE W E te f b] [ig : AGS W (gLT K n gs) fg] : AS W E (tAsg te (gLT K n gs)) (fAsgG fg f) := ⟨fun {A0 H0 ps H σ ρ s D G} r x h k =>
  ie.run r.ctH r.vrH (r.xlH x) h fun v H' y s' ry _ f' w' h' => ig.run (r.next f' w') ry h' fun σ' ρ' r' _ h2 => k.nx _ _ _ _ r' h2⟩
end
/-! ### x[i], a list or a tuple -/
def rIxLT (K : PySem.W.Frag) : R2 := fun x y H Q => rIxL K x y H Q ∨ rIxT K x y H Q
theorem ix_LT {X : Cx} : IxR X (rIxLT X.K) := fun value slice pins s σ H x y v u Q I rx ry h hs => h.elim (fun h => ix_list value slice pins s σ H x y v u Q I rx ry h hs) (fun h => ix_tup value slice pins s σ H x y v u Q I rx ry h hs)
def gIxLT : PV → PV → (PV → Prop) → Prop := fun x y F => asLU x fun xs => asI y fun i => pick (atI xs i) F
instance ao_ixLT {K : PySem.W.Frag} : AO (rIxLT K) gIxLT false := ⟨fun {A H x y u v F Q} l r1 r2 h k => by
  obtain ⟨xs, e, h1_⟩ := asLU_ok h
  rcases e with rfl | rfl
  · exact .inr ((ao_ixT (K := K)).run l r1 r2 h1_ k)
  · exact .inl ((ao_ixL (K := K)).run l r1 r2 h1_ k)⟩
/-! ### len of a dict -/
def rLenD : List V → Hp → VK → Prop := fun xs H Q => ∃ a kvs, xs = [V.ref a] ∧ L2.Rd H a (.dK kvs) ∧ Q (.int kvs.length) H
theorem call_lenDZ {X : Cx} : CallR X (.builtin "len") rLenD := by
  intro pins s σ H xs us Q I r h
  obtain ⟨a, kvs, rfl, ha, q⟩ := h
  obtain ⟨u, rfl, ru⟩ := vals1 r
  cases ru
  exact d_len I ha fun t s' I' => ⟨.int kvs.length, H, I', ⟨t, rfl⟩, q⟩
def gLenD : List PV → (PV → Prop) → Prop := fun xs F => one xs fun x => asD x fun ks _ => F (.int ks.length)
instance ac_lenD : AC rLenD gLenD false := ⟨fun {A H xs us F Q} l r h k => by
  obtain ⟨x, u, rfl, rfl, rx, h1⟩ := one_ok h r
  obtain ⟨ks, ys, rfl, h2⟩ := asD_ok h1
  obtain ⟨p, ws, rfl, np, hp, e, rl⟩ := rx
  subst e
  exact ⟨p, ws, rfl, hp, k _ _ (.int (ws.map (·.1)).length) (by rw [List.length_map]; rfl) (fun z => nomatch z) (Ex.refl _) h2⟩⟩
/-! ### dict([(k, v), ..]) -/
def pairsP : List PV → Option (List (Key × PV))
  | [] => some []
  | .tup [.str z, y] :: r => (pairsP r).map ((.inr z, y) :: ·)
  | .tup [.int i, y] :: r => (pairsP r).map ((.inl i, y) :: ·)
  | _ => none
def mergeP (ks : List Key) (xs : List PV) : List (Key × PV) → List Key × List PV
  | [] => (ks, xs)
  | p :: r => mergeP (keysP ks p.1) (valsP ks xs p.1 p.2) r
theorem two_rd {A : Addr → Prop} {H : Hp} {x y : PV} {vs : List V} (r : RdL A H [x, y] vs) : ∃ u v, vs = [u, v] ∧ Rd A H x u ∧ Rd A H y v := by
  obtain ⟨u, us, rfl, r1, v, ws, rfl, r2, r3⟩ := r
  cases r3
  exact ⟨u, v, rfl, r1, r2⟩
theorem pairsP_ok {K : PySem.W.Frag} {A : Addr → Prop} {H : Hp} : ∀ {l : List PV} {vs : List V} {ps : List (Key × PV)}, RdL A H l vs → pairsP l = some ps → ∃ (as : List Addr) (kvs : List (Key × V)), vs = as.map V.ref ∧ Paired (fun p kv => SqT K H p [kV kv.1, kv.2]) as kvs ∧ kvs.map (·.1) = ps.map (·.1) ∧ RdL A H (ps.map (·.2)) (kvs.map (·.2))
  | [], vs, ps, r, h => by
    cases r
    unfold pairsP at h
    cases h
    exact ⟨[], [], rfl, .nil, rfl, rfl⟩
  | x :: l, vs, ps, ⟨v, ws, e, r1, r2⟩, h => by
    subst e
    unfold pairsP at h
    split at h
    · rename_i hh; cases hh
    · rename_i z y r hh
      cases hh
      cases q : pairsP l with
      | none => rw [q] at h; cases h
      | some qs =>
        rw [q] at h
        cases h
        obtain ⟨as, kvs, rfl, p1, p2, p3⟩ := pairsP_ok (K := K) r2 q
        obtain ⟨a, us, rfl, na, ha, rl⟩ := r1
        obtain ⟨u1, u2, rfl, k1, k2⟩ := two_rd rl
        cases k1
        exact ⟨a :: as, (.inr z, u2) :: kvs, rfl, .cons (st_of ha) p1, by rw [List.map_cons, List.map_cons, p2], RdL.cons k2 p3⟩
    · rename_i z y r hh
      cases hh
      cases q : pairsP l with
      | none => rw [q] at h; cases h
      | some qs =>
        rw [q] at h
        cases h
        obtain ⟨as, kvs, rfl, p1, p2, p3⟩ := pairsP_ok (K := K) r2 q
        obtain ⟨a, us, rfl, na, ha, rl⟩ := r1
        obtain ⟨u1, u2, rfl, k1, k2⟩ := two_rd rl
        cases k1
        exact ⟨a :: as, (.inl z, u2) :: kvs, rfl, .cons (st_of ha) p1, by rw [List.map_cons, List.map_cons, p2], RdL.cons k2 p3⟩
    · cases h
theorem mergeP_ok {A : Addr → Prop} {H : Hp} : ∀ {ps : List (Key × PV)} {kvs ws : List (Key × V)} {ks : List Key} {xs : List PV}, kvs.map (·.1) = ps.map (·.1) → RdL A H (ps.map (·.2)) (kvs.map (·.2)) → ws.map (·.1) = ks → RdL A H xs (ws.map (·.2)) →
    (mergeK ws kvs).map (·.1) = (mergeP ks xs ps).1 ∧ RdL A H (mergeP ks xs ps).2 ((mergeK ws kvs).map (·.2))
  | [], kvs, ws, ks, xs, e, r, e2, r2 => by
    cases kvs with
    | nil => exact ⟨e2, r2⟩
    | cons _ _ => cases e
  | p :: ps, [], ws, ks, xs, e, r, e2, r2 => nomatch e
  | p :: ps, q :: kvs, ws, ks, xs, e, ⟨u, us, eu, r0, r1⟩, e2, r2 => by
    have eu' : q.2 :: kvs.map (·.2) = u :: us := eu
    obtain ⟨rfl, rfl⟩ := List.cons.inj eu'
    have e' : q.1 :: kvs.map (·.1) = p.1 :: ps.map (·.1) := e
    obtain ⟨e3, e4⟩ := List.cons.inj e'
    have pk := put_ok (k := p.1) e2 r2 r0
    show (mergeK (putK ws q.1 q.2) kvs).map (·.1) = (mergeP (keysP ks p.1) (valsP ks xs p.1 p.2) ps).1 ∧ RdL A H (mergeP (keysP ks p.1) (valsP ks xs p.1 p.2) ps).2 ((mergeK (putK ws q.1 q.2) kvs).map (·.2))
    rw [e3]
    exact mergeP_ok e4 r1 pk.1 pk.2
def rDictP (K : PySem.W.Frag) : List V → Hp → VK → Prop := fun xs H Q => ∃ (a : Addr) (ps : List Addr) (kvs : List (Key × V)), xs = [.ref a] ∧ SqL K H a (ps.map V.ref) ∧ Paired (fun p kv => SqT K H p [kV kv.1, kv.2]) ps kvs ∧ ∀ p, H p = none → Q (.ref p) (upd H p (.dK (mergeK [] kvs)))
theorem call_dictQ {X : Cx} (hc : X.calm = true) : CallR X (.type "dict") (rDictP X.K) := L2.call_dictP hc
def gDictP : List PV → (PV → Prop) → Prop := fun xs F => one xs fun x => asL x fun l => pick (pairsP l) fun ps => F (.dct (mergeP [] [] ps).1 (mergeP [] [] ps).2)
instance ac_dictP {K : PySem.W.Frag} : AC (rDictP K) gDictP true := ⟨fun {A H xs us F Q} l r h k => by
  obtain ⟨x, u, rfl, rfl, rx, h1⟩ := one_ok h r
  obtain ⟨ys, rfl, h2⟩ := asL_ok h1
  obtain ⟨ps, ep, h3⟩ := pick_ok h2
  obtain ⟨p, vs, rfl, np, hp, rl⟩ := rx
  obtain ⟨as, kvs, rfl, p1, p2, p3⟩ := pairsP_ok (K := K) rl ep
  have m := mergeP_ok (ws := []) (ks := []) (xs := []) p2 p3 rfl rfl
  refine ⟨p, as, kvs, rfl, sq_of hp, p1, fun o ho => k _ _ (.dct _ _) ⟨o, _, rfl, fun z => l o z ho, .inl upd_same, m.1, m.2.ext (Ex.new ho)⟩ (fun _ => ⟨o, rfl, ho, _, upd_same, m.1, (m.2.off ho).ext (Ex.new ho)⟩) (Ex.new ho) h3⟩⟩
end Pv
end

section -- PvM
set_option linter.all false
set_option maxRecDepth 100000
set_option maxHeartbeats 4000000
/-! PvM: isinstance with several classes; kinds of values. -/
namespace Pv
open PySem PySem.Spec L2 Pk Evl
open PyProof.Rows hiding St
def clsPs : List PV → Option (List Value)
  | [] => some []
  | c :: cs => match clsP c, clsPs cs with | some u, some us => some (u :: us) | _, _ => none
theorem clsP_ok {A : Addr → Prop} {H : Hp} {y : PV} {v : V} {w : Value} (r : Rd A H y v) (h : clsP y = some w) : ClsV v w := by
  cases y <;> first | cases h | skip
  · cases r; exact .ty _
  · cases r; exact .own _
theorem clsPs_ok {A : Addr → Prop} {H : Hp} : ∀ {ys : List PV} {vs : List V} {ws : List Value}, RdL A H ys vs → clsPs ys = some ws → Paired ClsV vs ws
  | [], vs, ws, r, h => by cases r; cases h; exact .nil
  | y :: ys, vs, ws, ⟨v, us, e, r1, r2⟩, h => by
    subst e
    unfold clsPs at h
    cases q : clsP y with
    | none => rw [q] at h; cases h
    | some u =>
      cases q2 : clsPs ys with
      | none => rw [q, q2] at h; cases h
      | some us2 =>
        rw [q, q2] at h
        cases h
        exact .cons (clsP_ok r1 q) (clsPs_ok r2 q2)
def gIsiT (K : PySem.W.Frag) : List PV → (PV → Prop) → Prop := fun xs F => two xs fun x c => asU c fun cs => ∃ t us b, clsPs cs = some us ∧ TyP K x t ∧ PySem.W.kitAny K t us = some b ∧ F (.bl b)
instance ac_isiT {K : PySem.W.Frag} : AC (rIsiT K) (gIsiT K) false := ⟨fun {A H xs us F Q} l r h k => by
  obtain ⟨x, y, u, v, rfl, rfl, rx, ry, h1⟩ := two_ok h r
  obtain ⟨cs, rfl, t, ws, b, e1, e2, e3, h2⟩ := asU_ok h1
  obtain ⟨a, vs, rfl, na, ha, rl⟩ := ry
  exact ⟨u, a, vs, t, ws, b, rfl, ha, clsPs_ok rl e1, e2.ok rx, e3, k _ _ (.bl b) rfl (fun z => nomatch z) (Ex.refl _) h2⟩⟩
example (K : PySem.W.Frag) : PySem.W.kitOne K (.type "int") (.type "str") = some false := rfl
example (K : PySem.W.Frag) : PySem.W.kitOne K (.type "bool") (.type "int") = some true := rfl
example (K : PySem.W.Frag) : PySem.W.kitAny K (.type "tuple") [.type "list", .type "tuple"] = some true := rfl
end Pv
end

section -- PvN
set_option linter.all false
set_option maxRecDepth 100000
set_option maxHeartbeats 4000000
/-! PvN: dicts written; d[k] = e. -/
namespace Pv
open PySem PySem.Spec L2 Pk Evl
open PyProof.Rows hiding St
section
variable {S : Type} {W : Wd S} {E : XK}
/-! ### {k: e}, {} -/
def fDisp1 (fk fe : FE S) : FE S := fun ρ s F X => fk ρ s (fun kx s1 => keyP kx fun k => fe ρ s1 (fun y s2 => F (.dct [k] [y]) s2) X) X
instance ae_disp1 {tk te : TE} {fk fe : FE S} {b b' : Bool} [ik : AE W E tk fk b'] [ie : AE W E te fe b] : AE W E (tDisp [(tk, te)]) (fDisp1 fk fe) true := ⟨fun {A σ H ρ s F X Q} c r0 x h k p hp => by
  have e0 : Ex H (upd H p (.dK [])) := Ex.new hp
  have np : ¬ A p := c.new hp
  have c1 : Ct W (fun a => A a ∨ a = p) (upd H p (.dK [])) s := (c.ext e0).more (by rw [upd_same]; intro z; cases z)
  have r1 : VR W (fun a => A a ∨ a = p) (upd H p (.dK [])) σ ρ := r0.to (fun a o _ e => e0 a o e) fun a o n e => ⟨fun z => z.elim n (fun z => by rw [z, hp] at e; cases e), e0 a o e⟩
  have x1 : XL W (fun a => A a ∨ a = p) (upd H p (.dK [])) E X := (x.next (Fr.of e0)).less fun a z => .inl z
  have pn : ∀ {Ha Hb : Hp} {u : HO}, Fr W.pf Ha Hb → Ha p = some u → Hb p = some u := fun f e => f p _ (fun z => np (c.pa p z)) e
  refine ik.run c1 r1 x1 h fun ku H1 kx s1 rk _ f1 w1 h1 => ?_
  obtain ⟨kk, rfl, h2⟩ := keyP_ok h1 rk
  refine ie.run (c1.next f1 w1) (r1.next c1 f1) (x1.next f1) h2 fun u H2 y s2 ry _ f2 w2 h3 => ?_
  have ep := pn f2 (pn f1 upd_same)
  have off : ∀ a o, ¬ (A a ∨ a = p) → H2 a = some o → ¬ (A a ∨ a = p) ∧ (upd H2 p (.dK (mergeK [] [(kk, u)]))) a = some o := fun a o n e => ⟨n, by
    rw [upd_ne (fun z => n (.inr z))]
    exact e⟩
  have ry' : Rd (fun a => A a ∨ a = p) (upd H2 p (.dK (mergeK [] [(kk, u)]))) y u := ry.to off
  have hf : Fr W.pf H (upd H2 p (.dK (mergeK [] [(kk, u)]))) := fun a o n e => by
    have ne : a ≠ p := fun z => by rw [z, hp] at e; cases e
    rw [upd_ne ne]
    exact f2 a o n (f1 a o n (e0 a o e))
  have w3 : W.rel (upd H2 p (.dK (mergeK [] [(kk, u)]))) s2 := W.stabU w2 fun z => np (c.sa p z)
  refine ⟨ep, [(kk, u)], rfl, by show 1 ≤ 15; omega, k _ _ (.dct [kk] [y]) s2 ⟨p, [(kk, u)], rfl, np, .inl upd_same, rfl, RdL.cons (ry'.less fun a z => .inl z) RdL.nil⟩ (fun _ => ⟨p, rfl, hp, [(kk, u)], upd_same, rfl, RdL.cons ry' RdL.nil⟩) hf w3 h3⟩⟩
def fDict0 : FE S := fun _ s F _ => F (.dct [] []) s
instance ae_dict0 : AE W E tDNewK fDict0 true := ⟨fun {A σ H ρ s F X Q} c r0 x h k p hp => k _ _ (.dct [] []) s ⟨p, [], rfl, c.new hp, .inl upd_same, rfl, rfl⟩ (fun _ => ⟨p, rfl, hp, [], upd_same, rfl, rfl⟩) (Fr.of (Ex.new hp)) (W.stab c.rel (Ex.new hp)) h⟩
/-! ### d[k] = e, d one's own -/
def fSetD (i : Nat) (f fj : FE S) : FS S := fun ρ s G => ownD ρ i fun a ks xs => xs.length < 900000 ∧ fPut f ρ s G.ex fun x s1 => fj (view ρ) s1 (fun y s2 => keyP y fun k => G.nx (ρ.set i (.own a (.dct (keysP ks k) (valsP ks xs k x)))) s2) G.ex
instance as_setD {i : Nat} {te tj : TE} {f fj : FE S} {b bj : Bool} [ie : AE W E te f b] [ij : AE W E tj fj bj] : AS W E (tAsg te (gSub (tVar i) tj L2.rSetD)) (fSetD i f fj) := ⟨fun {A0 H0 ps H σ ρ s D G} r x h k => by
  obtain ⟨a, ks, xs, e, hl, h1⟩ := ownD_ok h
  refine fPut_run r x h1 fun v H' y s' r' f' ry h' => ?_
  obtain ⟨ea, n0, _⟩ := r'.ow i _ _ e
  refine ⟨_, ea, ij.run r'.ctV r'.vrV (r'.xlV x) h' fun u H2 y2 s2 ry2 _ f2 w2 h2 => ?_⟩
  obtain ⟨kk, rfl, h3⟩ := keyP_ok h2 ry2
  have r2 := r'.next f2 w2
  obtain ⟨_, ws, ha', ek, rl'⟩ := r2.own0 e ea
  have pk := put_ok (k := kk) ek rl' (r'.ctH.fr ry f2)
  have off : ∀ b u, ¬ AO_ A0 σ ρ b → H2 b = some u → ¬ AO_ A0 σ ρ b ∧ (upd H2 a (.dK (putK ws kk v))) b = some u := fun b u nb q => ⟨nb, by
    have ne : b ≠ a := fun z => nb (by rw [z]; exact .inr ⟨i, _, e, ea⟩)
    rw [upd_ne ne]
    exact q⟩
  have o1 : OwnAt (AO_ A0 σ ρ) (upd H2 a (.dK (putK ws kk v))) (.dct (keysP ks kk) (valsP ks xs kk y)) a := ⟨_, upd_same, pk.1, pk.2.to off⟩
  have lw : ws.length = xs.length := by rw [rl'.len, List.length_map]
  show ∃ a' H'', _
  exact ⟨a, _, rfl, .inl ⟨ws, kk, ha', rfl, szl (by rw [lw]; omega), rfl⟩, k.nx _ _ _ _ (r2.mutO e ea o1) h3⟩⟩
end
end Pv
end

section -- PvO
set_option linter.all false
set_option maxRecDepth 100000
set_option maxHeartbeats 4000000
/-! PvO: x = {k: v for .. in ..}. -/
namespace Pv
open PySem PySem.Spec L2 Pk Evl
open PyProof.Rows hiding St
section
variable {X : Cx}
theorem ps_setDc {i : Nat} {y : Str} {py : Pos} {kx vx tg iter : Expr} {ifs : List Expr} {scope : Scope} {own : List (Str × Nat)} {pos spos : Pos} {wi : TI} {g : TG} {tt : TT} {tk tv : TE} (hc : X.calm = true) (hN : X.N.Nodup) (hy : X.N[i]? = some y) (hyl : X.env.scope.names.lookup y = some .local)
    (sw : swapsWith (.DictComp kx vx [⟨tg, iter, ifs, 0⟩] scope pos) (some (.Name y py)) spos.line X.env = pure true) (hi : PI X tg iter wi) (ok : BlkOk X.N X.env.scope scope own)
    (pg : ∀ (s : Shared) (H : Hp) (C : Addr) (cl : List (Str × Addr)) (fp : List Addr), PG (X.blk s H scope (compEnvC scope cl C X.env) fp) tg g) (pt : ∀ (s : Shared) (H : Hp) (C : Addr) (cl : List (Str × Addr)) (fp : List Addr), PTs (X.blk s H scope (compEnvC scope cl C X.env) fp) ifs tt)
    (pk : ∀ (s : Shared) (H : Hp) (C : Addr) (cl : List (Str × Addr)) (fp : List Addr), PE (X.blk s H scope (compEnvC scope cl C X.env) fp) kx tk)
    (pe : ∀ (s : Shared) (H : Hp) (C : Addr) (cl : List (Str × Addr)) (fp : List Addr), PE (X.blk s H scope (compEnvC scope cl C X.env) fp) vx tv) (hs : ∀ x, foldedSetIterable iter X.env x = pure x := by intro _; rfl) :
    PS X (.Assign [.Name y py] (.DictComp kx vx [⟨tg, iter, ifs, 0⟩] scope pos) spos) (tAsg (tDc wi g tt tk tv (own.map (·.2))) (gName i)) := ⟨fun pins s σ H D I h => by
  rw [exec_Assign_Name_used _ _ _ _ sw]
  refine wpAny_bind (wpAny_standAt (wpAny_bind ?_))
  show wpAny _ X.A (do let _ ← comprehension (.DictComp kx vx [⟨tg, iter, ifs, 0⟩] scope pos) scope X.env (firstIterPos [⟨tg, iter, ifs, 0⟩] pos) newDict false (eval iter X.env) (some (assign (.Name y py) X.env))) _ _ s
  have hw : tDc wi g tt tk tv (own.map (·.2)) σ H (fun x H1 => gName i x σ H1 D.nx) := h
  refine wpAny_bind (thn (dc_core (Qf := fun _ z => SP X pins D .next z) hc hN I hi ok pg pt pk pe hs hw fun L C z m H2 J q hn fpk => ?_) fun _ _ hq => wpAny_pure (wpAny_pure hq))
  show wpAny _ _ (assign (.Name y py) X.env (.ref L)) _ _ _
  refine wpAny_assign_Name (store_ok2 (v := V.ref L) J hN hy (.inl hyl) rfl (fun z2 J2 ⟨a, sb, ha⟩ => ?_) (.inr hyl))
  obtain ⟨k0, k1, k2, k3, k4, k5⟩ := fpk
  have neC : C ≠ a := ha.elim (fun q => by rw [q]; exact k1) fun q r => k4 y a q r.symm
  exact ⟨m, hn.sameBut sb neC, fun z3 sb3 => ⟨_, H2, J2.turned (t' := z2.toks) (fun b o hb e => (sb3.2 b hb).trans e) k0 k1 k3 k4 k5, q⟩⟩⟩
end
end Pv
end

section -- PkZp
set_option linter.all false
set_option maxRecDepth 100000
set_option maxHeartbeats 4000000
/-! PkZp: zip of two, each a list or a tuple. -/
namespace Pk
open PySem PySem.Spec PyProof.Rows L2
open PySem.W
/-- κ: a list, otherwise a tuple -/
def SqK (κ : Bool) (K : PySem.W.Frag) (H : Hp) (a : Addr) (xs : List V) : Prop := match κ with | true => SqL K H a xs | false => SqT K H a xs
def AtK (κ : Bool) (h : Heap) (a : Addr) (its : Array Value) : Prop := match κ with | true => h.IsList a its | false => h.IsTuple a its
def ItK (κ : Bool) (h : Heap) (it a : Addr) (i : Nat) : Prop := match κ with | true => h.IsListIter it a i | false => h.IsTupleIter it a i
def nwK (κ : Bool) (a : Addr) : Obj := match κ with | true => { cls := .type "list_iterator", data := .fields #[.ref a, .int 0 0] } | false => { cls := .type "tuple_iterator", data := .fields #[.ref a, .int 0 0] }
theorem ItK.obj {κ : Bool} {h : Heap} {it a : Addr} {i : Nat} (x : ItK κ h it a i) : ∃ o vs, h.get? it = some o ∧ o.data = .fields vs := by
  cases κ <;> (obtain ⟨o, e, _, d⟩ := x; exact ⟨o, _, e, d⟩)
theorem ItK.at {κ : Bool} {h h' : Heap} {it a : Addr} {i : Nat} (x : ItK κ h it a i) (k : ∀ o, h.get? it = some o → h'.get? it = some o) : ItK κ h' it a i := by
  cases κ
  · exact Heap.IsTupleIter.at x k
  · exact Heap.IsListIter.at x k
theorem draws_K {P : Program} {w : World} {A : Around} (κ : Bool) (hh : A.handled = none) (it a : Addr) (ne : a ≠ it) (its : Array Value) : Draws P w A it [it, a] its.size (fun i v => its[i]? = some v) (fun i h => ItK κ h it a i ∧ AtK κ h a its) := by
  cases κ
  · exact Draws.tuple hh it a ne its
  · exact Draws.list hh it a ne its
theorem begins_K (κ : Bool) (a : Addr) (its : Array Value) : Begins (.ref a) (nwK κ a) fun h => AtK κ h a its := by
  cases κ
  · exact begins_tuple a its
  · exact begins_list a its
theorem nwK_it (κ : Bool) {h : Heap} {it a : Addr} (e : h.get? it = some (nwK κ a)) : ItK κ h it a 0 := by
  cases κ <;> exact ⟨_, e, rfl, rfl⟩
section
variable {X : Cx} {pins : List (Addr × Obj)} {σ : L2.St} {H : Hp} {s : Shared} {κ : Bool} {a : Addr} {xs ys : List V}
theorem seqK (I : Inv X pins σ H s) (q : SqK κ X.K H a xs) : ∃ its, Vals xs its ∧ AtK κ s.heap a its.toArray ∧ a < s.heap.objs.size := by
  cases κ
  · obtain ⟨its, r, p, _⟩ := I.tuple q
    obtain ⟨o, ho, _⟩ := id p
    exact ⟨its, r, p, Heap.lt_size ho⟩
  · obtain ⟨its, r, p, _⟩ := I.list q
    exact ⟨its, r, p.isList, p.lt⟩
theorem injK (I : Inv X pins σ H s) (q : SqK κ X.K H a xs) (q2 : SqK κ X.K H a ys) : xs = ys := by
  cases κ
  · exact I.tuple_inj q q2
  · exact I.list_inj q q2
end
/-- the two as they stand at each turn, their items in new pairs -/
def ItzK (κ μ : Bool) (K : PySem.W.Frag) (a b : Addr) : It :=
  ⟨fun i H => ∃ (xs ys : List V) (x y : V), SqK κ K H a xs ∧ SqK μ K H b ys ∧ xs[i]? = some x ∧ ys[i]? = some y,
    fun i H v G => ∃ T x y, v = .ref T ∧ H T = none ∧ G = upd H T (.tup [x, y]) ∧ (∀ l, SqK κ K H a l → l[i]? = some x) ∧ ∀ l, SqK μ K H b l → l[i]? = some y,
    fun i H => ∃ xs ys : List V, SqK κ K H a xs ∧ SqK μ K H b ys ∧ i ≤ xs.length ∧ i ≤ ys.length ∧ (xs.length = i ∨ ys.length = i)⟩
theorem turn_zipK {P : Program} {w : World} {K : PySem.W.Frag} {κ μ : Bool} {elts : List Expr} {kk : Nat} {tpos : Pos} {a b z TI TO i1 i2 : Addr} (D : ZipApart z TI TO i1 i2 a b) :
    Turn P w K (.Tuple elts kk tpos) (ItzK κ μ K a b) [z, TI, TO, i1, i2] z (fun i h => IsZip h z TI TO .none ∧ IsTupOf2 h TI (.ref i1) (.ref i2) ∧ (∃ x y, IsTupOf2 h TO x y) ∧ ItK κ h i1 a i ∧ ItK μ h i2 b i) := by
  have S : ZipSep2 z TI TO i1 i2 [i1, a] [i2, b] := ⟨D.TIz, D.TOz, D.TITO, D.TIi1, by simp, by simp [D.i1z.symm, D.l1z.symm], by simp [D.TOi1, D.l1TO.symm], D.TIi2, by simp, by simp [D.i2z.symm, D.l2z.symm], by simp [D.TOi2, D.l2TO.symm], by simp [D.i12, D.l2i1.symm], by simp [D.i12.symm, D.l1i2.symm]⟩
  have five : ∀ {c : Addr}, c ∈ [z, TI, TO, i1, i2] → c = z ∨ c = TI ∨ c = TO ∨ c = i1 ∨ c = i2 := fun hc => by simpa using hc
  refine ⟨by simp, fun i h st c hc => ?_, fun i h h' st k => ?_, ?_, ?_, fun A i s Q E st h => wpAny_pyIter_zip st.1 h⟩
  · obtain ⟨q1, q2, ⟨x, y, q3⟩, q4, q5⟩ := st
    obtain ⟨o1, f1, e1, d1⟩ := q4.obj
    obtain ⟨o2, f2, e2, d2⟩ := q5.obj
    rcases five hc with rfl | rfl | rfl | rfl | rfl
    · exact ⟨_, q1, fun v q => nomatch q⟩
    · exact ⟨_, q2, fun v q => nomatch q⟩
    · exact ⟨_, q3, fun v q => nomatch q⟩
    · exact ⟨o1, e1, fun v q => by rw [d1] at q; cases q⟩
    · exact ⟨o2, e2, fun v q => by rw [d2] at q; cases q⟩
  · obtain ⟨q1, q2, ⟨x, y, q3⟩, q4, q5⟩ := st
    exact ⟨k z (by simp) _ q1, k TI (by simp) _ q2, ⟨x, y, k TO (by simp) _ q3⟩, q4.at (k i1 (by simp)), q5.at (k i2 (by simp))⟩
  · intro X hP hw hK hc i pins s σ H E I hf st hg
    subst hP hw hK
    obtain ⟨q1, q2, ⟨x0, y0, q3⟩, q4, q5⟩ := st
    obtain ⟨xs, ys, x, y, sx, sy, hx, hy⟩ := hg
    obtain ⟨its, r1, p1, _⟩ := seqK I sx
    obtain ⟨jts, r2, p2, _⟩ := seqK I sy
    obtain ⟨u, hu, ru⟩ := r1.get hx
    obtain ⟨v, hv, rv⟩ := r2.get hy
    have zl : z < s.heap.objs.size := Heap.lt_size q1
    have lt1 : i < its.toArray.size := by rw [List.size_toArray]; exact (List.getElem?_eq_some_iff.mp hu).1
    have lt2 : i < jts.toArray.size := by rw [List.size_toArray]; exact (List.getElem?_eq_some_iff.mp hv).1
    refine wpAny_pyNext_zipD2_item S (draws_K κ (show X.A.in1.handled = none by simp [I.ok.hd hc]) i1 a D.l1i1 its.toArray) (draws_K μ (show X.A.in1.handled = none by simp [I.ok.hd hc]) i2 b D.l2i2 jts.toArray) q1 q2 q3 ⟨q4, p1⟩ ⟨q5, p2⟩ lt1 lt2 fun u' v' h' tk y1 y2 b1 b2 d1 d2 b5 b6 keep => ?_
    have eu : u' = u := by
      have e : its[i]? = some u' := by simpa using y1
      rw [hu] at e
      exact (Option.some.inj e).symm
    have ev : v' = v := by
      have e : jts[i]? = some v' := by simpa using y2
      rw [hv] at e
      exact (Option.some.inj e).symm
    subst eu ev
    refine ⟨_, rfl, wpAny_letOwnedTupleGo_zip (s := { s with heap := h', toks := tk }) b1 fun h2 c1 sb => ?_⟩
    have hT : h2.get? s.heap.objs.size = some { cls := .type "tuple", data := .seq #[u', v'] } := (sb.2 _ (Nat.ne_of_gt zl)).trans b5
    have nw : ObjOk X.prog X.w (upd H s.heap.objs.size (.tup [x, y])) h2 s.heap.objs.size (.tup [x, y]) := ⟨by show 2 ≤ sizeLine; decide, [u', v'], .cons ru (.cons rv .nil), ⟨_, hT, rfl, _, rfl⟩⟩
    have J : Inv X pins σ (upd H s.heap.objs.size (.tup [x, y])) { s with heap := h2, toks := tk } :=
      I.turnedNew (t' := tk) (ch := [z, TI, TO, i1, i2]) (fun c o nc q => (sb.2 c fun e => nc (by simp [e])).trans (keep c o (fun e => nc (by simp [e])) (fun e => nc (by simp [e])) (fun e => nc (by simp [e])) (fun e => nc (by simp [e])) q)) hf (Nat.le_refl _) nw
    refine ⟨.ref s.heap.objs.size, _, J, rfl, ⟨_, x, y, rfl, I.hok.fresh (Nat.le_refl _), rfl, fun l q => by rw [injK I q sx]; exact hx, fun l q => by rw [injK I q sy]; exact hy⟩, ⟨c1, ?_, ⟨u', v', ?_⟩, ?_, ?_⟩, fun c hc => ?_⟩
    · exact (sb.2 _ D.TIz).trans (keep _ _ D.TIz D.TITO D.TIi1 D.TIi2 q2)
    · exact (sb.2 _ D.TOz).trans b2
    · exact d1.1.at fun o q => (sb.2 _ D.i1z).trans q
    · exact d2.1.at fun o q => (sb.2 _ D.i2z).trans q
    · obtain ⟨o1, f1, e1, _⟩ := q4.obj
      obtain ⟨o2, f2, e2, _⟩ := q5.obj
      have lt : c < s.heap.objs.size := by
        rcases five hc with rfl | rfl | rfl | rfl | rfl
        · exact zl
        · exact Heap.lt_size q2
        · exact Heap.lt_size q3
        · exact Heap.lt_size e1
        · exact Heap.lt_size e2
      rw [upd_ne (Nat.ne_of_lt lt)]
      exact (hf c hc).1
  · intro X hP hw hK hc i pins s σ H E I hf st hg
    subst hP hw hK
    obtain ⟨q1, q2, ⟨x0, y0, q3⟩, q4, q5⟩ := st
    obtain ⟨xs, ys, sx, sy, le1, le2, hend⟩ := hg
    obtain ⟨its, r1, p1, _⟩ := seqK I sx
    obtain ⟨jts, r2, p2, _⟩ := seqK I sy
    have z1 : its.toArray.size = xs.length := by rw [List.size_toArray, ← r1.length]
    have z2 : jts.toArray.size = ys.length := by rw [List.size_toArray, ← r2.length]
    exact wpAny_pyNext_zipD2_end S (draws_K κ (show X.A.in1.handled = none by simp [I.ok.hd hc]) i1 a D.l1i1 its.toArray) (draws_K μ (show X.A.in1.handled = none by simp [I.ok.hd hc]) i2 b D.l2i2 jts.toArray) q1 q2 q3 ⟨q4, p1⟩ ⟨q5, p2⟩ (by rw [z1]; exact le1) (by rw [z2]; exact le2) (by rw [z1, z2]; omega) fun h' tk keep => ⟨rfl, I.turnedL (t' := tk) (ch := [z, TI, TO, i1, i2]) (fun c o nc q =>
      keep c o (fun e => nc (by simp [e])) (fun e => nc (by simp [e])) (fun e => nc (by simp [e])) (fun e => nc (by simp [e])) q) hf⟩
def iZipK (K : PySem.W.Frag) (ta : TA) : TI := fun σ H R => ta σ H fun vs H1 => ∃ κ μ a b xs ys, vs = [.ref a, .ref b] ∧ SqK κ K H1 a xs ∧ SqK μ K H1 b ys ∧ R (ItzK κ μ K a b) H1
theorem pi_zipK {X : Cx} {e e2 : Expr} {ta : TA} {p pos tpos : Pos} {elts : List Expr} {kk : Nat} (hg : Gl X "zip") (hm : X.mg "zip" = none) (ha : PA X [e, e2] ta) (hs : starEach [e, e2] X.env = (false, eval e X.env) :: starEach [e2] X.env := by rfl) (hpl : (backTo pos (starEach [e2] X.env)).any (·.1) = false := by rfl) :
    PI X (.Tuple elts kk tpos) (.Call (.Name "zip" p) [e, e2] [] pos) (iZipK X.K ta) := ⟨fun pins s σ H R I h => by
  refine Call_ (ld_blt I hg hm boot_zip (callWith_type1 (thn (ha.run pos pins s σ H _ I h) fun us s1 ⟨vs, H1, I1, r1, κ, μ, a, b, xs, ys, ex, sx, sy, q⟩ => ?_) hs hpl))
  subst ex
  obtain ⟨u1, u2, rfl, ra, rb⟩ := vals2 r1
  cases ra; cases rb
  obtain ⟨its, _, p1, l1⟩ := seqK I1 sx
  obtain ⟨jts, _, p2, l2⟩ := seqK I1 sy
  have fresh : ∀ c, c ∈ [s1.heap.objs.size + 4, s1.heap.objs.size + 2, s1.heap.objs.size + 3, s1.heap.objs.size, s1.heap.objs.size + 1] → FpOk X pins H1 c := fun c hc => by
    have le : s1.heap.objs.size ≤ c := by
      have e : c = s1.heap.objs.size + 4 ∨ c = s1.heap.objs.size + 2 ∨ c = s1.heap.objs.size + 3 ∨ c = s1.heap.objs.size ∨ c = s1.heap.objs.size + 1 := by simpa using hc
      rcases e with e | e | e | e | e <;> rw [e] <;> first | exact Nat.le_add_right _ _ | exact Nat.le_refl _
    exact I1.fpOk le (I1.hok.fresh le)
  refine zip_begins2 (begins_K κ a its.toArray) (begins_K μ b jts.toArray) p1 p2 fun h' g1 g2 g3 g4 g5 _ keep => wpAny_pyIter_zip g1 ?_
  exact ⟨_, _, _, _, H1, rfl, I1.kept (t' := s1.toks) keep, turn_zipK (PySem.W.ktu_apart s1.heap.objs.size a b l1 l2), ⟨g1, g2, ⟨_, _, g3⟩, nwK_it κ g4, nwK_it μ g5⟩, fresh, q⟩⟩
end Pk
end

section -- PvP
set_option linter.all false
set_option maxRecDepth 100000
set_option maxHeartbeats 4000000
/-! PvP: zip of two, each a list or a tuple. -/
namespace Pv
open PySem PySem.Spec L2 Pk Evl
open PyProof.Rows hiding St
section
variable {S : Type} {W : Wd S} {E : XK}
def obK (κ : Bool) (vs : List V) : HO := match κ with | true => .lst vs | false => .tup vs
theorem sqK_of {κ : Bool} {K : PySem.W.Frag} {H : Hp} {a : Addr} {vs : List V} (h : H a = some (obK κ vs)) : SqK κ K H a vs := by
  cases κ
  · exact st_of h
  · exact sq_of h
theorem lu_K {x : PV} {l : List PV} {A : Addr → Prop} {H : Hp} {v : V} (hx : x = .tup l ∨ x = .lst l) (r : Rd A H x v) : ∃ κ a vs, v = .ref a ∧ ¬ A a ∧ H a = some (obK κ vs) ∧ RdL A H l vs ∧ ∀ A' H', Rd A' H' x (.ref a) → ∃ ws, H' a = some (obK κ ws) ∧ RdL A' H' l ws := by
  rcases hx with rfl | rfl
  · obtain ⟨a, vs, rfl, na, ha, rl⟩ := r
    refine ⟨false, a, vs, rfl, na, ha, rl, fun A' H' q => ?_⟩
    obtain ⟨b, ws, e, _, h, q⟩ := q
    cases e
    exact ⟨ws, h, q⟩
  · obtain ⟨a, vs, rfl, na, ha, rl⟩ := r
    refine ⟨true, a, vs, rfl, na, ha, rl, fun A' H' q => ?_⟩
    obtain ⟨b, ws, e, _, h, q⟩ := q
    cases e
    exact ⟨ws, h, q⟩
theorem walk_zK {κ μ : Bool} {K : PySem.W.Frag} {a b : Addr} {n m l : Nat} (hl : l = min n m) : Walk (ItzK κ μ K a b) l (fun H => ∃ vs ws : List V, H a = some (obK κ vs) ∧ vs.length = n ∧ H b = some (obK μ ws) ∧ ws.length = m)
    (fun i H v G => ∃ T x y, v = .ref T ∧ H T = none ∧ G = upd H T (.tup [x, y]) ∧ (∀ vs, H a = some (obK κ vs) → vs[i]? = some x) ∧ ∀ vs, H b = some (obK μ vs) → vs[i]? = some y) := by
  subst hl
  refine ⟨fun i H hi ⟨vs, ws, q, l1, q2, l2⟩ => ?_, fun H ⟨vs, ws, q, l1, q2, l2⟩ => ⟨vs, ws, sqK_of q, sqK_of q2, by omega, by omega, by omega⟩, fun i H v G _ _ y => ?_⟩
  · exact ⟨vs, ws, vs[i]'(by omega), ws[i]'(by omega), sqK_of q, sqK_of q2, by simp [show i < vs.length by omega], by simp [show i < ws.length by omega]⟩
  · obtain ⟨T, x, z, h1, h2, h3, h4, h5⟩ := y
    exact ⟨T, x, z, h1, h2, h3, fun vs q => h4 vs (sqK_of q), fun vs q => h5 vs (sqK_of q)⟩
def fiZK (fa : FA S) : FI S := fun ρ s F X => fa ρ s (fun xs s1 => two xs fun x y => asLU x fun l => asLU y fun m => F (zipP l m) s1) X
instance ai_zipK {K : PySem.W.Frag} {ta : TA} {fa : FA S} [ia : AA W E ta fa] : AI W E (iZipK K ta) (fiZK fa) := ⟨fun {A σ H ρ s F X R} c r0 x h k =>
  ia.run c r0 x h fun u H1 p s1 rp f1 w1 h1 => by
    obtain ⟨z, z2, v, v2, rfl, rfl, rz, rz2, h2⟩ := two_ok h1 rp
    obtain ⟨l, e1, h3⟩ := asLU_ok h2
    obtain ⟨m, e2, h4⟩ := asLU_ok h3
    obtain ⟨κ, a, vs, rfl, na, ha, rl, back1⟩ := lu_K e1 rz
    obtain ⟨μ, b, ws, rfl, nb, hb, rm, back2⟩ := lu_K e2 rz2
    have e : (zipP l m).length = min l.length m.length := by unfold zipP; rw [List.length_map, List.length_zip]
    refine ⟨κ, μ, a, b, vs, ws, rfl, sqK_of ha, sqK_of hb, k _ H1 _ s1 [Pin.rd z (.ref a), Pin.rd z2 (.ref b)] _ _ (walk_zK e) (fun p m => ?_) (fun A2 H2 q => ?_) (fun A2 i H2 v H3 hi lv q y => ?_) f1 w1 h4⟩
    · rcases List.mem_cons.mp m with rfl | m
      · exact rz
      · rw [List.mem_singleton.mp m]; exact rz2
    · obtain ⟨us, q1, r1⟩ := back1 A2 H2 (q (Pin.rd z (.ref a)) List.mem_cons_self)
      obtain ⟨us2, q2, r2⟩ := back2 A2 H2 (q (Pin.rd z2 (.ref b)) (List.mem_cons_of_mem _ (List.mem_singleton.mpr rfl)))
      exact ⟨us, us2, q1, r1.len.symm, q2, r2.len.symm⟩
    · obtain ⟨us, q1, r1⟩ := back1 A2 H2 (q (Pin.rd z (.ref a)) List.mem_cons_self)
      obtain ⟨us2, q2, r2⟩ := back2 A2 H2 (q (Pin.rd z2 (.ref b)) (List.mem_cons_of_mem _ (List.mem_singleton.mpr rfl)))
      obtain ⟨T, u1, u2, rfl, hT, e3, g1, g2⟩ := y
      obtain ⟨x1, y1, p1⟩ := r1.get (g1 us q1)
      obtain ⟨x2, y2, p2⟩ := r2.get (g2 us2 q2)
      obtain ⟨ex, rt⟩ := pair_rd lv hT e3 p1 p2
      refine ⟨ex, _, ?_, rt⟩
      unfold zipP
      rw [List.getElem?_map, show (l.zip m)[i]? = some (x1, x2) from List.getElem?_zip_eq_some.mpr ⟨y1, y2⟩]
      rfl⟩
end
end Pv
end

section -- PvQ
set_option linter.all false
set_option maxRecDepth 100000
set_option maxHeartbeats 4000000
/-! PvQ: == of dicts, of instances by their own __eq__; str(x) by its own __str__. -/
namespace Pv
open PySem PySem.Spec L2 Pk Evl
open PyProof.Rows hiding St
/-- the world in which nothing changes -/
def W0 : Wd Unit where
  rel _ _ := True
  pf _ := False
  sp _ := False
  ps h := h
  lives := fun _ h => h.elim
  stabs := fun _ _ => trivial
theorem ct0 {A : Addr → Prop} {H : Hp} (l : ∀ a, A a → H a ≠ none) : Ct W0 A H () := ⟨fun _ h => False.elim h, l, trivial⟩
theorem fr0 {H H' : Hp} (f : Fr W0.pf H H') : Ex H H' := fun a o h => f a o (fun z => z) h
theorem xl0 {A : Addr → Prop} {H : Hp} {E : XK} : XL W0 A H E fun _ _ _ _ => False := fun _ _ _ _ _ _ _ _ _ _ _ _ q => q.elim
/-! ### own __eq__ -/
def gOwnEq (C : Addr) (pre : FP Unit) : PV → PV → (PV → Prop) → Prop := fun x y F => asO x fun C1 _ _ => C1 = C ∧ asO y fun C2 _ _ => C2 = C ∧ pre [x, y] () (fun z _ => asB z fun b => F (.bl b)) fun _ _ _ _ => False
instance ao_ownEq {C : Addr} {pre : FP Unit} {E : XK} : AO (rOwnEq C (fun vs H Q => spF W0 2 pre vs H Q E)) (gOwnEq C pre) false := ⟨fun {A H x y u v F Q} l r1 r2 h k => by
  obtain ⟨C1, ns, xs, rfl, rfl, h1⟩ := asO_ok h
  obtain ⟨C2, ms, ys, rfl, rfl, h2⟩ := asO_ok h1
  obtain ⟨a, dx, ws, rfl, na, ha, ea, ra⟩ := id r1
  obtain ⟨b, dy, ws2, rfl, nb, hb, eb, rb⟩ := id r2
  refine ⟨a, dx, b, dy, ws, ws2, rfl, ha, rfl, hb, rfl, A, _, (), _, _, ct0 l, RdL.cons r1 (RdL.cons r2 RdL.nil), xl0, h2, fun z H' y s' ry f w hz => ?_⟩
  obtain ⟨c, rfl, hf⟩ := asB_ok hz
  exact ⟨c, ry, k _ H' (.bl c) rfl (fun z => nomatch z) (fr0 f) hf⟩⟩
def gEqV (neg : Bool) (K : PySem.W.Frag) (C : Addr) (pre : FP Unit) : PV → PV → (PV → Prop) → Prop := fun x y F => asO x fun C1 _ _ => C1 = C ∧ ∃ T, TyP K y T ∧ PySem.W.notFirst K C T = true ∧ pre [x, y] () (fun z _ => asB z fun b => F (.bl (b != neg))) fun _ _ _ _ => False
instance ao_eqV {K : PySem.W.Frag} {neg : Bool} {C : Addr} {pre : FP Unit} {E : XK} : AO (Pk.rEqV neg K C (fun vs H Q => spF W0 2 pre vs H Q E)) (gEqV neg K C pre) false := ⟨fun {A H x y u v F Q} l r1 r2 h k => by
  obtain ⟨C1, ns, xs, rfl, rfl, T, ty, nf, h2⟩ := asO_ok h
  obtain ⟨a, dx, ws, rfl, na, ha, ea, ra⟩ := id r1
  refine ⟨a, dx, ws, T, rfl, ha, ty.ok r2, nf, rfl, A, _, (), _, _, ct0 l, RdL.cons r1 (RdL.cons r2 RdL.nil), xl0, h2, fun z H' y s' ry f w hz => ?_⟩
  obtain ⟨c, rfl, hf⟩ := asB_ok hz
  exact ⟨c, ry, k _ H' (.bl (c != neg)) rfl (fun z => nomatch z) (fr0 f) hf⟩⟩
/-! ### own __str__ -/
def gOwnT (C : Addr) (pre : FP Unit) : List PV → (PV → Prop) → Prop := fun xs F => one xs fun x => asO x fun C1 _ _ => C1 = C ∧ pre [x] () (fun z _ => asS z fun b => F (.str b)) fun _ _ _ _ => False
instance ac_ownT {C : Addr} {pre : FP Unit} {E : XK} : AC (rOwnT C (fun vs H Q => spF W0 1 pre vs H Q E)) (gOwnT C pre) false := ⟨fun {A H xs us F Q} l r h k => by
  obtain ⟨x, u, rfl, rfl, rx, h1⟩ := one_ok h r
  obtain ⟨C1, ns, ys, rfl, rfl, h2⟩ := asO_ok h1
  obtain ⟨a, dx, ws, rfl, na, ha, ea, ra⟩ := id rx
  refine ⟨a, dx, ws, rfl, ha, rfl, A, _, (), _, _, ct0 l, RdL.cons rx RdL.nil, xl0, h2, fun z H' y s' ry f w hz => ?_⟩
  obtain ⟨c, rfl, hf⟩ := asS_ok hz
  exact ⟨c, ry, k _ H' (.str c) rfl (fun z => nomatch z) (fr0 f) hf⟩⟩
/-! ### == of two dicts of data that are equal -/
def EqDat (K : PySem.W.Frag) (H : Hp) (x y : V) : Prop := ∃ d e, Dp K H x d ∧ Dp K H y e ∧ (d.canLay0 = true ∧ d.depth ≤ 60) ∧ (e.canLay0 = true ∧ e.depth ≤ 60) ∧ PyData.eqv d e = true
def rEqDT (K : PySem.W.Frag) : R2 := fun x y H Q => ∃ a b ks ls, x = .ref a ∧ y = .ref b ∧ L2.Rd H a (.dK ks) ∧ L2.Rd H b (.dK ls) ∧ ks.length = ls.length ∧ (∀ p ∈ ks, ∃ u, valV ls p.1 = some u ∧ EqDat K H p.2 u) ∧ Q (.bl true) H
theorem op_eqDT {X : Cx} (hu : X.A.units + 64 < cLine) : OpR X (compareOp .Eq) (rEqDT X.K) := by
  intro pins s σ H x y v u Q I rx ry h
  obtain ⟨a, b, ks, ls, rfl, rfl, ha, hb, hl, hp, q⟩ := h
  cases (show v = Value.ref a from rx)
  cases (show u = Value.ref b from ry)
  obtain ⟨_, ya, va, ra, da⟩ := dk_rd I.hok ha
  obtain ⟨_, yb, vb, rb, db⟩ := dk_rd I.hok hb
  have ih : ∀ (x y : V) (v u : Value), EqDat X.K H x y → RelV x v → RelV y u → SeqAt.EqP X.prog X.w X.A.in1 s v u true := fun x y v u ⟨d, e, hd, he, sd, se, hq⟩ rx ry => by
    obtain ⟨as, r1⟩ := Dp.reads I d x v hd rx
    obtain ⟨bs, r2⟩ := Dp.reads I e y u he ry
    have z := SeqAt.eqAt_reads d e X.A.in1 s v u as bs r1 r2 sd.1 se.1 (by show X.A.units + 1 + min d.depth e.depth < cLine; have := sd.2; omega)
    rw [hq] at z
    exact z.eqP
  refine PySem.W.rcP_dicts (knd := mixKind X.prog X.w) (r := true) ya yb da db (by omega) (fun _ => hits_run ih rb ra hp) _ _ ?_
  have e : va.length = vb.length := by rw [← ra.length, ← rb.length]; exact hl
  rw [show (va.length == vb.length && true) = true from by rw [e]; simp]
  exact ⟨.bl true, H, I, rfl, q⟩
theorem valV_at {ks : List Key} : ∀ {ws : List (Key × V)} {i : Nat} {k : Key} {u : V}, ws.map (·.1) = ks → ks.Nodup → ws[i]? = some (k, u) → valV ws k = some u
  | [], i, k, u, e, nd, h => by cases h
  | (m, v) :: ws, 0, k, u, e, nd, h => by
    cases h
    exact valV_pos (p := (m, v)) rfl
  | (m, v) :: ws, i + 1, k, u, e, nd, h => by
    subst e
    rw [List.map_cons, List.nodup_cons] at nd
    have hm : ws[i]? = some (k, u) := h
    have ne : ¬ m = k := fun z => nd.1 (by
      subst z
      exact List.mem_map.mpr ⟨_, List.mem_of_getElem? hm, rfl⟩)
    rw [valV_neg (p := (m, v)) ne]
    exact valV_at (ks := ws.map (·.1)) rfl nd.2 hm
mutual
theorem pvD_refl : ∀ {x : PV} {d : PyData}, pvD x = some d → PyData.eqv d d = true
  | .non, d, h => by unfold pvD at h; cases h; unfold PyData.eqv; rfl
  | .bl b, d, h => by unfold pvD at h; cases h; unfold PyData.eqv; exact beq_self_eq_true b
  | .int b, d, h => by unfold pvD at h; cases h; unfold PyData.eqv; exact beq_self_eq_true b
  | .str b, d, h => by unfold pvD at h; cases h; unfold PyData.eqv; exact beq_self_eq_true b
  | .ty _, d, h => by unfold pvD at h; cases h
  | .adr _, d, h => by unfold pvD at h; cases h
  | .oth _, d, h => by unfold pvD at h; cases h
  | .dct _ _, d, h => by unfold pvD at h; cases h
  | .ins _ _ _, d, h => by unfold pvD at h; cases h
  | .lst xs, d, h => by
    unfold pvD at h
    cases q : pvDs xs with
    | none => rw [q] at h; cases h
    | some ds =>
      rw [q] at h
      cases h
      unfold PyData.eqv
      exact pvDs_refl q
  | .tup xs, d, h => by
    unfold pvD at h
    cases q : pvDs xs with
    | none => rw [q] at h; cases h
    | some ds =>
      rw [q] at h
      cases h
      unfold PyData.eqv
      exact pvDs_refl q
theorem pvDs_refl : ∀ {xs : List PV} {ds : List PyData}, pvDs xs = some ds → PyData.eqvAll ds ds = true
  | [], ds, h => by unfold pvDs at h; cases h; unfold PyData.eqvAll; rfl
  | x :: xs, ds, h => by
    unfold pvDs at h
    cases q : pvD x with
    | none => rw [q] at h; cases h
    | some d =>
      cases q2 : pvDs xs with
      | none => rw [q, q2] at h; cases h
      | some es =>
        rw [q, q2] at h
        cases h
        unfold PyData.eqvAll
        rw [pvD_refl q, pvDs_refl q2]
        rfl
end
/-- data that may be compared -/
def Shp (x : PV) : Prop := ∃ d, pvD x = some d ∧ d.canLay0 = true ∧ d.depth ≤ 60
theorem shaped_of {d : PyData} (h : d.canLay0 = true ∧ d.depth ≤ 60) : SeqAt.shaped d = true := by
  unfold SeqAt.shaped
  rw [h.1, decide_eq_true (show d.depth ≤ 64 by have := h.2; omega)]
  rfl
def gEqDT : PV → PV → (PV → Prop) → Prop := fun x y F => x = y ∧ asD x fun ks xs => ks.Nodup ∧ (∀ v ∈ xs, Shp v) ∧ F (.bl true)
instance ao_eqDT {K : PySem.W.Frag} : AO (rEqDT K) gEqDT false := ⟨fun {A H x y u v F Q} l r1 r2 h k => by
  obtain ⟨rfl, h1⟩ := h
  obtain ⟨ks, xs, rfl, nd, hs, hf⟩ := asD_ok h1
  obtain ⟨a, ws, rfl, na, ha, ea, ra⟩ := id r1
  obtain ⟨b, ws2, rfl, nb, hb, eb, rb⟩ := id r2
  have len : ws.length = ws2.length := by
    have := congrArg List.length (ea.trans eb.symm)
    rw [List.length_map, List.length_map] at this
    exact this
  refine ⟨a, b, ws, ws2, rfl, rfl, ha, hb, len, fun p hp => ?_, k _ _ (.bl true) rfl (fun z => nomatch z) (Ex.refl _) hf⟩
  obtain ⟨i, hi, e⟩ := List.mem_iff_getElem.mp hp
  have i1 : ws[i]? = some p := by rw [List.getElem?_eq_getElem hi, e]
  have i2 : i < ws2.length := by rw [← len]; exact hi
  have h2 : ws2[i]? = some ws2[i] := List.getElem?_eq_getElem i2
  have kk : (ws2[i]).1 = p.1 := by
    have q1 : (ws.map (·.1))[i]? = some p.1 := by rw [List.getElem?_map, i1]; rfl
    have q2 : (ws2.map (·.1))[i]? = some (ws2[i]).1 := by rw [List.getElem?_map, h2]; rfl
    rw [ea] at q1
    rw [eb, q1] at q2
    exact (Option.some.inj q2).symm
  refine ⟨(ws2[i]).2, valV_at (i := i) eb nd (by rw [h2, ← kk]), ?_⟩
  obtain ⟨x1, g1, d1⟩ := ra.get (i := i) (v := p.2) (by rw [List.getElem?_map, i1]; rfl)
  obtain ⟨x2, g2, d2⟩ := rb.get (i := i) (v := (ws2[i]).2) (by rw [List.getElem?_map, h2]; rfl)
  rw [g1] at g2
  cases g2
  obtain ⟨d, hd, sd⟩ := hs x1 (List.mem_of_getElem? g1)
  exact ⟨d, d, pvD_ok d1 hd, pvD_ok d2 hd, sd, sd, pvD_refl hd⟩⟩
end Pv
end

section -- PvR
set_option linter.all false
set_option maxRecDepth 100000
set_option maxHeartbeats 4000000
/-! PvR: methods without arguments; joined texts; what is compared. -/
namespace Pv
open PySem PySem.Spec L2 Pk Evl
open PyProof.Rows hiding St
section
variable {S : Type} {W : Wd S} {E : XK}
instance ae_meth {C : Addr} {m : Str} {n : Nat} {pre : FP S} {dvs : List V} {ta : TE} {t : TA} {fo : FE S} {fa : FA S} {b : Bool} {E' : XK} [io : AE W E ta fo b] [ia : AA W E t fa] [ee : EE E fun _ => E'] :
    AE W E (tMeth C m (spF W n pre) dvs E' ta t) (fMeth C m n pre (dvs.map toPV) fo fa) false := ⟨fun {A σ H ρ s F X Q} c r0 x h k =>
  io.run c r0 x h fun u H1 p s1 rp _ f1 w1 h1 => by
    obtain ⟨C', ns, ys, rfl, rfl, hn, h2⟩ := asO_ok h1
    obtain ⟨a, dx, ws, rfl, na, ha, en, rl⟩ := id rp
    refine ⟨a, dx, ws, rfl, ha, lookup_none en hn, ia.run (c.next f1 w1) (r0.next c f1) (x.next f1) h2 fun vs H2 xs s2 rv f2 w2 h3 => ?_⟩
    have c2 := (c.next f1 w1).next f2 w2
    have ra : RdL A H2 (.ins C' ns ys :: (xs ++ dvs.map toPV)) (.ref a :: (vs ++ dvs)) := RdL.cons ((c.next f1 w1).fr rp f2) (rv.app (rdl_to dvs))
    exact ⟨by rw [← ra.len]; exact h3.1, A, _, s2, F, X, c2, ra, fun D d ns ys ws H2 s2 a b g f w q => ee.ok σ _ _ _ (x D d ns ys ws H2 s2 a b g ((f1.trans f2).trans f) w q), h3.2, fun v H3 z s3 rz f3 w3 h4 => k v H3 z s3 rz (fun z => nomatch z) ((f1.trans f2).trans f3) w3 h4⟩⟩
instance ae_meth0 {C : Addr} {m : Str} {n : Nat} {pre : FP S} {dvs : List V} {ta : TE} {t : TA} {fo : FE S} {fa : FA S} {b : Bool} [io : AE W E ta fo b] [ia : AA W E t fa] :
    AE W E (tMeth C m (spF W n pre) dvs E0 ta t) (fun ρ s F X => fo ρ s (fun x s1 => asO x fun C' ns _ => C' = C ∧ ns.contains m = false ∧ fa ρ s1 (fun xs s2 => (x :: (xs ++ dvs.map toPV)).length = n ∧ pre (x :: (xs ++ dvs.map toPV)) s2 F fun _ _ _ _ => False) X) X) false := ⟨fun {A σ H ρ s F X Q} c r0 x h k =>
  io.run c r0 x h fun u H1 p s1 rp _ f1 w1 h1 => by
    obtain ⟨C', ns, ys, rfl, rfl, hn, h2⟩ := asO_ok h1
    obtain ⟨a, dx, ws, rfl, na, ha, en, rl⟩ := id rp
    refine ⟨a, dx, ws, rfl, ha, lookup_none en hn, ia.run (c.next f1 w1) (r0.next c f1) (x.next f1) h2 fun vs H2 xs s2 rv f2 w2 h3 => ?_⟩
    have c2 := (c.next f1 w1).next f2 w2
    have ra : RdL A H2 (.ins C' ns ys :: (xs ++ dvs.map toPV)) (.ref a :: (vs ++ dvs)) := RdL.cons ((c.next f1 w1).fr rp f2) (rv.app (rdl_to dvs))
    exact ⟨by rw [← ra.len]; exact h3.1, A, _, s2, F, _, c2, ra, fun _ _ _ _ _ _ _ _ _ _ _ _ q => q.elim, h3.2, fun v H3 z s3 rz f3 w3 h4 => k v H3 z s3 rz (fun z => nomatch z) ((f1.trans f2).trans f3) w3 h4⟩⟩
end
/-! ### texts, joined -/
theorem sum_le {B : Nat} : ∀ {ys : List Str}, (∀ y ∈ ys, y.length ≤ B) → (ys.map (·.length)).sum ≤ ys.length * B
  | [], _ => by show 0 ≤ _; omega
  | y :: ys, h => by
    rw [List.map_cons, List.sum_cons, List.length_cons, Nat.add_mul, Nat.one_mul]
    have h1 := h y List.mem_cons_self
    have h2 := sum_le fun z hz => h z (List.mem_cons_of_mem _ hz)
    omega
theorem join_le {B : Nat} {sep : Str} {ys : List Str} (h : ∀ y ∈ ys, y.length ≤ B) : (Txt.join sep ys).length ≤ ys.length * (B + sep.length) := by
  have e : Txt.join sep ys = Str.join sep ys := StrLaws.glued_eq_join sep ys
  rw [e]
  have h1 := StrLaws.join_length_le sep ys
  have h2 := sum_le h
  rw [Nat.mul_add]
  omega
/-! ### what may be compared -/
def OkS (z : Str) : Prop := PyData.strOk z = true
theorem pvDs_strs : ∀ zs : List Str, pvDs (zs.map PV.str) = some (zs.map PyData.str)
  | [] => by unfold pvDs; rfl
  | z :: zs => by
    rw [List.map_cons]
    unfold pvDs pvD
    rw [pvDs_strs zs]
    rfl
theorem lay_strs : ∀ {zs : List Str}, (∀ z ∈ zs, OkS z) → PyData.canLayAll0 (zs.map PyData.str) = true
  | [], _ => by unfold PyData.canLayAll0; rfl
  | z :: zs, h => by
    rw [List.map_cons]
    unfold PyData.canLayAll0 PyData.canLay0
    rw [show PyData.strOk z = true from h z List.mem_cons_self, lay_strs fun y hy => h y (List.mem_cons_of_mem _ hy)]
    rfl
theorem depth_strs : ∀ zs : List Str, PyData.depthAll (zs.map PyData.str) = 0
  | [] => by unfold PyData.depthAll; rfl
  | z :: zs => by
    rw [List.map_cons]
    unfold PyData.depthAll
    rw [depth_strs zs]
    unfold PyData.depth
    rfl
theorem shp_str {z : Str} (h : OkS z) : Shp (.str z) := ⟨.str z, by unfold pvD; rfl, by
  refine ⟨by unfold PyData.canLay0; exact h, ?_⟩
  unfold PyData.depth
  decide⟩
theorem shp_tup {zs : List Str} (h : ∀ z ∈ zs, OkS z) : Shp (.tup (zs.map PV.str)) := ⟨.tuple (zs.map PyData.str), by unfold pvD; rw [pvDs_strs]; rfl, by
  refine ⟨by unfold PyData.canLay0; exact lay_strs h, ?_⟩
  unfold PyData.depth
  rw [depth_strs]
  decide⟩
theorem shp_lst {zs : List Str} (h : ∀ z ∈ zs, OkS z) : Shp (.lst (zs.map PV.str)) := ⟨.list (zs.map PyData.str), by unfold pvD; rw [pvDs_strs]; rfl, by
  refine ⟨by unfold PyData.canLay0; exact lay_strs h, ?_⟩
  unfold PyData.depth
  rw [depth_strs]
  decide⟩
/-- == of a thing and its like -/
theorem eqD_same {x : PV} {F : PV → Prop} (h : Shp x) (k : F (.bl true)) : gEqD false x x F := by
  obtain ⟨d, e, s⟩ := h
  unfold gEqD
  rw [e]
  exact ⟨shaped_of s, shaped_of s, by rw [if_neg (by decide), pvD_refl e]; exact k⟩
theorem neD_same {x : PV} {F : PV → Prop} (h : Shp x) (k : F (.bl false)) : gEqD true x x F := by
  obtain ⟨d, e, s⟩ := h
  unfold gEqD
  rw [e]
  exact ⟨shaped_of s, shaped_of s, by rw [if_pos rfl, pvD_refl e]; exact k⟩
end Pv
end

section -- PvS
set_option linter.all false
set_option maxRecDepth 100000
set_option maxHeartbeats 4000000
/-! PvS: instances made where nothing is raised; values that are new through and through. -/
namespace Pv
open PySem PySem.Spec L2 Pk Evl
open PyProof.Rows hiding St
theorem passE {X : Cx} {P : Program} {w : World} : Passes (L2.CX P w) X E0 := fun _ _ _ _ _ _ _ h => by
  obtain ⟨_, _, _, _, _, _, _, _, _, _, _, _, h⟩ := h
  exact h.elim
section
variable {S : Type} {W : Wd S} {E : XK}
/-- C(e, ..), which raises nothing -/
def fMake0 (C : Addr) (n : Nat) (pre : FI_ S) (ds : List PV) (fa : FA S) : FE S := fun ρ s F X => fa ρ s (fun xs s1 => (xs ++ ds).length = n ∧ pre (xs ++ ds) s1 (fun ns ys s2 => F (.ins C ns ys) s2) fun _ _ _ _ => False) X
theorem make_run {A : Addr → Prop} {H1 : Hp} {s1 : S} {C : Addr} {n : Nat} {pre : FI_ S} {F : PV → S → Prop} {xs : List PV} {vs : List V} {Q : VK} (c1 : Ct W A H1 s1) (ra : RdL A H1 xs vs) (hl : xs.length = n) (h1 : pre xs s1 (fun ns ys s2 => F (.ins C ns ys) s2) fun _ _ _ _ => False)
    (k : ∀ v H' x s', Rd A H' x v → New A H1 H' x v → Fr W.pf H1 H' → W.rel H' s' → F x s' → Q v H') {p dp : Addr} (hp : H1 p = none) (hdp : H1 dp = none) (ne : dp ≠ p) : spI W C n pre (.ref p :: vs) (upd (upd H1 dp (.own p)) p (.ins C dp [])) (fun v H2 => v = .non ∧ Q (.ref p) H2) E0 := by
  refine ⟨p, dp, vs, H1, rfl, rfl, hp, hdp, ne, by rw [← ra.len]; exact hl, A, _, s1, _, _, c1, ra, fun _ _ _ _ _ _ _ _ _ _ _ _ q => q.elim, h1, fun H2 ns ys s2 o f2 w2 h2 => ⟨rfl, ?_⟩⟩
  have np : ¬ A p := c1.new hp
  refine k _ H2 (.ins C ns ys) s2 ?_ ⟨p, rfl, hp, o⟩ f2 w2 h2
  obtain ⟨dx, ws, e1, e2, e3⟩ := o
  exact ⟨p, dx, ws, rfl, np, e1, e2, e3.less fun a z => .inl z⟩
instance ae_make0 {C : Addr} {n : Nat} {pre : FI_ S} {dvs : List V} {ta : TA} {fa : FA S} [ia : AA W E ta fa] :
    AE W E (tCS (fun _ vs H Q => ∀ x dx, H x = none → H dx = none → dx ≠ x → spI W C n pre (.ref x :: (vs ++ dvs)) (upd (upd H dx (.own x)) x (.ins C dx [])) (fun v H2 => v = .non ∧ Q (.ref x) H2) E0) ta) (fMake0 C n pre (dvs.map toPV) fa) true := ⟨fun {A σ H ρ s F X Q} c r0 x h k =>
  ia.run c r0 x h fun vs H1 xs s1 rv f1 w1 h1 => fun p dp hp hdp ne =>
    make_run (c.next f1 w1) (rv.app (rdl_to dvs)) h1.1 h1.2 (fun v H2 z s2 rz nz f2 w2 h2 => k v H2 z s2 rz (fun _ => nz.back w1 f1) (f1.trans f2) w2 h2) hp hdp ne⟩
instance ae_makeK {C : Addr} {n m : Nat} {pre : FI_ S} {tk : TA} {fk : FA S} [ia : AA W E tk fk] :
    AE W E (tMakeK C 0 m (spI W C n pre) (fun us ws => us ++ ws) E0 tNil tk) (fun ρ s F X => fk ρ s (fun xs s1 => xs.length = m ∧ xs.length = n ∧ pre xs s1 (fun ns ys s2 => F (.ins C ns ys) s2) fun _ _ _ _ => False) X) true := ⟨fun {A σ H ρ s F X Q} c r0 x h k =>
  ia.run c r0 x h fun zs H1 xs s1 rv f1 w1 h1 => ⟨rfl, by rw [← rv.len]; exact h1.1, fun p dp hp hdp ne =>
    make_run (c.next f1 w1) rv h1.2.1 h1.2.2 (fun v H2 z s2 rz nz f2 w2 h2 => k v H2 z s2 rz (fun _ => nz.back w1 f1) (f1.trans f2) w2 h2) hp hdp ne⟩⟩
end
/-! ### new through and through -/
/-- what A holds, and what stood in B -/
def newer (A : Addr → Prop) (B : Hp) : Addr → Prop := fun a => A a ∨ B a ≠ none
section
variable {S : Type}
class AN (W : Wd S) (E : XK) (te : TE) (f : outParam (FE S)) : Prop where
  run : ∀ {B : Hp} {A : Addr → Prop} {σ : L2.St} {H : Hp} {ρ : En} {s : S} {F : PV → S → Prop} {X : XF S} {Q : VK}, (∀ a, B a ≠ none → H a ≠ none) → Ct W A H s → VR W A H σ ρ → XL W A H E X → f ρ s F X →
    (∀ v H' x s', Rd (newer A B) H' x v → Fr W.pf H H' → W.rel H' s' → F x s' → Q v H') → te σ H Q
class ANA (W : Wd S) (E : XK) (ta : TA) (f : outParam (FA S)) : Prop where
  run : ∀ {B : Hp} {A : Addr → Prop} {σ : L2.St} {H : Hp} {ρ : En} {s : S} {F : List PV → S → Prop} {X : XF S} {Q : List V → Hp → Prop}, (∀ a, B a ≠ none → H a ≠ none) → Ct W A H s → VR W A H σ ρ → XL W A H E X → f ρ s F X →
    (∀ vs H' xs s', RdL (newer A B) H' xs vs → Fr W.pf H H' → W.rel H' s' → F xs s' → Q vs H') → ta σ H Q
variable {W : Wd S} {E : XK} {A : Addr → Prop} {B H H' : Hp} {s s' : S}
theorem live_next (c : Ct W A H s) (f : Fr W.pf H H') (w : W.rel H' s') {a : Addr} (h : H a ≠ none) : H' a ≠ none := fun z => h (back w f z)
theorem newer_lv (c : Ct W A H s) (hB : ∀ a, B a ≠ none → H a ≠ none) : ∀ a, newer A B a → H a ≠ none := fun a h => h.elim (c.lv a) (hB a)
theorem newer_fr (c : Ct W A H s) {x : PV} {v : V} (r : Rd (newer A B) H x v) (f : Fr W.pf H H') : Rd (newer A B) H' x v := r.to fun a o n h => ⟨n, f a o (fun z => n (.inl (c.pa a z))) h⟩
theorem newer_frL (c : Ct W A H s) {x : List PV} {v : List V} (r : RdL (newer A B) H x v) (f : Fr W.pf H H') : RdL (newer A B) H' x v := r.to fun a o n h => ⟨n, f a o (fun z => n (.inl (c.pa a z))) h⟩
instance (priority := low) an_scal {te : TE} {f : FE S} {b : Bool} [ie : AE W E te f b] : AN W E te (fun ρ s F X => f ρ s (fun x s1 => scal x = true ∧ F x s1) X) := ⟨fun hB c r0 x h k => ie.run c r0 x h fun v H' y s' ry _ f' w' h' => k v H' y s' (ry.scal h'.1) f' w' h'.2⟩
instance ana_nil : ANA W E tNil fNil := ⟨fun hB c _ _ h k => k [] _ [] _ rfl Fr.refl c.rel h⟩
instance ana_cons {ta : TE} {tr : TA} {fa : FE S} {fr : FA S} [ia : AN W E ta fa] [ir : ANA W E tr fr] : ANA W E (tCons ta tr) (fCons fa fr) := ⟨fun {B A σ H ρ s F X Q} hB c r0 x h k =>
  ia.run hB c r0 x h fun u H1 p s1 rp f1 w1 h1 => ir.run (fun a z => live_next c f1 w1 (hB a z)) (c.next f1 w1) (r0.next c f1) (x.next f1) h1 fun vs H2 qs s2 rq f2 w2 h2 =>
    k _ H2 _ s2 (RdL.cons (newer_fr (c.next f1 w1) rp f2) rq) (f1.trans f2) w2 h2⟩
instance an_lst {ta : TA} {fa : FA S} [ia : ANA W E ta fa] : AN W E (tLst ta) (fLst fa) := ⟨fun {B A σ H ρ s F X Q} hB c r0 x h k =>
  ia.run hB c r0 x h fun vs H1 xs s1 rv f1 w1 h1 => ⟨sz (by rw [← rv.len]; exact h1.1), fun p hp =>
    k _ _ (.lst xs) s1 ⟨p, vs, rfl, fun z => newer_lv (c.next f1 w1) (fun a z => live_next c f1 w1 (hB a z)) p z hp, upd_same, rv.ext (Ex.new hp)⟩ (f1.trans (Fr.of (Ex.new hp))) (W.stab w1 (Ex.new hp)) h1.2⟩⟩
instance an_tup {ta : TA} {fa : FA S} [ia : ANA W E ta fa] : AN W E (tTup ta) (fTup fa) := ⟨fun {B A σ H ρ s F X Q} hB c r0 x h k =>
  ia.run hB c r0 x h fun vs H1 xs s1 rv f1 w1 h1 => ⟨sz (by rw [← rv.len]; exact h1.1), fun p hp =>
    k _ _ (.tup xs) s1 ⟨p, vs, rfl, fun z => newer_lv (c.next f1 w1) (fun a z => live_next c f1 w1 (hB a z)) p z hp, upd_same, rv.ext (Ex.new hp)⟩ (f1.trans (Fr.of (Ex.new hp))) (W.stab w1 (Ex.new hp)) h1.2⟩⟩
instance an_cb {ta : TA} {fa : FA S} {b : Bool} {r : List V → Hp → VK → Prop} {g} [ia : ANA W E ta fa] [io : AC r g b] : AN W E (tCB r ta) (fCB g fa) := ⟨fun {B A σ H ρ s F X Q} hB c r0 x h k =>
  ia.run hB c r0 x h fun u H1 p s1 rp f1 w1 h1 => io.run (newer_lv (c.next f1 w1) fun a z => live_next c f1 w1 (hB a z)) rp h1 fun w H3 z rz _ e3 hz => k w H3 z s1 rz (f1.trans (Fr.of e3)) (W.stab w1 e3) hz⟩
/-- list(e) of what hangs on no object -/
def fListN (fe : FE S) : FE S := fun ρ s F X => fe ρ s (fun x s1 => asLU x fun l => (∀ y ∈ l, scal y = true) ∧ F (.lst l) s1) X
theorem rdl_scal {A A' : Addr → Prop} {H H' : Hp} : ∀ {xs : List PV} {vs : List V}, (∀ y ∈ xs, scal y = true) → RdL A H xs vs → RdL A' H' xs vs
  | [], _, _, r => r
  | x :: xs, _, h, ⟨v, ws, e, r1, r2⟩ => ⟨v, ws, e, r1.scal (h x List.mem_cons_self), rdl_scal (fun y hy => h y (List.mem_cons_of_mem _ hy)) r2⟩
instance (priority := high) an_list {K : PySem.W.Frag} {te : TE} {fe : FE S} {b : Bool} [ie : AE W E te fe b] : AN W E (tCB (rListS K) (tCons te tNil)) (fListN fe) := ⟨fun {B A σ H ρ s F X Q} hB c r0 x h k =>
  ie.run c r0 x h fun u H1 p s1 rp _ f1 w1 h1 => by
    obtain ⟨ys, e, hs, h2⟩ := asLU_ok h1
    have fin : ∀ (vs : List V), RdL A H1 ys vs → ∀ o, H1 o = none → Q (.ref o) (upd H1 o (.lst vs)) := fun vs ra o ho =>
      k _ _ (.lst ys) s1 ⟨o, _, rfl, fun z => newer_lv (c.next f1 w1) (fun a z => live_next c f1 w1 (hB a z)) o z ho, upd_same, rdl_scal hs ra⟩ (f1.trans (Fr.of (Ex.new ho))) (W.stab w1 (Ex.new ho)) h2
    rcases e with rfl | rfl
    · obtain ⟨p, vs, rfl, _, hp, rl⟩ := rp
      exact ⟨p, vs, rfl, .inr (st_of hp), fin vs rl⟩
    · obtain ⟨p, vs, rfl, _, hp, rl⟩ := rp
      exact ⟨p, vs, rfl, .inl (sq_of hp), fin vs rl⟩⟩
instance an_lc {wi : TI} {g : TG} {tt : TT} {te : TE} {vs : List Nat} {fi : FI S} {bg : PV → En → (En → Prop) → Prop} {ft : FT S} {fe : FE S} {js : List Nat} [ii : AI W E wi fi] [ig : AG W g js bg] [it : AT W E tt ft] [ie : AN W E te fe] : AN W E (tLc wi g tt te vs) (fLc js fi bg ft fe vs) := ⟨fun {B A σ H ρ s F X Q} hB c r0 x hh k =>
  have hj := hh.1
  ii.run c r0 x hh.2 fun J H1 items s1 pv G Y w hp0 hG hY f1 w1 h1 => fun D hD => by
    obtain ⟨hl, h2⟩ := h1
    have hjs : ∀ j ∈ js, j ∈ vs := fun j m => by
      have z := List.all_eq_true.mp hj j m
      simpa using z
    obtain ⟨A1, hA1⟩ : ∃ A1 : Addr → Prop, A1 = fun a => A a ∨ a = D := ⟨_, rfl⟩
    have c1 := c.next f1 w1
    have hB1 : ∀ a, B a ≠ none → H1 a ≠ none := fun a z => live_next c f1 w1 (hB a z)
    have nD : ¬ A D := c1.new hD
    have off : ∀ a o, ¬ A a → H1 a = some o → ¬ A1 a := fun a o n e z => by
      rw [hA1] at z
      rcases z with z | rfl
      · exact n z
      · rw [hD] at e; cases e
    have pfD : ∀ a, W.pf a → a ≠ D := fun a p z => nD (z ▸ c.pa a p)
    have offN : ∀ (H0 : Hp) (o : HO), ∀ a u, ¬ newer A1 B a → H0 a = some u → ¬ newer A1 B a ∧ (upd H0 D o) a = some u := fun H0 o a u n e => ⟨n, by
      rw [upd_ne (fun z => n (by rw [hA1]; exact .inl (.inr z)))]
      exact e⟩
    have offU : ∀ (H0 : Hp) (o : HO), ∀ a u, ¬ A1 a → H0 a = some u → ¬ A1 a ∧ (upd H0 D o) a = some u := fun H0 o a u n e => ⟨n, by
      rw [upd_ne (fun z => n (by rw [hA1]; exact .inr z))]
      exact e⟩
    refine lc_it w (fun i H' => ∃ (acc : List PV) (us : List V) (s' : S), Ct W A1 H' s' ∧ Fr W.pf H1 H' ∧ H' D = some (.lst us) ∧ RdL (newer A1 B) H' acc us ∧ acc.length ≤ i ∧ (∀ p ∈ pv, Pin.ok A1 H' p) ∧ lcP bg ft fe (wipeP ρ vs) X (items.drop i) acc s' (fun acc s2 => F (.lst acc) s2)) ?_ ?_ ?_ ?_
    · refine ⟨[], [], s1, ⟨fun a p => ?_, fun a z => ?_, W.stab w1 (Ex.new hD)⟩, Fr.of (Ex.new hD), upd_same, rfl, Nat.zero_le _, (fun p m => by rw [hA1]; exact ((hp0 p m).off hD).ext (Ex.new hD)), h2⟩
      · rw [hA1]; exact .inl (c.sa a p)
      · rw [hA1] at z
        rcases z with z | rfl
        · by_cases q : a = D
          · rw [q, upd_same]; intro z; cases z
          · rw [upd_ne q]; exact c1.lv a z
        · rw [upd_same]; intro z; cases z
    · rintro i H' _ ⟨acc, us, s', c', f', _, _, _, pp, _⟩
      exact hG A1 H' pp
    · rintro i v H' H2 hi ⟨acc, us, s', c', f', hD', rl, la, pp, hp⟩ y
      obtain ⟨ex, z, ez, rz⟩ := hY A1 i H' v H2 hi c'.lv pp y
      have ed : items.drop i = z :: items.drop (i + 1) := by
        have e := List.drop_eq_getElem_cons hi
        rw [List.getElem?_eq_getElem hi] at ez
        rw [e, Option.some.inj ez]
      rw [ed] at hp
      have c2 : Ct W A1 H2 s' := c'.ext ex
      have hB2 : ∀ a, B a ≠ none → H2 a ≠ none := fun a z => live_next c1 (f'.trans (Fr.of ex)) c2.rel (hB1 a z)
      have rw0 : VR W A1 H2 (L2.wipe σ vs) (wipeP ρ vs) := (((r0.next c f1).to (fun a o n e => ex a o (f' a o n e)) fun a o n e => ⟨off a o n e, ex a o (f' a o (fun z => n (c.pa a z)) e)⟩)).wipe vs
      have x2 : XL W A1 H2 E X := (x.next ((f1.trans f').trans (Fr.of ex))).less fun a z => by rw [hA1]; exact .inl z
      refine ig.run rw0 rz hp fun σ' ρ' q' e' h' => ⟨?_, ?_⟩
      · rw [e' vs hjs, wipe_wipe]
      refine it.run c2 q' x2 h' fun bb H3 s3 f3 w3 h3 => ?_
      have c3 := c2.next f3 w3
      have D3 : ∀ {Ha Hb : Hp} {u : HO}, Fr W.pf Ha Hb → Ha D = some u → Hb D = some u := fun f e => f D _ (fun p => pfD D p rfl) e
      have f13 : Fr W.pf H1 H3 := (f'.trans (Fr.of ex)).trans f3
      have rl3 : RdL (newer A1 B) H3 acc us := newer_frL c2 (rl.ext ex) f3
      cases bb with
      | false =>
        show ∃ acc us s', _
        exact ⟨acc, us, s3, c3, f13, D3 f3 (ex D _ hD'), rl3, Nat.le_succ_of_le la, (fun p m => c2.frP ((pp p m).ext ex) f3), h3⟩
      | true =>
        have h3' : fe ρ' s3 (fun y s2 => lcP bg ft fe (wipeP ρ vs) X (items.drop (i + 1)) (acc ++ [y]) s2 (fun acc s2 => F (.lst acc) s2)) X := h3
        refine ie.run (B := B) (fun a z => live_next c2 f3 w3 (hB2 a z)) c3 (q'.next c2 f3) (x2.next f3) h3' fun u H4 yy s4 ry f4 w4 h4 => ?_
        have d4 := D3 f4 (D3 f3 (ex D _ hD'))
        have rl4 := newer_frL c3 rl3 f4
        refine ⟨us, d4, szl (by rw [← rl4.len]; omega), acc ++ [yy], us ++ [u], s4, ?_, ?_, upd_same, ?_, by rw [List.length_append]; exact Nat.succ_le_succ la, (fun p m => (c3.frP (c2.frP ((pp p m).ext ex) f3) f4).to fun a o n e => offU _ _ a o n e), h4⟩
        · have c4 := c3.next f4 w4
          refine ⟨c4.sa, fun a z => ?_, ?_⟩
          · by_cases q : a = D
            · rw [q, upd_same]; intro z; cases z
            · rw [upd_ne q]; exact c4.lv a z
          · exact W.stabU w4 fun p => nD (c.sa D p)
        · intro a o n e
          have ne : a ≠ D := fun z => by rw [z, hD] at e; cases e
          rw [upd_ne ne]
          exact f4 a o n (f13 a o n e)
        · exact (rl4.app (RdL.cons ry RdL.nil)).to fun a o n e => offN _ _ a o n e
    · rintro H' ⟨acc, us, s', c', f', hD', rl, la, _, hp⟩
      rw [List.drop_length] at hp
      have D1 : B D = none := by
        cases q : B D with
        | none => rfl
        | some o => exact absurd hD (hB1 D (by rw [q]; intro z; cases z))
      refine k _ H' (.lst acc) s' ⟨D, us, rfl, ?_, hD', rl.less fun a z => ?_⟩ (f1.trans f') c'.rel hp
      · rintro (z | z)
        · exact nD z
        · exact z D1
      · rcases z with z | z
        · exact .inl (by rw [hA1]; exact .inl z)
        · exact .inr z⟩
/-- what a def promises whose value is new through and through -/
def spN (W : Wd S) (n : Nat) (pre : FP S) : Sp := fun vs H Q E => vs.length = n ∧ ∃ (A : Addr → Prop) (xs : List PV) (s : S) (F : PV → S → Prop) (X : XF S), Ct W A H s ∧ RdL A H xs vs ∧ XL W A H E X ∧ pre xs s F X ∧
  ∀ v H' x s', Rd (newer A H) H' x v → Fr W.pf H H' → W.rel H' s' → F x s' → Q v H'
theorem spN.of {n : Nat} {pre : FP S} {vs : List V} {Q : VK} (h : spF W n pre vs H Q E) : spN W n pre vs H Q E := by
  obtain ⟨hl, A, xs, s, F, X, c, r, x, q, k⟩ := h
  exact ⟨hl, A, xs, s, F, X, c, r, x, q, fun v H' y s' ry f w hf => k v H' y s' (ry.less fun a z => .inl z) f w hf⟩
instance an_call0 {n : Nat} {pre : FP S} {dvs : List V} {ta : TA} {fa : FA S} [ia : AA W E ta fa] : AN W E (tCS (fun _ vs H Q => spN W n pre (vs ++ dvs) H Q E0) ta) (fCall0 n pre (dvs.map toPV) fa) := ⟨fun {B A σ H ρ s F X Q} hB c r0 x h k =>
  ia.run c r0 x h fun vs H1 xs s1 rv f1 w1 h1 => by
    have ra : RdL A H1 (xs ++ dvs.map toPV) (vs ++ dvs) := rv.app (rdl_to dvs)
    exact ⟨by rw [← ra.len]; exact h1.1, A, _, s1, F, _, c.next f1 w1, ra, fun _ _ _ _ _ _ _ _ _ _ _ _ q => q.elim, h1.2, fun v H2 z s2 rz f2 w2 h2 => k v H2 z s2 (rz.less fun a y => y.elim .inl fun y => .inr (live_next c f1 w1 (hB a y))) (f1.trans f2) w2 h2⟩⟩
instance ae_callN {n : Nat} {pre : FP S} {dvs : List V} {ta : TA} {fa : FA S} [ia : AA W E ta fa] : AE W E (tCS (fun _ vs H Q => spN W n pre (vs ++ dvs) H Q E0) ta) (fCall0 n pre (dvs.map toPV) fa) false := ⟨fun {A σ H ρ s F X Q} c r0 x h k =>
  (an_call0 (W := W) (E := E) (ta := ta) (fa := fa) (n := n) (pre := pre) (dvs := dvs)).run (B := fun _ => none) (fun a z => absurd rfl z) c r0 x h fun v H' y s' ry f w hf => k v H' y s' (ry.less fun a z => .inl z) (fun z => nomatch z) f w hf⟩
end
end Pv
end

section -- PvT
set_option linter.all false
set_option maxRecDepth 100000
set_option maxHeartbeats 4000000
/-! PvT: lists of lists of one's own, all new. -/
namespace Pv
open PySem PySem.Spec L2 Pk Evl
open PyProof.Rows hiding St
/-- what A holds, and new objects -/
def withL (A : Addr → Prop) (D : Addr) (bs : List Addr) : Addr → Prop := fun a => A a ∨ a = D ∨ a ∈ bs
section
variable {S : Type} {W : Wd S} {E : XK}
theorem lc_own {wi : TI} {g : TG} {tt : TT} {te : TE} {vs : List Nat} {fi : FI S} {bg : PV → En → (En → Prop) → Prop} {ft : FT S} {fe : FE S} {js : List Nat} [ii : AI W E wi fi] [ig : AG W g js bg] [it : AT W E tt ft] [ie : AE W E te fe true]
    {A : Addr → Prop} {σ : L2.St} {H : Hp} {ρ : En} {s : S} {F : PV → S → Prop} {X : XF S} {Q : VK} (c : Ct W A H s) (r0 : VR W A H σ ρ) (x : XL W A H E X) (hh : fLc js fi bg ft fe vs ρ s F X)
    (k : ∀ (D : Addr) (bs : List Addr) (H' : Hp) (xs : List PV) (s' : S), H D = none → (∀ b ∈ bs, H b = none ∧ b ≠ D) → bs.Nodup → xs.length = bs.length → H' D = some (.lst (bs.map V.ref)) →
      (∀ (j : Nat) (y : PV) (b : Addr), xs[j]? = some y → bs[j]? = some b → OwnAt (withL A D bs) H' y b) → Fr W.pf H H' → W.rel H' s' → F (.lst xs) s' → Q (.ref D) H') : tLc wi g tt te vs σ H Q :=
  have hj := hh.1
  ii.run c r0 x hh.2 fun J H1 items s1 pv G Y w hp0 hG hY f1 w1 h1 => fun D hD => by
    obtain ⟨hl, h2⟩ := h1
    have hjs : ∀ j ∈ js, j ∈ vs := fun j m => by
      have z := List.all_eq_true.mp hj j m
      simpa using z
    have c1 := c.next f1 w1
    have nD : ¬ A D := c1.new hD
    have offU : ∀ (bs : List Addr) (H0 : Hp) (o : HO), ∀ a u, ¬ withL A D bs a → H0 a = some u → ¬ withL A D bs a ∧ (upd H0 D o) a = some u := fun bs H0 o a u n e => ⟨n, by
      rw [upd_ne (fun z => n (.inr (.inl z)))]
      exact e⟩
    refine lc_it w (fun i H' => ∃ (acc : List PV) (bs : List Addr) (s' : S), Ct W (withL A D bs) H' s' ∧ Fr W.pf H1 H' ∧ H' D = some (.lst (bs.map V.ref)) ∧ acc.length = bs.length ∧ (∀ (j : Nat) (y : PV) (b : Addr), acc[j]? = some y → bs[j]? = some b → OwnAt (withL A D bs) H' y b) ∧ (∀ b ∈ bs, H1 b = none ∧ b ≠ D) ∧ bs.Nodup ∧ acc.length ≤ i ∧ (∀ p ∈ pv, Pin.ok (withL A D bs) H' p) ∧ lcP bg ft fe (wipeP ρ vs) X (items.drop i) acc s' (fun acc s2 => F (.lst acc) s2)) ?_ ?_ ?_ ?_
    · refine ⟨[], [], s1, ⟨fun a p => .inl (c.sa a p), fun a z => ?_, W.stab w1 (Ex.new hD)⟩, Fr.of (Ex.new hD), upd_same, rfl, (fun j y b h => by cases h), (fun b h => by cases h), List.nodup_nil, Nat.zero_le _, (fun p m => (((hp0 p m).off hD).ext (Ex.new hD)).less fun a z => by
        rcases z with z | z | z
        · exact .inl z
        · exact .inr z
        · cases z), h2⟩
      rcases z with z | z | z
      · by_cases q : a = D
        · rw [q, upd_same]; intro z; cases z
        · rw [upd_ne q]; exact c1.lv a z
      · rw [z, upd_same]; intro z; cases z
      · cases z
    · rintro i H' _ ⟨acc, bs, s', c', f', _, _, _, _, _, _, pp, _⟩
      exact hG _ H' pp
    · rintro i v H' H2 hi ⟨acc, bs, s', c', f', hD', hlen, ho, hb, nd, la, pp, hp⟩ y
      obtain ⟨ex, z, ez, rz⟩ := hY (withL A D bs) i H' v H2 hi c'.lv pp y
      have ed : items.drop i = z :: items.drop (i + 1) := by
        have e := List.drop_eq_getElem_cons hi
        rw [List.getElem?_eq_getElem hi] at ez
        rw [e, Option.some.inj ez]
      rw [ed] at hp
      have c2 : Ct W (withL A D bs) H2 s' := c'.ext ex
      have off : ∀ a o, ¬ A a → H1 a = some o → ¬ withL A D bs a := fun a o n e z => by
        rcases z with z | z | z
        · exact n z
        · rw [z, hD] at e; cases e
        · rw [(hb a z).1] at e; cases e
      have rw0 : VR W (withL A D bs) H2 (L2.wipe σ vs) (wipeP ρ vs) := (((r0.next c f1).to (fun a o n e => ex a o (f' a o n e)) fun a o n e => ⟨off a o n e, ex a o (f' a o (fun z => n (c.pa a z)) e)⟩)).wipe vs
      have x2 : XL W (withL A D bs) H2 E X := (x.next ((f1.trans f').trans (Fr.of ex))).less fun a z => .inl z
      refine ig.run rw0 rz hp fun σ' ρ' q' e' h' => ⟨?_, ?_⟩
      · rw [e' vs hjs, wipe_wipe]
      refine it.run c2 q' x2 h' fun bb H3 s3 f3 w3 h3 => ?_
      have c3 := c2.next f3 w3
      have npf : ∀ b, b = D ∨ b ∈ bs → ¬ W.pf b := fun b hb' p => by
        rcases hb' with rfl | hb'
        · exact nD (c.pa _ p)
        · have := (hb b hb').1
          exact absurd this (c1.lv b (c.pa b p))
      have D3 : ∀ {Ha Hb : Hp} {u : HO}, Fr W.pf Ha Hb → Ha D = some u → Hb D = some u := fun f e => f D _ (npf D (.inl rfl)) e
      have f13 : Fr W.pf H1 H3 := (f'.trans (Fr.of ex)).trans f3
      have keep : ∀ {Ha Hb : Hp}, Fr W.pf Ha Hb → ∀ (y : PV) (b : Addr), b ∈ bs → OwnAt (withL A D bs) Ha y b → OwnAt (withL A D bs) Hb y b := fun f y b mb o => o.to (fun u e => f b u (npf b (.inr mb)) e) fun a u n e => ⟨n, f a u (fun p => n (.inl (c.pa a p))) e⟩
      have ho3 : ∀ (j : Nat) (y : PV) (b : Addr), acc[j]? = some y → bs[j]? = some b → OwnAt (withL A D bs) H3 y b := fun j y b e1 e2 => keep ((Fr.of ex).trans f3) y b (List.mem_of_getElem? e2) (ho j y b e1 e2)
      cases bb with
      | false =>
        show ∃ acc bs s', _
        exact ⟨acc, bs, s3, c3, f13, D3 f3 (ex D _ hD'), hlen, ho3, hb, nd, Nat.le_succ_of_le la, (fun p m => c2.frP ((pp p m).ext ex) f3), h3⟩
      | true =>
        have h3' : fe ρ' s3 (fun y s2 => lcP bg ft fe (wipeP ρ vs) X (items.drop (i + 1)) (acc ++ [y]) s2 (fun acc s2 => F (.lst acc) s2)) X := h3
        refine ie.run c3 (q'.next c2 f3) (x2.next f3) h3' fun u H4 yy s4 ry ny f4 w4 h4 => ?_
        obtain ⟨a, rfl, ha, oa⟩ := ny rfl
        have d4 := D3 f4 (D3 f3 (ex D _ hD'))
        have aD : a ≠ D := fun z => by
          have := D3 f3 (ex D _ hD')
          rw [← z, ha] at this
          cases this
        have ab : a ∉ bs := fun z => c3.lv a (.inr (.inr z)) ha
        have a1 : H1 a = none := back c3.rel f13 ha
        have new : ∀ b, withL A D (bs ++ [a]) b → withL A D bs b ∨ b = a := fun b z => by
          rcases z with z | z | z
          · exact .inl (.inl z)
          · exact .inl (.inr (.inl z))
          · rcases List.mem_append.mp z with z | z
            · exact .inl (.inr (.inr z))
            · exact .inr (List.mem_singleton.mp z)
        have wide : ∀ b, withL A D bs b ∨ b = a → withL A D (bs ++ [a]) b := fun b z => by
          rcases z with (z | z | z) | z
          · exact .inl z
          · exact .inr (.inl z)
          · exact .inr (.inr (List.mem_append_left _ z))
          · exact .inr (.inr (List.mem_append_right _ (List.mem_singleton.mpr z)))
        have stp : ∀ (o : HO) (n : Addr) (u : HO), ¬ withL A D bs n → H3 n = some u → ¬ withL A D (bs ++ [a]) n ∧ (upd H4 D o) n = some u := fun o n u nn e => by
          have na : n ≠ a := fun z => by rw [z, ha] at e; cases e
          refine ⟨fun z => (new n z).elim nn na, ?_⟩
          rw [upd_ne (fun z => nn (.inr (.inl z)))]
          exact f4 n u (fun p => nn (.inl (c.pa n p))) e
        refine ⟨bs.map V.ref, d4, szl (by rw [List.length_map, ← hlen]; omega), acc ++ [yy], bs ++ [a], s4, ?_, ?_, ?_, by rw [List.length_append, List.length_append, hlen]; rfl, ?_, ?_, ?_, by rw [List.length_append]; exact Nat.succ_le_succ la, ?_, h4⟩
        · have c4 := c3.next f4 w4
          refine ⟨fun b p => .inl (c.sa b p), fun b z => ?_, W.stabU w4 fun p => nD (c.sa D p)⟩
          by_cases q : b = D
          · rw [q, upd_same]; intro z; cases z
          · rw [upd_ne q]
            rcases new b z with z | z
            · exact c4.lv b z
            · rw [z]; exact oa.some
        · intro b o n e
          have ne : b ≠ D := fun z => by rw [z, hD] at e; cases e
          rw [upd_ne ne]
          exact f4 b o n (f13 b o n e)
        · rw [List.map_append]; exact upd_same
        · intro j y b e1 e2
          by_cases cj : j < acc.length
          · rw [List.getElem?_append_left cj] at e1
            rw [List.getElem?_append_left (by rw [← hlen]; exact cj)] at e2
            have mb := List.mem_of_getElem? e2
            exact (ho3 j y b e1 e2).to (fun u e => by rw [upd_ne (hb b mb).2]; exact f4 b u (npf b (.inr mb)) e) fun n u => stp _ n u
          · rw [List.getElem?_append_right (by omega)] at e1
            rw [List.getElem?_append_right (by omega)] at e2
            obtain ⟨rfl, rfl⟩ : yy = y ∧ a = b := by
              have j0 : j - acc.length = 0 := by
                cases q : j - acc.length with
                | zero => rfl
                | succ n => rw [q] at e1; cases e1
              rw [j0] at e1
              rw [← hlen, j0] at e2
              cases e1; cases e2; exact ⟨rfl, rfl⟩
            refine oa.to (fun u e => by rw [upd_ne aD]; exact e) fun b u n e => ⟨fun z => n (new b z), ?_⟩
            rw [upd_ne (fun z => n (.inl (.inr (.inl z))))]
            exact e
        · intro b mb
          rcases List.mem_append.mp mb with mb | mb
          · exact hb b mb
          · rw [List.mem_singleton.mp mb]
            exact ⟨a1, aD⟩
        · rw [List.nodup_append]
          exact ⟨nd, by simp, fun b m1 d m2 => by rw [List.mem_singleton.mp m2]; exact fun z => ab (by rw [← z]; exact m1)⟩
        · intro p m
          exact (c2.frP ((pp p m).ext ex) f3).to fun n u => stp _ n u
    · rintro H' ⟨acc, bs, s', c', f', hD', hlen, ho, hb, nd, la, _, hp⟩
      rw [List.drop_length] at hp
      exact k D bs H' acc s' (back w1 f1 hD) (fun b m => ⟨back w1 f1 (hb b m).1, (hb b m).2⟩) nd hlen hD' ho (f1.trans f') c'.rel hp
/-- list(d.items()), d one's own -/
def fListItems (i : Nat) : FE S := fun ρ s F _ => match ρ[i]? with | some (.own (.dct ks xs)) => F (.lst (itemsP ks xs)) s | _ => False
theorem items_rd {A : Addr → Prop} {H' : Hp} : ∀ {ts : List Addr} {kvs : List (Key × V)} {xs : List PV}, (∀ t ∈ ts, ¬ A t) → Paired (fun (t : Addr) (q : Key × V) => H' t = some (.tup [kV q.1, q.2])) ts kvs → RdL A H' xs (kvs.map (·.2)) → RdL A H' (itemsP (kvs.map (·.1)) xs) (ts.map V.ref)
  | _, _, xs, _, .nil, r => by
    cases xs with
    | nil => rfl
    | cons _ _ => obtain ⟨_, _, e, _⟩ := r; cases e
  | _, _, [], _, .cons _ _, r => by cases r
  | t :: ts, q :: kvs, x :: xs, hn, .cons h p, ⟨v, us, e, r1, r2⟩ => by
    have e' : q.2 :: kvs.map (·.2) = v :: us := e
    obtain ⟨rfl, rfl⟩ := List.cons.inj e'
    have ih := items_rd (fun t m => hn t (List.mem_cons_of_mem _ m)) p r2
    exact RdL.cons (x := .tup [keyV q.1, x]) ⟨t, _, rfl, hn t List.mem_cons_self, h, RdL.cons (rd_key q.1) (RdL.cons r1 RdL.nil)⟩ ih
instance ae_listItems {i : Nat} : AE W E (LiI.tListItems (tVar i)) (fListItems i) false := ⟨fun {A σ H ρ s F X Q} c r0 x h k => by
  unfold fListItems at h
  split at h
  · rename_i ks xs e
    obtain ⟨a, ea, np, ws, ha, ek, rl⟩ := r0.own i _ e
    subst ek
    refine ⟨_, ea, a, ws, rfl, ha, fun H' p ts ex hp ht hpt hl pr => ?_⟩
    exact k (.ref p) H' (.lst (itemsP (ws.map (·.1)) xs)) s ⟨p, _, rfl, c.new hp, hl, items_rd (fun t m => c.new (ht t m)) pr (rl.ext ex)⟩ (fun z => nomatch z) (Fr.of ex) (W.stab c.rel ex) h
  · exact h.elim⟩
/-- x[i][j] = e: told by hand -/
instance as_sub2 {te ta tb tj : TE} {r : R2} {rs : TSet} : AS W E (tAsg te (gSub (tOp r ta tb) tj rs)) (fun _ _ _ => False) := ⟨fun _ _ h _ => h.elim⟩
end
end Pv
end

section -- PvU
set_option linter.all false
set_option maxRecDepth 100000
set_option maxHeartbeats 4000000
/-! PvU: what an expression stands for, where the world stays. -/
namespace Pv
open PySem PySem.Spec L2 Pk Evl
open PyProof.Rows hiding St
section
variable {S : Type} {ρ : En}
def EvP (ρ : En) (fe : FE S) (x : PV) : Prop := ∀ (s : S) (G : PV → S → Prop) (X : XF S), G x s → fe ρ s G X
def EvPs (ρ : En) (fa : FA S) (xs : List PV) : Prop := ∀ (s : S) (G : List PV → S → Prop) (X : XF S), G xs s → fa ρ s G X
def EvB (ρ : En) (ft : FT S) (b : Bool) : Prop := ∀ (s : S) (G : Bool → S → Prop) (X : XF S), G b s → ft ρ s G X
theorem evp_c {v : V} : EvP (S := S) ρ (fC v) (toPV v) := fun _ _ _ g => g
theorem evp_var {i : Nat} {x : PV} (e : ρ[i]? = some (.val x)) : EvP (S := S) ρ (fVar i) x := fun s G X g => by
  unfold fVar
  rw [e]
  exact g
theorem evps_nil : EvPs (S := S) ρ fNil [] := fun _ _ _ g => g
theorem evps_cons {fa : FE S} {fr : FA S} {x : PV} {xs : List PV} (h : EvP ρ fa x) (r : EvPs ρ fr xs) : EvPs ρ (fCons fa fr) (x :: xs) := fun s G X g => h s _ X (r s _ X g)
theorem evp_lst {fa : FA S} {xs : List PV} (h : EvPs ρ fa xs) (l : xs.length ≤ 1000000) : EvP ρ (fLst fa) (.lst xs) := fun s G X g => h s _ X ⟨l, g⟩
theorem evp_tup {fa : FA S} {xs : List PV} (h : EvPs ρ fa xs) (l : xs.length ≤ 1000000) : EvP ρ (fTup fa) (.tup xs) := fun s G X g => h s _ X ⟨l, g⟩
theorem evp_op {g : PV → PV → (PV → Prop) → Prop} {fa fb : FE S} {x y z : PV} (ha : EvP ρ fa x) (hb : EvP ρ fb y) (h : ∀ F : PV → Prop, F z → g x y F) : EvP ρ (fOp g fa fb) z := fun s G X k => ha s _ X (hb s _ X (h _ k))
theorem evp_un {g : PV → (PV → Prop) → Prop} {fa : FE S} {x z : PV} (ha : EvP ρ fa x) (h : ∀ F : PV → Prop, F z → g x F) : EvP ρ (fUn g fa) z := fun s G X k => ha s _ X (h _ k)
theorem evp_cb {g : List PV → (PV → Prop) → Prop} {fa : FA S} {xs : List PV} {z : PV} (ha : EvPs ρ fa xs) (h : ∀ F : PV → Prop, F z → g xs F) : EvP ρ (fCB g fa) z := fun s G X k => ha s _ X (h _ k)
theorem evp_cat {fa fb : FE S} {a b : List PV} (ha : EvP ρ fa (.lst a)) (hb : EvP ρ fb (.lst b)) (l : a.length + b.length ≤ 1000000) : EvP ρ (fOp gCat fa fb) (.lst (a ++ b)) := evp_op ha hb fun F k => ⟨l, k⟩
theorem evp_ix {fa fb : FE S} {a : List PV} {i : Int} {x : PV} (ha : EvP ρ fa (.lst a)) (hb : EvP ρ fb (.int i)) (e : atI a i = some x) : EvP ρ (fOp gIxL fa fb) x := evp_op ha hb fun F k => by
  show pick (atI a i) F
  rw [e]
  exact k
theorem evp_ixT {fa fb : FE S} {a : List PV} {i : Int} {x : PV} (ha : EvP ρ fa (.tup a)) (hb : EvP ρ fb (.int i)) (e : atI a i = some x) : EvP ρ (fOp gIxT fa fb) x := evp_op ha hb fun F k => by
  show pick (atI a i) F
  rw [e]
  exact k
theorem evp_disp1 {fk fe : FE S} {z : Str} {y : PV} (hk : EvP ρ fk (.str z)) (he : EvP ρ fe y) : EvP ρ (fDisp1 fk fe) (.dct [.inr z] [y]) := fun s G X g => hk s _ X (he s _ X g)
theorem evp_disp1i {fk fe : FE S} {i : Int} {y : PV} (hk : EvP ρ fk (.int i)) (he : EvP ρ fe y) : EvP ρ (fDisp1 fk fe) (.dct [.inl i] [y]) := fun s G X g => hk s _ X (he s _ X g)
theorem evp_dict0 : EvP (S := S) ρ fDict0 (.dct [] []) := fun _ _ _ g => g
theorem evp_hi {fa fe : FE S} {l : List PV} {i : Int} (ha : EvP ρ fa (.lst l)) (he : EvP ρ fe (.int i)) : EvP ρ (fSl gSlL fa fNoP (fPart fe)) (.lst (cutP l none (some i))) := fun s G X g => ha s _ X (he s _ X g)
theorem evp_lo {fa fe : FE S} {l : List PV} {i : Int} (ha : EvP ρ fa (.lst l)) (he : EvP ρ fe (.int i)) : EvP ρ (fSl gSlL fa (fPart fe) fNoP) (.lst (cutP l (some i) none)) := fun s G X g => ha s _ X (he s _ X g)
theorem evp_len {fa : FE S} {l : List PV} (ha : EvP ρ fa (.lst l)) : EvP ρ (fCB gLen (fCons fa fNil)) (.int l.length) := fun s G X g => ha s _ X g
theorem evp_is {fe : FE S} {x y : PV} (h : EvP ρ fe x) (e : x = y) : EvP ρ fe y := e ▸ h
theorem evp_if {ft : FT S} {fa fb : FE S} {b : Bool} {x : PV} (ht : EvB ρ ft b) (ha : b = true → EvP ρ fa x) (hb : b = false → EvP ρ fb x) : EvP ρ (fIf ft fa fb) x := fun s G X g => ht s _ X (by
  cases b with
  | true => exact ha rfl s G X g
  | false => exact hb rfl s G X g)
theorem evb_of {fe : FE S} {b : Bool} (h : EvP ρ fe (.bl b)) : EvB ρ (fB fe) b := fun s G X g => h s _ X g
end
end Pv
end

section -- PvV
set_option linter.all false
set_option maxRecDepth 100000
set_option maxHeartbeats 4000000
/-! PvV: == of lists of lists where a {} stands for a str. -/
namespace PySem.SeqAt
open AutoSeq1 (wpAny_loadPart')
open MeetsSeq
theorem str_eq_declines_dict (b : Str) (u : Tok) (l : Addr) (c : Value) (es : Array DictEntry) (n : Nat) (dd : Option Addr) (sl : Array (Option Value)) :
    Meets (Builtin.«str.__eq__» ⟨[.str b u, .ref l], []⟩) (fun _ R s => s.heap.get? l = some { cls := c, dict := dd, data := .dict es n, slots := sl } ∧ R (.ok (.ret .notImplemented)) s) :=
  .of_wp fun prog w A R s h => by obtain ⟨hp, g, d, tk, os⟩ := s; obtain ⟨hl, h⟩ := h; wp_walk using wpAny_loadPart' hl, wpAny_load hl; exact ⟨_, rfl, h⟩
theorem rc_dict_str {prog : Program} {w : World} {κ : Type} [DecidableEq κ] {knd : KeyKind prog w κ} {A : Around} {s : Shared} {a : Addr} {ka : List (κ × Value)} (b : Str) (u : Tok) (da : s.heap.DictOf knd a ka) (hu : A.units < cLine) (E Q : Value → Shared → Prop) (h : Q (.bool false) s) : wpAny (model prog w) A (richCompare .Eq (.ref a) (.str b u)) Q E s := by
  have ta : s.TypeIs (.ref a) "dict" := da.typeIs
  obtain ⟨⟨cls, dd, data, sl⟩, es, ep, ho, hx, hd, _⟩ := id da
  simp only at hd
  subst hd
  have hc : cls = .type "dict" := by first | exact hx | exact hx.1
  subst hc
  exact rc_eq_decline_or (k := false) ta (typeIs_str s b u) (by decide) F.sub_str_dict F.slot_dict_eq F.slot_str_eq_refl
    (fun Q' hq => wpAny_call_entry F.slot_dict_eq ta F.entry_dict_eq (by
      show wpAny _ _ (Builtin.Dict.dictSlotArgs "__eq__" ⟨[.ref a, .str b u], []⟩ >>= _) _ _ s
      refine wpAny_bind ?_
      unfold Builtin.Dict.dictSlotArgs
      refine wpAny_bind (wpAny_notOrdered_dict ta ?_)
      show wpAny _ _ (pure (Value.ref a, Value.str b u)) _ _ s
      refine wpAny_pure ?_
      refine wpAny_bind (wpAny_isInstance (T := "str") (typeIs_str s b u) F.sub_str_dict ?_)
      wp_walk
      exact ⟨_, rfl, hq⟩) (F.args_dict_eq_2 _ _))
    (fun _ hq => call_meets F.slot_str_eq_refl (typeIs_str s b u) F.entry_str_eq (F.args_str_eq_2 _ _) (str_eq_declines_dict b u a (.type "dict") es ep dd sl) ⟨ho, hq⟩)
    (fun _ hq => wpAny_of_eq (rfl : isSame (.ref a) (.str b u) = pure false) hq) (.inr hu) h
theorem eqP_dict_str {prog : Program} {w : World} {κ : Type} [DecidableEq κ] {knd : KeyKind prog w κ} {A : Around} {s : Shared} {a : Addr} {ka : List (κ × Value)} (b : Str) (u : Tok) (da : s.heap.DictOf knd a ka) (hu : A.units < cLine) : EqP prog w A s (.ref a) (.str b u) false := fun E Q h => by
  unfold eqBool
  refine wpAny_holding ?_
  refine wpAny_ite_split (fun hab => absurd (eq_of_beq hab) nofun) (fun _ => ?_)
  exact wpAny_bind (rc_dict_str b u da hu E _ (wpAny_truthy_bool h))
end PySem.SeqAt
namespace Pv
open PySem PySem.Spec L2 Pk Evl
open PyProof.Rows hiding St
/-- data that differ, or a {} and a str -/
def DifDat (K : PySem.W.Frag) (H : Hp) (x y : V) : Prop := x ≠ y ∧ ((∃ d z, x = .ref d ∧ L2.Rd H d (.dK []) ∧ y = .str z) ∨ ∃ d e, Dp K H x d ∧ Dp K H y e ∧ (d.canLay0 = true ∧ d.depth ≤ 60) ∧ (e.canLay0 = true ∧ e.depth ≤ 60) ∧ PyData.eqv d e = false)
/-- == of data, or of two lists of lists that are of the same length, where one line holds a {} for a str -/
def rEqX (K : PySem.W.Frag) : R2 := fun x y H Q => rEqD K x y H Q ∨ ∃ a b xs ys j la lb l1 l2 y1 y2, x = .ref a ∧ y = .ref b ∧ H a = some (.lst xs) ∧ H b = some (.lst ys) ∧ xs.length = ys.length ∧ xs[j]? = some (.ref la) ∧ ys[j]? = some (.ref lb) ∧ H la = some (.lst l1) ∧ H lb = some (.lst l2) ∧ l1.length = l2.length ∧ (∀ (i : Nat) u v, i ≠ j → xs[i]? = some u → ys[i]? = some v → EqDat K H u v) ∧ l1[1]? = some y1 ∧ l2[1]? = some y2 ∧ DifDat K H y1 y2 ∧ (∀ (i : Nat) u v, i ≠ 1 → l1[i]? = some u → l2[i]? = some v → EqDat K H u v) ∧ Q (.bl false) H
theorem eqDat_run {X : Cx} {pins : List (Addr × Obj)} {σ : L2.St} {H : Hp} {s : Shared} (I : Inv X pins σ H s) {A : Around} (hu : A.units + 62 < cLine) (x y : V) (v u : Value) (h : EqDat X.K H x y) (rx : RelV x v) (ry : RelV y u) : SeqAt.EqP X.prog X.w A s v u true := by
  obtain ⟨d, e, hd, he, sd, se, hq⟩ := h
  obtain ⟨as, r1⟩ := Dp.reads I d x v hd rx
  obtain ⟨bs, r2⟩ := Dp.reads I e y u he ry
  have z := SeqAt.eqAt_reads d e A s v u as bs r1 r2 sd.1 se.1 (by have := sd.2; omega)
  rw [hq] at z
  exact z.eqP
theorem difDat_run {X : Cx} {pins : List (Addr × Obj)} {σ : L2.St} {H : Hp} {s : Shared} (I : Inv X pins σ H s) {A : Around} (hu : A.units + 62 < cLine) (x y : V) (v u : Value) (h : DifDat X.K H x y) (rx : RelV x v) (ry : RelV y u) : SeqAt.EqP X.prog X.w A s v u false := by
  rcases h.2 with ⟨d, z, rfl, hd, rfl⟩ | ⟨d, e, hd, he, sd, se, hq⟩
  · obtain ⟨_, yd, vd, rd, dd⟩ := dk_rd I.hok hd
    cases (show v = Value.ref d from rx)
    obtain ⟨t, rfl⟩ := ry
    exact SeqAt.eqP_dict_str _ _ dd (by omega)
  · obtain ⟨as, r1⟩ := Dp.reads I d x v hd rx
    obtain ⟨bs, r2⟩ := Dp.reads I e y u he ry
    have z := SeqAt.eqAt_reads d e A s v u as bs r1 r2 sd.1 se.1 (by have := sd.2; omega)
    rw [hq] at z
    exact z.eqP
theorem vals_get : ∀ {vs : List V} {us : List Value}, Vals vs us → ∀ {i : Nat} (h : i < us.length), ∃ v, vs[i]? = some v ∧ RelV v us[i]
  | _, _, .nil, i, h => absurd h (Nat.not_lt_zero _)
  | _, _, .cons a b, 0, h => ⟨_, rfl, a⟩
  | _, _, .cons a b, i + 1, h => vals_get b (Nat.lt_of_succ_lt_succ h)
theorem op_eqX {X : Cx} (hu : X.A.units + 64 < cLine) : OpR X (compareOp .Eq) (rEqX X.K) := by
  intro pins s σ H x y v u Q I rx ry h
  rcases h with h | ⟨a, b, xs, ys, j, la, lb, l1, l2, w1, w2, rfl, rfl, ha, hb, hl, xj, yj, h1, h2, hll, he, x1, y1, hd, he2, q⟩
  · exact op_eqD hu pins s σ H x y v u Q I rx ry h
  cases (show v = Value.ref a from rx)
  cases (show u = Value.ref b from ry)
  obtain ⟨us, r1, p1, _⟩ := I.list (.inl (.inl ha))
  obtain ⟨ws, r2, p2, _⟩ := I.list (.inl (.inl hb))
  obtain ⟨us2, r3, p3, _⟩ := I.list (.inl (.inl h1))
  obtain ⟨ws2, r4, p4, _⟩ := I.list (.inl (.inl h2))
  have inner : SeqAt.EqP X.prog X.w X.A.in1 s (.ref la) (.ref lb) false := by
    have ne : la ≠ lb := fun z => by
      subst z
      rw [h1] at h2
      cases h2
      rw [x1] at y1
      exact hd.1 (Option.some.inj y1)
    refine SeqAt.eqP_refs ne fun E Q k => ?_
    refine SeqAt.rcP_lists (e := fun i => decide (i ≠ 1)) p3.isList p4.isList (by rw [List.size_toArray, List.size_toArray, ← r3.length, ← r4.length]; exact hll) (by show X.A.units + 1 < cLine; omega) (fun i h1 h2 => ?_) E Q ?_
    · obtain ⟨u1, e1, q1⟩ := vals_get r3 (i := i) (by simpa using h1)
      obtain ⟨u2, e2, q2⟩ := vals_get r4 (i := i) (by simpa using h2)
      by_cases c : i = 1
      · subst c
        rw [x1] at e1
        rw [y1] at e2
        cases e1
        cases e2
        show SeqAt.EqP _ _ _ _ (us2[1]'(by simpa using h1)) (ws2[1]'(by simpa using h2)) false
        exact difDat_run I (A := X.A.in1.in1) (by show X.A.units + 1 + 1 + 62 < cLine; omega) _ _ _ _ hd q1 q2
      · rw [decide_eq_true c]
        have k := eqDat_run I (A := X.A.in1.in1) (by show X.A.units + 1 + 1 + 62 < cLine; omega) _ _ _ _ (he2 i _ _ c e1 e2) q1 q2
        simpa using k
    · have : ((List.range us2.toArray.size).all fun i => decide (i ≠ 1)) = false := by
        rw [List.all_eq_false]
        refine ⟨1, ?_, by decide⟩
        rw [List.mem_range, List.size_toArray, ← r3.length]
        exact (List.getElem?_eq_some_iff.mp x1).1
      rw [this]
      exact k
  refine SeqAt.rcP_lists (e := fun i => decide (i ≠ j)) p1.isList p2.isList (by rw [List.size_toArray, List.size_toArray, ← r1.length, ← r2.length]; exact hl) (by show X.A.units < cLine; omega) (fun i h1 h2 => ?_) _ _ ?_
  · obtain ⟨u1, e1, q1⟩ := vals_get r1 (i := i) (by simpa using h1)
    obtain ⟨u2, e2, q2⟩ := vals_get r2 (i := i) (by simpa using h2)
    by_cases c : i = j
    · subst c
      rw [xj] at e1
      rw [yj] at e2
      cases e1
      cases e2
      rw [decide_eq_false (fun z => z rfl)]
      have t1 : us[i]'(by simpa using h1) = Value.ref la := q1
      have t2 : ws[i]'(by simpa using h2) = Value.ref lb := q2
      show SeqAt.EqP _ _ _ _ (us[i]'(by simpa using h1)) (ws[i]'(by simpa using h2)) false
      rw [t1, t2]
      exact inner
    · rw [decide_eq_true c]
      have k := eqDat_run I (A := X.A.in1) (by show X.A.units + 1 + 62 < cLine; omega) _ _ _ _ (he i _ _ c e1 e2) q1 q2
      simpa using k
  · have : ((List.range us.toArray.size).all fun i => decide (i ≠ j)) = false := by
      rw [List.all_eq_false]
      refine ⟨j, ?_, by simp⟩
      rw [List.mem_range, List.size_toArray, ← r1.length]
      exact (List.getElem?_eq_some_iff.mp xj).1
    rw [this]
    exact ⟨.bl false, H, I, rfl, q⟩
/-- the same data -/
def SameD (x y : PV) : Prop := ∃ d, pvD x = some d ∧ pvD y = some d ∧ d.canLay0 = true ∧ d.depth ≤ 60
/-- data that differ from a str, or a {} -/
def DifP (x : PV) (z : Str) : Prop := x = .dct [] [] ∨ ∃ d, pvD x = some d ∧ d.canLay0 = true ∧ d.depth ≤ 60 ∧ PyData.eqv d (.str z) = false
def gEqX : PV → PV → (PV → Prop) → Prop := fun x y F => gEqD false x y F ∨ ∃ xs ys j l1 l2 w z, x = .lst xs ∧ y = .lst ys ∧ xs.length = ys.length ∧ xs[j]? = some (.lst l1) ∧ ys[j]? = some (.lst l2) ∧ l1.length = l2.length ∧ (∀ (i : Nat) u v, i ≠ j → xs[i]? = some u → ys[i]? = some v → SameD u v) ∧ l1[1]? = some w ∧ l2[1]? = some (.str z) ∧ PyData.canLay0 (.str z) = true ∧ DifP w z ∧ (∀ (i : Nat) u v, i ≠ 1 → l1[i]? = some u → l2[i]? = some v → SameD u v) ∧ F (.bl false)
theorem SameD.dat {K : PySem.W.Frag} {A : Addr → Prop} {H : Hp} {x y : PV} {u v : V} (h : SameD x y) (r1 : Rd A H x u) (r2 : Rd A H y v) : EqDat K H u v := by
  obtain ⟨d, h1, h2, s1, s2⟩ := h
  exact ⟨d, d, pvD_ok r1 h1, pvD_ok r2 h2, ⟨s1, s2⟩, ⟨s1, s2⟩, pvD_refl h1⟩
instance ao_eqX {K : PySem.W.Frag} : AO (rEqX K) gEqX false := ⟨fun {A H x y u v F Q} l r1 r2 h k => by
  rcases h with h | ⟨xs, ys, j, l1, l2, w, z, rfl, rfl, hl, xj, yj, hll, he, x1, y1, hz, hd, he2, q⟩
  · exact .inl ((ao_eqD (K := K)).run l r1 r2 h k)
  · obtain ⟨a, vs, rfl, na, ha, ra⟩ := id r1
    obtain ⟨b, ws, rfl, nb, hb, rb⟩ := id r2
    have at1 : ∀ {A : Addr → Prop} {xs : List PV} {vs : List V} {i : Nat} {x : PV}, RdL A H xs vs → xs[i]? = some x → ∃ v, vs[i]? = some v ∧ Rd A H x v := fun {A xs vs i x} r e => by
      have hi : i < vs.length := by rw [← r.len]; exact (List.getElem?_eq_some_iff.mp e).1
      obtain ⟨y, e1, e2⟩ := r.get (List.getElem?_eq_getElem hi)
      rw [e] at e1
      cases e1
      exact ⟨vs[i], List.getElem?_eq_getElem hi, e2⟩
    obtain ⟨u1, xv, q1⟩ := at1 ra xj
    obtain ⟨u2, yv, q2⟩ := at1 rb yj
    obtain ⟨la, v1, rfl, n1, h1, rl1⟩ := id q1
    obtain ⟨lb, v2, rfl, n2, h2, rl2⟩ := id q2
    obtain ⟨u3, xw, q3⟩ := at1 rl1 x1
    obtain ⟨u4, yw, q4⟩ := at1 rl2 y1
    have dif : DifDat K H u3 u4 := by
      cases q4
      rcases hd with rfl | ⟨d, hd, s1, s2, ne⟩
      · obtain ⟨d, kv, rfl, nd, hd, ed, rd⟩ := id q3
        have kn : kv = [] := by cases kv <;> first | rfl | cases ed
        subst kn
        exact ⟨(fun z => nomatch z), .inl ⟨d, z, rfl, hd, rfl⟩⟩
      · refine ⟨fun e => ?_, .inr ⟨d, .str z, pvD_ok q3 hd, .str z, ⟨s1, s2⟩, ⟨hz, by show 0 ≤ 60; decide⟩, ne⟩⟩
        subst e
        have : w = .str z := by
          cases w <;> first | (cases q3; done) | (cases q3; rfl) | cases hd | (obtain ⟨_, _, e, _⟩ := q3; cases e)
        rw [this] at hd
        cases hd
        unfold PyData.eqv at ne
        rw [beq_self_eq_true] at ne
        cases ne
    refine .inr ⟨a, b, vs, ws, j, la, lb, v1, v2, u3, u4, rfl, rfl, ha, hb, by rw [← ra.len, ← rb.len]; exact hl, xv, yv, h1, h2, by rw [← rl1.len, ← rl2.len]; exact hll, fun i u v ne e1 e2 => ?_, xw, yw, dif, fun i u v ne e1 e2 => ?_, k _ _ (.bl false) rfl (fun z => nomatch z) (Ex.refl _) q⟩
    · obtain ⟨x, f1, g1⟩ := ra.get e1
      obtain ⟨y, f2, g2⟩ := rb.get e2
      exact (he i x y ne f1 f2).dat g1 g2
    · obtain ⟨x, f1, g1⟩ := rl1.get e1
      obtain ⟨y, f2, g2⟩ := rl2.get e2
      exact (he2 i x y ne f1 f2).dat g1 g2⟩
end Pv
end

section -- PvW
set_option linter.all false
set_option maxRecDepth 100000
set_option maxHeartbeats 4000000
/-! PvW: != of two lists of the same flat values; repr of data; what hangs on no list stays when lists change. -/
namespace Pv
open PySem PySem.Spec L2 Pk Evl
open PyProof.Rows hiding St
def rNeS (K : PySem.W.Frag) : R2 := fun x y H Q => ∃ a b xs, x = .ref a ∧ y = .ref b ∧ H a = some (.lst xs) ∧ H b = some (.lst xs) ∧ (∀ v ∈ xs, flatB v = true) ∧ Q (.bl false) H
theorem op_neS {X : Cx} (hu : X.A.units < cLine) : OpR X (compareOp .NotEq) (rNeS X.K) := by
  intro pins s σ H x y v u Q I rx ry h
  obtain ⟨a, b, xs, rfl, rfl, ha, hb, hf, q⟩ := h
  cases (show v = Value.ref a from rx)
  cases (show u = Value.ref b from ry)
  obtain ⟨us, r1, p1, _⟩ := I.list (.inl (.inl ha))
  obtain ⟨ws, r2, p2, _⟩ := I.list (.inl (.inl hb))
  refine (SeqAt.RcNeAt.lists (e := fun _ => true) p1.isList p2.isList (by rw [List.size_toArray, List.size_toArray, ← r1.length, ← r2.length]) hu (fun i h1 h2 => ?_)) X.prog X.w _ _ ?_
  · obtain ⟨u1, e1, q1⟩ := vals_get r1 (i := i) (by simpa using h1)
    obtain ⟨u2, e2, q2⟩ := vals_get r2 (i := i) (by simpa using h2)
    rw [e1] at e2
    cases e2
    have k := eqAt_same (A := X.A.in1) (s := s) q1 q2 (hf u1 (List.mem_of_getElem? e1))
    simpa using k
  · rw [show ((List.range us.toArray.size).all fun _ => true) = true from List.all_eq_true.mpr fun _ _ => rfl]
    exact ⟨.bl false, H, I, rfl, q⟩
theorem strs_rd {A : Addr → Prop} {H : Hp} : ∀ {zs : List Str} {vs : List V}, RdL A H (zs.map PV.str) vs → vs = zs.map V.str
  | [], _, r => r
  | z :: zs, _, ⟨v, vs, e1, r1, rl1⟩ => by
    subst e1
    rw [strs_rd rl1, show v = V.str z from r1]
    rfl
def gNeS : PV → PV → (PV → Prop) → Prop := fun x y F => ∃ zs : List Str, x = .lst (zs.map PV.str) ∧ y = .lst (zs.map PV.str) ∧ F (.bl false)
instance ao_neS {K : PySem.W.Frag} : AO (rNeS K) gNeS false := ⟨fun {A H x y u v F Q} l r1 r2 h k => by
  obtain ⟨zs, rfl, rfl, hf⟩ := h
  obtain ⟨a, vs, rfl, na, ha, ra⟩ := id r1
  obtain ⟨b, ws, rfl, nb, hb, rb⟩ := id r2
  have e1 := strs_rd ra
  have e2 := strs_rd rb
  subst e1 e2
  refine ⟨a, b, zs.map V.str, rfl, rfl, ha, hb, fun v m => ?_, k _ _ (.bl false) rfl (fun z => nomatch z) (Ex.refl _) hf⟩
  obtain ⟨z, _, rfl⟩ := List.mem_map.mp m
  rfl⟩
/-! ### repr of data -/
def gReprD : List PV → (PV → Prop) → Prop := fun xs F => one xs fun x => match x with
  | .tup l => pick (pvD (.tup l)) fun d => d.showable = true ∧ d.hasDict = false ∧ d.depth ≤ 40 ∧ d.shown.length ≤ sizeLine ∧ F (.str d.shown)
  | _ => False
instance ac_reprD {K : PySem.W.Frag} : AC (rReprD K) gReprD false := ⟨fun {A H xs us F Q} l r h k => by
  obtain ⟨x, u, rfl, rfl, rx, h1⟩ := one_ok h r
  cases x <;> first | exact h1.elim | skip
  obtain ⟨d, e, s1, s2, s3, s4, hf⟩ := pick_ok h1
  obtain ⟨a, vs, rfl, na, ha, ra⟩ := id rx
  exact ⟨a, d, rfl, pvD_ok rx e, s1, s2, s3, s4, k _ _ (.str _) rfl (fun z => nomatch z) (Ex.refl _) hf⟩⟩
/-! ### what hangs on no list -/
mutual
def noL : PV → Bool
  | .lst _ => false
  | .tup xs => noLs xs
  | .dct _ xs => noLs xs
  | .ins _ _ xs => noLs xs
  | _ => true
def noLs : List PV → Bool
  | [] => true
  | x :: xs => noL x && noLs xs
end
section
variable {A : Addr → Prop} {H H' : Hp} (h : ∀ a o, H a = some o → (∀ l, o ≠ .lst l) → H' a = some o)
include h
mutual
theorem rd_noL : ∀ {x : PV} {v : V}, noL x = true → Rd A H x v → Rd A H' x v
  | .non, _, _, r => r
  | .bl _, _, _, r => r
  | .int _, _, _, r => r
  | .str _, _, _, r => r
  | .ty _, _, _, r => r
  | .adr _, _, _, r => r
  | .oth _, _, _, r => r
  | .lst _, _, n, _ => by unfold noL at n; cases n
  | .tup xs, _, n, ⟨a, vs, e, na, ha, rl⟩ => by
    unfold noL at n
    exact ⟨a, vs, e, na, h a _ ha (fun l z => nomatch z), rdl_noL n rl⟩
  | .dct ks xs, _, n, ⟨a, ws, e, na, ha, ek, rl⟩ => by
    unfold noL at n
    refine ⟨a, ws, e, na, ?_, ek, rdl_noL n rl⟩
    rcases ha with q | ⟨o, q⟩
    · exact .inl (h a _ q (fun l z => nomatch z))
    · exact .inr ⟨o, h a _ q (fun l z => nomatch z)⟩
  | .ins C ns xs, _, n, ⟨a, dx, ws, e, na, ha, en, rl⟩ => by
    unfold noL at n
    exact ⟨a, dx, ws, e, na, h a _ ha (fun l z => nomatch z), en, rdl_noL n rl⟩
theorem rdl_noL : ∀ {xs : List PV} {vs : List V}, noLs xs = true → RdL A H xs vs → RdL A H' xs vs
  | [], _, _, r => r
  | x :: xs, _, n, ⟨v, ws, e, r1, r2⟩ => by
    unfold noLs at n
    obtain ⟨n1, n2⟩ := Bool.and_eq_true_iff.mp n
    exact ⟨v, ws, e, rd_noL n1 r1, rdl_noL n2 r2⟩
end
end
end Pv
end

section -- PwA
set_option linter.all false
set_option maxRecDepth 100000
set_option maxHeartbeats 4000000
/-! PwA: == of tuples, told by a fold whose items may run defs; a built-in value beside an instance with its own __eq__. -/
namespace GQ
open PySem PySem.SeqAt
open AutoSeq1 (wpAny_loadPart')
open MeetsSeq MeetsSeq2 MeetsSeq3 SeqRoads2
section
variable {prog : Program} {w : World} {A : Around} {R : Result → Shared → Prop}
theorem tuple_eqB (l b : Addr) (items items2 : Array Value) (n n2 : Nat) (dd dd2 : Option Addr) (sl sl2 : Array (Option Value)) (e : Nat → Bool) (I : Shared → Prop)
    (turn : ∀ i (h1 : i < items.size) (h2 : i < items2.size) s, I s → wpAny (model prog w) A.in1 (eqBool items[i] items2[i]) (fun r s' => r = e i ∧ I s') (fun e s' => R (.error e) s') s)
    (fin : ∀ s, I s → R (.ok (.ret (.bool ((List.range (min items.size items2.size)).all e && items.size == items2.size)))) s) {s : Shared} (hl1 : s.heap.get? l = some { cls := .type "tuple", dict := dd, data := .seq items n, slots := sl }) (hb1 : s.heap.get? b = some { cls := .type "tuple", dict := dd2, data := .seq items2 n2, slots := sl2 }) (h : I s) :
    wpAny (model prog w) A.in1 (Builtin.«tuple.__eq__» ⟨[.ref l, .ref b], []⟩) (FinOf prog w A R) (fun e s' => R (.error e) s') s := by
  have f2 := AutoSeq1.sub_tuple_tuple
  have hZ : (items.toList.zip items2.toList).length = min items.size items2.size := by simp
  have h0 := h
  obtain ⟨hp, g, d, tk, os⟩ := s
  wp_walk using wpAny_loadPart' hl1, wpAny_loadPart' hb1, wpAny_forIn_list _ (fun rest b s' => b.1 = none ∧ I s' ∧ ∃ i, rest = (items.toList.zip items2.toList).drop i ∧ ((List.range (min items.size items2.size)).all e = ((List.range (min items.size items2.size)).drop i).all e)) _
  case turn =>
    rintro ⟨y, x⟩ rest b s' ⟨hb', hI, i, hz, hall⟩
    have hlt : i < (items.toList.zip items2.toList).length := by
      rcases Nat.lt_or_ge i (items.toList.zip items2.toList).length with h' | h'
      · exact h'
      · rw [List.drop_of_length_le h'] at hz; cases hz
    have hm : i < min items.size items2.size := hZ ▸ hlt
    have h1 : i < items.size := Nat.lt_of_lt_of_le hm (Nat.min_le_left _ _)
    have h2 : i < items2.size := Nat.lt_of_lt_of_le hm (Nat.min_le_right _ _)
    rw [List.drop_eq_getElem_cons hlt] at hz
    injection hz with hyx hrest
    have hy : y = items[i] := by have := congrArg Prod.fst hyx; simpa using this
    have hx : x = items2[i] := by have := congrArg Prod.snd hyx; simpa using this
    subst hy hx
    have hd : (List.range (min items.size items2.size)).drop i = i :: (List.range (min items.size items2.size)).drop (i + 1) := by simp [List.drop_eq_getElem_cons, hm]
    rw [hd, List.all_cons] at hall
    refine wpAny_bind (wpAny_mono (turn i h1 h2 s' hI) (fun r s2 q2 => ?_) fun _ _ x => x)
    obtain ⟨hr, q2⟩ := q2
    subst hr
    cases hy : e i with
    | true =>
      rw [hy, Bool.true_and] at hall
      wp_walk
      exact ⟨rfl, q2, i + 1, hrest, hall⟩
    | false =>
      have hR := fin s2 q2
      rw [hall, hy] at hR
      wp_walk
      simpa using hR
  case fin =>
    rintro ⟨b1, b2⟩ s' ⟨hb', hI, i, hz, hall⟩
    simp only at hb'
    subst hb'
    have hge : min items.size items2.size ≤ i := by
      rcases Nat.lt_or_ge i (items.toList.zip items2.toList).length with h' | h'
      · rw [List.drop_eq_getElem_cons h'] at hz; cases hz
      · exact hZ ▸ h'
    have hR := fin s' hI
    rw [hall, List.drop_of_length_le (by simpa using hge)] at hR
    wp_walk
    simpa [Builtin.Tuple.tupleCompareSizes] using hR
  case h =>
    exact ⟨rfl, h0, 0, rfl, rfl⟩
end
section
variable {prog : Program} {w : World} {A : Around} {E : Value → Shared → Prop} {s : Shared}
theorem rc_tupB {l b : Addr} {items items2 : Array Value} {e : Nat → Bool} {Q : Value → Shared → Prop} (hu : A.units < cLine) (I : Shared → Prop)
    (hl : s.heap.IsTuple l items) (hb : s.heap.IsTuple b items2)
    (turn : ∀ i (h1 : i < items.size) (h2 : i < items2.size) s, I s → wpAny (model prog w) A.in1 (eqBool items[i] items2[i]) (fun r s' => r = e i ∧ I s') E s)
    (fin : ∀ s, I s → Q (.bool ((List.range (min items.size items2.size)).all e && items.size == items2.size)) s) (h : I s) : wpAny (model prog w) A (richCompare .Eq (.ref l) (.ref b)) Q E s := by
  obtain ⟨⟨cls, dd, data, sl⟩, ho, hc, n, hd⟩ := id hl
  obtain ⟨⟨cls2, dd2, data2, sl2⟩, ho2, hc2, n2, hd2⟩ := id hb
  simp only at hc hd hc2 hd2
  subst hc hd hc2 hd2
  refine wpAny_richCompare_same_room (op := .Eq) ⟨_, ho, rfl⟩ ⟨_, ho2, rfl⟩ F.slot_tuple_eq (call_here F.slot_tuple_eq ⟨_, ho, rfl⟩ F.entry_tuple_eq (F.args_tuple_eq_2 _ _) ?_) hu
  exact tuple_eqB (R := wants (fun v s' => v ≠ .notImplemented ∧ Q v s') E) l b items items2 n n2 dd dd2 sl sl2 e I turn (fun s' q => ⟨(fun x => nomatch x), fin s' q⟩) ho ho2 h
end
end GQ
namespace PySem.W
open PySem PySem.Spec PySem.Calls PyProof.Rows
theorem pw_int_declines (b : Int) (u : Tok) (l C dx : Addr) :
    Meets (Builtin.«int.__eq__» ⟨[.int b u, .ref l], []⟩) (fun _ R s => s.heap.get? l = some (instObj C dx) ∧ R (.ok (.ret .notImplemented)) s) :=
  .of_wp fun prog w A R s h => by obtain ⟨hp, g, d, tk, os⟩ := s; obtain ⟨hl, h⟩ := h; wp_walk using PySem.AutoSeq1.wpAny_loadPart' hl, wpAny_load hl; exact ⟨_, rfl, h⟩
theorem pw_bool_declines (b : Bool) (l C dx : Addr) :
    Meets (Builtin.«int.__eq__» ⟨[.bool b, .ref l], []⟩) (fun _ R s => s.heap.get? l = some (instObj C dx) ∧ R (.ok (.ret .notImplemented)) s) :=
  .of_wp fun prog w A R s h => by obtain ⟨hp, g, d, tk, os⟩ := s; obtain ⟨hl, h⟩ := h; wp_walk using PySem.AutoSeq1.wpAny_loadPart' hl, wpAny_load hl; exact ⟨_, rfl, h⟩
theorem pw_str_declines (b : Str) (u : Tok) (l C dx : Addr) :
    Meets (Builtin.«str.__eq__» ⟨[.str b u, .ref l], []⟩) (fun _ R s => s.heap.get? l = some (instObj C dx) ∧ R (.ok (.ret .notImplemented)) s) :=
  .of_wp fun prog w A R s h => by obtain ⟨hp, g, d, tk, os⟩ := s; obtain ⟨hl, h⟩ := h; wp_walk using PySem.AutoSeq1.wpAny_loadPart' hl, wpAny_load hl; exact ⟨_, rfl, h⟩
section
variable {prog : Program} {w : World} {A : Around} {E : Value → Shared → Prop} {s : Shared} {K : Frag} {x C f L : Addr} {h₀ : Heap} {m : Str → Option Value} {ox : Obj} {od : Option Obj}
/-- a == x, a of a built-in type that declines, x with its own __eq__ -/
theorem pw_rcR {a : Value} {T ida : String} {Q : Value → Shared → Prop} (hu : A.units < cLine) (F : Fr h₀ L s.heap m) (X₀ : K.In h₀) (I : InstAt s.heap x ox C od) (ha : s.TypeIs a T) (hsub : subIn K (.ref C) (.type T) = some false) (h1 : Slot T (cmpInfo .Eq).2.1 ida)
    (hc1 : ∀ Q' : Value → Shared → Prop, Q' .notImplemented s → wpAny (model prog w) A (call (.builtin ida) [a, .ref x]) Q' E s)
    (hs : findIn K (.ref C) (cmpInfo .Eq).2.2 = some (some (.ref f))) (hf : isFn K (.ref f) = true)
    (h : wpAny (model prog w) A (call (.ref f) [.ref x, a]) (CmpBack Q) E s) : wpAny (model prog w) A (richCompare .Eq a (.ref x)) Q E s := by
  have X := X₀.keeps F.keep
  rcases hi : cmpInfo CmpOp.Eq with ⟨sym, ff, r⟩
  rw [hi] at h1 hs
  have one : wpAny (model prog w) A (tryCompare (.ref x) r a) (fun v s' => ∃ z, v = some z ∧ Q z s') E s := by
    unfold tryCompare
    refine wpAny_bind (ifBound_K X I hs hf (wpAny_mono h (fun v s' hv => ?_) fun _ _ e => e))
    cases v <;> first | exact hv.elim | exact wpAny_pure ⟨_, rfl, hv⟩
  have hne : (Value.type T != Value.ref C) = true := by simp
  simp only [richCompare, hi, ha.oneThing_none]
  try with_reducible refine wpAny_holding ?_
  refine wpAny_bind (wpAny_cRoomFor hu ?_)
  try refine wpAny_bind (wpAny_typeOf ha ?_)
  refine wpAny_bind (I.type.here ?_)
  simp only [I.cls, bne_self_eq_false, hne, if_true]
  refine wpAny_bind ((looks_subIn X hsub).here ?_)
  simp only [Bool.false_eq_true, if_false, Bool.not_false, if_true]
  refine wpAny_bind (m := tryCompare a _ (.ref x)) (wpAny_tryCompare_declines ha h1 (hc1 _ ⟨rfl, ?_⟩))
  refine wpAny_bind (wpAny_mono one (fun v s' z => ?_) fun _ _ e => e)
  obtain ⟨z, rfl, hq⟩ := z
  exact wpAny_pure hq
/-- a tuple beside an instance of another class declines -/
theorem pw_tup_declines {l : Addr} {items : Array Value} {Q : Value → Shared → Prop} (X : K.In s.heap) (hl : s.heap.IsTuple l items) (I : InstAt s.heap x ox C od) (hsub : subIn K (.ref C) (.type "tuple") = some false) (h : Q .notImplemented s) :
    wpAny (model prog w) A (call (.builtin "tuple.__eq__") [.ref l, .ref x]) Q E s := by
  obtain ⟨⟨cls, dd, data, sl⟩, ho, hc, n, hd⟩ := id hl
  simp only at hc hd
  subst hc hd
  have hin : Looks (model prog w) s.heap (isInstance (.ref x) (.type "tuple")) false := by
    intro A Q' E' s2 k q
    simp only [isInstance]
    exact wpAny_bind (I.type A _ E' s2 k ((looks_subIn X hsub) A _ E' s2 k q))
  refine GQ.call_here F.slot_tuple_eq ⟨_, ho, rfl⟩ F.entry_tuple_eq (F.args_tuple_eq_2 _ _) ?_
  show wpAny (model prog w) A.in1 (Builtin.«tuple.__eq__» ⟨[.ref l, .ref x], []⟩) _ _ s
  unfold Builtin.«tuple.__eq__»
  show wpAny (model prog w) A.in1 (slotArgs "__eq__" 1 ⟨[.ref l, .ref x], []⟩ >>= _) _ _ s
  refine wpAny_bind (wpAny_of_eq (a := ((Value.ref l : Value), [Value.ref x])) (by first | rfl | (simp only [slotArgs]; rfl)) ?_)
  refine wpAny_bind (hin.here ?_)
  simp only [Bool.not_false, if_true]
  wp_walk
  exact h
end
end PySem.W
end

section -- PwB
set_option linter.all false
set_option maxRecDepth 100000
set_option maxHeartbeats 4000000
/-! PwB: trees of values with instances of one class of two ints; == of those that hold no list and no dict. -/
namespace Pw
open PySem PySem.Spec L2 Pk Evl Pv
open PyProof.Rows hiding St
inductive Vt where
  | non | bl (b : Bool) | int (i : Int) | str (s : Str) | rat (t b : Int) | lst (xs : List Vt) | tup (xs : List Vt) | dct (ks : List Key) (xs : List Vt)
def ratN : List Str := ["top", "bottom"]
mutual
def tp (R : Addr) : Vt → PV
  | .non => .non
  | .bl b => .bl b
  | .int i => .int i
  | .str s => .str s
  | .rat t b => .ins R ratN [.int t, .int b]
  | .lst xs => .lst (tps R xs)
  | .tup xs => .tup (tps R xs)
  | .dct ks xs => .dct ks (tps R xs)
def tps (R : Addr) : List Vt → List PV
  | [] => []
  | x :: xs => tp R x :: tps R xs
end
theorem tps_len (R : Addr) : ∀ xs : List Vt, (tps R xs).length = xs.length
  | [] => by unfold tps; rfl
  | x :: xs => by unfold tps; rw [List.length_cons, List.length_cons, tps_len R xs]
theorem tps_map (R : Addr) : ∀ xs : List Vt, tps R xs = xs.map (tp R)
  | [] => by unfold tps; rfl
  | x :: xs => by unfold tps; rw [List.map_cons, tps_map R xs]
theorem tps_get {R : Addr} {xs : List Vt} {i : Nat} {x : Vt} (h : xs[i]? = some x) : (tps R xs)[i]? = some (tp R x) := by rw [tps_map, List.getElem?_map, h]; rfl
/-! those that `fixed` gives -/
mutual
def fxT : Vt → Bool
  | .lst _ => false
  | .dct _ _ => false
  | .tup xs => fxTs xs
  | _ => true
def fxTs : List Vt → Bool
  | [] => true
  | x :: xs => fxT x && fxTs xs
end
mutual
def dep : Vt → Nat
  | .lst xs => deps xs + 1
  | .tup xs => deps xs + 1
  | .dct _ xs => deps xs + 1
  | _ => 0
def deps : List Vt → Nat
  | [] => 0
  | x :: xs => max (dep x) (deps xs)
end
theorem dep_mem {x : Vt} : ∀ {xs : List Vt}, x ∈ xs → dep x ≤ deps xs
  | y :: ys, h => by
    unfold deps
    rcases List.mem_cons.mp h with rfl | h
    · exact Nat.le_max_left _ _
    · exact Nat.le_trans (dep_mem h) (Nat.le_max_right _ _)
theorem fx_mem {x : Vt} : ∀ {xs : List Vt}, fxTs xs = true → x ∈ xs → fxT x = true
  | y :: ys, f, h => by
    unfold fxTs at f
    obtain ⟨f1, f2⟩ := Bool.and_eq_true_iff.mp f
    rcases List.mem_cons.mp h with rfl | h
    · exact f1
    · exact fx_mem f2 h
theorem fxTs_of : ∀ {xs : List Vt}, (∀ x ∈ xs, fxT x = true) → fxTs xs = true
  | [], _ => by unfold fxTs; rfl
  | y :: ys, h => by unfold fxTs; rw [h y List.mem_cons_self, fxTs_of fun x m => h x (List.mem_cons_of_mem _ m)]; rfl
/-! ### == -/
mutual
def eqT : Vt → Vt → Bool
  | .tup xs, y => match y with
    | .tup ys => eqTs xs ys
    | _ => false
  | .rat t b, y => match y with
    | .rat t' b' => decide (t = t') && decide (b = b')
    | .int i => decide (b = 1) && decide (t = i)
    | _ => false
  | .int i, y => match y with
    | .rat t b => decide (b = 1) && decide (t = i)
    | .int j => i == j
    | .bl c => i == (if c then 1 else 0)
    | _ => false
  | .bl a, y => match y with
    | .bl b => a == b
    | .int j => (if a then 1 else 0) == j
    | _ => false
  | .str a, y => match y with
    | .str b => a == b
    | _ => false
  | .non, y => match y with
    | .non => true
    | _ => false
  | .lst _, _ => false
  | .dct _ _, _ => false
def eqTs : List Vt → List Vt → Bool
  | [], ys => match ys with
    | [] => true
    | _ => false
  | x :: xs, ys => match ys with
    | y :: ys => eqT x y && eqTs xs ys
    | [] => false
end
mutual
theorem eqT_refl : ∀ x : Vt, fxT x = true → eqT x x = true
  | .non, _ => by unfold eqT; rfl
  | .bl b, _ => by unfold eqT; simp
  | .int i, _ => by unfold eqT; simp
  | .str s, _ => by unfold eqT; simp
  | .rat t b, _ => by unfold eqT; simp
  | .lst _, h => by unfold fxT at h; cases h
  | .dct _ _, h => by unfold fxT at h; cases h
  | .tup xs, h => by unfold fxT at h; unfold eqT; exact eqTs_refl xs h
theorem eqTs_refl : ∀ xs : List Vt, fxTs xs = true → eqTs xs xs = true
  | [], _ => by unfold eqTs; rfl
  | x :: xs, h => by
    unfold fxTs at h
    obtain ⟨h1, h2⟩ := Bool.and_eq_true_iff.mp h
    unfold eqTs
    show (eqT x x && eqTs xs xs) = true
    rw [eqT_refl x h1, eqTs_refl xs h2]; rfl
end
theorem beq_swap (i j : Int) : (i == j) = (j == i) := by
  by_cases h : i = j
  · rw [h]
  · have h' : ¬ j = i := fun e => h e.symm
    rw [beq_eq_false_iff_ne.mpr h, beq_eq_false_iff_ne.mpr h']
mutual
theorem eqT_symm : ∀ x y : Vt, fxT x = true → fxT y = true → eqT x y = eqT y x
  | .tup xs, y, h, g => by
    unfold fxT at h
    cases y with
    | tup ys => unfold fxT at g; unfold eqT; exact eqTs_symm xs ys h g
    | lst _ => unfold fxT at g; cases g
    | dct _ _ => unfold fxT at g; cases g
    | _ => unfold eqT; rfl
  | .rat t b, y, h, g => by
    cases y with
    | rat t' b' => unfold eqT; show (decide (t = t') && decide (b = b')) = (decide (t' = t) && decide (b' = b)); rw [decide_eq_decide.mpr ⟨Eq.symm, Eq.symm⟩, decide_eq_decide.mpr (⟨Eq.symm, Eq.symm⟩ : b = b' ↔ b' = b)]
    | lst _ => unfold fxT at g; cases g
    | dct _ _ => unfold fxT at g; cases g
    | _ => unfold eqT; rfl
  | .int i, y, h, g => by
    cases y with
    | int j => unfold eqT; exact beq_swap i j
    | bl c => unfold eqT; exact beq_swap _ _
    | lst _ => unfold fxT at g; cases g
    | dct _ _ => unfold fxT at g; cases g
    | _ => unfold eqT; rfl
  | .bl a, y, h, g => by
    cases y with
    | int j => unfold eqT; exact beq_swap _ _
    | bl c => unfold eqT; cases a <;> cases c <;> rfl
    | lst _ => unfold fxT at g; cases g
    | dct _ _ => unfold fxT at g; cases g
    | _ => unfold eqT; rfl
  | .str a, y, h, g => by
    cases y with
    | str b =>
      unfold eqT
      show (a == b) = (b == a)
      by_cases e : a = b
      · rw [e]
      · have e' : ¬ b = a := fun z => e z.symm
        rw [beq_eq_false_iff_ne.mpr e, beq_eq_false_iff_ne.mpr e']
    | lst _ => unfold fxT at g; cases g
    | dct _ _ => unfold fxT at g; cases g
    | _ => unfold eqT; rfl
  | .non, y, h, g => by
    cases y with
    | lst _ => unfold fxT at g; cases g
    | dct _ _ => unfold fxT at g; cases g
    | _ => unfold eqT; rfl
  | .lst _, _, h, _ => by unfold fxT at h; cases h
  | .dct _ _, _, h, _ => by unfold fxT at h; cases h
theorem eqTs_symm : ∀ xs ys : List Vt, fxTs xs = true → fxTs ys = true → eqTs xs ys = eqTs ys xs
  | [], ys, _, _ => by cases ys <;> (unfold eqTs; rfl)
  | x :: xs, ys, h, g => by
    cases ys with
    | nil => unfold eqTs; rfl
    | cons y ys =>
      unfold fxTs at h g
      obtain ⟨h1, h2⟩ := Bool.and_eq_true_iff.mp h
      obtain ⟨g1, g2⟩ := Bool.and_eq_true_iff.mp g
      unfold eqTs
      show (eqT x y && eqTs xs ys) = (eqT y x && eqTs ys xs)
      rw [eqT_symm x y h1 g1, eqTs_symm xs ys h2 g2]
end
def eqAtI (xs ys : List Vt) (i : Nat) : Bool := match xs[i]?, ys[i]? with
  | some x, some y => eqT x y
  | _, _ => true
theorem eqTs_idx : ∀ xs ys : List Vt, ((List.range (min xs.length ys.length)).all (eqAtI xs ys) && xs.length == ys.length) = eqTs xs ys
  | [], [] => by unfold eqTs; rfl
  | [], y :: ys => by unfold eqTs; show (_ && false) = false; rw [Bool.and_false]
  | x :: xs, [] => by unfold eqTs; show (_ && false) = false; rw [Bool.and_false]
  | x :: xs, y :: ys => by
    unfold eqTs
    show _ = (eqT x y && eqTs xs ys)
    rw [← eqTs_idx xs ys, List.length_cons, List.length_cons, Nat.succ_min_succ, List.range_succ_eq_map, List.all_cons, List.all_map]
    have e : (eqAtI (x :: xs) (y :: ys)) ∘ Nat.succ = eqAtI xs ys := funext fun i => rfl
    have e2 : (xs.length + 1 == ys.length + 1) = (xs.length == ys.length) := by simp
    rw [e, e2, show eqAtI (x :: xs) (y :: ys) 0 = eqT x y from rfl, Bool.and_assoc]
/-! ### what stands for a tree stands for no other -/
abbrev NoA : Addr → Prop := fun _ => False
mutual
theorem rd_det {R : Addr} {A : Addr → Prop} {H : Hp} : ∀ {x y : Vt} {v : V}, Rd A H (tp R x) v → Rd A H (tp R y) v → fxT x = true → fxT y = true → x = y
  | .non, y, v, r, r', _, g => by
    unfold tp at r; cases r
    cases y <;> unfold tp at r' <;> first | rfl | (obtain ⟨_, _, _, e, _⟩ := r'; cases e) | (obtain ⟨_, _, e, _⟩ := r'; cases e) | cases r'
  | .bl b, y, v, r, r', _, g => by
    unfold tp at r; cases r
    cases y <;> unfold tp at r' <;> first | (cases r'; rfl) | (obtain ⟨_, _, _, e, _⟩ := r'; cases e) | (obtain ⟨_, _, e, _⟩ := r'; cases e) | cases r'
  | .int b, y, v, r, r', _, g => by
    unfold tp at r; cases r
    cases y <;> unfold tp at r' <;> first | (cases r'; rfl) | (obtain ⟨_, _, _, e, _⟩ := r'; cases e) | (obtain ⟨_, _, e, _⟩ := r'; cases e) | cases r'
  | .str b, y, v, r, r', _, g => by
    unfold tp at r; cases r
    cases y <;> unfold tp at r' <;> first | (cases r'; rfl) | (obtain ⟨_, _, _, e, _⟩ := r'; cases e) | (obtain ⟨_, _, e, _⟩ := r'; cases e) | cases r'
  | .rat t b, y, v, r, r', _, g => by
    unfold tp at r
    obtain ⟨a, dx, ws, rfl, na, ha, en, rl⟩ := r
    cases y with
    | rat t' b' =>
      unfold tp at r'
      obtain ⟨a', dx', ws', e, na', ha', en', rl'⟩ := r'
      cases e
      rw [ha] at ha'
      cases ha'
      obtain ⟨u1, us1, e1, q1, u2, us2, e2, q2, e3⟩ := rl
      obtain ⟨v1, vs1, f1, p1, v2, vs2, f2, p2, f3⟩ := rl'
      rw [e1] at f1
      obtain ⟨g1, g2⟩ := List.cons.inj f1
      subst g1 g2
      rw [e2] at f2
      obtain ⟨g3, g4⟩ := List.cons.inj f2
      subst g3 g4
      cases q1; cases q2
      cases p1; cases p2
      rfl
    | tup ys =>
      unfold tp at r'
      obtain ⟨a', vs, e, _, ha', _⟩ := r'
      cases e
      rw [ha] at ha'; cases ha'
    | lst ys => unfold fxT at g; cases g
    | dct _ ys => unfold fxT at g; cases g
    | _ => unfold tp at r'; cases r'
  | .tup xs, y, v, r, r', f, g => by
    unfold tp at r
    obtain ⟨a, vs, rfl, na, ha, rl⟩ := r
    cases y with
    | rat t' b' =>
      unfold tp at r'
      obtain ⟨a', dx', ws', e, na', ha', en', rl'⟩ := r'
      cases e
      rw [ha] at ha'; cases ha'
    | tup ys =>
      unfold tp at r'
      obtain ⟨a', vs', e, _, ha', rl'⟩ := r'
      cases e
      rw [ha] at ha'
      cases ha'
      unfold fxT at f g
      rw [rdl_det rl rl' f g]
    | lst ys => unfold fxT at g; cases g
    | dct _ ys => unfold fxT at g; cases g
    | _ => unfold tp at r'; cases r'
  | .lst _, _, _, _, _, f, _ => by unfold fxT at f; cases f
  | .dct _ _, _, _, _, _, f, _ => by unfold fxT at f; cases f
theorem rdl_det {R : Addr} {A : Addr → Prop} {H : Hp} : ∀ {xs ys : List Vt} {vs : List V}, RdL A H (tps R xs) vs → RdL A H (tps R ys) vs → fxTs xs = true → fxTs ys = true → xs = ys
  | [], ys, vs, r, r', _, _ => by
    unfold tps at r; cases r
    cases ys with
    | nil => rfl
    | cons y ys => unfold tps at r'; obtain ⟨_, _, e, _⟩ := r'; cases e
  | x :: xs, ys, vs, r, r', f, g => by
    unfold tps at r
    obtain ⟨v, ws, rfl, r1, r2⟩ := r
    cases ys with
    | nil => unfold tps at r'; cases r'
    | cons y ys =>
      unfold tps at r'
      obtain ⟨v', ws', e, r1', r2'⟩ := r'
      obtain ⟨e1, e2⟩ := List.cons.inj e
      subst e1 e2
      unfold fxTs at f g
      obtain ⟨f1, f2⟩ := Bool.and_eq_true_iff.mp f
      obtain ⟨g1, g2⟩ := Bool.and_eq_true_iff.mp g
      rw [rd_det r1 r1' f1 g1, rdl_det r2 r2' f2 g2]
end
end Pw
end

section -- PwC
set_option linter.all false
set_option maxRecDepth 100000
set_option maxHeartbeats 4000000
/-! PwC: == of trees, run: the items' own __eq__ among it. -/
namespace Pw
open PySem PySem.Spec L2 Pk Evl Pv
open PyProof.Rows hiding St
theorem rcAt_V {A : Around} {s : Shared} {y x : V} {u v : Value} (ry : RelV y u) (rx : RelV x v) (fy : flatV y = true) (fx : flatV x = true) : SeqAt.RcAt A s u v (L2.eqV y x) := by
  cases y <;> first | exact absurd (show false = true from fy) Bool.false_ne_true | skip
  all_goals (cases x <;> first | exact absurd (show false = true from fx) Bool.false_ne_true | skip)
  · cases ry; cases rx; exact SeqAt.RcAt.none_none
  · cases ry; cases rx; exact SeqAt.RcAt.none_bool _
  · cases ry; obtain ⟨t, rfl⟩ := rx; exact SeqAt.RcAt.none_int _ t
  · cases ry; obtain ⟨t, rfl⟩ := rx; exact SeqAt.RcAt.none_str _ t
  · cases ry; cases rx; exact SeqAt.RcAt.bool_none _
  · cases ry; cases rx; exact SeqAt.RcAt.bool_bool _ _
  · cases ry; obtain ⟨t, rfl⟩ := rx; exact SeqAt.RcAt.bool_int _ _ t
  · cases ry; obtain ⟨t, rfl⟩ := rx; exact SeqAt.RcAt.bool_str _ _ t
  · cases rx; obtain ⟨t, rfl⟩ := ry; exact SeqAt.RcAt.int_none _ t
  · cases rx; obtain ⟨t, rfl⟩ := ry; exact SeqAt.RcAt.int_bool _ t _
  · obtain ⟨t, rfl⟩ := ry; obtain ⟨t', rfl⟩ := rx; exact SeqAt.RcAt.int_int _ t _ t'
  · obtain ⟨t, rfl⟩ := ry; obtain ⟨t', rfl⟩ := rx; exact SeqAt.RcAt.int_str _ t _ t'
  · cases rx; obtain ⟨t, rfl⟩ := ry; exact SeqAt.RcAt.str_none _ t
  · cases rx; obtain ⟨t, rfl⟩ := ry; exact SeqAt.RcAt.str_bool _ t _
  · obtain ⟨t, rfl⟩ := ry; obtain ⟨t', rfl⟩ := rx; exact SeqAt.RcAt.str_int _ t _ t'
  · obtain ⟨t, rfl⟩ := ry; obtain ⟨t', rfl⟩ := rx; exact SeqAt.RcAt.str_str _ t _ t'
/-- the flat trees -/
def flT : Vt → Option V
  | .non => some .non
  | .bl b => some (.bl b)
  | .int i => some (.int i)
  | .str s => some (.str s)
  | _ => none
theorem flT_rd {R : Addr} {A : Addr → Prop} {H : Hp} {x : Vt} {v w : V} (r : Rd A H (tp R x) v) (h : flT x = some w) : v = w ∧ flatV w = true := by
  cases x <;> first | (cases h; unfold tp at r; exact ⟨r, rfl⟩) | cases h
theorem flT_eq {x y : Vt} {v w : V} (h : flT x = some v) (g : flT y = some w) : L2.eqV v w = eqT x y := by
  cases x <;> first | (cases h; cases y <;> first | (cases g; unfold eqT; rfl) | cases g) | cases h
/-- what is known of the class at R, whose own __eq__ is the def at f -/
def kinds5 : List String := ["NoneType", "bool", "int", "str", "tuple"]
def preREq (R : Addr) : FP Unit := fun xs s F _ => ∃ (t b : Int) (y : Vt), xs = [tp R (.rat t b), tp R y] ∧ fxT y = true ∧ F (.bl (eqT (.rat t b) y)) ()
structure RatEq (X : Cx) (n : Nat) (R f : Addr) : Prop where
  hs : PySem.W.findIn X.K (.ref R) "__eq__" = some (some (.ref f))
  hf : PySem.W.isFn X.K (.ref f) = true
  first : ∀ T ∈ kinds5, PySem.W.notFirst X.K R (.type T) = true
  sub : ∀ T ∈ kinds5, PySem.W.subIn X.K (.ref R) (.type T) = some false
  ty : TyC X.K R
  run : ∀ A : Around, Room n A → A.frames = X.A.frames → RunAt X A f (fun vs H Q => spF W0 2 (preREq R) vs H Q E0)
section
variable {X : Cx} {n : Nat} {R f : Addr}
def tyT (R : Addr) : Vt → Value
  | .non => .type "NoneType" | .bl _ => .type "bool" | .int _ => .type "int" | .str _ => .type "str" | .tup _ => .type "tuple" | .rat _ _ => .ref R | .lst _ => .type "list" | .dct _ _ => .type "dict"
theorem tyT_ok {K : PySem.W.Frag} {A : Addr → Prop} {H : Hp} {x : Vt} {u : V} (c : TyC K R) (r : Rd A H (tp R x) u) : TyX K H u (tyT R x) := by
  cases x <;> (unfold tp at r; first | exact TyP.ok (t := .ref R) r ⟨c, rfl⟩ | exact tyB_ok r rfl)
theorem first_ok (k : RatEq X n R f) {y : Vt} (hy : fxT y = true) : PySem.W.notFirst X.K R (tyT R y) = true := by
  cases y with
  | rat _ _ => simp [tyT, PySem.W.notFirst]
  | lst _ => unfold fxT at hy; cases hy
  | dct _ _ => unfold fxT at hy; cases hy
  | non => exact k.first _ (by decide)
  | bl _ => exact k.first _ (by decide)
  | int _ => exact k.first _ (by decide)
  | str _ => exact k.first _ (by decide)
  | tup _ => exact k.first _ (by decide)
/-- what is left of a run of == -/
abbrev After (X : Cx) (pins : List (Addr × Obj)) (σ : L2.St) (H : Hp) (s' : Shared) : Prop := ∃ H', L2.Inv X pins σ H' s' ∧ Ex H H'
theorem own_run (k : RatEq X n R f) {A : Around} (sb : Sub X n A) {t b : Int} {y : Vt} (hy : fxT y = true) {pins : List (Addr × Obj)} {σ : L2.St} {H : Hp} {s : Shared} {a : Addr} {v : V} {u : Value} (I : L2.Inv X pins σ H s) (r1 : Rd NoA H (tp R (.rat t b)) (.ref a)) (r2 : Rd NoA H (tp R y) v) (rv : RelV v u) :
    wpAny (model X.prog X.w) A (call (.ref f) [.ref a, u]) (PySem.W.CmpBack fun r s' => r = .bool (eqT (.rat t b) y) ∧ After X pins σ H s') X.xe s := by
  refine thn (k.run A sb.room sb.fr pins s σ H [.ref a, v] [.ref a, u] (fun z G => z = .bl (eqT (.rat t b) y) ∧ Ex H G) I (.cons rfl (.cons rv .nil)) ⟨rfl, NoA, [tp R (.rat t b), tp R y], (), (fun x' _ => x' = .bl (eqT (.rat t b) y)), (fun _ _ _ _ => False), ct0 (fun _ h => h.elim), RdL.cons r1 (RdL.cons r2 RdL.nil), xl0, ⟨t, b, y, rfl, hy, rfl⟩, fun z G x' s' rz fr _ hz => ?_⟩) fun z s1 hz => ?_
  · have hz' : x' = .bl (eqT (.rat t b) y) := hz
    subst hz'
    exact ⟨rz, fr0 fr⟩
  · obtain ⟨v', G, I1, rz, e, ex⟩ := hz
    subst e
    cases rz
    exact ⟨rfl, G, I1, ex⟩
theorem rat_ref {A : Addr → Prop} {H : Hp} {t b : Int} {v : V} (r : Rd A H (tp R (.rat t b)) v) : ∃ a dx fs, v = .ref a ∧ H a = some (.ins R dx fs) := by
  unfold tp at r
  obtain ⟨a, dx, ws, e, _, h, _⟩ := r
  exact ⟨a, dx, ws, e, h⟩
theorem tup_ref {A : Addr → Prop} {H : Hp} {xs : List Vt} {v : V} (r : Rd A H (tp R (.tup xs)) v) : ∃ a vs, v = .ref a ∧ H a = some (.tup vs) ∧ RdL A H (tps R xs) vs := by
  unfold tp at r
  obtain ⟨a, vs, e, _, h, r⟩ := r
  exact ⟨a, vs, e, h, r⟩
theorem flat_type {A : Addr → Prop} {H : Hp} {x : Vt} {v : V} {v' : Value} {s : Shared} (r : Rd A H (tp R x) v) (rv : RelV v v') : ∀ {w : V}, flT x = some w → ∃ T ida, T ∈ kinds5 ∧ s.TypeIs v' T ∧ Slot T (cmpInfo .Eq).2.1 ida ∧
    ∀ {prog : Program} {w : World} {A : Around} {E : Value → Shared → Prop} {a C dx : Addr}, s.heap.get? a = some (PySem.W.instObj C dx) → ∀ Q' : Value → Shared → Prop, Q' .notImplemented s → wpAny (model prog w) A (call (.builtin ida) [v', .ref a]) Q' E s := by
  intro w h
  cases x <;> first | (cases h; done) | (cases h; unfold tp at r; cases r)
  · cases rv
    exact ⟨"NoneType", _, by decide, rfl, F.slot_NoneType_eq, fun _ Q' q => call_gives F.slot_NoneType_eq rfl F.entry_NoneType_eq (F.args_NoneType_eq_2 _ _) (SeqAt.NoneType___eq___none_ref_0 _) q⟩
  · cases rv
    exact ⟨"bool", _, by decide, rfl, F.slot_bool_eq, fun hl Q' q => call_meets F.slot_bool_eq rfl F.entry_int_eq (F.args_int_eq_2 _ _) (PySem.W.pw_bool_declines _ _ _ _) ⟨hl, q⟩⟩
  · obtain ⟨t, rfl⟩ := rv
    exact ⟨"int", _, by decide, typeIs_int _ _ _, F.slot_int_eq, fun hl Q' q => call_meets F.slot_int_eq (typeIs_int _ _ _) F.entry_int_eq (F.args_int_eq_2 _ _) (PySem.W.pw_int_declines _ _ _ _ _) ⟨hl, q⟩⟩
  · obtain ⟨t, rfl⟩ := rv
    exact ⟨"str", _, by decide, typeIs_str _ _ _, F.slot_str_eq, fun hl Q' q => call_meets F.slot_str_eq (typeIs_str _ _ _) F.entry_str_eq (F.args_str_eq_2 _ _) (PySem.W.pw_str_declines _ _ _ _ _) ⟨hl, q⟩⟩
theorem rc_other (k : RatEq X n R f) {x y : Vt} (hx : fxT x = true) (hy : fxT y = true) (ht : ∀ xs ys, x = .tup xs → y = .tup ys → False) {A : Around} (sb : Sub X n A) {pins : List (Addr × Obj)} {σ : L2.St} {H : Hp} {s : Shared} {v u : V} {v' u' : Value} (I : L2.Inv X pins σ H s) (r1 : Rd NoA H (tp R x) v) (r2 : Rd NoA H (tp R y) u) (rv : RelV v v') (ru : RelV u u') :
    wpAny (model X.prog X.w) A (richCompare .Eq v' u') (fun r s' => r = .bool (eqT x y) ∧ After X pins σ H s') X.xe s := by
  have hu : A.units < cLine := sb.room.units0
  obtain ⟨m, hF⟩ := I.fr
  -- the left one an instance
  by_cases xr : ∃ t b, x = .rat t b
  · obtain ⟨t, b, rfl⟩ := xr
    obtain ⟨a, dx, fs, rfl, ha⟩ := rat_ref r1
    obtain ⟨mA, O, _⟩ := ins_get I.hok ha
    obtain ⟨od, J, _⟩ := O.look
    cases (show v' = Value.ref a from rv)
    exact PySem.W.cmp_K (op := .Eq) hu hF I.ok.mod.kin J (ty_looks I ru (tyT_ok k.ty r2)) (first_ok k hy) k.hs k.hf (own_run k sb hy I r1 r2 ru)
  by_cases yr : ∃ t b, y = .rat t b
  · obtain ⟨t, b, rfl⟩ := yr
    obtain ⟨a, dx, fs, rfl, ha⟩ := rat_ref r2
    obtain ⟨mA, O, _⟩ := ins_get I.hok ha
    obtain ⟨od, J, _⟩ := O.look
    cases (show u' = Value.ref a from ru)
    have own := own_run k sb hx I r2 r1 rv
    rw [eqT_symm (.rat t b) x hy hx] at own
    cases q : flT x with
    | some w =>
      obtain ⟨T, ida, hT, ty, sl, dc⟩ := flat_type (s := s) r1 rv q
      exact PySem.W.pw_rcR hu hF I.ok.mod.kin J ty (k.sub T hT) sl (dc O.obj) k.hs k.hf own
    | none =>
      cases x with
      | tup xs =>
        obtain ⟨p, vs, rfl, hp, rl⟩ := tup_ref r1
        obtain ⟨its, ri, it, _⟩ := I.tuple (st_of hp)
        cases (show v' = Value.ref p from rv)
        obtain ⟨o, ho, hc, _⟩ := id it
        exact PySem.W.pw_rcR hu hF I.ok.mod.kin J ⟨o, ho, hc⟩ (k.sub "tuple" (by decide)) F.slot_tuple_eq (fun Q' q => PySem.W.pw_tup_declines I.kIn it J (k.sub "tuple" (by decide)) q) k.hs k.hf own
      | rat t b => exact absurd ⟨t, b, rfl⟩ xr
      | lst _ => unfold fxT at hx; cases hx
      | dct _ _ => unfold fxT at hx; cases hx
      | _ => cases q
  have keep : ∀ {b : Bool}, b = eqT x y → SeqAt.RcAt A s v' u' b → wpAny (model X.prog X.w) A (richCompare .Eq v' u') (fun r s' => r = .bool (eqT x y) ∧ After X pins σ H s') X.xe s := fun e h => h _ _ _ _ ⟨by rw [e], H, I, Ex.refl H⟩
  cases qx : flT x with
  | some w1 =>
    obtain ⟨rfl, f1⟩ := flT_rd r1 qx
    cases qy : flT y with
    | some w2 =>
      obtain ⟨rfl, f2⟩ := flT_rd r2 qy
      exact keep (flT_eq qx qy) (rcAt_V rv ru f1 f2)
    | none =>
      cases y with
      | tup ys =>
        obtain ⟨p, vs, rfl, hp, rl⟩ := tup_ref r2
        obtain ⟨its, ri, it, _⟩ := I.tuple (st_of hp)
        cases (show u' = Value.ref p from ru)
        cases x <;> first | (cases qx; done) | (unfold tp at r1; cases r1)
        · cases rv; exact keep (by unfold eqT; rfl) (SeqAt.RcAt.none_tuple it hu)
        · cases rv; exact keep (by unfold eqT; rfl) (SeqAt.RcAt.bool_tuple _ it hu)
        · obtain ⟨t, rfl⟩ := rv; exact keep (by unfold eqT; rfl) (SeqAt.RcAt.int_tuple _ t it hu)
        · obtain ⟨t, rfl⟩ := rv; exact keep (by unfold eqT; rfl) (SeqAt.RcAt.str_tuple _ t it hu)
      | rat t b => exact absurd ⟨t, b, rfl⟩ yr
      | lst _ => unfold fxT at hy; cases hy
      | dct _ _ => unfold fxT at hy; cases hy
      | _ => cases qy
  | none =>
    cases x with
    | tup xs =>
      obtain ⟨p, vs, rfl, hp, rl⟩ := tup_ref r1
      obtain ⟨its, ri, it, _⟩ := I.tuple (st_of hp)
      cases (show v' = Value.ref p from rv)
      cases y <;> first | exact absurd ⟨_, _, rfl⟩ yr | exact (ht _ _ rfl rfl).elim | (unfold fxT at hy; cases hy; done) | (unfold tp at r2; cases r2)
      · cases ru; exact keep (by unfold eqT; rfl) (SeqAt.RcAt.tuple_none it hu)
      · cases ru; exact keep (by unfold eqT; rfl) (SeqAt.RcAt.tuple_bool _ it hu)
      · obtain ⟨t, rfl⟩ := ru; exact keep (by unfold eqT; rfl) (SeqAt.RcAt.tuple_int _ t it hu)
      · obtain ⟨t, rfl⟩ := ru; exact keep (by unfold eqT; rfl) (SeqAt.RcAt.tuple_str _ t it hu)
    | rat t b => exact absurd ⟨t, b, rfl⟩ xr
    | lst _ => unfold fxT at hx; cases hx
    | dct _ _ => unfold fxT at hx; cases hx
    | _ => cases qx
theorem relv_ref {u : V} {a : Addr} (h : RelV u (.ref a)) : u = .ref a := by
  cases u with
  | ref b => cases (show Value.ref a = Value.ref b from h); rfl
  | non => cases (show Value.ref a = Value.none from h)
  | bl b => cases (show Value.ref a = Value.bool b from h)
  | int i => obtain ⟨t, z⟩ := h; cases z
  | str x => obtain ⟨t, z⟩ := h; cases z
  | _ => first | (obtain ⟨t, z⟩ := h; cases z) | cases h
theorem ref_of {H : Hp} {x : Vt} {v : V} (hx : fxT x = true) (q : flT x = none) (r : Rd NoA H (tp R x) v) : ∃ a, v = .ref a := by
  cases x with
  | rat t b => obtain ⟨a, _, _, e, _⟩ := rat_ref r; exact ⟨a, e⟩
  | tup xs => obtain ⟨a, _, e, _⟩ := tup_ref r; exact ⟨a, e⟩
  | lst _ => unfold fxT at hx; cases hx
  | dct _ _ => unfold fxT at hx; cases hx
  | _ => cases q
theorem eqBool_of {x y : Vt} {A : Around} {pins : List (Addr × Obj)} {σ : L2.St} {H : Hp} {s : Shared} {v u : V} {v' u' : Value} (hx : fxT x = true) (hy : fxT y = true) (I : L2.Inv X pins σ H s) (r1 : Rd NoA H (tp R x) v) (r2 : Rd NoA H (tp R y) u) (rv : RelV v v') (ru : RelV u u')
    (h : wpAny (model X.prog X.w) A (richCompare .Eq v' u') (fun r s' => r = .bool (eqT x y) ∧ After X pins σ H s') X.xe s) : wpAny (model X.prog X.w) A (eqBool v' u') (fun r s' => r = eqT x y ∧ After X pins σ H s') X.xe s := by
  have go : ((∃ a, v' = .ref a) ∨ ∃ a, u' = .ref a) → (v' = u' → x = y) → wpAny (model X.prog X.w) A (eqBool v' u') (fun r s' => r = eqT x y ∧ After X pins σ H s') X.xe s := fun hv hd => by
    unfold eqBool
    refine wpAny_holding ?_
    refine wpAny_ite_split (fun hab => ?_) (fun _ => ?_)
    · have e := hd (eq_of_beq hab)
      subst e
      exact wpAny_bind (wpAny_rule (wpAny_pure ⟨(eqT_refl x hx).symm, H, I, Ex.refl H⟩))
    · have last : wpAny (model X.prog X.w) A (richCompare .Eq v' u' >>= fun r => truthOfDropped r) (fun r s' => r = eqT x y ∧ After X pins σ H s') X.xe s := wpAny_bind (wpAny_mono h (fun r s' z => by
        obtain ⟨rfl, q⟩ := z
        exact wpAny_truthy_bool ⟨rfl, q⟩) fun _ _ e => e)
      rcases hv with ⟨a, e⟩ | ⟨a, e⟩
      · clear h; cases v' <;> first | (cases e; done) | (cases u' <;> exact last)
      · clear h; cases u' <;> first | (cases e; done) | (cases v' <;> exact last)
  cases qx : flT x with
  | none =>
    obtain ⟨a, rfl⟩ := ref_of hx qx r1
    cases (show v' = Value.ref a from rv)
    exact go (.inl ⟨_, rfl⟩) fun e => by
      subst e
      have eu := relv_ref ru
      subst eu
      exact rd_det r1 r2 hx hy
  | some w1 =>
    cases qy : flT y with
    | none =>
      obtain ⟨a, rfl⟩ := ref_of hy qy r2
      cases (show u' = Value.ref a from ru)
      exact go (.inr ⟨_, rfl⟩) fun e => by
        subst e
        have ev := relv_ref rv
        subst ev
        exact rd_det r1 r2 hx hy
    | some w2 =>
      obtain ⟨rfl, f1⟩ := flT_rd r1 qx
      obtain ⟨rfl, f2⟩ := flT_rd r2 qy
      exact eqAt_V (A := A) (s := s) rv ru f1 f2 _ _ _ _ ⟨flT_eq qx qy, H, I, Ex.refl H⟩
theorem rc_run (k : RatEq X n R f) : ∀ (d : Nat) (x y : Vt), dep x ≤ d → fxT x = true → fxT y = true → ∀ {A : Around}, Sub X (n + d) A → ∀ (pins : List (Addr × Obj)) (σ : L2.St) (H : Hp) (s : Shared) (v u : V) (v' u' : Value), L2.Inv X pins σ H s → Rd NoA H (tp R x) v → Rd NoA H (tp R y) u → RelV v v' → RelV u u' →
    wpAny (model X.prog X.w) A (richCompare .Eq v' u') (fun r s' => r = .bool (eqT x y) ∧ After X pins σ H s') X.xe s := by
  intro d
  induction d with
  | zero =>
    intro x y hd hx hy A sb pins σ H s v u v' u' I r1 r2 rv ru
    refine rc_other k hx hy (fun xs ys e _ => ?_) sb I r1 r2 rv ru
    subst e
    unfold dep at hd
    omega
  | succ d ih =>
    intro x y hd hx hy A sb pins σ H s v u v' u' I r1 r2 rv ru
    by_cases ht : ∃ xs ys, x = .tup xs ∧ y = .tup ys
    · obtain ⟨xs, ys, rfl, rfl⟩ := ht
      obtain ⟨p, vs, rfl, hp, rl⟩ := tup_ref r1
      obtain ⟨q, ws, rfl, hq, rl2⟩ := tup_ref r2
      obtain ⟨its, ri, it, _⟩ := I.tuple (st_of hp)
      obtain ⟨its2, ri2, it2, _⟩ := I.tuple (st_of hq)
      cases (show v' = Value.ref p from rv)
      cases (show u' = Value.ref q from ru)
      have l1 : its.toArray.size = xs.length := by rw [List.size_toArray, ← ri.length, ← rl.len, tps_len]
      have l2 : its2.toArray.size = ys.length := by rw [List.size_toArray, ← ri2.length, ← rl2.len, tps_len]
      unfold dep at hd
      have fxs : fxTs xs = true := by unfold fxT at hx; exact hx
      have fys : fxTs ys = true := by unfold fxT at hy; exact hy
      refine GQ.rc_tupB (e := eqAtI xs ys) sb.room.units0 (After X pins σ H) it it2 (fun i h1 h2 s' hs => ?_) (fun s' hs => ⟨?_, hs⟩) ⟨H, I, Ex.refl H⟩
      · obtain ⟨H1, I1, e1⟩ := hs
        have k1 : i < xs.length := by rw [← l1]; exact h1
        have k2 : i < ys.length := by rw [← l2]; exact h2
        obtain ⟨a1, ha1, ra1⟩ := rl.get' (tps_get (R := R) (List.getElem?_eq_getElem k1))
        obtain ⟨a2, ha2, ra2⟩ := rl2.get' (tps_get (R := R) (List.getElem?_eq_getElem k2))
        obtain ⟨z1, hz1, rz1⟩ := ri.get ha1
        obtain ⟨z2, hz2, rz2⟩ := ri2.get ha2
        have g1 : its.toArray[i] = z1 := by
          have h1' : i < its.length := by simpa using h1
          have := List.getElem?_eq_getElem h1'
          rw [hz1] at this
          simpa using (Option.some.inj this).symm
        have g2 : its2.toArray[i] = z2 := by
          have h2' : i < its2.length := by simpa using h2
          have := List.getElem?_eq_getElem h2'
          rw [hz2] at this
          simpa using (Option.some.inj this).symm
        rw [g1, g2]
        have fi := fx_mem fxs (List.getElem_mem k1)
        have gi := fx_mem fys (List.getElem_mem k2)
        have sb1 : Sub X (n + d) A.in1 := Sub.in1 (n := n + d) sb
        have step := eqBool_of fi gi I1 (ra1.ext e1) (ra2.ext e1) rz1 rz2 (ih xs[i] ys[i] (Nat.le_trans (dep_mem (List.getElem_mem k1)) (by omega)) fi gi sb1 pins σ H1 s' a1 a2 z1 z2 I1 (ra1.ext e1) (ra2.ext e1) rz1 rz2)
        refine wpAny_mono step (fun r s2 z => ?_) fun _ _ e => e
        obtain ⟨rfl, H2, I2, e2⟩ := z
        refine ⟨?_, H2, I2, e1.trans e2⟩
        unfold eqAtI
        rw [List.getElem?_eq_getElem k1, List.getElem?_eq_getElem k2]
      · rw [l1, l2, eqTs_idx]
        unfold eqT
        rfl
    · exact rc_other k hx hy (fun xs ys e1 e2 => ht ⟨xs, ys, e1, e2⟩) (sb.mono (by omega)) I r1 r2 rv ru
/-- == of two trees that stand where `fixed` gave them -/
def rEqT (R : Addr) (d : Nat) : R2 := fun u v H Q => ∃ x y : Vt, Rd NoA H (tp R x) u ∧ Rd NoA H (tp R y) v ∧ fxT x = true ∧ fxT y = true ∧ dep x ≤ d ∧ ∀ H', Ex H H' → Q (.bl (eqT x y)) H'
theorem op_eqT (k : RatEq X n R f) {d : Nat} (hr : Room (n + d) X.A) : OpR X (compareOp .Eq) (rEqT R d) := by
  intro pins s σ H x y v u Q I rx ry h
  obtain ⟨a, b, r1, r2, fa, fb, hd, q⟩ := h
  show wpAny (model X.prog X.w) X.A (richCompare .Eq v u) (EP X pins σ Q) X.xe s
  refine wpAny_mono (rc_run k d a b hd fa fb ⟨hr, rfl⟩ pins σ H s x y v u I r1 r2 rx ry) (fun r s' z => ?_) fun _ _ e => e
  obtain ⟨rfl, H', I', e⟩ := z
  exact ⟨.bl (eqT a b), H', I', rfl, q H' e⟩
def gEqT (R : Addr) (d : Nat) : PV → PV → (PV → Prop) → Prop := fun x y F => ∃ a b : Vt, x = tp R a ∧ y = tp R b ∧ fxT a = true ∧ fxT b = true ∧ dep a ≤ d ∧ F (.bl (eqT a b))
instance ao_eqT {d : Nat} : AO (rEqT R d) (gEqT R d) false := ⟨fun {A H x y u v F Q} l r1 r2 h k => by
  obtain ⟨a, b, rfl, rfl, fa, fb, hd, hF⟩ := h
  exact ⟨a, b, r1.less fun _ z => z.elim, r2.less fun _ z => z.elim, fa, fb, hd, fun H' e => k _ H' (.bl (eqT a b)) rfl (fun z => nomatch z) e hF⟩⟩
end
end Pw
end

section -- PwD
set_option linter.all false
set_option maxRecDepth 100000
set_option maxHeartbeats 4000000
/-! PwD: the text of a tree; its length; what stands for one tree stands for no other, lists and dicts too. -/
namespace Pw
open PySem PySem.Spec L2 Pk Evl Pv
open PyProof.Rows hiding St
def ratText (t b : Int) : Str := if b = 1 then Str.ofString (toString t) else Str.ofString (toString t) ++ "/" ++ Str.ofString (toString b)
def keyT : Key → Str
  | .inl i => Str.ofString (toString i)
  | .inr s => reprText s
def keyVt : Key → Vt
  | .inl i => .int i
  | .inr s => .str s
def entT (ks : List Key) (ts : List Str) : List Str := List.zipWith (fun k t => keyT k ++ ": " ++ t) ks ts
mutual
def rpT : Vt → Str
  | .non => "None"
  | .bl b => if b then "True" else "False"
  | .int i => Str.ofString (toString i)
  | .str s => reprText s
  | .rat t b => ratText t b
  | .lst xs => listText (rpTs xs)
  | .tup xs => tupleText (rpTs xs)
  | .dct ks xs => dictText (entT ks (rpTs xs))
def rpTs : List Vt → List Str
  | [] => []
  | x :: xs => rpT x :: rpTs xs
end
theorem rpTs_map : ∀ xs : List Vt, rpTs xs = xs.map rpT
  | [] => by unfold rpTs; rfl
  | x :: xs => by unfold rpTs; rw [List.map_cons, rpTs_map xs]
theorem rpTs_len (xs : List Vt) : (rpTs xs).length = xs.length := by rw [rpTs_map, List.length_map]
theorem rpTs_get {xs : List Vt} {i : Nat} {x : Vt} (h : xs[i]? = some x) : (rpTs xs)[i]? = some (rpT x) := by rw [rpTs_map, List.getElem?_map, h]; rfl
/-! ### bounds -/
def keyOk : Key → Bool
  | .inl i => decide (i.natAbs.log2 < 1000)
  | .inr s => decide ((reprText s).length ≤ 100)
mutual
def okT : Vt → Bool
  | .int i => decide (i.natAbs.log2 < 1000)
  | .str s => decide ((reprText s).length ≤ 100)
  | .rat t b => decide (t.natAbs.log2 < 1000) && decide (b.natAbs.log2 < 1000)
  | .lst xs => okTs xs
  | .tup xs => okTs xs
  | .dct ks xs => decide (ks.length = xs.length) && (ks.all keyOk && okTs xs)
  | _ => true
def okTs : List Vt → Bool
  | [] => true
  | x :: xs => okT x && okTs xs
end
theorem ok_mem {x : Vt} : ∀ {xs : List Vt}, okTs xs = true → x ∈ xs → okT x = true
  | y :: ys, f, h => by
    unfold okTs at f
    obtain ⟨f1, f2⟩ := Bool.and_eq_true_iff.mp f
    rcases List.mem_cons.mp h with rfl | h
    · exact f1
    · exact ok_mem f2 h
theorem okTs_of : ∀ {xs : List Vt}, (∀ x ∈ xs, okT x = true) → okTs xs = true
  | [], _ => by unfold okTs; rfl
  | y :: ys, h => by unfold okTs; rw [h y List.mem_cons_self, okTs_of fun x m => h x (List.mem_cons_of_mem _ m)]; rfl
mutual
def wt : Vt → Nat
  | .lst xs => wts xs + 1
  | .tup xs => wts xs + 1
  | .dct ks xs => wts xs + 2 * ks.length + 1
  | _ => 1
def wts : List Vt → Nat
  | [] => 0
  | x :: xs => wt x + wts xs
end
theorem wt_mem {x : Vt} : ∀ {xs : List Vt}, x ∈ xs → wt x ≤ wts xs
  | y :: ys, h => by
    unfold wts
    rcases List.mem_cons.mp h with rfl | h
    · omega
    · have := wt_mem h; omega
theorem textFrom_le : ∀ (ts : List Str) (k : Nat) (acc : Str), (textFrom k acc ts).length ≤ acc.length + piled ts
  | [], k, acc => by show acc.length ≤ _; omega
  | t :: ts, k, acc => by
    show (textFrom (k + 1) (acc ++ (if k > 0 then ", " else "" : String) ++ t) ts).length ≤ _
    have h := textFrom_le ts (k + 1) (acc ++ (if k > 0 then ", " else "" : String) ++ t)
    rw [strLen_append, strLen_append] at h
    rw [piled_cons]
    have l : ((if k > 0 then ", " else "" : String) : Str).length ≤ 2 := by
      split
      · have : ((", " : String) : Str).length = 2 := by decide +kernel
        omega
      · have : (("" : String) : Str).length = 0 := by decide +kernel
        omega
    omega
theorem listText_le (ts : List Str) : (listText ts).length ≤ piled ts + 2 := by
  show (textFrom 0 "[" ts ++ "]").length ≤ _
  rw [strLen_append]
  have h := textFrom_le ts 0 "["
  have l1 : (("[" : String) : Str).length = 1 := by decide +kernel
  have l2 : (("]" : String) : Str).length = 1 := by decide +kernel
  have l1' : ("[" : Str).length = 1 := l1
  omega
theorem join_le_piled (ts : List Str) : (Str.join ", " ts).length ≤ piled ts := by
  by_cases h : ts = []
  · subst h
    have : (Str.join ", " ([] : List Str)).length = 0 := by decide +kernel
    omega
  · have := join_length_add ts h
    omega
theorem tupleText_le (ts : List Str) : (tupleText ts).length ≤ piled ts + 3 := by
  unfold tupleText
  rw [strLen_append, strLen_append]
  have h := join_le_piled ts
  have l1 : (("(" : String) : Str).length = 1 := by decide +kernel
  have l : ((if (ts.length == 1) = true then ",)" else ")" : String) : Str).length ≤ 2 := by
    split
    · have : ((",)" : String) : Str).length = 2 := by decide +kernel
      omega
    · have : ((")" : String) : Str).length = 1 := by decide +kernel
      omega
  have l1' : ("(" : Str).length = 1 := l1
  omega
theorem dictText_le (ts : List Str) : (dictText ts).length ≤ piled ts + 2 := by
  unfold dictText
  rw [strLen_append, strLen_append]
  have h := join_le_piled ts
  have l1 : (("{" : String) : Str).length = 1 := by decide +kernel
  have l2 : (("}" : String) : Str).length = 1 := by decide +kernel
  have l1' : ("{" : Str).length = 1 := l1
  omega
theorem keyT_len {k : Key} (h : keyOk k = true) : (keyT k).length ≤ 401 := by
  cases k with
  | inl i => exact numLen (of_decide_eq_true h)
  | inr s => have := of_decide_eq_true h; show (reprText s).length ≤ 401; omega
theorem ratText_len {t b : Int} (h1 : t.natAbs.log2 < 1000) (h2 : b.natAbs.log2 < 1000) : (ratText t b).length ≤ 803 := by
  have l1 := numLen h1
  have l2 := numLen h2
  unfold ratText
  split
  · omega
  · rw [strLen_append, strLen_append]
    have l0 : (("/" : String) : Str).length = 1 := by decide +kernel
    have l0' : ("/" : Str).length = 1 := l0
    omega
mutual
theorem rp_len : ∀ x : Vt, okT x = true → (rpT x).length + 50 ≤ 1000 * wt x
  | .non, _ => by unfold rpT wt; decide +kernel
  | .bl b, _ => by unfold rpT wt; cases b <;> decide +kernel
  | .int i, h => by
    unfold okT at h
    have := numLen (of_decide_eq_true h)
    unfold rpT wt
    omega
  | .str s, h => by
    unfold okT at h
    have := of_decide_eq_true h
    unfold rpT wt
    omega
  | .rat t b, h => by
    unfold okT at h
    obtain ⟨h1, h2⟩ := Bool.and_eq_true_iff.mp h
    have := ratText_len (of_decide_eq_true h1) (of_decide_eq_true h2)
    unfold rpT wt
    omega
  | .lst xs, h => by
    unfold okT at h
    have h1 := rps_len xs h
    have h2 := listText_le (rpTs xs)
    unfold rpT wt
    omega
  | .tup xs, h => by
    unfold okT at h
    have h1 := rps_len xs h
    have h2 := tupleText_le (rpTs xs)
    unfold rpT wt
    omega
  | .dct ks xs, h => by
    unfold okT at h
    obtain ⟨h0, h1⟩ := Bool.and_eq_true_iff.mp h
    obtain ⟨h1, h2⟩ := Bool.and_eq_true_iff.mp h1
    have hl := of_decide_eq_true h0
    have h3 := ents_len ks xs hl h1 h2
    have h4 := dictText_le (entT ks (rpTs xs))
    unfold rpT wt
    omega
theorem rps_len : ∀ xs : List Vt, okTs xs = true → piled (rpTs xs) ≤ 1000 * wts xs
  | [], _ => by unfold rpTs wts; decide
  | x :: xs, h => by
    unfold okTs at h
    obtain ⟨h1, h2⟩ := Bool.and_eq_true_iff.mp h
    have a := rp_len x h1
    have b := rps_len xs h2
    unfold rpTs wts
    rw [piled_cons]
    omega
theorem ents_len : ∀ (ks : List Key) (xs : List Vt), ks.length = xs.length → ks.all keyOk = true → okTs xs = true → piled (entT ks (rpTs xs)) ≤ 1000 * (wts xs + 2 * ks.length)
  | [], [], _, _, _ => by unfold rpTs wts entT; decide
  | [], _ :: _, h, _, _ => nomatch h
  | _ :: _, [], h, _, _ => nomatch h
  | k :: ks, x :: xs, hl, hk, h => by
    unfold okTs at h
    obtain ⟨h1, h2⟩ := Bool.and_eq_true_iff.mp h
    rw [List.all_cons] at hk
    obtain ⟨k1, k2⟩ := Bool.and_eq_true_iff.mp hk
    have a := rp_len x h1
    have b := ents_len ks xs (Nat.succ.inj hl) k2 h2
    have c := keyT_len k1
    unfold rpTs wts
    show piled ((keyT k ++ ": " ++ rpT x) :: entT ks (rpTs xs)) ≤ _
    rw [piled_cons, strLen_append, strLen_append, List.length_cons]
    have l0 : ((": " : String) : Str).length = 2 := by decide +kernel
    have l0' : (": " : Str).length = 2 := l0
    omega
end
/-! ### what stands for a tree -/
def kd (H : Hp) : V → Nat
  | .non => 0
  | .bl _ => 1
  | .int _ => 2
  | .str _ => 3
  | .ref a => match H a with
    | some (.ins _ _ _) => 4
    | some (.lst _) => 5
    | some (.tup _) => 6
    | some (.dK _) => 7
    | some (.frz _ (.dK _)) => 7
    | _ => 8
  | _ => 9
def shp : Vt → Nat
  | .non => 0 | .bl _ => 1 | .int _ => 2 | .str _ => 3 | .rat _ _ => 4 | .lst _ => 5 | .tup _ => 6 | .dct _ _ => 7
theorem kd_of {R : Addr} {A : Addr → Prop} {H : Hp} {x : Vt} {v : V} (r : Rd A H (tp R x) v) : kd H v = shp x := by
  cases x <;> unfold tp at r
  · cases r; rfl
  · cases r; rfl
  · cases r; rfl
  · cases r; rfl
  · obtain ⟨a, dx, ws, rfl, _, h, _⟩ := r
    unfold kd; simp only [h]; rfl
  · obtain ⟨a, vs, rfl, _, h, _⟩ := r
    unfold kd; simp only [h]; rfl
  · obtain ⟨a, vs, rfl, _, h, _⟩ := r
    unfold kd; simp only [h]; rfl
  · obtain ⟨a, vs, rfl, _, h, _⟩ := r
    rcases h with h | ⟨o, h⟩ <;> (unfold kd; simp only [h]; rfl)
theorem dK_same {H : Hp} {a : Addr} {ws ws' : List (Key × V)} (h : L2.Rd H a (.dK ws)) (h' : L2.Rd H a (.dK ws')) : ws = ws' := by
  rcases h with h | ⟨o, h⟩ <;> rcases h' with h' | ⟨o', h'⟩ <;> (rw [h] at h'; cases h') <;> rfl
mutual
theorem rd_detA {R : Addr} {A : Addr → Prop} {H : Hp} : ∀ {x y : Vt} {v : V}, Rd A H (tp R x) v → Rd A H (tp R y) v → x = y
  | .non, y, v, r, r' => by
    have e := (kd_of r).symm.trans (kd_of r')
    cases y <;> first | (cases e; done) | rfl
  | .bl b, y, v, r, r' => by
    have e := (kd_of r).symm.trans (kd_of r')
    cases y <;> first | (cases e; done) | (unfold tp at r r'; cases r; cases r'; rfl)
  | .int b, y, v, r, r' => by
    have e := (kd_of r).symm.trans (kd_of r')
    cases y <;> first | (cases e; done) | (unfold tp at r r'; cases r; cases r'; rfl)
  | .str b, y, v, r, r' => by
    have e := (kd_of r).symm.trans (kd_of r')
    cases y <;> first | (cases e; done) | (unfold tp at r r'; cases r; cases r'; rfl)
  | .rat t b, y, v, r, r' => by
    have e := (kd_of r).symm.trans (kd_of r')
    cases y <;> first | (cases e; done) | exact rd_det r r' (by unfold fxT; rfl) (by unfold fxT; rfl)
  | .lst xs, y, v, r, r' => by
    have e := (kd_of r).symm.trans (kd_of r')
    cases y <;> first | (cases e; done) | skip
    unfold tp at r r'
    obtain ⟨a, vs, rfl, na, ha, rl⟩ := r
    obtain ⟨a', vs', e', _, ha', rl'⟩ := r'
    cases e'
    rw [ha] at ha'
    cases ha'
    rw [rdl_detA rl rl']
  | .tup xs, y, v, r, r' => by
    have e := (kd_of r).symm.trans (kd_of r')
    cases y <;> first | (cases e; done) | skip
    unfold tp at r r'
    obtain ⟨a, vs, rfl, na, ha, rl⟩ := r
    obtain ⟨a', vs', e', _, ha', rl'⟩ := r'
    cases e'
    rw [ha] at ha'
    cases ha'
    rw [rdl_detA rl rl']
  | .dct ks xs, y, v, r, r' => by
    have e := (kd_of r).symm.trans (kd_of r')
    cases y <;> first | (cases e; done) | skip
    unfold tp at r r'
    obtain ⟨a, vs, rfl, na, ha, hk, rl⟩ := r
    obtain ⟨a', vs', e', _, ha', hk', rl'⟩ := r'
    cases e'
    have ew := dK_same ha ha'
    subst ew
    subst hk
    subst hk'
    rw [rdl_detA rl rl']
theorem rdl_detA {R : Addr} {A : Addr → Prop} {H : Hp} : ∀ {xs ys : List Vt} {vs : List V}, RdL A H (tps R xs) vs → RdL A H (tps R ys) vs → xs = ys
  | [], ys, vs, r, r' => by
    unfold tps at r; cases r
    cases ys with
    | nil => rfl
    | cons y ys => unfold tps at r'; obtain ⟨_, _, e, _⟩ := r'; cases e
  | x :: xs, ys, vs, r, r' => by
    unfold tps at r
    obtain ⟨v, ws, rfl, r1, r2⟩ := r
    cases ys with
    | nil => unfold tps at r'; cases r'
    | cons y ys =>
      unfold tps at r'
      obtain ⟨v', ws', e, r1', r2'⟩ := r'
      obtain ⟨e1, e2⟩ := List.cons.inj e
      subst e1 e2
      rw [rd_detA r1 r1', rdl_detA r2 r2']
end
end Pw
end

section -- PwE
set_option linter.all false
set_option maxRecDepth 100000
set_option maxHeartbeats 4000000
/-! PwE: repr of a tree: leaves, instances, tuples. -/
namespace Pw
open PySem PySem.Spec L2 Pk Evl Pv
open PyProof.Rows hiding St
theorem dep_tup (xs : List Vt) : dep (.tup xs) = deps xs + 1 := by unfold dep; rfl
theorem dep_lst (xs : List Vt) : dep (.lst xs) = deps xs + 1 := by unfold dep; rfl
theorem dep_dct (ks : List Key) (xs : List Vt) : dep (.dct ks xs) = deps xs + 1 := by unfold dep; rfl
def preRRp (R : Addr) : FP Unit := fun xs s F _ => ∃ t b : Int, xs = [tp R (.rat t b)] ∧ okT (.rat t b) = true ∧ F (.str (ratText t b)) ()
/-- what is known of the class at R, whose own __repr__ is the def at f -/
structure RatRp (X : Cx) (n : Nat) (R f : Addr) : Prop where
  hs : PySem.W.findIn X.K (.ref R) "__repr__" = some (some (.ref f))
  hf : PySem.W.isFn X.K (.ref f) = true
  run : ∀ A : Around, Room n A → A.frames = X.A.frames → RunAt X A f (fun vs H Q => spF W0 1 (preRRp R) vs H Q E0)
/-- every text that is under way is that of a deeper tree -/
def GOk (R : Addr) (H : Hp) (d : Nat) (g : List Code) : Prop := ∀ (id : String) (v : Value) (rest : List Value) (kw : List (Str × Value)), Code.builtin id ⟨v :: rest, kw⟩ ∈ g → ∀ b, v = .ref b → ∃ y : Vt, Rd NoA H (tp R y) (.ref b) ∧ d < dep y
theorem GOk.nil {R : Addr} {H : Hp} {d : Nat} : GOk R H d [] := fun _ _ _ _ h => nomatch h
theorem GOk.ext {R : Addr} {H H' : Hp} {d : Nat} {g : List Code} (h : GOk R H d g) (e : Ex H H') : GOk R H' d g := fun id v rest kw m b eb => by
  obtain ⟨y, r, l⟩ := h id v rest kw m b eb
  exact ⟨y, r.ext e, l⟩
theorem GOk.less {R : Addr} {H : Hp} {d d' : Nat} {g : List Code} (h : GOk R H d g) (l : d' ≤ d) : GOk R H d' g := fun id v rest kw m b eb => by
  obtain ⟨y, r, l2⟩ := h id v rest kw m b eb
  exact ⟨y, r, by omega⟩
theorem GOk.cons {R : Addr} {H : Hp} {d : Nat} {g : List Code} {id : String} {a : Addr} {rest : List Value} {kw : List (Str × Value)} {x : Vt} (h : GOk R H d g) (r : Rd NoA H (tp R x) (.ref a)) (l : d < dep x) : GOk R H d (.builtin id ⟨.ref a :: rest, kw⟩ :: g) := fun id' v rest' kw' m b eb => by
  rcases List.mem_cons.mp m with e | m
  · cases e
    cases eb
    exact ⟨x, r, l⟩
  · exact h id' v rest' kw' m b eb
theorem GOk.clear {R : Addr} {H : Hp} {g : List Code} {x : Vt} {a : Addr} (h : GOk R H (dep x) g) (r : Rd NoA H (tp R x) (.ref a)) : Clear g a := fun id v rest kw m e => by
  obtain ⟨y, r', l⟩ := h id v rest kw m a e
  rw [rd_detA r r'] at l
  exact absurd l (Nat.lt_irrefl _)
/-- a tree's text, asked for at A -/
def RpAt (X : Cx) (R : Addr) (x : Vt) (A : Around) : Prop := ∀ (base : Nat) (g : List Code) (pins : List (Addr × Obj)) (σ : L2.St) (H : Hp) (s : Shared) (v : V) (u : Value) (Q : Str → Shared → Prop), base + (rpT x).length ≤ sizeLine → A.guards = some g → GOk R H (dep x) g → L2.Inv X pins σ H s → Rd NoA H (tp R x) v → RelV v u →
  (∀ s', After X pins σ H s' → Q (rpT x) s') → wpAny (model X.prog X.w) A (pyReprUnder base u) Q X.xe s
section
variable {X : Cx} {n : Nat} {R f : Addr}
theorem After.refl {pins : List (Addr × Obj)} {σ : L2.St} {H : Hp} {s : Shared} (I : L2.Inv X pins σ H s) : After X pins σ H s := ⟨H, I, Ex.refl H⟩
theorem After.trans {pins : List (Addr × Obj)} {σ : L2.St} {H H1 : Hp} {s : Shared} (a : After X pins σ H1 s) (e : Ex H H1) : After X pins σ H s := by
  obtain ⟨H2, I, e2⟩ := a
  exact ⟨H2, I, e.trans e2⟩
theorem After.tok {pins : List (Addr × Obj)} {σ : L2.St} {H : Hp} {s : Shared} (a : After X pins σ H s) (t : Nat) : After X pins σ H { s with toks := t } := by
  obtain ⟨H2, I, e2⟩ := a
  exact ⟨H2, I.tok t, e2⟩
theorem rp_is {x : Vt} {A : Around} (h : ∀ {H : Hp} {v : V} {u : Value}, Rd NoA H (tp R x) v → RelV v u → ReprIs X.prog X.w u (rpT x)) : RpAt X R x A := fun base g pins σ H s v u Q hb hg hG I r rv k =>
  h r rv base hb A _ s _ fun tk => k _ ((After.refl I).tok tk)
theorem rp_leaf {x : Vt} {w : V} (hx : flT x = some w) (ok : okT x = true) {A : Around} : RpAt X R x A := by
  cases x <;> first | (cases hx; done) | skip
  · refine rp_is fun {H v u} r rv => ?_
    unfold tp at r; cases r; cases rv
    unfold rpT; exact ReprIs.none
  · refine rp_is fun {H v u} r rv => ?_
    unfold tp at r; cases r; cases rv
    unfold rpT; exact ReprIs.bool _
  · refine rp_is fun {H v u} r rv => ?_
    unfold tp at r; cases r; obtain ⟨t, rfl⟩ := rv
    unfold okT at ok
    have := of_decide_eq_true ok
    unfold rpT; exact ReprIs.int t (by omega)
  · refine rp_is fun {H v u} r rv => ?_
    unfold tp at r; cases r; obtain ⟨t, rfl⟩ := rv
    unfold okT at ok
    have := of_decide_eq_true ok
    unfold rpT; exact ReprIs.str _ t (sz (by omega))
theorem rp_rat (k : RatRp X n R f) {t b : Int} (ok : okT (.rat t b) = true) {A : Around} (sb : Sub X n A) : RpAt X R (.rat t b) A := by
  intro base g pins σ H s v u Q hb hg hG I r rv kq
  obtain ⟨a, dx, fs, rfl, ha⟩ := rat_ref r
  obtain ⟨mA, O, _⟩ := ins_get I.hok ha
  obtain ⟨od, J, _⟩ := O.look
  cases (show u = Value.ref a from rv)
  refine PySem.W.pk_reprUnder (by omega) sb.room.units0 I.kIn J k.hs k.hf (thn (k.run A sb.room sb.fr pins s σ H [.ref a] [.ref a] (fun z G => z = .str (ratText t b) ∧ Ex H G) I (.cons rfl .nil) ⟨rfl, NoA, [tp R (.rat t b)], (), (fun x' _ => x' = .str (ratText t b)), (fun _ _ _ _ => False), ct0 (fun _ h => h.elim), RdL.cons r RdL.nil, xl0, ⟨t, b, rfl, ok, rfl⟩, fun z G x' s' rz fr _ hz => ?_⟩) fun z s1 hz => ?_)
  · have hz' : x' = .str (ratText t b) := hz
    subst hz'
    exact ⟨rz, fr0 fr⟩
  · obtain ⟨v', G, I1, rz, e, ex⟩ := hz
    subst e
    obtain ⟨tk, rfl⟩ := rz
    refine ⟨ratText t b, tk, rfl, ?_⟩
    have q := kq s1 ⟨G, I1, ex⟩
    unfold rpT at q
    exact q
/-! ### tuples -/
theorem sub_tup {m : Nat} {A : Around} {args : Args} (sb : Sub X (m + 1) A) : Sub X m (A.under (.builtin "tuple.__repr__" args)) := ⟨tr_room sb.room, tr_frames.trans sb.fr⟩
theorem tu_depth {B : Around} {args : Args} : (B.under (.builtin "tuple.__repr__.under" args)).depth = B.depth + 1 := by
  first | rfl | simp [Around.under, Code.weight, Code.isCreation, Code.isGuard, Code.isCaller, Code.frames, Code.isFrame, guardIds]
theorem tu_frames {B : Around} {args : Args} : (B.under (.builtin "tuple.__repr__.under" args)).frames = B.frames := by
  first | rfl | simp [Around.under, Code.envs, pushEnvs]
theorem sub_tupU {m : Nat} {A : Around} {args : Args} (sb : Sub X (m + 1) A) : Sub X m (A.under (.builtin "tuple.__repr__.under" args)) :=
  ⟨⟨sb.room.hd, by have := sb.room.dp; rw [tu_depth]; omega, by have := sb.room.un; rw [units_under_tuple_repr_under]; omega⟩, tu_frames.trans sb.fr⟩
theorem tup_foldT {pins : List (Addr × Obj)} {σ : L2.St} {A : Around} {g : List Code} (hg : A.guards = some g) : ∀ (us : List Value) (vs : List V) (xs : List Vt) (acc : Array Str) (n : Nat) (H : Hp) (s : Shared) (Q : (Array Str × Nat) → Shared → Prop), (∀ x ∈ xs, RpAt X R x A) → (∀ x ∈ xs, GOk R H (dep x) g) → L2.Inv X pins σ H s → RdL NoA H (tps R xs) vs → Vals vs us → n + piled (rpTs xs) ≤ sizeLine →
    (∀ s', After X pins σ H s' → Q ⟨acc ++ (rpTs xs).toArray, n + piled (rpTs xs)⟩ s') → wpAny (model X.prog X.w) A (forIn us (⟨acc, n⟩ : (Array Str × Nat)) tupBody) Q X.xe s := by
  intro us
  induction us with
  | nil =>
    intro vs xs acc n H s Q hi hG I rl rv hn h
    cases rv
    cases xs with
    | cons x xs => unfold tps at rl; obtain ⟨_, _, e, _⟩ := rl; cases e
    | nil =>
      have h0 := h s (After.refl I)
      unfold rpTs at h0
      simp only [List.forIn_nil]
      exact wpAny_pure (by simpa [piled] using h0)
  | cons u us ih =>
    intro vs xs acc n H s Q hi hG I rl rv hn h
    cases rv with
    | cons r1 r2 =>
      cases xs with
      | nil => unfold tps at rl; cases rl
      | cons x xs =>
        unfold tps at rl
        obtain ⟨v', ws, e, q1, q2⟩ := rl
        obtain ⟨rfl, rfl⟩ := List.cons.inj e
        unfold rpTs at hn
        rw [piled_cons] at hn
        rw [List.forIn_cons]
        refine wpAny_bind (wpAny_bind (hi x List.mem_cons_self (n + 1) g pins σ H s _ u _ (by omega) hg (hG x List.mem_cons_self) I q1 r1 fun s1 a1 => wpAny_pure ?_))
        obtain ⟨H1, I1, e1⟩ := a1
        refine ih _ xs (acc.push (rpT x)) (n + ((rpT x).length + 2)) H1 _ Q (fun y m => hi y (List.mem_cons_of_mem _ m)) (fun y m => (hG y (List.mem_cons_of_mem _ m)).ext e1) I1 (q2.ext e1) r2 (by omega) fun s2 a2 => ?_
        have h1 := h s2 (a2.trans e1)
        unfold rpTs at h1
        have e : n + piled (rpT x :: rpTs xs) = n + ((rpT x).length + 2) + piled (rpTs xs) := by rw [piled_cons]; omega
        rw [e] at h1
        simpa using h1
theorem tup_own {xs : List Vt} {A : Around} {g : List Code} {p : Addr} {pins : List (Addr × Obj)} {σ : L2.St} {H : Hp} {s : Shared} {Rr : Result → Shared → Prop} {base : Nat} {id : String} {rest : List Value}
    (hcg : (Code.builtin id ⟨.ref p :: rest, []⟩).isGuard = true) (hi : ∀ x ∈ xs, RpAt X R x (A.under (.builtin id ⟨.ref p :: rest, []⟩))) (hg : A.guards = some g) (hG : GOk R H (dep (.tup xs)) g) (I : L2.Inv X pins σ H s) (r : Rd NoA H (tp R (.tup xs)) (.ref p))
    (hR : ∀ s' t, After X pins σ H s' → Rr (.ok (.ret (.str (rpT (.tup xs)) t))) s') (hE : ∀ e s', X.xe e s' → Rr (.error e) s') (hsz : base + (rpT (.tup xs)).length ≤ sizeLine) :
    wpOwn (model X.prog X.w) A (.builtin id ⟨.ref p :: rest, []⟩) (Builtin.tupleReprAt base ⟨[.ref p], []⟩) (fun fin s' => match fin with | .done f => Rr (.ok f) s' | .again c' => c'.quiet = true ∧ codeAny (model X.prog X.w) A c' Rr s') (fun e s' => Rr (.error e) s') s := by
  obtain ⟨p', vs, e0, hp, rl⟩ := tup_ref r
  cases e0
  obtain ⟨its, ri, ⟨o, ho, hc, n, hd⟩, _⟩ := I.tuple (st_of hp)
  have hca : Clear g p := hG.clear r
  have hlen : (rpTs xs).length = its.toArray.size := by rw [rpTs_len, List.size_toArray, ← ri.length, ← rl.len, tps_len]
  unfold rpT at hsz
  have hpl := piled_le_tupleText (rpTs xs)
  have hsz0 : (tupleText (rpTs xs)).length ≤ sizeLine := by omega
  rw [tuple_repr_tree, tupleReprUnderWay_eq]
  refine wpOwn_bind (wpOwn_stackTailAny hg (tupGuardF_off _) (tupGuardF_pos _) ?_)
  have hn : (g.any fun c => tupGuardF (.ref p) (c, default)) = false := by
    rw [List.any_eq_false]
    intro c hcm
    rw [tupGuardF_of_clear hca c hcm]
    exact Bool.false_ne_true
  rw [hn]
  refine wpOwn_of_wpAny ?_
  show wpAny _ _ (tupleReprRest base (.ref p)) _ _ s
  unfold tupleReprRest Builtin.Tuple.tupleItemsOf
  refine wpAny_bind (wpAny_bind (wpAny_seqItems ho hd (wpAny_pure ?_)))
  rw [← Array.forIn_toList]
  refine wpAny_bind (wpAny_mono (tup_foldT (guards_under_guard hcg hg) its vs xs #[] base H s (fun z s' => z = ⟨(rpTs xs).toArray, base + piled (rpTs xs)⟩ ∧ After X pins σ H s') hi (fun x m => (hG.less (by rw [dep_tup]; have := dep_mem m; omega)).cons r (by rw [dep_tup]; have := dep_mem m; omega)) I rl ri (by omega) fun s' a => ⟨by simp, a⟩) (fun z s' hz => ?_) hE)
  obtain ⟨rfl, a⟩ := hz
  refine wpAny_bind (wpAny_mkStr (wpAny_pure ?_) (by simpa [tupleText, hlen] using hsz0))
  have h1 := hR { s' with toks := s'.toks + 1 } s'.toks (a.tok _)
  unfold rpT at h1
  simpa [tupleText, hlen] using h1
theorem rp_tup {m : Nat} {xs : List Vt} (hi : ∀ x ∈ xs, ∀ A : Around, Sub X m A → RpAt X R x A) {A : Around} (sb : Sub X (m + 1) A) : RpAt X R (.tup xs) A := by
  intro base g pins σ H s v u Q hb hg hG I r rv k
  obtain ⟨p, vs, rfl, hp, rl⟩ := tup_ref r
  obtain ⟨its, ri, ⟨o, ho, hc, n, hd⟩, _⟩ := I.tuple (st_of hp)
  cases (show u = Value.ref p from rv)
  refine wpAny_pyReprUnder_ref (by omega) (wpAny_pyReprObjUnder_twin (twin := "tuple.__repr__.under") ⟨o, ho, hc⟩ F.slot_tuple_repr rfl sb.room.units0 (call_twin_own (F.quiet_tuple_repr_under _) F.entry_tuple_repr_under F.check_tuple_repr_under ⟨o, ho, hc⟩ F.slot_tuple_repr (F.args_tuple_repr_1 _) ?_))
  exact tup_own (isGuard_tuple_repr_under _) (fun x m => hi x m _ (sub_tupU sb)) hg hG I r (fun s' t a => ⟨⟨_, _, rfl⟩, _, _, rfl, k s' a⟩) (fun _ _ z => z) hb
end
end Pw
end

section -- PwF
set_option linter.all false
set_option maxRecDepth 100000
set_option maxHeartbeats 4000000
/-! PwF: repr of a tree: lists, dicts; repr(x). -/
namespace Pw
open PySem PySem.Spec L2 Pk Evl Pv
open PyProof.Rows hiding St
section
variable {X : Cx} {n : Nat} {R f : Addr}
theorem lst_ref {A : Addr → Prop} {H : Hp} {xs : List Vt} {v : V} (r : Rd A H (tp R (.lst xs)) v) : ∃ a vs, v = .ref a ∧ H a = some (.lst vs) ∧ RdL A H (tps R xs) vs := by
  unfold tp at r
  obtain ⟨a, vs, e, _, h, r⟩ := r
  exact ⟨a, vs, e, h, r⟩
theorem ll_depth {B : Around} {args : Args} : (B.under (.builtin "list.__repr__.loop" args)).depth = B.depth + 1 := by
  first | rfl | simp [Around.under, Code.weight, Code.isCreation, Code.isGuard, Code.isCaller, Code.frames, Code.isFrame, guardIds]
theorem ll_frames {B : Around} {args : Args} : (B.under (.builtin "list.__repr__.loop" args)).frames = B.frames := by
  first | rfl | simp [Around.under, Code.envs, pushEnvs]
theorem sub_ll {m : Nat} {A : Around} {args : Args} (sb : Sub X (m + 1) A) : Sub X m (A.under (.builtin "list.__repr__.loop" args)) :=
  ⟨⟨sb.room.hd, by have := sb.room.dp; rw [ll_depth]; omega, by have := sb.room.un; rw [units_under_list_loop]; omega⟩, ll_frames.trans sb.fr⟩
/-- the list that repr gathers its parts in, at P -/
structure Gat (X : Cx) (pins : List (Addr × Obj)) (P : Addr) (H : Hp) (s : Shared) (acc : Array Value) (c : Nat) : Prop where
  fp : FpOk X pins H P
  at_ : s.heap.get? P = some { cls := .type "list", dict := none, data := .seq acc c, slots := #[] }
theorem fpOk_keep {pins : List (Addr × Obj)} {H H' : Hp} {P : Addr} (f : FpOk X pins H P) (h : H' P = none) : FpOk X pins H' P := ⟨h, f.2⟩
theorem lst_loop {xs : List Vt} {A : Around} {g : List Code} {a P : Addr} {pins : List (Addr × Obj)} {σ : L2.St} {H0 : Hp} {Rr : Result → Shared → Prop} {base : Nat}
    (hi : ∀ x ∈ xs, ∀ args : Args, RpAt X R x (A.under (.builtin "list.__repr__.loop" args))) (hg : A.guards = some g) (hG : GOk R H0 (dep (.lst xs)) g) (r : Rd NoA H0 (tp R (.lst xs)) (.ref a))
    (hR : ∀ s' t, After X pins σ H0 s' → Rr (.ok (.ret (.str (rpT (.lst xs)) t))) s') (hE : ∀ e s', X.xe e s' → Rr (.error e) s') (hsz : base + (rpT (.lst xs)).length ≤ sizeLine) :
    ∀ (k i : Nat) (s : Shared) (H : Hp) (acc : Array Value) (c : Nat) (done : List (Str × Tok)), xs.length - i = k → i ≤ xs.length → L2.Inv X pins σ H s → Ex H0 H → Gat X pins P H s acc c → acc.toList = strValues done → done.map (·.1) = (rpTs xs).take i →
      codeAny (model X.prog X.w) A (.builtin "list.__repr__.loop" ⟨[.ref a, rawInt i, .ref P, rawInt ((base + piled ((rpTs xs).take i) : Nat) : Int)], []⟩) Rr s := by
  have hlen : (rpTs xs).length = xs.length := rpTs_len xs
  obtain ⟨a', vs, e0, ha, rl⟩ := lst_ref r
  cases e0
  have lv : vs.length = xs.length := by rw [← rl.len, tps_len]
  unfold rpT at hsz
  have hX : (listText (rpTs xs)).length = (textFrom 0 "[" (rpTs xs)).length + 1 := by
    show (textFrom 0 "[" (rpTs xs) ++ "]").length = _
    rw [strLen_append]; rfl
  have hL := textFrom_len (rpTs xs) 0 "["
  have hsz1 : xs.length ≤ sizeLine := by
    have h1 := hL.1
    rw [if_neg (Nat.lt_irrefl 0)] at h1
    omega
  have hsz2 : ∀ t ∈ rpTs xs, t.length ≤ sizeLine := fun t ht => by
    have h2 := hL.2.1 t ht
    omega
  have hsz3 : (listText (rpTs xs)).length ≤ sizeLine := by omega
  have hp3 := piled_le_listText (rpTs xs)
  intro k
  induction k with
  | zero =>
    intro i s H acc c done hk hi' I ex G hacc hdone
    have hin : i = xs.length := by omega
    obtain ⟨its, ni, ri, hoa, _⟩ := I.lst (ex _ _ ha)
    have hsi : its.length = xs.length := by rw [← ri.length, lv]
    refine codeAny_builtin F.entry_list_repr_loop ?_
    show wpAny _ _ (Builtin.«list.__repr__.loop» ⟨[.ref a, .int i 0, .ref P, .int ((base + piled ((rpTs xs).take i) : Nat) : Int) 0], []⟩) _ _ s
    rw [repr_loop_tree]
    refine wpAny_bind (wpAny_listItems hoa rfl ?_)
    have hnone : its.toArray[(i : Int).toNat]? = none := by simp; omega
    simp only [hnone]
    unfold reprEnd
    refine wpAny_bind (wpAny_listItems G.at_ rfl ?_)
    rw [hacc, repr_fold]
    refine wpAny_bind (wpAny_pure ?_)
    have hall : done.map (·.1) = rpTs xs := by rw [hdone, hin, ← hlen, List.take_length]
    rw [hall]
    refine wpAny_bind (wpAny_mkStr (wpAny_pure ?_) hsz3)
    have q := hR { s with toks := s.toks + 1 } s.toks (((After.refl I).trans ex).tok _)
    unfold rpT at q
    exact q
  | succ k ih =>
    intro i s H acc c done hk hi' I ex G hacc hdone
    have hlt : i < xs.length := by omega
    obtain ⟨its, ni, ri, hoa, _⟩ := I.lst (ex _ _ ha)
    have hsi : its.length = xs.length := by rw [← ri.length, lv]
    have hx : xs[i]? = some xs[i] := List.getElem?_eq_getElem hlt
    obtain ⟨v, hv, rv⟩ := rl.get' (tps_get (R := R) hx)
    obtain ⟨u, hu, ru⟩ := ri.get hv
    have ht := rpTs_get hx
    have hp1 := piled_take_succ ht
    have hp2 := piled_take_le (rpTs xs) (i + 1)
    refine codeAny_builtin F.entry_list_repr_loop ?_
    show wpAny _ _ (Builtin.«list.__repr__.loop» ⟨[.ref a, .int i 0, .ref P, .int ((base + piled ((rpTs xs).take i) : Nat) : Int) 0], []⟩) _ _ s
    rw [repr_loop_tree]
    refine wpAny_bind (wpAny_listItems hoa rfl ?_)
    have hsome : its.toArray[(i : Int).toNat]? = some u := by simpa using hu
    simp only [hsome]
    rw [Int.toNat_natCast]
    have pin : ∀ b ∈ [P], ∃ o, s.heap.get? b = some o ∧ ∀ v, o.data ≠ .cell v := fun b hb => by
      rw [List.mem_singleton.mp hb]
      exact ⟨_, G.at_, fun _ z => nomatch z⟩
    have Ip : L2.Inv X (pins ++ pinsAt [P] s.heap) σ H s := I.pinned (fun b hb => by rw [List.mem_singleton.mp hb]; exact G.fp) pin
    refine wpAny_bind (wpAny_holding (wpAny_mono (hi xs[i] (List.getElem_mem hlt) _ (base + piled ((rpTs xs).take i) + 1) _ _ σ H s v u (fun t s' => t = rpT xs[i] ∧ After X (pins ++ pinsAt [P] s.heap) σ H s') (by omega) (guards_under_guard (isGuard_list_loop _) hg)
      (((hG.ext ex).less (by rw [dep_lst]; have := dep_mem (List.getElem_mem hlt); omega)).cons (r.ext ex) (by rw [dep_lst]; have := dep_mem (List.getElem_mem hlt); omega)) Ip (rv.ext ex) ru fun s' a => ⟨rfl, a⟩) (fun t s' hz => ?_) hE))
    obtain ⟨rfl, H1, I1, e1⟩ := hz
    have hPin : (P, ({ cls := .type "list", dict := none, data := .seq acc c, slots := #[] } : Obj)) ∈ pinsAt [P] s.heap := by
      unfold pinsAt
      rw [List.mem_filterMap]
      exact ⟨P, List.mem_singleton.mpr rfl, by rw [G.at_]; rfl⟩
    obtain ⟨hP1, hP2, _⟩ := I1.pin _ (List.mem_append_right _ (List.mem_append_right _ hPin))
    have hP1 : s'.heap.get? P = some { cls := .type "list", dict := none, data := .seq acc c, slots := #[] } := hP1
    have I2 : L2.Inv X pins σ H1 s' := I1.unpinned
    have fp2 : FpOk X pins H1 P := fpOk_keep G.fp hP2
    refine wpAny_bind (wpAny_mkStr ?_ (hsz2 _ (List.mem_of_getElem? ht)))
    refine wpAny_bind ?_
    show wpAny _ _ (updateSeq P _) _ _ _
    have hasz : acc.size ≤ sizeLine := by
      have e1 : acc.toList.length = acc.size := by simp
      have e2 : (strValues done).length = done.length := by simp [strValues]
      have e3 : done.length = ((rpTs xs).take i).length := by rw [← hdone, List.length_map]
      have e4 : ((rpTs xs).take i).length ≤ i := by rw [List.length_take]; omega
      rw [hacc] at e1; omega
    refine wpAny_updateSeq hP1 rfl (wpAny_pure ⟨F.quiet_list_repr_loop _, ?_⟩) hasz
    have e1' : ((i : Int) + 1) = ((i + 1 : Nat) : Int) := by omega
    have e2' : base + piled ((rpTs xs).take i) + ((rpT xs[i]).length + 2) = base + piled ((rpTs xs).take (i + 1)) := by omega
    rw [e1', e2']
    refine ih (i + 1) _ H1 (acc.push (.str (rpT xs[i]) s'.toks)) _ (done ++ [(rpT xs[i], s'.toks)]) (by omega) hlt ((I2.tok (s'.toks + 1)).turnedL (t' := s'.toks + 1) (ch := [P]) (fun b o hb e => (Heap.get?_update_other _ _ (fun h : P = b => hb (List.mem_singleton.mpr h.symm))).trans e) (fun b hb => by rw [List.mem_singleton.mp hb]; exact fp2)) (ex.trans e1)
      ⟨fp2, Heap.get?_update_self _ hP1 rfl⟩ (by simp [hacc, strValues]) (by simp [List.take_add_one, ht, hdone])
theorem rp_lst {m : Nat} {xs : List Vt} (hi : ∀ x ∈ xs, ∀ A : Around, Sub X m A → RpAt X R x A) {A : Around} (sb : Sub X (m + 1) A) {base : Nat} {g : List Code} {pins : List (Addr × Obj)} {σ : L2.St} {H : Hp} {s : Shared} {a : Addr} {Rr : Result → Shared → Prop}
    (hb : base + (rpT (.lst xs)).length ≤ sizeLine) (hg : A.guards = some g) (hG : GOk R H (dep (.lst xs)) g) (I : L2.Inv X pins σ H s) (r : Rd NoA H (tp R (.lst xs)) (.ref a)) (hne : xs ≠ [])
    (hR : ∀ s' t, After X pins σ H s' → Rr (.ok (.ret (.str (rpT (.lst xs)) t))) s') (hE : ∀ e s', X.xe e s' → Rr (.error e) s') :
    wpAny (model X.prog X.w) A.in1 (Builtin.listReprAt base ⟨[.ref a], []⟩) (fun fin s' => match fin with | .done f => Rr (.ok f) s' | .again c' => c'.quiet = true ∧ codeAny (model X.prog X.w) A c' Rr s') (fun e s' => Rr (.error e) s') s := by
  obtain ⟨a', vs, e0, ha, rl⟩ := lst_ref r
  cases e0
  have lv : vs.length = xs.length := by rw [← rl.len, tps_len]
  obtain ⟨its, ni, ri, hoa, _⟩ := I.lst ha
  have hca : Clear g a := hG.clear r
  cases its with
  | nil =>
    have : vs.length = 0 := ri.length
    exact absurd (List.length_eq_zero_iff.mp (by omega)) hne
  | cons z zs =>
    refine wpAny_list_repr_head (A := A.in1) hg (fun v rest kw hm => listSameRef_of_ne (hca _ _ _ _ hm)) hoa rfl ?_
    refine wpAny_bind (m := newList []) (wpAny_newObj_type ?_)
    refine wpAny_pure ⟨F.quiet_list_repr_loop _, ?_⟩
    have kp : ∀ b o, s.heap.get? b = some o → (s.heap.push ({ cls := .type "list", dict := none, data := .seq #[] 0 } : Obj)).get? b = some o := fun b o e => Heap.get?_push_of_some _ e
    have I1 := I.kept (t' := s.toks) kp
    have nP : H s.heap.objs.size = none := I.hok.fresh (Nat.le_refl _)
    exact lst_loop (P := s.heap.objs.size) (fun x m args => hi x m _ (sub_ll sb)) hg hG r hR hE hb _ 0 _ H #[] _ [] rfl (Nat.zero_le _) I1 (Ex.refl H) ⟨I.fpOk (Nat.le_refl _) nP, Heap.get?_push_size _ rfl⟩ rfl (by simp)
theorem rp_lstU {m : Nat} {xs : List Vt} (hi : ∀ x ∈ xs, ∀ A : Around, Sub X m A → RpAt X R x A) {A : Around} (sb : Sub X (m + 1) A) : RpAt X R (.lst xs) A := by
  intro base g pins σ H s v u Q hb hg hG I r rv k
  obtain ⟨a, vs, rfl, ha, rl⟩ := lst_ref r
  cases (show u = Value.ref a from rv)
  obtain ⟨its, ni, ri, hoa, _⟩ := I.lst ha
  have lv : vs.length = xs.length := by rw [← rl.len, tps_len]
  cases xs with
  | nil =>
    have : its.length = 0 := by rw [← ri.length, lv]; rfl
    have e := List.length_eq_zero_iff.mp this
    subst e
    have q := k { s with toks := s.toks + 1 } ((After.refl I).tok _)
    refine wpAny_pyReprUnder_ref (by omega) (wpAny_pyReprObjUnder_list_empty ⟨_, hoa, rfl⟩ sb.room.units0 hoa rfl ⟨_, _, rfl, ?_⟩)
    exact q
  | cons x xs =>
    refine wpAny_pyReprUnder_ref (by omega) (wpAny_pyReprObjUnder_twin (twin := "list.__repr__.under") ⟨_, hoa, rfl⟩ F.slot_list_repr.toG rfl sb.room.units0 (call_twin_plain F.plain_list_repr_under F.entry_list_repr_under F.check_list_repr_under ⟨_, hoa, rfl⟩ F.slot_list_repr.toG (F.args_list_repr_1 _) ?_))
    exact rp_lst hi sb hb hg hG I r (fun z => nomatch z) (fun s' t a => ⟨⟨_, _, rfl⟩, _, _, rfl, k s' a⟩) (fun _ _ z => z)
end
end Pw
end

section -- PwG
set_option linter.all false
set_option maxRecDepth 100000
set_option maxHeartbeats 4000000
/-! PwG: repr of a tree: dicts; repr(x). -/
namespace Pw
open PySem PySem.Spec L2 Pk Evl Pv
open PyProof.Rows hiding St
theorem ent_at {P : Program} {w : World} : ∀ {es : List DictEntry} {vs : List (Key × Value)} {ws : List (Key × V)} {i : Nat} {e : DictEntry}, Pairs (mixKind P w) es vs → KV ws vs → es[i]? = some e → ∃ k v, ws[i]? = some (k, v) ∧ keyIs k e.key = true ∧ RelV v e.val
  | _, _, _, i, e, .nil, kv, h => by simp at h
  | _, _, _, 0, e, .cons a b c, .cons d f, h => by
    simp at h
    subst h
    obtain ⟨d1, d2⟩ := d
    rename_i kv1 _ _ p _
    obtain ⟨k, v⟩ := p
    refine ⟨k, v, rfl, ?_, by rw [b]; exact d2⟩
    have d1' : k = kv1.1 := d1
    rw [d1']
    exact a
  | _, _, _, i + 1, e, .cons a b c, .cons d f, h => by
    have h' := ent_at c f (by simpa using h)
    simpa using h'
section
variable {X : Cx} {n : Nat} {R f : Addr}
theorem dct_ref {A : Addr → Prop} {H : Hp} {ks : List Key} {xs : List Vt} {v : V} (r : Rd A H (tp R (.dct ks xs)) v) : ∃ a ws, v = .ref a ∧ L2.Rd H a (.dK ws) ∧ ws.map (·.1) = ks ∧ RdL A H (tps R xs) (ws.map (·.2)) := by
  unfold tp at r
  obtain ⟨a, ws, e, _, h, k, r⟩ := r
  exact ⟨a, ws, e, h, k, r⟩
theorem dr_depth {B : Around} {args : Args} : (B.under (.builtin "dict.__repr__" args)).depth = B.depth + 1 := by
  first | rfl | simp [Around.under, Code.weight, Code.isCreation, Code.isGuard, Code.isCaller, Code.frames, Code.isFrame, guardIds]
theorem dr_frames {B : Around} {args : Args} : (B.under (.builtin "dict.__repr__" args)).frames = B.frames := by
  first | rfl | simp [Around.under, Code.envs, pushEnvs]
theorem du_depth {B : Around} {args : Args} : (B.under (.builtin "dict.__repr__.under" args)).depth = B.depth + 1 := by
  first | rfl | simp [Around.under, Code.weight, Code.isCreation, Code.isGuard, Code.isCaller, Code.frames, Code.isFrame, guardIds]
theorem du_frames {B : Around} {args : Args} : (B.under (.builtin "dict.__repr__.under" args)).frames = B.frames := by
  first | rfl | simp [Around.under, Code.envs, pushEnvs]
theorem sub_dr {m : Nat} {A : Around} {args : Args} (sb : Sub X (m + 1) A) : Sub X m (A.under (.builtin "dict.__repr__" args)) :=
  ⟨⟨sb.room.hd, by have := sb.room.dp; rw [dr_depth]; omega, by have := sb.room.un; rw [units_under_dict_repr]; omega⟩, dr_frames.trans sb.fr⟩
theorem sub_du {m : Nat} {A : Around} {args : Args} (sb : Sub X (m + 1) A) : Sub X m (A.under (.builtin "dict.__repr__.under" args)) :=
  ⟨⟨sb.room.hd, by have := sb.room.dp; rw [du_depth]; omega, by have := sb.room.un; rw [units_under_dict_repr_under]; omega⟩, du_frames.trans sb.fr⟩
theorem key_rp {k : Key} (h : keyOk k = true) {A : Around} : RpAt X R (keyVt k) A := by
  cases k with
  | inl i => exact rp_leaf (w := .int i) rfl (by unfold keyVt okT; exact h)
  | inr s => exact rp_leaf (w := .str s) rfl (by unfold keyVt okT; exact h)
theorem key_rd {k : Key} {u : Value} {H : Hp} (h : keyIs k u = true) : Rd NoA H (tp R (keyVt k)) (kV k) ∧ RelV (kV k) u := by
  refine ⟨?_, relV_key h⟩
  cases k <;> (unfold keyVt tp; rfl)
theorem key_txt (k : Key) : rpT (keyVt k) = keyT k := by cases k <;> (unfold keyVt rpT; rfl)
theorem dep_key (k : Key) : dep (keyVt k) = 0 := by cases k <;> (unfold keyVt dep; rfl)
theorem ent_get : ∀ {ks : List Key} {ts : List Str} {i : Nat} {k : Key} {t : Str}, ks[i]? = some k → ts[i]? = some t → (entT ks ts)[i]? = some (keyT k ++ ": " ++ t)
  | k0 :: ks, t0 :: ts, 0, k, t, h1, h2 => by cases h1; cases h2; rfl
  | k0 :: ks, t0 :: ts, i + 1, k, t, h1, h2 => ent_get (ks := ks) (ts := ts) (i := i) h1 h2
  | [], _, _, _, _, h1, _ => by simp at h1
  | _ :: _, [], _, _, _, _, h2 => by simp at h2
theorem dct_own {ks : List Key} {xs : List Vt} {ws : List (Key × V)} {od : Obj} {A : Around} {g : List Code} {a : Addr} {pins : List (Addr × Obj)} {σ : L2.St} {H : Hp} {s : Shared} {Rr : Result → Shared → Prop} {base : Nat} {id : String} {rest : List Value}
    (hcg : (Code.builtin id ⟨.ref a :: rest, []⟩).isGuard = true) (hi : ∀ x ∈ xs, RpAt X R x (A.under (.builtin id ⟨.ref a :: rest, []⟩))) (ok : okT (.dct ks xs) = true) (hg : A.guards = some g) (hG : GOk R H (dep (.dct ks xs)) g) (I : L2.Inv X pins σ H s)
    (hlk : H a = some (.frz od (.dK ws))) (hk : ws.map (·.1) = ks) (rl : RdL NoA H (tps R xs) (ws.map (·.2)))
    (hR : ∀ s' t, After X pins σ H s' → Rr (.ok (.ret (.str (rpT (.dct ks xs)) t))) s') (hE : ∀ e s', X.xe e s' → Rr (.error e) s') (hsz : base + (rpT (.dct ks xs)).length ≤ sizeLine) :
    wpOwn (model X.prog X.w) A (.builtin id ⟨.ref a :: rest, []⟩) (Builtin.dictReprAt base ⟨[.ref a], []⟩) (fun fin s' => match fin with | .done f => Rr (.ok f) s' | .again c' => c'.quiet = true ∧ codeAny (model X.prog X.w) A c' Rr s') (fun e s' => Rr (.error e) s') s := by
  have r : Rd NoA H (tp R (.dct ks xs)) (.ref a) := by
    unfold tp
    exact ⟨a, ws, rfl, fun z => z, .inr ⟨od, hlk⟩, hk, rl⟩
  obtain ⟨hsys, hget, hxd, es, ep, vs, hdt, hes, kv, o', es', ho', _, hd', _, hpr, _⟩ := I.frzK hlk
  rw [hget] at ho'
  cases ho'
  rw [hdt] at hd'
  cases hd'
  unfold okT at ok
  obtain ⟨o1, o2⟩ := Bool.and_eq_true_iff.mp ok
  obtain ⟨o2, o3⟩ := Bool.and_eq_true_iff.mp o2
  have hl := of_decide_eq_true o1
  have lw : ws.length = xs.length := by
    have z := rl.len
    rw [tps_len, List.length_map] at z
    exact z.symm
  have hTy : s.TypeIs (.ref a) "dict" := ⟨od, hget, hxd.1⟩
  have hca : Clear g a := hG.clear r
  have hlen : (entT ks (rpTs xs)).length = es.size := by
    unfold entT
    rw [List.length_zipWith, rpTs_len, hl, Nat.min_self, hes, lw]
  unfold rpT at hsz
  have hp3 := piled_le_dictText (entT ks (rpTs xs))
  have hsz0 : (dictText (entT ks (rpTs xs))).length ≤ sizeLine := by omega
  unfold Builtin.dictReprAt
  refine wpOwn_bind (wpOwn_of_wpAny ?_)
  unfold Builtin.Dict.dictSlotNone
  refine wpAny_bind (wpAny_notOrdered_dict hTy ?_)
  show wpAny _ _ (pure (Value.ref a)) _ _ s
  refine wpAny_pure ?_
  rw [dictReprRunning_eq]
  refine wpOwn_bind (wpOwn_stackTailAny hg (dictGuardF_off _) (dictGuardF_pos _) ?_)
  have hn : (g.any fun c => dictGuardF (.ref a) (c, default)) = false := by
    rw [List.any_eq_false]
    intro c hcm
    rw [dictGuardF_of_clear hca c hcm]
    exact Bool.false_ne_true
  rw [hn]
  refine wpOwn_of_wpAny ?_
  have hg' := guards_under_guard hcg hg
  show wpAny _ _ (Builtin.Dict.addrOf (.ref a) >>= _) _ _ s
  refine wpAny_bind (wpAny_pure ?_)
  show wpAny _ _ (Builtin.Dict.showsAll a >>= _) _ _ s
  unfold Builtin.Dict.showsAll
  rw [if_neg (by rw [hsys]; exact Bool.false_ne_true)]
  refine wpAny_bind (wpAny_pure ?_)
  refine wpAny_bind (wpAny_dictEpoch hget hdt ?_)
  refine wpAny_bind (wpAny_dictEntries hget hdt ?_)
  refine wpAny_bind ?_
  rw [Std.Legacy.Range.forIn_eq_forIn_range']
  simp only [Std.Legacy.Range.size, Nat.sub_zero, Nat.add_sub_cancel, Nat.div_one]
  refine wpAny_forIn_list _
    (fun rest' rr s' => ∃ i, rest' = List.range' i (es.size - i) ∧ i ≤ es.size ∧ rr = (⟨((entT ks (rpTs xs)).take i).toArray, base + piled ((entT ks (rpTs xs)).take i)⟩ : (Array Str × Nat)) ∧ After X pins σ H s')
    _ ?_ ?_ _ _ ⟨0, by simp, Nat.zero_le _, by simp [piled], After.refl I⟩
  · rintro x rest' _ s' ⟨i, hr, hi', rfl, aft⟩
    have hlt : i < es.size := by
      rcases Nat.lt_or_ge i es.size with h | h
      · exact h
      · rw [Nat.sub_eq_zero_of_le h] at hr; simp at hr
    obtain ⟨rfl, hrest⟩ : x = i ∧ rest' = List.range' (i + 1) (es.size - (i + 1)) := by
      have e : es.size - i = (es.size - (i + 1)) + 1 := by omega
      rw [e, List.range'_succ] at hr
      injection hr with h1 h2
      exact ⟨h1, h2⟩
    obtain ⟨H1, I1, e1⟩ := aft
    obtain ⟨_, hget1, _⟩ := I1.frzK (e1 _ _ hlk)
    have hlt' : x < es.toList.length := by rw [Array.length_toList]; exact hlt
    obtain ⟨k, v, hw, hki, rv⟩ := ent_at (i := x) (e := es[x]) hpr kv (by simp [hlt])
    have hkx : ks[x]? = some k := by rw [← hk, List.getElem?_map, hw]; rfl
    have hvx : (ws.map (·.2))[x]? = some v := by rw [List.getElem?_map, hw]; rfl
    have hxx : x < xs.length := by rw [← lw, ← hes]; exact hlt
    have hxs : xs[x]? = some xs[x] := List.getElem?_eq_getElem hxx
    obtain ⟨v', hv', rx⟩ := rl.get' (tps_get (R := R) hxs)
    rw [hvx] at hv'
    cases hv'
    have hko : keyOk k = true := List.all_eq_true.mp o2 k (List.mem_of_getElem? hkx)
    have hp := ent_get (ts := rpTs xs) hkx (rpTs_get hxs)
    have hpl : (keyT k ++ ": " ++ rpT xs[x]).length = (keyT k).length + 2 + (rpT xs[x]).length := by
      rw [strLen_append, strLen_append]; rfl
    have hp1 := piled_take_succ hp
    have hp2 := piled_take_le (entT ks (rpTs xs)) (x + 1)
    rw [hpl] at hp1
    obtain ⟨rk, rku⟩ := key_rd (R := R) (H := H1) hki
    have gk : GOk R H1 (dep (keyVt k)) (.builtin id ⟨.ref a :: rest, []⟩ :: g) := ((hG.ext e1).less (by rw [dep_key]; omega)).cons (r.ext e1) (by rw [dep_key, dep_dct]; omega)
    refine wpAny_bind (wpAny_dictEntries hget1 hdt ?_)
    rw [Array.getElem?_eq_getElem hlt]
    refine wpAny_bind (wpAny_holding (wpAny_bind (wpAny_mono (key_rp (X := X) (R := R) hko (base + piled ((entT ks (rpTs xs)).take x) + 1) _ pins σ H1 s' (kV k) _ (fun t s2 => t = keyT k ∧ After X pins σ H1 s2) (by rw [key_txt]; omega) hg' gk I1 rk rku fun s2 a2 => ⟨key_txt k, a2⟩) (fun t s2 hz => ?_) hE)))
    obtain ⟨rfl, H2, I2, e2⟩ := hz
    have gx : GOk R H2 (dep xs[x]) (.builtin id ⟨.ref a :: rest, []⟩ :: g) := ((hG.ext (e1.trans e2)).less (by rw [dep_dct]; have := dep_mem (List.getElem_mem hxx); omega)).cons (r.ext (e1.trans e2)) (by rw [dep_dct]; have := dep_mem (List.getElem_mem hxx); omega)
    refine wpAny_bind (wpAny_mono (hi xs[x] (List.getElem_mem hxx) (base + piled ((entT ks (rpTs xs)).take x) + ((keyT k).length + 3)) _ pins σ H2 s2 v _ (fun t s3 => t = rpT xs[x] ∧ After X pins σ H2 s3) (by omega) hg' gx I2 (rx.ext (e1.trans e2)) rv fun s3 a3 => ⟨rfl, a3⟩) (fun t s3 hz => ?_) hE)
    obtain ⟨rfl, H3, I3, e3⟩ := hz
    obtain ⟨_, hget3, _⟩ := I3.frzK (e3 _ _ (e2 _ _ (e1 _ _ hlk)))
    refine wpAny_pure ?_
    refine wpAny_bind (wpAny_dictEpoch hget3 hdt ?_)
    rw [if_neg (by simp)]
    have e1' : ((entT ks (rpTs xs)).take x).toArray.push (keyT k ++ ": " ++ rpT xs[x]) = ((entT ks (rpTs xs)).take (x + 1)).toArray := by
      rw [List.take_add_one, hp]
      simp
    have e2' : base + piled ((entT ks (rpTs xs)).take x) + ((keyT k).length + (rpT xs[x]).length + 4) = base + piled ((entT ks (rpTs xs)).take (x + 1)) := by omega
    refine wpAny_pure ⟨x + 1, hrest, hlt, ?_, H3, I3, (e1.trans e2).trans e3⟩
    rw [e1', e2']
  · rintro _ s' ⟨i, hr, hi', rfl, aft⟩
    have hin : i = es.size := by
      rcases Nat.lt_or_ge i es.size with h | h
      · have e : es.size - i = (es.size - (i + 1)) + 1 := by omega
        rw [e, List.range'_succ] at hr; exact nomatch hr
      · exact Nat.le_antisymm hi' h
    rw [hin, ← hlen, List.take_length]
    refine wpAny_bind (wpAny_mkStr (wpAny_pure ?_) (by simpa [dictText] using hsz0))
    have h1 := hR { s' with toks := s'.toks + 1 } s'.toks (aft.tok _)
    unfold rpT at h1
    simpa [dictText] using h1
theorem rd_lock {H : Hp} {a : Addr} {od : Obj} {ws : List (Key × V)} (h : H a = some (.dK ws)) {x : PV} {v : V} (r : Rd NoA H x v) : Rd NoA (upd H a (.frz od (.dK ws))) x v := r.toZ (sm_hold h)
/-- with the dict held while it is shown -/
theorem dct_held {ks : List Key} {xs : List Vt} {A : Around} {g : List Code} {a : Addr} {pins : List (Addr × Obj)} {σ : L2.St} {H : Hp} {s : Shared} {Rr : Result → Shared → Prop} {base : Nat} {id : String} {rest : List Value}
    (hcg : (Code.builtin id ⟨.ref a :: rest, []⟩).isGuard = true) (hi : ∀ x ∈ xs, RpAt X R x (A.under (.builtin id ⟨.ref a :: rest, []⟩))) (ok : okT (.dct ks xs) = true) (hg : A.guards = some g) (hG : GOk R H (dep (.dct ks xs)) g) (I : L2.Inv X pins σ H s)
    (r : Rd NoA H (tp R (.dct ks xs)) (.ref a)) (hR : ∀ s' t, After X pins σ H s' → Rr (.ok (.ret (.str (rpT (.dct ks xs)) t))) s') (hE : ∀ e s', X.xe e s' → Rr (.error e) s') (hsz : base + (rpT (.dct ks xs)).length ≤ sizeLine) :
    wpOwn (model X.prog X.w) A (.builtin id ⟨.ref a :: rest, []⟩) (Builtin.dictReprAt base ⟨[.ref a], []⟩) (fun fin s' => match fin with | .done f => Rr (.ok f) s' | .again c' => c'.quiet = true ∧ codeAny (model X.prog X.w) A c' Rr s') (fun e s' => Rr (.error e) s') s := by
  obtain ⟨a', ws, e0, hd, hk, rl⟩ := dct_ref r
  cases e0
  rcases hd with hd | ⟨od, hd⟩
  · obtain ⟨od, I1⟩ := I.lock hd trivial
    have nf := I.nofrz hd trivial
    have r1 : Rd NoA (upd H a (.frz od (.dK ws))) (tp R (.dct ks xs)) (.ref a) := rd_lock hd r
    obtain ⟨a2, ws2, e2, hd2, hk2, rl2⟩ := dct_ref r1
    cases e2
    have ew := dK_same hd2 (.inr ⟨od, upd_same⟩)
    subst ew
    refine dct_own (H := upd H a (.frz od (.dK ws2))) hcg hi ok hg (fun id v rest kw m b eb => ?_) I1 upd_same hk2 rl2 (fun s' t aft => hR s' t ?_) hE hsz
    · obtain ⟨y, ry, l⟩ := hG id v rest kw m b eb
      exact ⟨y, rd_lock hd ry, l⟩
    · obtain ⟨H3, I3, e3⟩ := aft
      refine ⟨upd H3 a (.dK ws2), I3.unlock (e3 _ _ upd_same) nf, fun b o hb => ?_⟩
      by_cases c : b = a
      · subst c
        rw [hd] at hb
        cases hb
        exact upd_same
      · rw [upd_ne c]
        exact e3 _ _ (by rw [upd_ne c]; exact hb)
  · exact dct_own hcg hi ok hg hG I hd hk rl hR hE hsz
theorem dct_type {H : Hp} {a : Addr} {pins : List (Addr × Obj)} {σ : L2.St} {s : Shared} {ws : List (Key × V)} (I : L2.Inv X pins σ H s) (h : L2.Rd H a (.dK ws)) : s.TypeIs (.ref a) "dict" := by
  rcases h with h | ⟨o, h⟩
  · obtain ⟨_, _, vs, kv, o, es, ep, ho, hex, _⟩ := dk_of I.hok h
    exact ⟨o, ho, hex.1⟩
  · obtain ⟨_, hget, hxd, _⟩ := I.frzK h
    exact ⟨o, hget, hxd.1⟩
theorem rp_dct {m : Nat} {ks : List Key} {xs : List Vt} (ok : okT (.dct ks xs) = true) (hi : ∀ x ∈ xs, ∀ A : Around, Sub X m A → RpAt X R x A) {A : Around} (sb : Sub X (m + 1) A) : RpAt X R (.dct ks xs) A := by
  intro base g pins σ H s v u Q hb hg hG I r rv k
  obtain ⟨a, ws, rfl, hd, hk, rl⟩ := dct_ref r
  have hT := dct_type I hd
  cases (show u = Value.ref a from rv)
  refine wpAny_pyReprUnder_ref (by omega) (wpAny_pyReprObjUnder_twin (twin := "dict.__repr__.under") hT F.slot_dict_repr rfl sb.room.units0 (call_twin_own (F.quiet_dict_repr_under _) F.entry_dict_repr_under F.check_dict_repr_under hT F.slot_dict_repr (F.args_dict_repr_1 _) ?_))
  exact dct_held (isGuard_dict_repr_under _) (fun x m => hi x m _ (sub_du sb)) ok hg hG I r (fun s' t a => ⟨⟨_, _, rfl⟩, _, _, rfl, k s' a⟩) (fun _ _ z => z) hb
theorem rp_all (k : RatRp X n R f) : ∀ (d : Nat) (x : Vt), dep x ≤ d → okT x = true → ∀ A : Around, Sub X (n + d) A → RpAt X R x A := by
  intro d
  induction d with
  | zero =>
    intro x hd ok A sb
    cases x with
    | rat t b => exact rp_rat k ok sb
    | lst xs => rw [dep_lst] at hd; omega
    | tup xs => rw [dep_tup] at hd; omega
    | dct ks xs => rw [dep_dct] at hd; omega
    | non => exact rp_leaf rfl ok
    | bl _ => exact rp_leaf rfl ok
    | int _ => exact rp_leaf rfl ok
    | str _ => exact rp_leaf rfl ok
  | succ d ih =>
    intro x hd ok A sb
    cases x with
    | rat t b => exact rp_rat k ok (sb.mono (by omega))
    | lst xs =>
      rw [dep_lst] at hd
      exact rp_lstU (m := n + d) (fun y m A' sb' => ih y (Nat.le_trans (dep_mem m) (by omega)) (ok_mem (by unfold okT at ok; exact ok) m) A' sb') sb
    | tup xs =>
      rw [dep_tup] at hd
      exact rp_tup (m := n + d) (fun y m A' sb' => ih y (Nat.le_trans (dep_mem m) (by omega)) (ok_mem (by unfold okT at ok; exact ok) m) A' sb') sb
    | dct ks xs =>
      rw [dep_dct] at hd
      exact rp_dct (m := n + d) ok (fun y m A' sb' => ih y (Nat.le_trans (dep_mem m) (by omega)) (ok_mem (by unfold okT at ok; exact (Bool.and_eq_true_iff.mp (Bool.and_eq_true_iff.mp ok).2).2) m) A' sb') sb
    | non => exact rp_leaf rfl ok
    | bl _ => exact rp_leaf rfl ok
    | int _ => exact rp_leaf rfl ok
    | str _ => exact rp_leaf rfl ok
/-- repr(x), x a tree -/
def rReprT (R : Addr) (d : Nat) : List V → Hp → VK → Prop := fun vs H Q => ∃ (x : Vt) (v : V), vs = [v] ∧ Rd NoA H (tp R x) v ∧ okT x = true ∧ dep x ≤ d ∧ wt x ≤ 10000 ∧ ∀ H', Ex H H' → Q (.str (rpT x)) H'
theorem call_reprT (k : RatRp X n R f) {d : Nat} (hg : X.A.guards = some []) (hr : Room (n + d + 2) X.A) : CallR X (.builtin "repr") (rReprT R d) := by
  intro pins s σ H vs us Q I rv q
  obtain ⟨x, v, rfl, r, ok, hd, hw, q⟩ := q
  have hz : (rpT x).length ≤ sizeLine := by
    have := rp_len x ok
    have : (10000000 : Nat) ≤ sizeLine := by decide
    omega
  have hu : X.A.units + 1 < cLine := by have := hr.un; omega
  have sb1 : Sub X (n + d + 1) X.A.in1 := ⟨hr.in1, rfl⟩
  have hg1 : X.A.in1.guards = some [] := hg
  have go : ∀ {s' : Shared} {t : Tok}, After X pins σ H s' → EP X pins σ Q (.str (rpT x) t) s' := fun {s' t} a => by
    obtain ⟨H', I', e⟩ := a
    exact ⟨.str (rpT x), H', I', ⟨t, rfl⟩, q H' e⟩
  cases rv with
  | cons ra rn =>
    cases rn
    rename_i u
    by_cases fl : ∃ w, flT x = some w
    · obtain ⟨w, hf⟩ := fl
      cases x <;> first | (cases hf; done) | skip
      · unfold tp at r; cases r; cases ra
        have z : EP X pins σ Q (.str (rpT .non) s.toks) { s with toks := s.toks + 1 } := go ((After.refl I).tok _)
        unfold rpT at z
        exact PySem.P.repr_of_none z
      · unfold tp at r; cases r; cases ra
        have z := fun t => go (s' := { s with toks := s.toks + 1 }) (t := t) ((After.refl I).tok _)
        unfold rpT at z
        exact PySem.P.repr_of_bool (z _)
      · unfold tp at r; cases r; obtain ⟨t, rfl⟩ := ra
        have z := fun t => go (s' := { s with toks := s.toks + 1 }) (t := t) ((After.refl I).tok _)
        unfold rpT at z
        unfold okT at ok
        have := of_decide_eq_true ok
        exact PySem.P.repr_of_int (by omega) (z _)
      · unfold tp at r; cases r; obtain ⟨t, rfl⟩ := ra
        have z := fun t => go (s' := { s with toks := s.toks + 1 }) (t := t) ((After.refl I).tok _)
        unfold rpT at z hz
        exact PySem.P.repr_of_str (z _) hz
    · cases x with
      | rat t b =>
        obtain ⟨a, dx, fs, rfl, ha⟩ := rat_ref r
        obtain ⟨mA, O, _⟩ := ins_get I.hok ha
        obtain ⟨od, J, _⟩ := O.look
        obtain ⟨m, hF⟩ := I.fr
        cases (show u = Value.ref a from ra)
        refine PySem.W.repr_K (by show X.A.units + 1 < cLine; exact hu) hF I.ok.mod.kin J k.hs k.hf (thn (k.run X.A.in1 (sb1.room.mono (by omega)) sb1.fr pins s σ H [.ref a] [.ref a] (fun z G => z = .str (ratText t b) ∧ Ex H G) I (.cons rfl .nil) ⟨rfl, NoA, [tp R (.rat t b)], (), (fun x' _ => x' = .str (ratText t b)), (fun _ _ _ _ => False), ct0 (fun _ h => h.elim), RdL.cons r RdL.nil, xl0, ⟨t, b, rfl, ok, rfl⟩, fun z G x' s' rz fr _ hz => ?_⟩) fun z s1 hz => ?_)
        · have hz' : x' = .str (ratText t b) := hz
          subst hz'
          exact ⟨rz, fr0 fr⟩
        · obtain ⟨v', G, I1, rz, e, ex⟩ := hz
          subst e
          obtain ⟨tk, rfl⟩ := rz
          have q2 := q G ex
          unfold rpT at q2
          exact backT ⟨.str (ratText t b), G, I1, ⟨tk, rfl⟩, _, rfl, q2⟩
      | lst xs =>
        obtain ⟨a, vs, rfl, ha, rl⟩ := lst_ref r
        cases (show u = Value.ref a from ra)
        obtain ⟨its, ni, ri, hoa, _⟩ := I.lst ha
        have lv : vs.length = xs.length := by rw [← rl.len, tps_len]
        refine call_repr_slot hu ⟨_, hoa, rfl⟩ F.slot_list_repr.toG ?_
        by_cases hne : xs = []
        · subst hne
          have : its.length = 0 := by rw [← ri.length, lv]; rfl
          have e := List.length_eq_zero_iff.mp this
          subst e
          refine call_list_repr_empty ⟨_, hoa, rfl⟩ hoa rfl ?_
          exact ⟨_, _, rfl, go (s' := { s with toks := s.toks + 1 }) ((After.refl I).tok _)⟩
        · rw [dep_lst] at hd
          refine wpAny_call (codeAny_call_builtin F.slot_list_repr.plain F.entry_list_repr (F.slot_list_repr.check _ _ _ _ _ _ _ _ ⟨_, hoa, rfl⟩ (F.args_list_repr_1 _) ?_))
          exact rp_lst (m := n + d) (base := 0) (Rr := callEnd (fun r s₁ => ∃ x t, r = Value.str x t ∧ EP X pins σ Q r s₁) X.xe) (fun y m A' sb' => rp_all k d y (Nat.le_trans (dep_mem m) (by omega)) (ok_mem (by unfold okT at ok; exact ok) m) A' sb') sb1 (by omega) hg1 GOk.nil I r hne (fun s' t a => ⟨_, _, rfl, go a⟩) (fun _ _ z => z)
      | tup xs =>
        obtain ⟨p, vs, rfl, hp, rl⟩ := tup_ref r
        cases (show u = Value.ref p from ra)
        obtain ⟨its, ri, ⟨o, ho, hc, nn, hdd⟩, _⟩ := I.tuple (st_of hp)
        rw [dep_tup] at hd
        refine call_repr_slot hu ⟨o, ho, hc⟩ F.slot_tuple_repr ?_
        refine wpAny_call (codeAny_call_builtin_own (Code.quiet_builtin _ (by decide +kernel)) F.entry_tuple_repr (F.slot_tuple_repr.check _ _ _ _ _ _ _ _ ⟨o, ho, hc⟩ (F.args_tuple_repr_1 _) ?_))
        exact tup_own (base := 0) (Rr := callEnd (fun r s₁ => ∃ x t, r = Value.str x t ∧ EP X pins σ Q r s₁) X.xe) (isGuard_tuple_repr _) (fun x m => rp_all k d x (Nat.le_trans (dep_mem m) (by omega)) (ok_mem (by unfold okT at ok; exact ok) m) _ (sub_tup sb1)) hg1 GOk.nil I r (fun s' t a => ⟨_, _, rfl, go a⟩) (fun _ _ z => z) (by omega)
      | dct ks xs =>
        obtain ⟨a, ws, rfl, hdd, hk, rl⟩ := dct_ref r
        have hT := dct_type I hdd
        cases (show u = Value.ref a from ra)
        rw [dep_dct] at hd
        refine call_repr_slot hu hT F.slot_dict_repr ?_
        refine wpAny_call (codeAny_call_builtin_own (Code.quiet_builtin _ (by decide +kernel)) F.entry_dict_repr (F.slot_dict_repr.check _ _ _ _ _ _ _ _ hT (F.args_dict_repr_1 _) ?_))
        exact dct_held (base := 0) (Rr := callEnd (fun r s₁ => ∃ x t, r = Value.str x t ∧ EP X pins σ Q r s₁) X.xe) (isGuard_dict_repr _) (fun x m => rp_all k d x (Nat.le_trans (dep_mem m) (by omega)) (ok_mem (by unfold okT at ok; exact (Bool.and_eq_true_iff.mp (Bool.and_eq_true_iff.mp ok).2).2) m) _ (sub_dr sb1)) ok hg1 GOk.nil I r (fun s' t a => ⟨_, _, rfl, go a⟩) (fun _ _ z => z) (by omega)
      | non => exact absurd ⟨_, rfl⟩ fl
      | bl _ => exact absurd ⟨_, rfl⟩ fl
      | int _ => exact absurd ⟨_, rfl⟩ fl
      | str _ => exact absurd ⟨_, rfl⟩ fl
end
end Pw
end

section -- PwS
set_option linter.all false
set_option maxRecDepth 100000
set_option maxHeartbeats 4000000
/-! PwS: def __init__(self, w, *ps): super().__init__(w, *ps), in a class below a plain one. -/
namespace PySem.W
open PySem PySem.Spec PySem.Calls PyProof.Rows
section
variable {prog : Program} {w : World} {M : Model} {A : Around} {E : Value → Shared → Prop} {h : Heap} {g : Array GenState} {d : Drawn} {t : Nat} {os : OsState}
theorem pw_getAttr_super {so D x C f : Addr} {of : Obj} {l₀ l : List Value} {K : Frag} {name : Str} {Q : Value → Shared → Prop}
    (hso : h.get? so = some { cls := .type "super", dict := none, data := .fields #[.ref D, .ref x, .ref C], slots := #[] }) (hno : Looks (model prog w) h (opaqueClassAbove (.ref C)) none)
    (hC : Looks (model prog w) h (mroOf (.ref C)) l₀) (hl : (l₀.dropWhile (· != .ref D)).drop 1 = l) (X : K.In h)
    (hf : alongIn K name l = some (some (.ref f))) (hfo : h.get? f = some of) (hfc : of.cls = .type "function") (hxC : x ≠ C) (hn : (name == ("__class__" : Str)) = false)
    (hq : Q (.ref h.objs.size) ⟨h.push { cls := .type "method", data := .fields #[.ref f, .ref x] }, g, d, t + 1, os⟩) :
    wpAny (model prog w) A (getAttr (.ref so) name true) Q E ⟨h, g, d, t, os⟩ := by
  have hlk := F.ks_slot_super_ga.lookup
  have hT : ∀ t', (⟨h, g, d, t', os⟩ : Shared).TypeIs (.ref so) "super" := fun _ => ⟨_, hso, rfl⟩
  unfold getAttr getAttrBy
  refine wpAny_bind (wpAny_mkText (wpAny_holding (wpAny_bind (wpAny_typeOf (hT _) (wpAny_bind (wpAny_of_eq hlk ?_))))))
  show wpAny _ _ (getAttrByItsOwn (.ref so) (.str name t) (.type "super") (.builtin "super.__getattribute__") true _) _ _ _
  unfold getAttrByItsOwn hookBefore callGetattribute boundAndCalled
  refine wpAny_bind (wpAny_of_eq (show (if onTheHeap (.type "super") then typeLookup (.type "super") "__getattr__" else pure none) = pure none from rfl) ?_)
  refine wpAny_bind (wpAny_attempt (wpAny_holding ?_))
  show wpAny _ _ (bindSpecial (.builtin "super.__getattribute__") (.ref so) >>= _) _ _ _
  refine wpAny_bind (wpAny_of_eq (F.ks_slot_super_ga.bind _) ?_)
  refine wpAny_mono (Q := fun v s' => v = .ref h.objs.size ∧ s' = ⟨h.push { cls := .type "method", data := .fields #[.ref f, .ref x] }, g, d, t + 1, os⟩) (E := fun _ _ => False)
    (wpAny_call_entry F.ks_slot_super_ga (hT _) F.ks_entry_super_ga (ks_wpAny_super_ga hso hno hC hl X hf hfo hfc hxC hn ⟨_, rfl, rfl, rfl⟩) (F.ks_gaArgs_super _ _)) (fun v s' hv => ?_) fun _ _ z => z.elim
  obtain ⟨rfl, rfl⟩ := hv
  exact wpAny_pure hq
end
theorem pw_starcall2 {M : Model} {A : Around} {E : Value → Shared → Prop} {c : Code} {s : Shared} {env : Env} {o e1 e2 : Expr} {m : Str} {p apos pos : Pos} {Q : Value → Shared → Prop}
    (hst : starEach [e1, .Starred e2 p] env = [(false, eval e1 env), (true, eval e2 env)])
    (h : _root_.PySem.wpAt M A c (attributeBase o m env (eval o env)) (fun ov s₁ => wpAny M A (getAttr ov m true) (fun f s₂ => wpAny M A (callWith pos f [] (backTo pos [(false, eval e1 env), (true, eval e2 env)]) []) Q E s₂) E s₁) E s) :
    _root_.PySem.wpAt M A c (eval (.Call (.Attribute o m apos) [e1, .Starred e2 p] [] pos) env) Q E s := by
  have hke : backToKw pos (keywordEach [] env) = [] := rfl
  have hform : methodCallForm ([e1, Expr.Starred e2 p].length + ([] : List Keyword).length) (backTo pos [(false, eval e1 env), (true, eval e2 env)]) [] = false := rfl
  have hpos : methodCallPos false o env apos pos = pure pos := rfl
  have hcal : ∀ ov, calleeOf false o env ov m = (getAttr ov m true >>= fun v => pure (v, [])) := fun _ => rfl
  rw [arm_eval_Call, hst, hke]
  refine wpAt_bind (ks_wpAt_mono h (fun ov s₁ h₁ => wpAt_of_wpAny ?_) fun _ _ x => x)
  refine wpAny_bind (wpAny_standAt ?_)
  unfold methodCall
  rw [hform, hpos, hcal]
  refine wpAny_bind (wpAny_holding (wpAny_bind (wpAny_mono h₁ (fun f s₂ h₂ => wpAny_pure ?_) fun _ _ x => x)))
  exact wpAny_bind (wpAny_pure h₂)
end PySem.W
namespace Pk
open PySem PySem.Spec L2 NdefX
open PyProof.Rows hiding St
/-- what the text tells of such a def at f: its class at D, in the cell cc, its code at c; the __init__ above it at g -/
structure SupI (P : Program) (K : PySem.W.Frag) (mg : Str → Option Value) (qual : Str) (st : Stmt) (f cc c D g : Addr) : Prop where
  ex : ∃ (oc : Value) (od : Option Addr) (kV doc pm : Value) (an : Option Addr) (ct : Value) (osl : Array (Option Value)), K.lookup f = some ⟨oc, od, .func (PySem.W.ksFn "__init__" qual (defArgs st) (defBody st) (defScope st) .none kV doc pm an (.ref c) ct cc), osl⟩
  code : PySem.W.codeIn K (.ref c) qual = true
  file : ∃ (ccl : Value) (cdd : Option Addr) (vs : Array Value) (ccs : Array (Option Value)) (fl : Str) (tf : Tok), K.lookup c = some ⟨ccl, cdd, .fields vs, ccs⟩ ∧ vs[2]? = some (.str fl tf) ∧ ((P.main.file : Str) == fl) = true
  cell : ∃ (cl : Value) (cld : Option Addr) (csl : Array (Option Value)), K.lookup cc = some ⟨cl, cld, .cell (some (.ref D)), csl⟩
  cls : ∃ cd, PySem.W.clsIn K D = some cd
  sub : PySem.W.mroIn K D (.ref D) = some true
  free : mg "super" = none
  top : (P.main.scope.names.lookup ("super" : Str)).isSome = false
  opq : PySem.W.nsIn K cStatics "thirdparty.any" = some none
  sup : PySem.W.ks_superIn K D D "__init__" = some (some (.ref g))
  typ : PySem.W.typeIn K (.ref g) = some (.type "function")
  fi : PySem.W.fnIn K g = true
def supN : List Str := ["self", "word", "parts", "__class__"]
def supBody (p0 p1 p2 p3 p4 apos pos pos' : Pos) : List Stmt := [.Expr (.Call (.Attribute (.Call (.Name "super" p0) [] [] p1) "__init__" apos) [.Name "word" p2, .Starred (.Name "parts" p3) p4] [] pos) pos']
theorem boot_super : bootBuiltins "super" = some (.type "super") := by rfl
section
variable {P : Program} {w : World} {K : PySem.W.Frag} {mg : Str → Option Value} {base : Heap} {k : Nat} {qual : Str} {st : Stmt} {f cc c D g : Addr} {sp : Sp}
theorem fn_super (T : SupI P K mg qual st f cc c D g) (S : NScope supN ["self", "word", "parts"] ["__class__"] (defScope st)) {p0 p1 p2 p3 p4 apos pos pos' : Pos} (hbd : defBody st = supBody p0 p1 p2 p3 p4 apos pos pos')
    (hks : (defScope st).names.lookup ("super" : Str) = some .globalImplicit) (hhd : ∃ ar : Arg, ((defArgs st).posonlyargs ++ (defArgs st).args).head? = some ar ∧ ar.arg = "self")
    (hb : ∀ (kV doc pm : Value) (an : Option Addr) (ct : Value) (us rest : List Value), us.length = 2 → bindArgs (PySem.W.ksFn "__init__" qual (defArgs st) (defBody st) (defScope st) .none kV doc pm an (.ref c) ct cc) ⟨us ++ rest, []⟩ = (newTuple rest >>= fun t => pure ((["self", "word"] : List Str).zip us ++ [(("parts" : Str), t)])))
    (G : FnR P w K mg base CX0 k g sp) :
    FnR P w K mg base CX0 (k + 1) f (fun vs H Q E => ∃ (a dx : Addr) (fs : List (Str × V)) (x : V) (rest : List V), vs = .ref a :: x :: rest ∧ rest.length ≤ sizeLine ∧ H a = some (.ins D dx fs) ∧ a ≠ D ∧
      ∀ H1, Ext H H1 → sp (.ref a :: x :: rest) H1 (fun _ H2 => Q .non H2) E) := by
  intro A outer s H us vs Q E hr e0 r hsp
  obtain ⟨a, dx, fs, x, rest, rfl, hz, ha, haD, hq⟩ := hsp
  obtain ⟨oc, od, kV, doc, pm, an, ct, osl, lk⟩ := T.ex
  obtain ⟨u1, u2, eu, r1, r2⟩ := StX.vals_split (ws := [V.ref a, x]) (rest := rest) r
  subst eu
  have hn : H s.heap.objs.size = Option.none := e0.hok.fresh (Nat.le_refl _)
  have hl1 : u1.length = 2 := by rw [← r1.length]; rfl
  have hl2 : u2.length ≤ sizeLine := by rw [← r2.length]; exact hz
  have KX : K.In s.heap := e0.mod.kin.keeps fun b o e => (e0.bs b o e).1
  refine codeAny_call_function hr.depth (KX _ _ lk) rfl S.co S.gen rfl (PySem.W.codeRec_of KX T.code) ?_
  rw [hb kV doc pm an ct u1 u2 hl1]
  refine wpAny_bind (wpAny_newTuple (wpAny_pure ?_) hl2)
  have new : ObjOk P w (upd H s.heap.objs.size (.tup rest)) (s.heap.push ({ cls := .type "tuple", data := .seq u2.toArray } : Obj)) s.heap.objs.size (.tup rest) := ⟨hz, u2, r2, ⟨_, Heap.get?_push_size _ rfl, rfl, _, rfl⟩⟩
  have e1 := StX.env0_laid e0 new
  have un := StX.un_laid (fs := frs outer) (s := s) (o := ({ cls := .type "tuple", data := .seq u2.toArray } : Obj)) (u := .tup rest) hn
  obtain ⟨p, hp⟩ : ∃ p, p = s.heap.objs.size := ⟨_, rfl⟩
  obtain ⟨s2, hs2⟩ : ∃ s2 : Shared, s2 = { s with heap := s.heap.push ({ cls := .type "tuple", data := .seq u2.toArray } : Obj) } := ⟨_, rfl⟩
  obtain ⟨H2, hH2⟩ : ∃ H2, H2 = upd H s.heap.objs.size (.tup rest) := ⟨_, rfl⟩
  have os2 : s2.os = s.os := by rw [hs2]
  rw [← hs2, ← hH2] at e1
  rw [← hs2]
  have un : Un (frs outer) [] H H2 s.heap s2.heap := by rw [hs2, hH2]; exact un
  have hpt : H2 p = some (.tup rest) := by rw [hH2, hp]; exact upd_same
  have x02 : Ext H H2 := fun b o e => by rw [hH2, upd_ne (ne_of_none e hn)]; exact e
  rw [← hp]
  clear hs2 hH2
  obtain ⟨us1, hus1⟩ : ∃ us1, us1 = u1 ++ [Value.ref p] := ⟨_, rfl⟩
  have ez : (["self", "word"] : List Str).zip u1 ++ [(("parts" : Str), Value.ref p)] = (["self", "word", "parts"] : List Str).zip us1 := by
    rw [hus1, show (["self", "word", "parts"] : List Str) = (["self", "word"] : List Str) ++ (["parts"] : List Str) from rfl, List.zip_append (by rw [hl1]; rfl)]
    rfl
  rw [ez]
  have rv : Vals [V.ref a, x, V.ref p] us1 := by rw [hus1]; exact r1.append (.cons rfl .nil)
  have KX2 : K.In s2.heap := e1.mod.kin.keeps fun b o e => (e1.bs b o e).1
  have lim : s2.heap.NoLimit := e1.mod.nolimit.keeps fun b o e => (e1.bs b o e).1
  refine wpAny_newFunctionEnv (s := s2) S.nocell (fun ⟨n, _⟩ hy => S.par n (List.of_mem_zip hy).1) (fun h₁ hns hsb => ⟨lim.fresh _ hsb, ?_⟩) S.kind
  obtain ⟨F, hF⟩ : ∃ F : NF, F = ⟨"__init__", qual, defArgs st, defBody st, defScope st, [("__class__", cc)], c⟩ := ⟨_, rfl⟩
  show codeAny _ _ (.func (defBody st) (PySem.W.envX qual (defScope st) s2.heap.objs.size f (.ref c) [("__class__", cc)])) _ _
  have kp : ∀ b o, s2.heap.get? b = some o → h₁.get? b = some o := fun b o e => hsb.extBut b o (Nat.ne_of_lt (Heap.lt_size e)) (Heap.get?_push_of_some _ e)
  obtain ⟨cl, cld, csl, lcell⟩ := T.cell
  have hcb : base.get? cc = some ⟨cl, cld, .cell (some (.ref D)), csl⟩ := e1.mod.kin _ _ lcell
  have C : CellsAt F.cl ["__class__"] [none] s2.heap H2 := by
    subst hF
    refine ⟨rfl, fun y d e => ?_, fun y y' d e e' => ?_, fun i y e => ?_⟩
    · have : d = cc := by
        rw [List.lookup_cons] at e
        split at e
        · exact (Option.some.inj e).symm
        · cases e
      subst this
      exact ⟨(e1.bs _ _ hcb).2, _, _, (e1.bs _ _ hcb).1, rfl⟩
    · rw [List.lookup_cons] at e e'
      split at e
      · split at e'
        · rename_i z1 _ z2
          rw [beq_iff_eq.mp z1, beq_iff_eq.mp z2]
        · cases e'
      · cases e
    · cases i with
      | zero =>
        cases e
        exact ⟨cc, by simp, fun v z => by cases z⟩
      | succ i => cases e
  have S' : NScope supN ["self", "word", "parts"] ["__class__"] F.scope := by subst hF; exact S
  have I : Inv (ncx CX0 P w K mg base supN F f A outer s2 H2 E) [] (startF supN [V.ref a, x, V.ref p] [none]) H2 { s2 with heap := h₁, toks := s2.toks + ((["self", "word", "parts"] : List Str).zip us1).length } := inv_startN S' hr.hd e1 rfl rv C hns kp
  obtain ⟨s3, hs3⟩ : ∃ s3 : Shared, s3 = { s2 with heap := h₁, toks := s2.toks + ((["self", "word", "parts"] : List Str).zip us1).length } := ⟨_, rfl⟩
  rw [← hs3] at I ⊢
  have hh3 : s3.heap = h₁ := by rw [hs3]
  have KX3 : K.In s3.heap := I.kIn
  have hself : (((["self", "word", "parts"] : List Str).zip us1).reverse).lookup ("self" : Str) = some (.ref a) := by
    cases rv with
    | cons q1 q2 =>
      cases q1
      exact zip_look (i := 0) (by decide) rfl rfl
  have hns3 : s3.heap.Ns s2.heap.objs.size (fun y => ((["self", "word", "parts"] : List Str).zip us1).reverse.lookup y) := by rw [hh3]; exact hns
  clear hns kp hsb hs3 hh3
  have rr := hr.deeper (PySem.W.envX qual (defScope st) s2.heap.objs.size f (.ref c) [("__class__", cc)])
  subst hF
  refine ks_codeAny_funcAt ?_
  obtain ⟨Xc, hX⟩ : ∃ Xc : Cx, Xc = ncx CX0 P w K mg base supN ⟨"__init__", qual, defArgs st, defBody st, defScope st, [("__class__", cc)], c⟩ f A outer s2 H2 E := ⟨_, rfl⟩
  refine PySem.ks_wpAt_mono (E := Xc.xe) ?_ (fun _ _ z => z) (fun e s' z => by subst hX; exact z)
  have bk : ∀ b o, base.get? b = some o → s3.heap.get? b = some o := by
    have z := I.bk
    exact z
  obtain ⟨ar, har, harg⟩ := hhd
  obtain ⟨ccl, cdd, vs, ccs, fl, tf, lcode, hvs, hfile⟩ := T.file
  obtain ⟨cdD, hcd⟩ := T.cls
  have hfree : (defScope st).names.lookup ("__class__" : Str) = some .free := S.frk "__class__" (by simp)
  have hsl : (defScope st).names.lookup ("self" : Str) = some .local := S.par "self" (by simp)
  have hwl : (defScope st).names.lookup ("word" : Str) = some .local := S.par "word" (by simp)
  have hpl : (defScope st).names.lookup ("parts" : Str) = some .local := S.par "parts" (by simp)
  obtain ⟨mb, hb1, hb2⟩ := e1.mod.blt
  obtain ⟨mA, O, _⟩ := ins_get I.hok (x02 _ _ ha)
  have hsup := T.sup
  unfold PySem.W.ks_superIn at hsup
  rw [hcd] at hsup
  have hsup : PySem.W.alongIn K "__init__" ((cdD.mro.dropWhile (· != .ref D)).drop 1) = some (some (.ref g)) := hsup
  obtain ⟨oD, hD0, hD2⟩ : ∃ oD, K.lookup D = some oD ∧ oD.data = .cls cdD := by
    unfold PySem.W.clsIn at hcd
    split at hcd
    · rename_i c d cd' sl ho
      cases hcd
      exact ⟨_, ho, rfl⟩
    · cases hcd
  obtain ⟨of, hof, hofc⟩ : ∃ of, K.lookup g = some of ∧ of.cls = .type "function" := by
    have ht' : (K.lookup g).map (·.cls) = some (.type "function") := T.typ
    cases z : K.lookup g with
    | none => rw [z] at ht'; cases ht'
    | some of => rw [z] at ht'; exact ⟨of, rfl, Option.some.inj ht'⟩
  have fin : ∀ {H' : Hp} {s' : Shared} {σ' : L2.St} {pins : List (Addr × Obj)}, Inv (ncx CX0 P w K mg base supN ⟨"__init__", qual, defArgs st, defBody st, defScope st, [("__class__", cc)], c⟩ f A outer s2 H2 E) pins σ' H' s' → Q .non H' → CE outer P w H s Q .none s' :=
    fun {H' s' σ' pins} J q => ⟨.non, H', J.os.trans os2, J.bare, un.trans J.base, J.hok, rfl, q⟩
  subst hX
  rw [hbd]
  unfold supBody
  refine ks_wpAt_execs_cons (ks_wpAt_Expr_any ?_ ?_ rfl)
  · refine PySem.W.pw_starcall2 rfl ?_
    obtain ⟨hh, gg, dd, tt, oo⟩ := s3
    refine ks_wpAt_super_base hks hfree rfl rfl (KX3 _ _ lk) rfl har rfl (KX3 _ _ lcode) rfl hvs hfile T.top ?_
    refine PySem.W.ks_loadName_global S.kind hks (PySem.Calls.loadGlobal_builtin (e1.mod.glob.keeps bk) T.free (hb1.keeps bk) ((hb2 "super" (by decide)).trans boot_super) ⟨rfl, ?_⟩)
    refine wpAny_loadName_free S.kind hfree (c := cc) (by simp) ⟨_, KX3 _ _ lcell, rfl⟩ ?_
    refine wpAny_loadName_local S.kind (by rw [harg]; exact hsl) hns3 (by rw [harg]; exact hself) ?_
    refine ks_wpAny_isType_cls (KX3 _ _ hD0) hD2 ⟨rfl, ?_⟩
    refine ks_wpAny_call_super (KX3 _ _ hD0) hD2 O.obj rfl (fun c z => nomatch z) (PySem.W.looks_mroIn KX3 T.sub) (fun h' eso kss => ?_)
    have I2 := I.kept (t' := tt) kss
    have KX4 : K.In h' := I2.kIn
    refine PySem.W.pw_getAttr_super eso (PySem.W.looks_opaque KX4 T.opq) (l₀ := cdD.mro) (fun A Q E s k q => wpAny_bind ((PySem.W.looks_clsIn KX4 hcd) A _ E s k (wpAny_pure q))) rfl KX4 hsup (KX4 _ _ hof) hofc haD rfl ?_
    have nq : H2 h'.objs.size = none := I2.hok.fresh (Nat.le_refl _)
    have I3 := I2.laid (t' := tt + 1) (a := h'.objs.size) (o := .met g a) (h' := h'.push (PySem.W.methodObj (.ref g) (.ref a))) (fun b u z => Heap.get?_push_of_some _ z) (Nat.le_refl _) (show (h'.push (PySem.W.methodObj (.ref g) (.ref a))).get? h'.objs.size = some (PySem.W.methodObj (.ref g) (.ref a)) from Heap.get?_push_size h' rfl)
    obtain ⟨q, hqq⟩ : ∃ q, q = h'.objs.size := ⟨_, rfl⟩
    rw [← hqq] at nq I3 ⊢
    obtain ⟨Hm, hHm⟩ : ∃ Hm, Hm = upd H2 q (.met g a) := ⟨_, rfl⟩
    rw [← hHm] at I3
    have hmq : Hm q = some (.met g a) := by rw [hHm]; exact upd_same
    have xm : Ext H2 Hm := fun b o e => by rw [hHm, upd_ne (ne_of_none e nq)]; exact e
    have h1 : PE (ncx CX0 P w K mg base supN ⟨"__init__", qual, defArgs st, defBody st, defScope st, [("__class__", cc)], c⟩ f A outer s2 H2 E) (.Name "word" p2) (tVar 1) := pe_var (i := 1) rfl (.inl hwl)
    have h2 : PE (ncx CX0 P w K mg base supN ⟨"__init__", qual, defArgs st, defBody st, defScope st, [("__class__", cc)], c⟩ f A outer s2 H2 E) (.Name "parts" p3) (tVar 2) := pe_var (i := 2) rfl (.inl hpl)
    refine PySem.W.ks_call (P := PySem.W.MethP K q g (.ref a)) rfl (PySem.W.keeps_M T.fi) (PySem.Calls.evalArgs_plain (PySem.Calls.spliced_cons (thn (h1.run [] _ _ _ (fun v G => v = x ∧ G = Hm) I3 ⟨x, rfl, rfl, rfl⟩) fun v1 s6 h6 => PySem.W.ks_spliced ?_)))
    obtain ⟨y1, H6, I6, ry1, ey, eH⟩ := h6
    subst ey
    subst eH
    refine thn (h2.run [] s6 _ _ (fun v G => v = .ref p ∧ G = H6) I6 ⟨.ref p, rfl, rfl, rfl⟩) fun v2 s7 h7 => ?_
    obtain ⟨y2, H7, I7, ry2, ey2, eH2⟩ := h7
    subst ey2
    subst eH2
    obtain rfl : v2 = Value.ref p := ry2
    refine StX.star_any I7 (.inl (.inl (.inl (xm _ _ hpt)))) fun us s8 I8 rvs => PySem.Calls.spliced_nil ?_
    show PySem.W.MethP K q g (.ref a) s8.heap ∧ wpAny _ _ (call (.ref q) (v1 :: (us ++ [])) []) _ _ s8
    rw [List.append_nil]
    refine ⟨met_P I8 hmq, thn (wpAny_call (PySem.W.method_call (met_P I8 hmq).1 (run_fnR (E := E) (us := Value.ref a :: v1 :: us) (vs := V.ref a :: y1 :: rest) G rr (fun _ _ _ _ _ _ _ h => h.elim) I8 (.cons rfl (.cons ry1 rvs)) (hq H7 (x02.trans xm))))) fun u s9 h9 => ?_⟩
    obtain ⟨v, H', J, _, q9⟩ := h9
    exact wpAt_of_wpAny (wpAny_execs_nil (fin J q9))
  · exact I.quiet
end
end Pk
end

section -- PwT
set_option linter.all false
set_option maxRecDepth 100000
set_option maxHeartbeats 4000000
/-! PwT: the pure reading of gcd, repr of trees, bool of instances, min, sorted, [::k], f(n = e), C(e, *es), x, y, z = .. -/
namespace Pw
open PySem PySem.Spec L2 Pk Evl Pv
open PyProof.Rows hiding St
section
variable {S : Type} {W : Wd S} {E : XK}
def gGcd : List PV → (PV → Prop) → Prop := fun xs F => two xs fun x y => asI x fun a => asI y fun b => F (.int ((a.natAbs.gcd b.natAbs : Nat) : Int))
instance ac_gcd : AC rGcd gGcd false := ⟨fun {A H xs us F Q} l r h k => by
  obtain ⟨x, y, u, v, rfl, rfl, rx, ry, h2⟩ := two_ok h r
  obtain ⟨a, rfl, h3⟩ := asI_ok h2
  obtain ⟨b, rfl, h4⟩ := asI_ok h3
  cases rx; cases ry
  exact ⟨a, b, rfl, k _ H (.int _) rfl (fun z => nomatch z) (Ex.refl H) h4⟩⟩
def gReprT (R : Addr) (d : Nat) : List PV → (PV → Prop) → Prop := fun xs F => one xs fun x => ∃ a : Vt, x = tp R a ∧ okT a = true ∧ dep a ≤ d ∧ wt a ≤ 10000 ∧ F (.str (rpT a))
instance ac_reprT {R : Addr} {d : Nat} : AC (rReprT R d) (gReprT R d) false := ⟨fun {A H xs us F Q} l r h k => by
  obtain ⟨x, u, rfl, rfl, rx, a, rfl, ok, hd, hw, hF⟩ := one_ok h r
  exact ⟨a, u, rfl, rx.less (fun _ z => z.elim), ok, hd, hw, fun H' e => k _ H' (.str _) rfl (fun z => nomatch z) e hF⟩⟩
def rMin2 : List V → Hp → VK → Prop := fun xs H Q => ∃ i j, xs = [.int i, .int j] ∧ Q (.int (if j < i then j else i)) H
theorem call_min2P {X : Cx} (hc : X.calm = true) : CallR X (.builtin "min") rMin2 := call_min2 hc
def gMin2 : List PV → (PV → Prop) → Prop := fun xs F => two xs fun x y => asI x fun a => asI y fun b => F (.int (if b < a then b else a))
instance ac_min2 : AC rMin2 gMin2 false := ⟨fun {A H xs us F Q} l r h k => by
  obtain ⟨x, y, u, v, rfl, rfl, rx, ry, h2⟩ := two_ok h r
  obtain ⟨a, rfl, h3⟩ := asI_ok h2
  obtain ⟨b, rfl, h4⟩ := asI_ok h3
  cases rx; cases ry
  exact ⟨a, b, rfl, k _ H (.int _) rfl (fun z => nomatch z) (Ex.refl H) h4⟩⟩
/-- bool(o), o of one of two classes with an own __bool__ -/
def rBoolO (C : Addr) (r : List V → Hp → VK → Prop) : List V → Hp → VK → Prop := fun xs H Q => ∃ (a dx : Addr) (fs : List (Str × V)), xs = [.ref a] ∧ H a = some (.ins C dx fs) ∧ r [.ref a] H fun v G => ∃ k, v = .bl k ∧ Q (.bl k) G
theorem call_boolP {X : Cx} {C f : Addr} {r : List V → Hp → VK → Prop} (hs : PySem.W.findIn X.K (.ref C) "__bool__" = some (some (.ref f))) (hf : PySem.W.isFn X.K (.ref f) = true) (c : RunAt X X.A.in1.in1 f r) : CallR X (.type "bool") (rBoolO C r) := call_boolO hs hf c
def rOr (r1 r2 : List V → Hp → VK → Prop) : List V → Hp → VK → Prop := fun vs H Q => r1 vs H Q ∨ r2 vs H Q
theorem call_or {X : Cx} {f : Value} {r1 r2 : List V → Hp → VK → Prop} (c1 : CallR X f r1) (c2 : CallR X f r2) : CallR X f (rOr r1 r2) := callR_or c1 c2
instance ac_or {r1 r2 : List V → Hp → VK → Prop} {g1 g2 : List PV → (PV → Prop) → Prop} {b1 b2 : Bool} [i1 : AC r1 g1 b1] [i2 : AC r2 g2 b2] : AC (rOr r1 r2) (fun xs F => g1 xs F ∨ g2 xs F) (b1 && b2) := ⟨fun {A H xs us F Q} l r h k => h.elim
  (fun h => .inl (i1.run l r h fun w H' z rz nz e hz => k w H' z rz (fun b => nz (by cases b1 <;> simp_all)) e hz))
  (fun h => .inr (i2.run l r h fun w H' z rz nz e hz => k w H' z rz (fun b => nz (by cases b2 <;> simp_all)) e hz))⟩
def gBoolO (C : Addr) (pre : FP Unit) : List PV → (PV → Prop) → Prop := fun xs F => one xs fun x => asO x fun C1 _ _ => C1 = C ∧ pre [x] () (fun z _ => asB z fun b => F (.bl b)) fun _ _ _ _ => False
instance ac_boolO {C : Addr} {pre : FP Unit} {E : XK} : AC (rBoolO C (fun vs H Q => spF W0 1 pre vs H Q E)) (gBoolO C pre) false := ⟨fun {A H xs us F Q} l r h k => by
  obtain ⟨x, u, rfl, rfl, rx, h1⟩ := one_ok h r
  obtain ⟨C1, ns, ys, rfl, rfl, h2⟩ := asO_ok h1
  obtain ⟨a, dx, ws, rfl, na, ha, ea, ra⟩ := id rx
  refine ⟨a, dx, ws, rfl, ha, rfl, A, _, (), _, _, ct0 l, RdL.cons rx RdL.nil, xl0, h2, fun z H' y s' ry f w hz => ?_⟩
  obtain ⟨c, rfl, hf⟩ := asB_ok hz
  exact ⟨c, ry, k _ H' (.bl c) rfl (fun z => nomatch z) (fr0 f) hf⟩⟩
/-- sorted(d), the keys all texts, or all ints -/
def rSortD : List V → Hp → VK → Prop := fun xs H Q => ∃ (a : Addr) (kvs : List (Key × V)) (ks : List Str), xs = [.ref a] ∧ L2.Rd H a (.dK kvs) ∧ kvs.map (·.1) = ks.map Sum.inr ∧ ks.length < 64 ∧ ∀ ys p, ys.Perm ks → sortedS ys = true → H p = none → Q (.ref p) (upd H p (.lst (ys.map V.str)))
def rSortDI : List V → Hp → VK → Prop := fun xs H Q => ∃ (a : Addr) (kvs : List (Key × V)) (ks : List Int), xs = [.ref a] ∧ L2.Rd H a (.dK kvs) ∧ kvs.map (·.1) = ks.map Sum.inl ∧ ks.length < 64 ∧ ∀ (ys : List Int) (p : Addr), ys.Perm ks → ys.Pairwise (· ≤ ·) → H p = none → Q (.ref p) (upd H p (.lst (ys.map V.int)))
theorem call_sortP {X : Cx} (hc : X.calm = true) : CallR X (.builtin "sorted") (rOr rSortD rSortDI) := call_or (call_sortedD hc) (call_sortedDI hc)
def gSortD : List PV → (PV → Prop) → Prop := fun xs F => one xs fun x => asD x fun ks _ => ∃ zs : List Str, ks = zs.map Sum.inr ∧ zs.length < 64 ∧ ∀ ys : List Str, ys.Perm zs → sortedS ys = true → F (.lst (ys.map PV.str))
def gSortDI : List PV → (PV → Prop) → Prop := fun xs F => one xs fun x => asD x fun ks _ => ∃ zs : List Int, ks = zs.map Sum.inl ∧ zs.length < 64 ∧ ∀ ys : List Int, ys.Perm zs → ys.Pairwise (· ≤ ·) → F (.lst (ys.map PV.int))
theorem rdl_ints {A : Addr → Prop} {H : Hp} : ∀ ts : List Int, RdL A H (ts.map PV.int) (ts.map V.int)
  | [] => rfl
  | t :: ts => ⟨_, _, rfl, rfl, rdl_ints ts⟩
instance ac_sortD : AC rSortD gSortD true := ⟨fun {A H xs us F Q} l r h k => by
  obtain ⟨x, u, rfl, rfl, rx, h1⟩ := one_ok h r
  obtain ⟨ks, ys, rfl, zs, rfl, hl, hF⟩ := asD_ok h1
  obtain ⟨a, ws, rfl, na, ha, ea, ra⟩ := rx
  refine ⟨a, ws, zs, rfl, ha, ea, hl, fun ys p hp hs np => ?_⟩
  have rl : RdL (fun a => A a ∨ a = p) (upd H p (.lst (ys.map V.str))) (ys.map PV.str) (ys.map V.str) := rdl_str ys
  exact k _ _ (.lst (ys.map PV.str)) ⟨p, _, rfl, fun z => l p z np, upd_same, rdl_str ys⟩ (fun _ => ⟨p, rfl, np, _, upd_same, rl⟩) (Ex.new np) (hF ys hp hs)⟩
instance ac_sortDI : AC rSortDI gSortDI true := ⟨fun {A H xs us F Q} l r h k => by
  obtain ⟨x, u, rfl, rfl, rx, h1⟩ := one_ok h r
  obtain ⟨ks, ys, rfl, zs, rfl, hl, hF⟩ := asD_ok h1
  obtain ⟨a, ws, rfl, na, ha, ea, ra⟩ := rx
  refine ⟨a, ws, zs, rfl, ha, ea, hl, fun ys p hp hs np => ?_⟩
  have rl : RdL (fun a => A a ∨ a = p) (upd H p (.lst (ys.map V.int))) (ys.map PV.int) (ys.map V.int) := rdl_ints ys
  exact k _ _ (.lst (ys.map PV.int)) ⟨p, _, rfl, fun z => l p z np, upd_same, rdl_ints ys⟩ (fun _ => ⟨p, rfl, np, _, upd_same, rl⟩) (Ex.new np) (hF ys hp hs)⟩
/-! ### x < y, of ints or of texts -/
def rLtS : R2 := fun x y H Q => ∃ i j, x = .str i ∧ y = .str j ∧ Q (.bl (decide (i.cps.toList < j.cps.toList))) H
def r2Or (r1 r2 : R2) : R2 := fun x y H Q => r1 x y H Q ∨ r2 x y H Q
theorem op_or {X : Cx} {op : Value → Value → Sem Value} {r1 r2 : R2} (h1 : OpR X op r1) (h2 : OpR X op r2) : OpR X op (r2Or r1 r2) := fun pins s σ H x y v u Q I rx ry h => h.elim (h1 pins s σ H x y v u Q I rx ry) (h2 pins s σ H x y v u Q I rx ry)
theorem op_ltP {X : Cx} : OpR X (compareOp .Lt) (r2Or (rI0 fun i j => .bl (decide (i < j))) rLtS) := op_or op_lt op_lt_str
def gLtS : PV → PV → (PV → Prop) → Prop := fun x y F => asS x fun a => asS y fun b => F (.bl (decide (a.cps.toList < b.cps.toList)))
instance ao_ltS : AO rLtS gLtS false := ⟨fun {A H x y u v F Q} l r1 r2 h k => by
  obtain ⟨a, rfl, h2⟩ := asS_ok h
  obtain ⟨b, rfl, h3⟩ := asS_ok h2
  cases r1; cases r2
  exact ⟨a, b, rfl, rfl, k _ H (.bl _) rfl (fun z => nomatch z) (Ex.refl H) h3⟩⟩
instance ao_or {r1 r2 : R2} {g1 g2 : PV → PV → (PV → Prop) → Prop} {b1 b2 : Bool} [i1 : AO r1 g1 b1] [i2 : AO r2 g2 b2] : AO (r2Or r1 r2) (fun x y F => g1 x y F ∨ g2 x y F) (b1 && b2) := ⟨fun {A H x y u v F Q} l rx ry h k => h.elim
  (fun h => .inl (i1.run l rx ry h fun w H' z rz nz e hz => k w H' z rz (fun b => nz (by cases b1 <;> simp_all)) e hz))
  (fun h => .inr (i2.run l rx ry h fun w H' z rz nz e hz => k w H' z rz (fun b => nz (by cases b2 <;> simp_all)) e hz))⟩
/-! ### xs[::k] -/
def fStep (fe : FE S) (fk : FO S) : FE S := fun ρ s F X => fe ρ s (fun x s1 => asL x fun l => fk ρ s1 (fun o s2 => (o = some 1 ∧ F (.lst l) s2) ∨ (o = some (-1) ∧ F (.lst l.reverse) s2)) X) X
instance ae_step {K : PySem.W.Frag} {te : TE} {tk : TO} {fe : FE S} {fk : FO S} {b : Bool} [ie : AE W E te fe b] [ik : AP W E tk fk] : AE W E (tStep K te tk) (fStep fe fk) true := ⟨fun {A σ H ρ s F X Q} c r0 x h k =>
  ie.run c r0 x h fun u H1 p s1 rp _ f1 w1 h1 => by
    obtain ⟨l, rfl, h2⟩ := asL_ok h1
    refine ik.run (c.next f1 w1) (r0.next c f1) (x.next f1) h2 fun o H2 s2 f2 w2 h3 => ?_
    obtain ⟨a, vs, rfl, na, ha, rl⟩ := (c.next f1 w1).fr rp f2
    have c2 := (c.next f1 w1).next f2 w2
    rcases h3 with ⟨rfl, hF⟩ | ⟨rfl, hF⟩
    · exact ⟨a, vs, 1, rfl, rfl, .inl rfl, sq_of ha, fun q hq => k _ _ (.lst l) s2 (rd_lst c2 hq rl) (fun _ => (new_lst hq rl).back w2 (f1.trans f2)) ((f1.trans f2).trans (Fr.of (Ex.new hq))) (W.stab w2 (Ex.new hq)) hF⟩
    · exact ⟨a, vs, -1, rfl, rfl, .inr rfl, sq_of ha, fun q hq => k _ _ (.lst l.reverse) s2 (rd_lst c2 hq rl.rev) (fun _ => (new_lst hq rl.rev).back w2 (f1.trans f2)) ((f1.trans f2).trans (Fr.of (Ex.new hq))) (W.stab w2 (Ex.new hq)) hF⟩⟩
/-! ### f(n = e), of a def that lets nothing out -/
def fCallK (n : Nat) (pre : FP S) (fa : FA S) : FE S := fun ρ s F X => fa ρ s (fun xs s1 => xs.length = n ∧ pre xs s1 F fun _ _ _ _ => False) X
instance ae_callK {n : Nat} {pre : FP S} {ta : TA} {fa : FA S} [ia : AA W E ta fa] : AE W E (tCSK (fun _ vs H Q => spF W n pre vs H Q E0) ta) (fCallK n pre fa) false := ⟨fun {A σ H ρ s F X Q} c r0 x h k =>
  ia.run c r0 x h fun vs H1 xs s1 rv f1 w1 h1 =>
    ⟨by rw [← rv.len]; exact h1.1, A, _, s1, F, _, c.next f1 w1, rv, fun C d ns ys ws H2 s2 a b g f w q => q.elim, h1.2, fun v H2 z s2 rz f2 w2 h2 => k v H2 z s2 rz (fun z => nomatch z) (f1.trans f2) w2 h2⟩⟩
/-! ### C(e, ..), any number of them, of an __init__ that lets nothing out -/
def spIs (W : Wd S) (C : Addr) (pre : FI_ S) : Sp := fun vs H Q E => ∃ n, spI W C n pre vs H Q E
def fMakeR (C : Addr) (pre : FI_ S) (fa : FA S) : FE S := fun ρ s F X => fa ρ s (fun xs s1 => pre xs s1 (fun ns ys s2 => F (.ins C ns ys) s2) fun _ _ _ _ => False) X
instance ae_makeR {C : Addr} {pre : FI_ S} {ta : TA} {fa : FA S} [ia : AA W E ta fa] : AE W E (StX.tMakeR C (spIs W C pre) E0 ta) (fMakeR C pre fa) true := ⟨fun {A σ H ρ s F X Q} c r0 x h k =>
  ia.run c r0 x h fun vs H1 xs s1 rv f1 w1 h1 => fun p dp hp hdp ne =>
    ⟨xs.length, make_run (c.next f1 w1) rv rfl h1 (fun v H' y s' ry ny f w q => k v H' y s' ry (fun _ => ny.back w1 f1) (f1.trans f) w q) hp hdp ne⟩⟩
/-! ### x, y, z = a, b, c -/
def fPar3 (i j l : Nat) (f : FA S) : FS S := fun ρ s G => f (hide ρ) s (fun xs s1 => ∃ x y z, xs = [x, y, z] ∧ G.nx (((ρ.set i (.sh x)).set j (.sh y)).set l (.sh z)) s1) G.ex
instance as_par3 {ta : TA} {f : FA S} {i j l : Nat} [ia : AA W E ta f] : AS W E (tPar3 i j l ta) (fPar3 i j l f) := ⟨fun {A0 H0 ps H σ ρ s D G} r x h k =>
  ia.run r.ctH r.vrH (r.xlH x) h fun vs H' xs s' rv f' w' h' => by
    obtain ⟨y1, y2, y3, rfl, h2⟩ := h'
    obtain ⟨u1, vs1, e1, r1, rv⟩ := rv
    obtain ⟨u2, vs2, e2, r2, rv⟩ := rv
    obtain ⟨u3, vs3, e3, r3, rv⟩ := rv
    subst e1 e2 e3
    cases rv
    have r' := r.next f' w'
    refine ⟨u1, u2, u3, rfl, k.nx _ _ _ _ (((r'.setS r1 i).setS (r2.less fun a q => AO_set r'.len q) j).setS (r3.less fun a q => AO_set r'.len (AO_set (r'.setS r1 i).len q)) l) h2⟩⟩
end
end Pw
namespace Pw
open PySem PySem.Spec L2 Pk Evl Pv
open PyProof.Rows hiding St
section
variable {S : Type} {W : Wd S} {E : XK}
/-- x, y = a, b where a is new: x keeps it as its own -/
def fParO (i j : Nat) (fa fb : FE S) : FS S := fun ρ s G => fa (hide ρ) s (fun x s1 => fb (hide ρ) s1 (fun y s2 => ∀ a, G.nx ((ρ.set i (.own a x)).set j (.sh y)) s2) G.ex) G.ex
instance (priority := high) as_parO {ta tb : TE} {fa fb : FE S} {i j : Nat} {b : Bool} [ia : AE W E ta fa true] [ib : AE W E tb fb b] : AS W E (tPar i j (tCons ta (tCons tb tNil))) (fun ρ s G => fParO i j fa fb ρ s G ∨ fPar i j (fCons fa (fCons fb fNil)) ρ s G) := ⟨fun {A0 H0 ps H σ ρ s D G} r x h k => by
  rcases h with h | h
  · refine ia.run r.ctH r.vrH (r.xlH x) h fun v H1 y s1 ry ny f1 w1 h1 => ?_
    obtain ⟨p, rfl, hp, op⟩ := ny rfl
    have hp1 : H1 p ≠ none := OwnAt.some op
    have c1 := (r.ctH.next f1 w1).more hp1
    have npf : ¬ W.pf p := fun z => by
      have := r.lvO p (.inl (r.sa p (W.ps z)))
      exact this hp
    have v1 : VR W (fun a => AO_ A0 σ ρ a ∨ a = p) H1 σ (hide ρ) := r.vrH.to (fun a o n z => f1 a o n z) fun a o n z => ⟨fun q => q.elim n fun e => (by rw [e, hp] at z; cases z), f1 a o (fun q => n (.inl (r.sa a (W.ps q)))) z⟩
    have x1 : XL W (fun a => AO_ A0 σ ρ a ∨ a = p) H1 E G.ex := ((r.xlH x).next f1).less fun a z => .inl z
    refine ib.run c1 v1 x1 h1 fun u H2 z s2 rz _ f2 w2 h2 => ?_
    have n2 : New (AO_ A0 σ ρ) H H2 y (.ref p) := ⟨p, rfl, hp, op.to (fun o z => f2 p o npf z) (fun a o na z => ⟨na, f2 a o (fun z2 => na (.inl (.inl (r.sa a (W.ps z2))))) z⟩)⟩
    obtain ⟨a, r2⟩ := r.setO (f1.trans f2) w2 n2 i
    refine ⟨.ref p, u, rfl, k.nx _ _ _ _ (r2.setS (rz.less fun b q => ?_) j) (h2 a)⟩
    rcases q with q | ⟨m, x', e1, e2⟩
    · exact .inl (.inl q)
    · by_cases c : i = m
      · subst c
        rw [List.getElem?_set] at e2
        split at e2
        · split at e2
          · cases e2; exact .inr rfl
          · cases e2
        · exact absurd rfl ‹¬ i = i›
      · rw [List.getElem?_set_ne c] at e1 e2
        exact .inl (.inr ⟨m, x', e1, e2⟩)
  · exact AS.run (W := W) (E := E) (ts := tPar i j (tCons ta (tCons tb tNil))) (f := fPar i j (fCons fa (fCons fb fNil))) r x h k⟩
end
end Pw
end

section -- PwU
set_option linter.all false
set_option maxRecDepth 100000
set_option maxHeartbeats 4000000
/-! PwU: steps of statements whose expressions stand for told values. -/
namespace Pw
open PySem PySem.Spec L2 Pk Evl Pv
open PyProof.Rows hiding St
section
variable {S : Type} {ρ : SEn} {r : En} {s : S} {G : DD S}
theorem ifs_f {ft : FT S} {f g : FS S} (ht : EvB (view ρ) ft false) (h : g ρ s G) : fIfS ft f g ρ s G := ht s _ _ (by show if false = true then _ else g ρ s G; exact iteF h)
theorem ifs_t {ft : FT S} {f g : FS S} (ht : EvB (view ρ) ft true) (h : f ρ s G) : fIfS ft f g ρ s G := ht s _ _ (by show if true = true then f ρ s G else _; exact iteT h)
theorem ifs_b {ft : FT S} {f g : FS S} {b : Bool} (ht : EvB (view ρ) ft b) (h1 : b = true → f ρ s G) (h2 : b = false → g ρ s G) : fIfS ft f g ρ s G := ht s _ _ (if_b h1 h2)
theorem evb_not {ft : FT S} {b : Bool} (h : EvB r ft b) : EvB r (fNot ft) (!b) := fun s F X k => h s _ X k
theorem evb_and {ft fu : FT S} {b c : Bool} (h : EvB r ft b) (h2 : b = true → EvB r fu c) : EvB r (fAnd ft fu) (b && c) := fun s F X k => h s _ X (by
  cases b with
  | true => exact h2 rfl s F X k
  | false => exact k)
theorem evb_or {ft fu : FT S} {b c : Bool} (h : EvB r ft b) (h2 : b = false → EvB r fu c) : EvB r (fOr ft fu) (b || c) := fun s F X k => h s _ X (by
  cases b with
  | false => exact h2 rfl s F X k
  | true => exact k)
theorem evp_andV {fa fb : FE S} {b c : Bool} (h : EvP r fa (.bl b)) (h2 : b = true → EvP r fb (.bl c)) : EvP r (fAndV fa fb) (.bl (b && c)) := fun s F X k => h s _ X (by
  cases b with
  | true => exact h2 rfl s F X k
  | false => exact k)
theorem evp_orV {fa fb : FE S} {b c : Bool} (h : EvP r fa (.bl b)) (h2 : b = false → EvP r fb (.bl c)) : EvP r (fOrV fa fb) (.bl (b || c)) := fun s F X k => h s _ X (by
  cases b with
  | false => exact h2 rfl s F X k
  | true => exact k)
theorem evp_notV {fa : FE S} {b : Bool} (h : EvP r fa (.bl b)) : EvP r (fNotV fa) (.bl (!b)) := fun s F X k => h s _ X k
theorem evp_call0 {n : Nat} {pre : FP S} {ds : List PV} {fa : FA S} {xs : List PV} {z : PV} (ha : EvPs r fa xs) (hn : (xs ++ ds).length = n) (h : ∀ (s : S) (F : PV → S → Prop) X, F z s → pre (xs ++ ds) s F X) : EvP r (fCall0 n pre ds fa) z := fun s G X k => ha s _ X ⟨hn, h s G _ k⟩
theorem evp_callK {n : Nat} {pre : FP S} {fa : FA S} {xs : List PV} {z : PV} (ha : EvPs r fa xs) (hn : xs.length = n) (h : ∀ (s : S) (F : PV → S → Prop) X, F z s → pre xs s F X) : EvP r (fCallK n pre fa) z := fun s G X k => ha s _ X ⟨hn, h s G _ k⟩
theorem evp_make0 {C : Addr} {n : Nat} {pre : FI_ S} {ds : List PV} {fa : FA S} {xs : List PV} {ns : List Str} {ys : List PV} (ha : EvPs r fa xs) (hn : (xs ++ ds).length = n) (h : ∀ (s : S) (F : List Str → List PV → S → Prop) X, F ns ys s → pre (xs ++ ds) s F X) : EvP r (fMake0 C n pre ds fa) (.ins C ns ys) := fun s G X k => ha s _ X ⟨hn, h s _ _ k⟩
theorem evp_makeR {C : Addr} {pre : FI_ S} {fa : FA S} {xs : List PV} {ns : List Str} {ys : List PV} (ha : EvPs r fa xs) (h : ∀ (s : S) (F : List Str → List PV → S → Prop) X, F ns ys s → pre xs s F X) : EvP r (fMakeR C pre fa) (.ins C ns ys) := fun s G X k => ha s _ X (h s _ _ k)
theorem evp_fld {K : PySem.W.Frag} {i : Nat} {f : Str} {C : Addr} {ns : List Str} {xs : List PV} {x : PV} (e : r[i]? = some (.val (.ins C ns xs))) (c : Cls K C) (n : NoAttr K C f) (l : lookP f ns xs = some x) : EvP (S := S) r (fFldO K i f) x := fun s F X k => by
  unfold fFldO
  rw [e]
  refine ⟨c, n, ?_⟩
  rw [l]
  exact k
theorem set_ok {i : Nat} {fe : FE S} {x : PV} {b : Bool} (he : EvP (hide ρ) fe x) (h : G.nx (ρ.set i (.sh x)) s) : fAsg b i fe ρ s G := .inl (he s _ _ h)
theorem setS_ok {i : Nat} {fe : FE S} {x : PV} {b : Bool} (he : EvP (view ρ) fe x) (sc : scal x = true) (h : G.nx (ρ.set i (.sh x)) s) : fAsg b i fe ρ s G := .inr (.inl (he s _ _ ⟨sc, h⟩))
theorem setO_ok {i : Nat} {fe : FE S} {x : PV} (he : EvP (hide ρ) fe x) (h : ∀ a, G.nx (ρ.set i (.own a x)) s) : fAsg true i fe ρ s G := .inr (.inr ⟨rfl, he s _ _ h⟩)
theorem ret_ok {fe : FE S} {x : PV} (he : EvP (view ρ) fe x) (h : G.rt x s) : fRet fe ρ s G := he s _ _ h
/-- walks -/
theorem lc_evs {bg : PV → En → (En → Prop) → Prop} {ft : FT S} {fe : FE S} {ρ0 : En} {X : XF S} {g : PV → PV} {i : Nat} : ∀ (l acc : List PV) (s : S) (G : List PV → S → Prop), (∀ x ∈ l, EvP (ρ0.set i (.val x)) fe (g x)) → G (acc ++ l.map g) s → lcP (bName i) fYes fe ρ0 X l acc s G
  | [], acc, s, G, _, h => by rw [List.map_nil, List.append_nil] at h; exact h
  | x :: l, acc, s, G, hf, h => hf x List.mem_cons_self s _ X (lc_evs (bg := bg) (ft := ft) l (acc ++ [g x]) s G (fun y m => hf y (List.mem_cons_of_mem _ m)) (by rw [List.append_assoc]; exact h))
theorem evp_lc {i : Nat} {fi : FI S} {fe : FE S} {g : PV → PV} {items : List PV} (hi : ∀ (s : S) (G : List PV → S → Prop) (X : XF S), G items s → fi r s G X) (hl : items.length ≤ 900000) (he : ∀ x ∈ items, EvP ((wipeP r [i]).set i (.val x)) fe (g x)) : EvP r (fLc [i] fi (bName i) fYes fe [i]) (.lst (items.map g)) := fun s F X k =>
  ⟨by show ([i].all fun j => [i].contains j) = true; simp, hi s _ X ⟨hl, lc_evs (bg := bName i) (ft := fYes) items [] s _ he (by rw [List.nil_append]; exact k)⟩⟩
theorem lc_maps {α : Type} {bg : PV → En → (En → Prop) → Prop} {fe : FE S} {ρ0 : En} {X : XF S} {a b : α → PV} {i : Nat} : ∀ (l : List α) (acc : List PV) (s : S) (G : List PV → S → Prop), (∀ x ∈ l, EvP (ρ0.set i (.val (a x))) fe (b x)) → G (acc ++ l.map b) s → lcP (bName i) fYes fe ρ0 X (l.map a) acc s G
  | [], acc, s, G, _, h => by rw [List.map_nil, List.append_nil] at h; exact h
  | x :: l, acc, s, G, hf, h => hf x List.mem_cons_self s _ X (lc_maps (bg := bg) l (acc ++ [b x]) s G (fun y m => hf y (List.mem_cons_of_mem _ m)) (by rw [List.append_assoc]; exact h))
/-- a comprehension over told items -/
theorem evp_lcm {α : Type} {i : Nat} {fi : FI S} {fe : FE S} {l : List α} {a b : α → PV} {items : List PV} (hi : ∀ (s : S) (G : List PV → S → Prop) (X : XF S), G items s → fi r s G X) (el : items = l.map a) (hl : l.length ≤ 900000) (he : ∀ x ∈ l, EvP ((wipeP r [i]).set i (.val (a x))) fe (b x)) : EvP r (fLc [i] fi (bName i) fYes fe [i]) (.lst (l.map b)) := fun s F X k =>
  ⟨by show ([i].all fun j => [i].contains j) = true; simp, hi s _ X (by subst el; exact ⟨by rw [List.length_map]; exact hl, lc_maps (bg := bName i) l [] s _ he (by rw [List.nil_append]; exact k)⟩)⟩
theorem lc_filters {α : Type} {ft : FT S} {fe : FE S} {ρ0 : En} {X : XF S} {a b : α → PV} {q : α → Bool} {i : Nat} : ∀ (l : List α) (acc : List PV) (s : S) (G : List PV → S → Prop), (∀ x ∈ l, EvB (ρ0.set i (.val (a x))) ft (q x)) → (∀ x ∈ l, EvP (ρ0.set i (.val (a x))) fe (b x)) → G (acc ++ (l.filter q).map b) s → lcP (bName i) ft fe ρ0 X (l.map a) acc s G
  | [], acc, s, G, _, _, h => by rw [List.filter_nil, List.map_nil, List.append_nil] at h; exact h
  | x :: l, acc, s, G, hq, hf, h => hq x List.mem_cons_self s _ X (by
    by_cases c : q x = true
    · rw [c]
      refine iteT (hf x List.mem_cons_self s _ X (lc_filters l (acc ++ [b x]) s G (fun y m => hq y (List.mem_cons_of_mem _ m)) (fun y m => hf y (List.mem_cons_of_mem _ m)) ?_))
      rw [List.filter_cons_of_pos c, List.map_cons] at h
      rw [List.append_assoc]
      exact h
    · rw [Bool.eq_false_iff.mpr c]
      refine iteF (lc_filters l acc s G (fun y m => hq y (List.mem_cons_of_mem _ m)) (fun y m => hf y (List.mem_cons_of_mem _ m)) ?_)
      rw [List.filter_cons_of_neg c] at h
      exact h)
theorem evp_lcf {α : Type} {i : Nat} {fi : FI S} {ft : FT S} {fe : FE S} {l : List α} {a b : α → PV} {q : α → Bool} {items : List PV} (hi : ∀ (s : S) (G : List PV → S → Prop) (X : XF S), G items s → fi r s G X) (el : items = l.map a) (hl : l.length ≤ 900000) (hq : ∀ x ∈ l, EvB ((wipeP r [i]).set i (.val (a x))) ft (q x)) (he : ∀ x ∈ l, EvP ((wipeP r [i]).set i (.val (a x))) fe (b x)) : EvP r (fLc [i] fi (bName i) ft fe [i]) (.lst ((l.filter q).map b)) := fun s F X k =>
  ⟨by show ([i].all fun j => [i].contains j) = true; simp, hi s _ X (by subst el; exact ⟨by rw [List.length_map]; exact hl, lc_filters l [] s _ hq he (by rw [List.nil_append]; exact k)⟩)⟩
theorem evp_dget {fd fk : FE S} {ks : List Key} {xs : List PV} {k : Key} {z : PV} (hd : EvP r fd (.dct ks xs)) (hk : EvP r fk (keyV k)) (e : valP ks xs k = some z) : EvP r (fDGet fd fk) z := fun s G X g => hd s _ X (hk s _ X (by
  have : pick (valP ks xs k) fun z => G z s := by rw [e]; exact g
  cases k <;> exact this))
theorem evp_tupS {fa : FE S} {l : List PV} (h : EvP r fa (.lst l)) : EvP r (fCB gTupS (fCons fa fNil)) (.tup l) := fun s G X g => h s _ X g
theorem fi_l {fa : FE S} {l : List PV} (h : EvP r fa (.lst l)) : ∀ (s : S) (G : List PV → S → Prop) (X : XF S), G l s → fiL fa r s G X := fun s G X g => h s _ X g
theorem fi_lt {fa : FE S} {l : List PV} {κ : Bool} (h : EvP r fa (if κ then .lst l else .tup l)) : ∀ (s : S) (G : List PV → S → Prop) (X : XF S), G l s → fiLT fa r s G X := fun s G X g => by
  cases κ <;> exact h s _ X g
end
theorem tp_dct {R : Addr} {ks : List Key} {xs : List Vt} : tp R (.dct ks xs) = .dct ks (tps R xs) := by unfold tp; rfl
theorem tp_lst {R : Addr} {xs : List Vt} : tp R (.lst xs) = .lst (tps R xs) := by unfold tp; rfl
theorem tp_tup {R : Addr} {xs : List Vt} : tp R (.tup xs) = .tup (tps R xs) := by unfold tp; rfl
/-! ### expressions that move the world: what they may stand for -/
section
variable {S : Type} {r : En} {ρ : SEn} {s : S} {X : XF S} {G : DD S}
def EvR (r : En) (fe : FE S) (s : S) (P : PV → S → Prop) : Prop := ∀ (G : PV → S → Prop) (X : XF S), (∀ x s', P x s' → G x s') → fe r s G X
theorem evr_p {fe : FE S} {x : PV} (h : EvP r fe x) : EvR r fe s (fun y s' => y = x ∧ s' = s) := fun G X k => h s G X (k x s ⟨rfl, rfl⟩)
theorem EvR.to {fe : FE S} {P Q : PV → S → Prop} (h : EvR r fe s P) (k : ∀ x s', P x s' → Q x s') : EvR r fe s Q := fun G X q => h G X fun x s' hx => q x s' (k x s' hx)
theorem op_R {g : PV → PV → (PV → Prop) → Prop} {fa fb : FE S} {P : PV → S → Prop} {F : PV → S → Prop} (h : EvR r fa s P) (k : ∀ x s1, P x s1 → fb r s1 (fun y s2 => g x y fun z => F z s2) X) : fOp g fa fb r s F X := h _ X k
theorem un_R {g : PV → (PV → Prop) → Prop} {fa : FE S} {P : PV → S → Prop} {F : PV → S → Prop} (h : EvR r fa s P) (k : ∀ x s1, P x s1 → g x fun z => F z s1) : fUn g fa r s F X := h _ X k
theorem cons_R {fa : FE S} {fr : FA S} {P : PV → S → Prop} {F : List PV → S → Prop} (h : EvR r fa s P) (k : ∀ x s1, P x s1 → fr r s1 (fun xs s2 => F (x :: xs) s2) X) : fCons fa fr r s F X := h _ X k
theorem asg_R {fe : FE S} {b : Bool} {i : Nat} {P : PV → S → Prop} (h : EvR (hide ρ) fe s P) (k : ∀ x s1, P x s1 → G.nx (ρ.set i (.sh x)) s1) : fAsg b i fe ρ s G := .inl (h _ _ k)
theorem asgO_R {fe : FE S} {i : Nat} {P : PV → S → Prop} (h : EvR (hide ρ) fe s P) (k : ∀ x s1, P x s1 → ∀ a, G.nx (ρ.set i (.own a x)) s1) : fAsg true i fe ρ s G := .inr (.inr ⟨rfl, h _ _ k⟩)
theorem ret_R {fe : FE S} {P : PV → S → Prop} (h : EvR (view ρ) fe s P) (k : ∀ x s1, P x s1 → G.rt x s1) : fRet fe ρ s G := h _ _ k
theorem step_R {fe fk : FE S} {l : List PV} {P : PV → S → Prop} {F : PV → S → Prop} (he : EvP r fe (.lst l)) (hk : EvR r fk s P) (k : ∀ x s1, P x s1 → asI x fun i => (i = 1 ∧ F (.lst l) s1) ∨ (i = -1 ∧ F (.lst l.reverse) s1)) : fStep fe (fPart fk) r s F X := he s _ X (hk _ X fun x s1 hx => by
  obtain ⟨i, rfl, h⟩ := asI_ok (k x s1 hx)
  rcases h with ⟨rfl, h⟩ | ⟨rfl, h⟩
  · exact .inl ⟨rfl, h⟩
  · exact .inr ⟨rfl, h⟩)
theorem evr_if {ft : FT S} {fa fb : FE S} {b : Bool} {P : PV → S → Prop} (ht : EvB r ft b) (ha : b = true → EvR r fa s P) (hb : b = false → EvR r fb s P) : EvR r (fIf ft fa fb) s P := fun G X g => ht s _ X (by
  cases b with
  | true => exact ha rfl G X g
  | false => exact hb rfl G X g)
/-- a comprehension whose items move the world -/
theorem lc_R {fe : FE Nat} {ρ0 : En} {X : XF Nat} {i c : Nat} {Q : PV → Prop} (hf : ∀ (v : EV) (k : Nat), c ≤ k → EvR (ρ0.set i v) fe k (fun x k' => Q x ∧ k ≤ k' + c)) : ∀ (items acc : List PV) (k : Nat) (G : List PV → Nat → Prop), items.length * c ≤ k → (∀ (ys : List PV) (k' : Nat), ys.length = items.length → (∀ y ∈ ys, Q y) → k ≤ k' + items.length * c → G (acc ++ ys) k') → lcP (bName i) fYes fe ρ0 X items acc k G
  | [], acc, k, G, _, h => by
    have z := h [] k rfl (fun _ q => nomatch q) (by omega)
    rw [List.append_nil] at z
    exact z
  | x :: items, acc, k, G, hk, h => by
    rw [List.length_cons, Nat.add_mul, Nat.one_mul] at hk
    refine hf (.val x) k (by omega) _ X fun y k1 hy => ?_
    refine lc_R hf items (acc ++ [y]) k1 G (by omega) fun ys k' hl hq hk' => ?_
    rw [List.append_assoc]
    refine h (y :: ys) k' (by rw [List.length_cons, List.length_cons, hl]) (fun z hz => ?_) (by rw [List.length_cons, Nat.add_mul, Nat.one_mul]; omega)
    rcases List.mem_cons.mp hz with e | hz
    · rw [e]; exact hy.1
    · exact hq z hz
end
theorem cut_take (l : List PV) (k : Nat) : cutP l none (some (k : Int)) = l.take k := by
  unfold cutP
  rw [HT.sIx_nat]
  show (l.drop 0).take (min k l.length - 0) = _
  rw [List.drop_zero, Nat.sub_zero]
  by_cases c : k ≤ l.length
  · rw [Nat.min_eq_left c]
  · rw [Nat.min_eq_right (by omega), List.take_of_length_le (Nat.le_refl _), List.take_of_length_le (by omega)]
theorem cut_drop (l : List PV) (k : Nat) : cutP l (some (k : Int)) none = l.drop k := by
  unfold cutP
  rw [HT.sIx_nat]
  show (l.drop (min k l.length)).take (l.length - min k l.length) = _
  by_cases c : k ≤ l.length
  · rw [Nat.min_eq_left c, List.take_of_length_le (by rw [List.length_drop]; omega)]
  · rw [Nat.min_eq_right (by omega), List.drop_of_length_le (by omega), List.drop_of_length_le (by omega), List.take_nil]
theorem merge_self : ∀ (l : List (Key × PV)) (ks : List Key) (xs : List PV), (ks ++ l.map (·.1)).Nodup → mergeP ks xs l = (ks ++ l.map (·.1), xs ++ l.map (·.2))
  | [], ks, xs, _ => by rw [List.map_nil, List.map_nil, List.append_nil, List.append_nil]; rfl
  | q :: l, ks, xs, nd => by
    have no : ¬ (ks.any fun j => decide (j = q.1)) = true := fun z => by
      obtain ⟨j, mj, e⟩ := List.any_eq_true.mp z
      have e := of_decide_eq_true e
      rw [List.nodup_append] at nd
      exact nd.2.2 j mj q.1 (by rw [List.map_cons]; exact List.mem_cons_self) e
    show mergeP (keysP ks q.1) (valsP ks xs q.1 q.2) l = _
    unfold keysP valsP
    rw [if_neg no, if_neg no, merge_self l _ _ (by rw [List.append_assoc]; exact nd), List.append_assoc, List.append_assoc]
    rfl
/-- f(self, word, *parts), bound -/
theorem bind_star {fd : FuncData} {av : Arg} (hp : fd.params.posonlyargs = []) (ha : fd.params.args.map (·.arg) = (["self", "word"] : List Str)) (hv : fd.params.vararg = some av) (hk : fd.params.kwonlyargs = []) (hw : fd.params.kwarg = none) (hd : fd.defaults = .none) (u v : Value) (rest : List Value) :
    bindArgs fd ⟨u :: v :: rest, []⟩ = (newTuple rest >>= fun t => pure [(("self" : Str), u), (("word" : Str), v), (av.arg, t)]) := by
  unfold bindArgs
  simp only [hp, ha, hv, hk, hw, hd, Option.isNone_some, Bool.and_false, List.map_nil, List.nil_append]
  rfl
end Pw
end

section -- K03p
set_option linter.all false
set_option maxRecDepth 100000
set_option maxHeartbeats 4000000
namespace K03
open PySem PySem.Spec L2 Pk
open PyProof.Rows hiding St
/-! ### the text by places -/
def top (i : Nat) : Stmt := PySem.Challenge.pw_peekproof_k03_papers_keep_what_they_tell.main.body.getD i (.Pass ⟨0, 0, 0, 0⟩)
abbrev sIsInt : Stmt := top 3
abbrev sFixed : Stmt := top 9
abbrev sPInit : Stmt := inClass (top 10) 0
abbrev sPEq : Stmt := inClass (top 10) 1
abbrev sPBool : Stmt := inClass (top 10) 2
abbrev sDInit : Stmt := inClass (top 11) 0
abbrev sDBool : Stmt := inClass (top 11) 1
abbrev sRInit : Stmt := inClass (top 14) 1
abbrev sREq : Stmt := inClass (top 14) 13
abbrev sRStr : Stmt := inClass (top 14) 14
abbrev sRRepr : Stmt := inClass (top 14) 15
abbrev sPen : Stmt := top 20
abbrev sDraw : Stmt := top 21
abbrev sPick : Stmt := top 22
abbrev sValue : Stmt := top 23
abbrev sFix2 : Stmt := top 24
abbrev sSpoil : Stmt := top 25
abbrev sSame : Stmt := top 26
abbrev sOther : Stmt := top 27
abbrev sMade : Stmt := top 28
abbrev sKept : Stmt := top 29
abbrev sFRight : Stmt := top 30
abbrev sPRight : Stmt := top 31
abbrev sLaw : Stmt := top 32
/-- the built-in names are free -/
structure Bi (mg : Str → Option Value) : Prop where
  n_isinstance : mg "isinstance" = none
  n_int : mg "int" = none
  n_bool : mg "bool" = none
  n_str : mg "str" = none
  n_list : mg "list" = none
  n_tuple : mg "tuple" = none
  n_dict : mg "dict" = none
  n_len : mg "len" = none
  n_all : mg "all" = none
  n_abs : mg "abs" = none
  n_range : mg "range" = none
  n_repr : mg "repr" = none
  n_zip : mg "zip" = none
  n_sorted : mg "sorted" = none
  n_min : mg "min" = none
  n_super : mg "super" = none
end K03
end

section -- K03a
set_option linter.all false
set_option maxRecDepth 100000
set_option maxHeartbeats 4000000
/-! kinds of values; is_integer; Ratio(..), its ==, str, repr -/
namespace K03
open PySem PySem.Spec L2 Pk Evl Pv Pw
open PyProof.Rows hiding St
/-- what the text tells of the class Ratio, at R -/
structure RC (K : PySem.W.Frag) (mg : Str → Option Value) (R : Addr) : Prop where
  cl : Cls K R
  nT : NoAttr K R "top"
  nB : NoAttr K R "bottom"
  ty : TyC K R
  me : PySem.W.kitOne K (.ref R) (.ref R) = some true
  kI : PySem.W.kitOne K (.ref R) (.type "int") = some false
  kB : PySem.W.kitOne K (.ref R) (.type "bool") = some false
  kS : PySem.W.kitOne K (.ref R) (.type "str") = some false
  kD : PySem.W.kitOne K (.ref R) (.type "dict") = some false
  kL : PySem.W.kitOne K (.ref R) (.type "list") = some false
  kT : PySem.W.kitOne K (.ref R) (.type "tuple") = some false
  iN : PySem.W.kitOne K (.type "NoneType") (.ref R) = some false
  iB : PySem.W.kitOne K (.type "bool") (.ref R) = some false
  iI : PySem.W.kitOne K (.type "int") (.ref R) = some false
  iS : PySem.W.kitOne K (.type "str") (.ref R) = some false
  iL : PySem.W.kitOne K (.type "list") (.ref R) = some false
  iT : PySem.W.kitOne K (.type "tuple") (.ref R) = some false
  iD : PySem.W.kitOne K (.type "dict") (.ref R) = some false
  gl : mg "Ratio" = some (.ref R)
theorem RC.v {K : PySem.W.Frag} {mg : Str → Option Value} {R : Addr} (c : RC K mg R) : ∃ u, mg "Ratio" = some u ∧ RelV (.ref R) u := ⟨_, c.gl, rfl⟩
/-! ### kinds -/
def isLst : Vt → Bool | .lst _ => true | _ => false
def isTup : Vt → Bool | .tup _ => true | _ => false
def isDct : Vt → Bool | .dct _ _ => true | _ => false
def isStr : Vt → Bool | .str _ => true | _ => false
def isBl : Vt → Bool | .bl _ => true | _ => false
def isInt : Vt → Bool | .bl _ => true | .int _ => true | _ => false
def isRat : Vt → Bool | .rat _ _ => true | _ => false
section
variable {K : PySem.W.Frag} {mg : Str → Option Value} {R : Addr} {F : PV → Prop} {x : Vt}
theorem isi_lst (c : RC K mg R) (k : F (.bl (isLst x))) : gIsi K [tp R x, .ty "list"] F := by
  cases x <;> first | exact ⟨_, _, _, rfl, rfl, rfl, k⟩ | exact ⟨_, _, _, rfl, ⟨c.ty, rfl⟩, c.kL, k⟩
theorem isi_tup (c : RC K mg R) (k : F (.bl (isTup x))) : gIsi K [tp R x, .ty "tuple"] F := by
  cases x <;> first | exact ⟨_, _, _, rfl, rfl, rfl, k⟩ | exact ⟨_, _, _, rfl, ⟨c.ty, rfl⟩, c.kT, k⟩
theorem isi_dct (c : RC K mg R) (k : F (.bl (isDct x))) : gIsi K [tp R x, .ty "dict"] F := by
  cases x <;> first | exact ⟨_, _, _, rfl, rfl, rfl, k⟩ | exact ⟨_, _, _, rfl, ⟨c.ty, rfl⟩, c.kD, k⟩
theorem isi_bl (c : RC K mg R) (k : F (.bl (isBl x))) : gIsi K [tp R x, .ty "bool"] F := by
  cases x <;> first | exact ⟨_, _, _, rfl, rfl, rfl, k⟩ | exact ⟨_, _, _, rfl, ⟨c.ty, rfl⟩, c.kB, k⟩
theorem isi_int (c : RC K mg R) (k : F (.bl (isInt x))) : gIsi K [tp R x, .ty "int"] F := by
  cases x <;> first | exact ⟨_, _, _, rfl, rfl, rfl, k⟩ | exact ⟨_, _, _, rfl, ⟨c.ty, rfl⟩, c.kI, k⟩
theorem isi_rat (c : RC K mg R) (k : F (.bl (isRat x))) : gIsi K [tp R x, .adr R] F := by
  cases x
  · exact ⟨_, _, _, rfl, rfl, c.iN, k⟩
  · exact ⟨_, _, _, rfl, rfl, c.iB, k⟩
  · exact ⟨_, _, _, rfl, rfl, c.iI, k⟩
  · exact ⟨_, _, _, rfl, rfl, c.iS, k⟩
  · exact ⟨_, _, _, rfl, ⟨c.ty, rfl⟩, c.me, k⟩
  · exact ⟨_, _, _, rfl, rfl, c.iL, k⟩
  · exact ⟨_, _, _, rfl, rfl, c.iT, k⟩
  · exact ⟨_, _, _, rfl, rfl, c.iD, k⟩
theorem any2 {t a b : Value} {x y : Bool} (h1 : PySem.W.kitOne K t a = some x) (h2 : PySem.W.kitOne K t b = some y) : PySem.W.kitAny K t [a, b] = some (x || y) := by
  simp only [PySem.W.kitAny, h1, h2]
  cases x <;> cases y <;> rfl
theorem isi_LT (c : RC K mg R) (k : F (.bl (isLst x || isTup x))) : gIsiT K [tp R x, .tup [.ty "list", .ty "tuple"]] F := by
  cases x <;> first | exact ⟨_, _, _, rfl, rfl, rfl, k⟩ | exact ⟨_, _, _, rfl, ⟨c.ty, rfl⟩, any2 c.kL c.kT, k⟩
theorem isi_BS (c : RC K mg R) (k : F (.bl (isBl x || isStr x))) : gIsiT K [tp R x, .tup [.ty "bool", .ty "str"]] F := by
  cases x <;> first | exact ⟨_, _, _, rfl, rfl, rfl, k⟩ | exact ⟨_, _, _, rfl, ⟨c.ty, rfl⟩, any2 c.kB c.kS, k⟩
end
/-! ### Ratio -/
def sg (t b : Int) : Int := if b < 0 then -((Nat.gcd t.natAbs b.natAbs : Nat) : Int) else ((Nat.gcd t.natAbs b.natAbs : Nat) : Int)
theorem sg_ne {t b : Int} (h : b ≠ 0) : sg t b ≠ 0 := by
  have : 0 < Nat.gcd t.natAbs b.natAbs := Nat.gcd_pos_of_pos_right _ (by omega)
  unfold sg
  split <;> omega
theorem sg_abs (t b : Int) : (sg t b).natAbs = Nat.gcd t.natAbs b.natAbs := by
  unfold sg
  split <;> omega
theorem sg_log {t b : Int} (h : b ≠ 0) (hb : b.natAbs < 2 ^ 8000) : CDivZ t (sg t b) := by
  refine divZ (a := 8000) (sg_ne h) ?_ (by decide) (by decide)
  rw [sg_abs]
  exact Nat.lt_of_le_of_lt (Nat.gcd_le_right _ (by omega)) hb
def preRI : FI_ S := fun xs s F _ => two xs fun x y => asI x fun t => asI y fun b => b ≠ 0 ∧ b.natAbs < 2 ^ 8000 ∧ F ratN [.int (t.fdiv (sg t b)), .int (b.fdiv (sg t b))] s
section
variable {P : Program} {w : World} {K : PySem.W.Frag} {mg : Str → Option Value} {base : Heap} {S : Type} {W : Wd S} {R : Addr}
def preIsI (K : PySem.W.Frag) (R : Addr) : FP S := fun xs s F _ => ∃ x : Vt, xs = [tp R x] ∧ F (.bl (isInt x && !isBl x)) s
theorem sc_isi : FnScope ["value"] ["value"] (defScope sIsInt) := ⟨rfl, rfl, rfl, by decide +kernel, rfl, by decide +kernel, by decide +kernel⟩
theorem ok_isi {f : Addr} {fd : FuncData} (F : Fun K "is_integer" "is_integer" sIsInt f fd) (B : Bi mg) (c : RC K mg R) : FnOk P w K mg base CX0 1 f fd ["value"] (spF W 1 (preIsI K R)) := by
  refine F.ok sc_isi (fun vs H Q E h => h.len) (fun cdv A outer s H vs Q E hr h => ?_)
  have nd := sc_isi.nd
  refine ⟨_, (pss_one (ps_ret (pe_and (pe_callB call_isi (by rfl) B.n_isinstance (by decide +kernel) (pa_cons (pv 0) (pa_cons (pe_tyname "int" B.n_int (by decide +kernel)) pa_nil))) (pe_one (pe_not (pe_callB call_isi (by rfl) B.n_isinstance (by decide +kernel) (pa_cons (pv 0) (pa_cons (pe_tyname "bool" B.n_bool (by decide +kernel)) pa_nil)))))))), pure_run h fun xs s F X hl h => ?_⟩
  obtain ⟨x, rfl, h⟩ := h
  show gIsi K [tp R x, .ty "int"] fun z => asB z fun b => if b = true then gIsi K [tp R x, .ty "bool"] (fun z => asB z fun b => F (.bl (!b)) s) else F (.bl false) s
  refine isi_int c ?_
  show if isInt x = true then _ else _
  cases q : isInt x with
  | true =>
    rw [if_pos rfl]
    refine isi_bl c ?_
    rw [q, Bool.true_and] at h
    exact h
  | false =>
    rw [if_neg Bool.false_ne_true]
    rw [q, Bool.false_and] at h
    exact h
theorem sc_ri : FnScope ["self", "top", "bottom", "shared"] ["self", "top", "bottom"] (defScope sRInit) := ⟨rfl, rfl, rfl, by decide +kernel, rfl, by decide +kernel, by decide +kernel⟩
theorem putN_r : putN "bottom" (putN "top" []) = ratN := by decide +kernel
theorem putX_r {x y : PV} : putX "bottom" y (putN "top" []) (putX "top" x [] []) = [x, y] := by
  show (if ("top" : Str) = "bottom" then [y] else [x, y]) = [x, y]
  rw [if_neg (by decide +kernel)]
theorem ok_ri {f fI : Addr} {fd fdI : FuncData} (F : FunD K "__init__" "Ratio.__init__" (defArgs sRInit) (defBody sRInit) (defScope sRInit) [.int 1] [] f fd) (c : RC K mg R) (gcd : mg "gcd" = some (.builtin "math.gcd"))
    (G_isi : FnOk P w K mg base CX0 1 fI fdI ["value"] (spF W 1 (preIsI K R))) (b_isi : Binds K fdI ["value"] []) (d_isi : Df K mg "is_integer" fI) : FnOk P w K mg base CX0 2 f fd ["self", "top", "bottom"] (spI W R 2 preRI) := by
  refine F.ok sc_ri (fun vs H Q E h => ?_) (fun cdv A outer s H vs Q E hr h => ?_)
  · obtain ⟨x, dx, ws, B, rfl, _, _, _, _, hl, _⟩ := h
    rw [List.length_cons, hl]
    rfl
  · have nd := sc_ri.nd
    refine ⟨_, (pss_cons (ps_if (pt_not (pt_val (pe_cs (calls_fn G_isi (hr.mono (by decide)) b_isi .nil pass0) d_isi.1 d_isi.2 (pa_cons (pv 1) pa_nil))))
(pss_one ps_never)
pss_nil)
(pss_cons (ps_if (PW.pt (pw_or (pt_not (pt_val (pe_cs (calls_fn G_isi (hr.mono (by decide)) b_isi .nil pass0) d_isi.1 d_isi.2 (pa_cons (pv 2) pa_nil)))) (pw_or1 (pt_cmpR op_eq (pv 2) pe_int (nomark _)))))
(pss_one ps_never)
pss_nil)
(pss_cons (ps_set (i := 3) nd rfl (Or.inl rfl) (pe_callBfun cr_gcd (by rfl) gcd (pa_cons (pv 1) (pa_cons (pv 2) pa_nil))))
(pss_cons (ps_if (pt_cmpR op_lt (pv 2) pe_int (nomark _))
(pss_one (ps_set (i := 3) nd rfl (Or.inl rfl) (pe_un un_neg (pv 3))))
pss_nil)
(pss_cons (ps_fld (pv 0) (pe_op op_fdivZ (pv 1) (pv 3)) rfl)
(pss_one (ps_fld (pv 0) (pe_op op_fdivZ (pv 2) (pv 3)) rfl))))))), init_run (W := W) h fun x xs s F X hl h => ?_⟩
    match xs, h with
    | [a, b], h =>
      obtain ⟨t, rfl, h⟩ := asI_ok h
      obtain ⟨b, rfl, b0, bl, h⟩ := asI_ok h
      have init : initI ["self", "top", "bottom", "shared"] R x [PV.int t, PV.int b] = [.own x (.ins R [] []), .sh (.int t), .sh (.int b), .no] := rfl
      rw [init]
      have b0' : decide (b = 0) = false := decide_eq_false b0
      have go : ∀ g : Int, g = sg t b → fFz (fSeq (fSet K 0 "top" (fOp (gI CDivZ fun i j => V.int (i.fdiv j)) (fVar 1) (fVar 3))) (fFz (fSet K 0 "bottom" (fOp (gI CDivZ fun i j => V.int (i.fdiv j)) (fVar 2) (fVar 3))))) [SL.own x (PV.ins R [] []), SL.sh (PV.int t), SL.sh (PV.int b), SL.sh (PV.int g)] s (endsI x R F X) := fun g hg => by
        subst hg
        refine .inl ⟨c.cl, c.nT, by decide, .inl ⟨sg_log b0 bl, .inl ⟨c.cl, c.nB, by show 1 < 1000; decide, .inl ⟨⟨sg_ne b0, (sg_log (t := t) b0 bl).2⟩, ?_⟩⟩⟩⟩
        refine ⟨_, _, rfl, ?_⟩
        have e1 : putX ("bottom" : Str) (.int (b.fdiv (sg t b))) (putN "top" []) (putX "top" (.int (t.fdiv (sg t b))) [] []) = [.int (t.fdiv (sg t b)), .int (b.fdiv (sg t b))] := putX_r
        show F (putN "bottom" (putN "top" [])) (putX ("bottom" : Str) (.int (b.fdiv (sg t b))) (putN "top" []) (putX "top" (.int (t.fdiv (sg t b))) [] [])) s
        rw [putN_r, e1]
        exact h
      have isi : ∀ (r : En) (i : Nat) (k : Int), r[i]? = some (.val (.int k)) → EvB (S := S) r (fNot (fB (fCall0 1 (preIsI K R) (List.map toPV []) (fCons (fVar i) fNil)))) false := fun r i k e => evb_not (b := true) (evb_of (evp_call0 (evps_cons (evp_var e) evps_nil) rfl fun s F X k => ⟨.int _, rfl, k⟩))
      refine ifs_f (isi _ 1 t rfl) (.inl (ifs_f ?_ (.inl (.inl (.inl ?_)))))
      · refine evb_or (b := false) (c := false) (isi _ 2 b rfl) fun _ => evb_of (evp_op (evp_var rfl) evp_c fun F k => ?_)
        show F (.bl (decide (b = 0)))
        rw [b0']
        exact k
      show if decide (b < 0) = true then _ else _
      by_cases n : b < 0
      · rw [decide_eq_true n]
        refine iteT (.inl ?_)
        exact go _ (by unfold sg; rw [if_pos n])
      · rw [decide_eq_false n]
        refine iteF ?_
        exact go _ (by unfold sg; rw [if_neg n])
/-- a ratio's fields -/
theorem rat_fields {A : Addr → Prop} {H : Hp} {t b : Int} {v : V} (r : Rd A H (tp R (.rat t b)) v) : ∃ a dx, v = .ref a ∧ H a = some (.ins R dx [("top", .int t), ("bottom", .int b)]) := by
  unfold tp at r
  obtain ⟨a, dx, ws, rfl, _, ha, e, v1, r1, e1, q1, v2, r2, e2, q2, e3⟩ := r
  cases q1; cases q2; cases e3
  refine ⟨a, dx, rfl, ?_⟩
  rw [ha]
  rcases ws with _ | ⟨⟨n1, w1⟩, _ | ⟨⟨n2, w2⟩, ws⟩⟩
  · cases e1
  · cases e2.symm.trans (List.cons.inj e1).2.symm
  · have a1 := List.cons.inj e1
    have a2 := List.cons.inj (a1.2.trans e2)
    have a3 := List.map_eq_nil_iff.mp a2.2
    have b1 := List.cons.inj e
    have b2 := List.cons.inj b1.2
    subst a3
    rw [show n1 = "top" from b1.1, show n2 = "bottom" from b2.1, show w1 = .int t from a1.1, show w2 = .int b from a2.1]
theorem lk_top {t b : Int} : ([("top", V.int t), ("bottom", V.int b)] : List (Str × V)).lookup ("top" : Str) = some (V.int t) := by
  rw [List.lookup_cons, show (("top" : Str) == "top") = true by decide +kernel]
theorem lk_bot {t b : Int} : ([("top", V.int t), ("bottom", V.int b)] : List (Str × V)).lookup ("bottom" : Str) = some (V.int b) := by
  rw [List.lookup_cons, show (("bottom" : Str) == "top") = false by decide +kernel]
  show ([("bottom", V.int b)] : List (Str × V)).lookup ("bottom" : Str) = _
  rw [List.lookup_cons, show (("bottom" : Str) == "bottom") = true by decide +kernel]
theorem sc_rs : FnScope ["self"] ["self"] (defScope sRStr) := ⟨rfl, rfl, rfl, by decide +kernel, rfl, by decide +kernel, by decide +kernel⟩
theorem ok_rs {f : Addr} {fd : FuncData} (F : Fun K "__str__" "Ratio.__str__" sRStr f fd) (c : RC K mg R) (B : Bi mg) : FnOk P w K mg base CX0 1 f fd ["self"] (spF W0 1 (preRRp R)) := by
  refine F.ok sc_rs (fun vs H Q E h => h.len) (fun cdv A outer s H vs Q E hr h => ?_)
  have nd := sc_rs.nd
  refine ⟨_, (pss_cons (ps_if (pt_cmpR op_eq (pe_fld (pv 0) rfl) pe_int (nomark _))
(pss_one (ps_ret (pe_callTy call_str_int (by rfl) B.n_str (by decide +kernel) (pa_cons (pe_fld (pv 0) rfl) pa_nil))))
pss_nil)
(pss_one (ps_ret (pe_joined (.cons (pe_fmt (pe_fld (pv 0) rfl)) (.cons pe_str (.cons (pe_fmt (pe_fld (pv 0) rfl)) .nil))))))), ?_⟩
  obtain ⟨hl, A0, xs, s0, F0, X0, ct, rl, xl, ⟨t, b, rfl, ok, hF⟩, k⟩ := h
  obtain ⟨v0, vs0, e0, r0, e1⟩ := rl
  cases e1
  subst e0
  obtain ⟨x, dx, rfl, ex⟩ := rat_fields r0
  have es : ∀ a : Str, Str.empty ++ a = a := fun a => by
    show (⟨#[] ++ a.cps⟩ : Str) = a
    rw [Array.empty_append]
  have k : Q (.str (Pw.ratText t b)) H := k (.str (Pw.ratText t b)) H (.str (Pw.ratText t b)) s0 rfl Fr.refl ct.rel hF
  unfold okT at ok
  obtain ⟨ht, hb⟩ := Bool.and_eq_true_iff.mp ok
  have ht := of_decide_eq_true ht
  have hb := of_decide_eq_true hb
  refine ⟨_, rfl, x, R, dx, _, _, rfl, ex, c.cl, c.nB, lk_bot, rfl, _, rfl, ?_⟩
  have e1 : decide (V.int b = V.int 1) = decide (b = 1) := by simp
  rw [e1]
  refine if_b (fun z => ?_) (fun z => ?_)
  · refine ⟨_, rfl, x, R, dx, _, _, rfl, ex, c.cl, c.nT, lk_top, t, rfl, by omega, ?_⟩
    unfold Pw.ratText at k
    rw [if_pos (of_decide_eq_true z)] at k
    exact k
  · unfold Pw.ratText at k
    rw [if_neg (of_decide_eq_false z), ← es (Str.ofString (toString t))] at k
    have l1 := numLen ht
    have l2 := numLen hb
    refine ⟨_, rfl, x, R, dx, _, _, rfl, ex, c.cl, c.nT, lk_top, .inr ⟨t, rfl, by omega, _, rfl, ?_, _, rfl, ?_, ?_⟩⟩
    · rw [Str.length_append, len_empty]
      exact sz (by omega)
    · have l0 : (Str.ofString "/").length = 1 := by decide +kernel
      rw [Str.length_append, Str.length_append, len_empty, l0]
      exact sz (by omega)
    · refine ⟨_, rfl, x, R, dx, _, _, rfl, ex, c.cl, c.nB, lk_bot, .inr ⟨b, rfl, by omega, _, rfl, ?_, k⟩⟩
      have l0 : (Str.ofString "/").length = 1 := by decide +kernel
      rw [Str.length_append, Str.length_append, Str.length_append, len_empty, l0]
      exact sz (by omega)
theorem sc_rr : FnScope ["self"] ["self"] (defScope sRRepr) := ⟨rfl, rfl, rfl, by decide +kernel, rfl, by decide +kernel, by decide +kernel⟩
theorem ok_rr {f g : Addr} {fd gd : FuncData} (F : Fun K "__repr__" "Ratio.__repr__" sRRepr f fd) (B : Bi mg) (G_str : FnOk P w K mg base CX0 1 g gd ["self"] (spF W0 1 (preRRp R))) (b_str : Binds K gd ["self"] [])
    (fs : PySem.W.findIn K (.ref R) "__str__" = some (some (.ref g))) (is : PySem.W.isFn K (.ref g) = true) : FnOk P w K mg base CX0 5 f fd ["self"] (spF W0 1 (preRRp R)) := by
  refine F.ok sc_rr (fun vs H Q E h => h.len) (fun cdv A outer s H vs Q E hr h => ?_)
  have nd := sc_rr.nd
  have r3 := (hr.mono (by decide : 3 ≤ 4)).in1.in1
  refine ⟨_, (pss_one (ps_ret (pe_callTy (call_strO (C := R) r3.units0 fs is (runAt_fn G_str r3 rfl b_str pass0)) (by rfl) B.n_str (by decide +kernel) (pa_cons (pv 0) pa_nil)))), pure_run (W := W0) h fun xs s F X hl h => ?_⟩
  obtain ⟨t, b, rfl, ok, h⟩ := h
  exact ⟨rfl, t, b, rfl, ok, h⟩
theorem sc_re : FnScope ["self", "other"] ["self", "other"] (defScope sREq) := ⟨rfl, rfl, rfl, by decide +kernel, rfl, by decide +kernel, by decide +kernel⟩
theorem ok_re {f fI : Addr} {fd fdI : FuncData} (F : Fun K "__eq__" "Ratio.__eq__" sREq f fd) (c : RC K mg R) (B : Bi mg) (G_isi : FnOk P w K mg base CX0 1 fI fdI ["value"] (spF W0 1 (preIsI K R))) (b_isi : Binds K fdI ["value"] []) (d_isi : Df K mg "is_integer" fI) :
    FnOk P w K mg base CX0 2 f fd ["self", "other"] (spF W0 2 (preREq R)) := by
  refine F.ok sc_re (fun vs H Q E h => h.len) (fun cdv A outer s H vs Q E hr h => ?_)
  have nd := sc_re.nd
  refine ⟨_, (pss_cons (ps_if (pt_val (pe_callB call_isi (by rfl) B.n_isinstance (by decide +kernel) (pa_cons (pv 1) (pa_cons (pe_gv c.v) pa_nil))))
(pss_one (ps_ret (pe_and (pe_cmpR op_eq (pe_fld (pv 0) rfl) (pe_fld (pv 1) rfl) (nomark _)) (pe_one (pe_cmpR op_eq (pe_fld (pv 0) rfl) (pe_fld (pv 1) rfl) (nomark _))))))
pss_nil)
(pss_one (ps_ret (pe_and (pe_cs (calls_fn G_isi (hr.mono (by decide)) b_isi .nil pass0) d_isi.1 d_isi.2 (pa_cons (pv 1) pa_nil)) (pe_and (pe_cmpR op_eq (pe_fld (pv 0) rfl) pe_int (nomark _)) (pe_one (pe_cmpR op_eq (pe_fld (pv 0) rfl) (pv 1) (nomark _)))))))), pure_run (W := W0) h fun xs s F X hl h => ?_⟩
  obtain ⟨t, b, y, rfl, fy, h⟩ := h
  have lt : ∀ t b : Int, lookP "top" ratN [PV.int t, PV.int b] = some (.int t) := fun _ _ => rfl
  have lb : ∀ t b : Int, lookP "bottom" ratN [PV.int t, PV.int b] = some (.int b) := fun _ _ => rfl
  have g0 : ∀ f : Str, NoAttr K R f → ∀ x : PV, lookP f ratN [PV.int t, PV.int b] = some x → EvP (S := Unit) (view (initS ["self", "other"] [tp R (.rat t b), tp R y])) (fFldO K 0 f) x := fun f n x l => evp_fld rfl c.cl n l
  refine ifs_b (b := isRat y) (evb_of (evp_cb (evps_cons (evp_var rfl) (evps_cons evp_c evps_nil)) fun F k => isi_rat c k)) (fun hy => ?_) fun hy => .inl ?_
  · cases y <;> try cases hy
    rename_i t' b'
    have g1 : ∀ f : Str, NoAttr K R f → ∀ x : PV, lookP f ratN [PV.int t', PV.int b'] = some x → EvP (S := Unit) (view (initS ["self", "other"] [tp R (.rat t b), tp R (.rat t' b')])) (fFldO K 1 f) x := fun f n x l => evp_fld rfl c.cl n l
    refine ret_ok (evp_andV (b := decide (t = t')) (c := decide (b = b')) (evp_op (g0 _ c.nT _ (lt _ _)) (g1 _ c.nT _ (lt _ _)) fun F k => k) fun _ => evp_op (g0 _ c.nB _ (lb _ _)) (g1 _ c.nB _ (lb _ _)) fun F k => k) ?_
    unfold Pw.eqT at h
    exact h
  · refine ret_ok (evp_andV (b := isInt y && !isBl y) (c := Pw.eqT (.rat t b) y) (evp_call0 (evps_cons (evp_var rfl) evps_nil) rfl fun s F X k => ⟨y, rfl, k⟩) fun iy => ?_) ?_
    · cases y <;> try cases iy
      rename_i i
      unfold Pw.eqT
      exact evp_andV (b := decide (b = 1)) (c := decide (t = i)) (evp_op (g0 _ c.nB _ (lb _ _)) evp_c fun F k => k) fun _ => evp_op (g0 _ c.nT _ (lt _ _)) (evp_var rfl) fun F k => k
    · have e : (isInt y && !isBl y && Pw.eqT (.rat t b) y) = Pw.eqT (.rat t b) y := by cases y <;> first | (cases hy; done) | (unfold Pw.eqT; rfl)
      rw [e]
      exact h
end
end K03
end

section -- K03b
set_option linter.all false
set_option maxRecDepth 100000
set_option maxHeartbeats 4000000
/-! the keys in their order; what `fixed` gives -/
namespace K03
open PySem PySem.Spec L2 Pk Evl Pv Pw
open PyProof.Rows hiding St
def keyLt : Key → Key → Bool
  | .inl i, .inl j => decide (i < j)
  | .inr a, .inr b => decide (a.cps.toList < b.cps.toList)
  | .inl _, .inr _ => true
  | .inr _, .inl _ => false
def keyLe (a b : Key) : Prop := keyLt b a = false
theorem str_ext {a b : Str} (h : a.cps.toList = b.cps.toList) : a = b := by
  cases a; cases b
  have h : _ := Array.toList_inj.mp h
  simp at h
  rw [h]
theorem le_refl (a : Key) : keyLe a a := by
  cases a with
  | inl i => exact decide_eq_false (Int.lt_irrefl i)
  | inr a => exact decide_eq_false (List.lt_irrefl _)
theorem le_antisymm {a b : Key} (h : keyLe a b) (g : keyLe b a) : a = b := by
  cases a <;> cases b
  · rename_i i j
    have h := of_decide_eq_false h
    have g := of_decide_eq_false g
    rw [show i = j by omega]
  · cases g
  · cases h
  · have h := List.not_lt.mp (of_decide_eq_false h)
    have g := List.not_lt.mp (of_decide_eq_false g)
    rw [str_ext (List.le_antisymm h g)]
theorem le_trans {a b c : Key} (h : keyLe a b) (g : keyLe b c) : keyLe a c := by
  cases a <;> cases b <;> cases c <;> first | (cases h; done) | (cases g; done) | rfl | skip
  · have h := of_decide_eq_false h
    have g := of_decide_eq_false g
    exact decide_eq_false (by omega)
  · have h := List.not_lt.mp (of_decide_eq_false h)
    have g := List.not_lt.mp (of_decide_eq_false g)
    exact decide_eq_false (List.not_lt.mpr (List.le_trans h g))
theorem le_of_lt {a b : Key} (h : keyLt a b = true) : keyLe a b := by
  cases a <;> cases b <;> first | (cases h; done) | rfl | skip
  · have h := of_decide_eq_true h
    exact decide_eq_false (by omega)
  · have h := of_decide_eq_true h
    exact decide_eq_false fun z => List.lt_irrefl _ (List.lt_trans h z)
/-- the first of the least -/
def least : Key → List Key → Key
  | m, [] => m
  | m, k :: r => least (if keyLt k m = true then k else m) r
theorem least_ok : ∀ (r : List Key) (m : Key), (least m r = m ∨ least m r ∈ r) ∧ keyLe (least m r) m ∧ ∀ x ∈ r, keyLe (least m r) x
  | [], m => ⟨.inl rfl, le_refl m, fun _ h => nomatch h⟩
  | k :: r, m => by
    unfold least
    obtain ⟨h1, h2, h3⟩ := least_ok r (if keyLt k m = true then k else m)
    by_cases c : keyLt k m = true
    · rw [if_pos c] at h1 h2 h3 ⊢
      refine ⟨.inr (h1.elim (fun e => by rw [e]; exact List.mem_cons_self) fun e => List.mem_cons_of_mem _ e), le_trans h2 (le_of_lt c), fun x hx => ?_⟩
      rcases List.mem_cons.mp hx with e | hx
      · rw [e]; exact h2
      · exact h3 x hx
    · rw [if_neg c] at h1 h2 h3 ⊢
      refine ⟨h1.elim .inl fun e => .inr (List.mem_cons_of_mem _ e), h2, fun x hx => ?_⟩
      rcases List.mem_cons.mp hx with e | hx
      · rw [e]; exact le_trans h2 (by unfold keyLe; simpa using c)
      · exact h3 x hx
def outK (m : Key) (ks : List Key) : List Key := ks.filter fun x => decide (x ≠ m)
def sel : Nat → List Key → List Key
  | 0, _ => []
  | _ + 1, [] => []
  | n + 1, k :: r => least k (k :: r) :: sel n (outK (least k (k :: r)) (k :: r))
def orderK (ks : List Key) : List Key := sel ks.length ks
theorem least_mem {k : Key} {r : List Key} : least k (k :: r) ∈ k :: r := (least_ok (k :: r) k).1.elim (fun e => by rw [e]; exact List.mem_cons_self) id
theorem out_nodup {m : Key} {ks : List Key} (h : ks.Nodup) : (outK m ks).Nodup := h.sublist List.filter_sublist
theorem out_mem {m x : Key} {ks : List Key} : x ∈ outK m ks ↔ x ∈ ks ∧ x ≠ m := by
  unfold outK
  rw [List.mem_filter, decide_eq_true_iff]
theorem out_perm {m : Key} : ∀ {ks : List Key}, ks.Nodup → m ∈ ks → ks.Perm (m :: outK m ks)
  | k :: r, nd, h => by
    obtain ⟨n1, n2⟩ := List.nodup_cons.mp nd
    by_cases c : k = m
    · subst c
      have e : outK k (k :: r) = r := by
        unfold outK
        rw [List.filter_cons_of_neg (by simp)]
        exact List.filter_eq_self.mpr fun x hx => decide_eq_true fun z => n1 (by rw [← z]; exact hx)
      rw [e]
    · have hm : m ∈ r := (List.mem_cons.mp h).resolve_left fun e => c e.symm
      have e : outK m (k :: r) = k :: outK m r := by
        unfold outK
        rw [List.filter_cons_of_pos (by simp [c])]
      rw [e]
      exact ((out_perm n2 hm).cons k).trans (List.Perm.swap _ _ _)
theorem sel_ok : ∀ (n : Nat) (ks : List Key), ks.Nodup → ks.length ≤ n → (sel n ks).Perm ks ∧ (sel n ks).Pairwise keyLe
  | 0, ks, _, h => by
    have : ks = [] := List.eq_nil_of_length_eq_zero (by omega)
    subst this
    exact ⟨List.Perm.refl _, List.Pairwise.nil⟩
  | n + 1, [], _, _ => ⟨List.Perm.refl _, List.Pairwise.nil⟩
  | n + 1, k :: r, nd, h => by
    have hm := least_mem (k := k) (r := r)
    have hp := out_perm nd hm
    have hl := hp.length_eq
    rw [List.length_cons] at h
    rw [List.length_cons, List.length_cons] at hl
    obtain ⟨h1, h2⟩ := sel_ok n (outK (least k (k :: r)) (k :: r)) (out_nodup nd) (by omega)
    unfold sel
    exact ⟨(h1.cons _).trans hp.symm, List.pairwise_cons.mpr ⟨fun x hx => (least_ok (k :: r) k).2.2 x (out_mem.mp (h1.mem_iff.mp hx)).1, h2⟩⟩
theorem order_perm {ks : List Key} (h : ks.Nodup) : (orderK ks).Perm ks := (sel_ok _ ks h (Nat.le_refl _)).1
theorem order_eq {ks os : List Key} (h : ks.Nodup) (p : os.Perm ks) (q : os.Pairwise keyLe) : os = orderK ks :=
  List.Perm.eq_of_pairwise (le := keyLe) (fun _ _ _ _ => le_antisymm) q (sel_ok _ ks h (Nat.le_refl _)).2 (p.trans (order_perm h).symm)
theorem sorted_pair : ∀ (ys : List Str) (p : Str), risingS p ys = true → ((p :: ys).map (Sum.inr : Str → Key)).Pairwise keyLe
  | [], p, _ => List.pairwise_singleton _ _
  | x :: r, p, h => by
    unfold risingS at h
    obtain ⟨h1, h2⟩ := Bool.and_eq_true_iff.mp h
    have ih := sorted_pair r x h2
    have a : keyLe (.inr p) (.inr x) := by
      have h1 : ltCps x.cps.toList p.cps.toList = false := by simpa using h1
      rw [ltCps_eq] at h1
      exact h1
    rw [List.map_cons]
    refine List.pairwise_cons.mpr ⟨fun y hy => ?_, ih⟩
    rcases List.mem_cons.mp hy with e | hy
    · rw [e]; exact a
    · exact le_trans a ((List.pairwise_cons.mp ih).1 y hy)
theorem ints_pair : ∀ {ys : List Int}, ys.Pairwise (· ≤ ·) → (ys.map (Sum.inl : Int → Key)).Pairwise keyLe
  | [], _ => List.Pairwise.nil
  | x :: r, h => by
    obtain ⟨h1, h2⟩ := List.pairwise_cons.mp h
    rw [List.map_cons]
    refine List.pairwise_cons.mpr ⟨fun y hy => ?_, ints_pair h2⟩
    obtain ⟨j, hj, rfl⟩ := List.mem_map.mp hy
    exact decide_eq_false (by have := h1 j hj; omega)
theorem order_strs {zs ys : List Str} (h : (zs.map (Sum.inr : Str → Key)).Nodup) (p : ys.Perm zs) (q : sortedS ys = true) : ys.map (Sum.inr : Str → Key) = orderK (zs.map Sum.inr) := by
  refine order_eq h (p.map _) ?_
  cases ys with
  | nil => exact List.Pairwise.nil
  | cons y r => exact sorted_pair r y q
theorem order_ints {zs ys : List Int} (h : (zs.map (Sum.inl : Int → Key)).Nodup) (p : ys.Perm zs) (q : ys.Pairwise (· ≤ ·)) : ys.map (Sum.inl : Int → Key) = orderK (zs.map Sum.inl) := order_eq h (p.map _) (ints_pair q)
/-! ### values by their keys -/
def valK : List Key → List Vt → Key → Option Vt
  | k :: ks, x :: xs, j => if k = j then some x else valK ks xs j
  | _, _, _ => none
theorem valP_tp {R : Addr} {j : Key} : ∀ (ks : List Key) (xs : List Vt), valP ks (tps R xs) j = (valK ks xs j).map (tp R)
  | [], _ => by cases ‹List Vt› <;> (unfold tps valP valK; rfl)
  | _ :: _, [] => by unfold tps valP valK; rfl
  | k :: ks, x :: xs => by
    unfold tps valP valK
    by_cases c : k = j
    · rw [if_pos c, if_pos c]; rfl
    · rw [if_neg c, if_neg c]; exact valP_tp ks xs
theorem valK_mem {j : Key} : ∀ {ks : List Key} {xs : List Vt}, ks.length = xs.length → j ∈ ks → ∃ x, valK ks xs j = some x ∧ x ∈ xs
  | k :: ks, [], h, _ => nomatch h
  | k :: ks, x :: xs, h, m => by
    unfold valK
    by_cases c : k = j
    · rw [if_pos c]; exact ⟨x, rfl, List.mem_cons_self⟩
    · rw [if_neg c]
      obtain ⟨y, e, my⟩ := valK_mem (Nat.succ.inj h) ((List.mem_cons.mp m).resolve_left fun e => c e.symm)
      exact ⟨y, e, List.mem_cons_of_mem _ my⟩
def valD (ks : List Key) (xs : List Vt) (k : Key) : Vt := (valK ks xs k).getD .non
theorem valD_self : ∀ {ks : List Key} {xs : List Vt}, ks.Nodup → ks.length = xs.length → ks.map (valD ks xs) = xs
  | [], [], _, _ => rfl
  | k :: ks, x :: xs, nd, h => by
    obtain ⟨n1, n2⟩ := List.nodup_cons.mp nd
    rw [List.map_cons]
    have e1 : valD (k :: ks) (x :: xs) k = x := by unfold valD valK; rw [if_pos rfl]; rfl
    have e2 : ks.map (valD (k :: ks) (x :: xs)) = ks.map (valD ks xs) := List.map_congr_left fun j hj => by
      have : ¬ k = j := fun z => n1 (by rw [z]; exact hj)
      unfold valD
      rw [show valK (k :: ks) (x :: xs) j = valK ks xs j by show (if k = j then some x else valK ks xs j) = _; rw [if_neg this]]
    rw [e1, e2, valD_self n2 (Nat.succ.inj h)]
/-! ### what fixed gives -/
def pairT (k : Key) (y : Vt) : Vt := .tup [keyVt k, y]
def dfix (ks : List Key) (ys : List Vt) : List Vt := (orderK ks).map fun k => pairT k (valD ks ys k)
mutual
def fixT : Vt → Vt
  | .lst xs => .tup (fixTs xs)
  | .tup xs => .tup (fixTs xs)
  | .dct ks xs => .tup (dfix ks (fixTs xs))
  | .non => .non
  | .bl b => .bl b
  | .int i => .int i
  | .str z => .str z
  | .rat t b => .rat t b
def fixTs : List Vt → List Vt
  | [] => []
  | x :: xs => fixT x :: fixTs xs
end
theorem fixTs_map : ∀ xs : List Vt, fixTs xs = xs.map fixT
  | [] => by unfold fixTs; rfl
  | x :: xs => by unfold fixTs; rw [List.map_cons, fixTs_map xs]
theorem fixTs_len (xs : List Vt) : (fixTs xs).length = xs.length := by rw [fixTs_map, List.length_map]
theorem valK_map {f : Vt → Vt} {j : Key} : ∀ (ks : List Key) (xs : List Vt), valK ks (xs.map f) j = (valK ks xs j).map f
  | [], xs => by cases xs <;> (unfold valK; rfl)
  | _ :: _, [] => by unfold valK; rfl
  | k :: ks, x :: xs => by
    rw [List.map_cons]
    unfold valK
    by_cases c : k = j
    · rw [if_pos c, if_pos c]; rfl
    · rw [if_neg c, if_neg c]; exact valK_map ks xs
theorem fx_key (k : Key) : fxT (keyVt k) = true := by cases k <;> (unfold keyVt fxT; rfl)
theorem dfix_mem {ks : List Key} {ys : List Vt} {z : Vt} (hl : ks.length = ys.length) (nd : ks.Nodup) (h : z ∈ dfix ks ys) : ∃ k y, z = pairT k y ∧ k ∈ ks ∧ y ∈ ys := by
  obtain ⟨k, hk, rfl⟩ := List.mem_map.mp h
  have hk := (order_perm nd).mem_iff.mp hk
  obtain ⟨y, e, hy⟩ := valK_mem hl hk
  exact ⟨k, y, by unfold valD; rw [e]; rfl, hk, hy⟩
/-- what may be fixed -/
def Uni (ks : List Key) : Prop := (∃ zs : List Int, ks = zs.map Sum.inl) ∨ ∃ zs : List Str, ks = zs.map Sum.inr ∧ ∀ z ∈ zs, PyData.strOk z = true
mutual
def okF : Vt → Prop
  | .lst xs => xs.length ≤ 900 ∧ okFs xs
  | .tup xs => xs.length ≤ 900 ∧ okFs xs
  | .dct ks xs => ks.length = xs.length ∧ ks.Nodup ∧ ks.length < 64 ∧ Uni ks ∧ okFs xs
  | _ => True
def okFs : List Vt → Prop
  | [] => True
  | x :: xs => okF x ∧ okFs xs
end
theorem okF_mem {x : Vt} : ∀ {xs : List Vt}, okFs xs → x ∈ xs → okF x
  | y :: ys, f, h => by
    unfold okFs at f
    rcases List.mem_cons.mp h with rfl | h
    · exact f.1
    · exact okF_mem f.2 h
theorem okFs_of : ∀ {xs : List Vt}, (∀ x ∈ xs, okF x) → okFs xs
  | [], _ => by unfold okFs; trivial
  | y :: ys, h => by unfold okFs; exact ⟨h y List.mem_cons_self, okFs_of fun x m => h x (List.mem_cons_of_mem _ m)⟩
theorem okF_key (k : Key) : okF (keyVt k) := by cases k <;> (unfold keyVt okF; trivial)
theorem ok_key {k : Key} (h : keyOk k = true) : okT (keyVt k) = true := by cases k <;> (unfold keyVt okT; exact h)
theorem wt_key (k : Key) : wt (keyVt k) = 1 := by cases k <;> (unfold keyVt wt; rfl)
theorem wts_sum : ∀ xs : List Vt, wts xs = (xs.map wt).sum
  | [] => by unfold wts; rfl
  | x :: xs => by unfold wts; rw [List.map_cons, List.sum_cons, wts_sum xs]
theorem wt_pair (k : Key) (y : Vt) : wt (pairT k y) = wt y + 2 := by
  unfold pairT
  rw [show wt (.tup [keyVt k, y]) = wts [keyVt k, y] + 1 by rw [wt]]
  rw [wts_sum]
  show wt (keyVt k) + (wt y + 0) + 1 = _
  rw [wt_key]
  omega
theorem sum_two {α : Type} (f : α → Nat) : ∀ l : List α, (l.map fun x => f x + 2).sum = (l.map f).sum + 2 * l.length
  | [] => rfl
  | x :: l => by rw [List.map_cons, List.map_cons, List.sum_cons, List.sum_cons, sum_two f l, List.length_cons]; omega
theorem dfix_wt {ks : List Key} {ys : List Vt} (hl : ks.length = ys.length) (nd : ks.Nodup) : wts (dfix ks ys) = wts ys + 2 * ks.length := by
  unfold dfix
  rw [wts_sum, List.map_map]
  have e : (wt ∘ fun k => pairT k (valD ks ys k)) = fun k => (wt ∘ valD ks ys) k + 2 := funext fun k => wt_pair _ _
  rw [e, sum_two, ((order_perm nd).map (wt ∘ valD ks ys)).sum_nat, ← List.map_map, valD_self nd hl, (order_perm nd).length_eq, wts_sum]
/-- what holds of a tree that is fixed -/
structure FxIs (x y : Vt) : Prop where
  fx : fxT y = true
  ok : okT x = true → okT y = true
  okF : okF y
  wt : wt y = wt x
  dep : dep y ≤ 2 * dep x
theorem fix_of : ∀ (d : Nat) (x : Vt), dep x ≤ d → okF x → FxIs x (fixT x) := by
  intro d
  induction d with
  | zero =>
    intro x hd h
    cases x with
    | lst _ => rw [dep_lst] at hd; omega
    | tup _ => rw [dep_tup] at hd; omega
    | dct _ _ => rw [dep_dct] at hd; omega
    | _ => unfold fixT; exact ⟨by unfold fxT; rfl, id, h, rfl, by omega⟩
  | succ d ih =>
    intro x hd h
    have seq : ∀ xs : List Vt, deps xs ≤ d → xs.length ≤ 900 → okFs xs → (fxTs (fixTs xs) = true ∧ (okTs xs = true → okTs (fixTs xs) = true) ∧ okFs (fixTs xs) ∧ wts (fixTs xs) = wts xs ∧ ∀ y ∈ fixTs xs, dep y ≤ 2 * deps xs) := fun xs hd hl hk => by
      have each : ∀ x ∈ xs, FxIs x (fixT x) := fun x hx => ih x (Nat.le_trans (dep_mem hx) hd) (okF_mem hk hx)
      rw [fixTs_map]
      refine ⟨fxTs_of fun y hy => ?_, fun o => okTs_of fun y hy => ?_, okFs_of fun y hy => ?_, ?_, fun y hy => ?_⟩
      · obtain ⟨x, hx, rfl⟩ := List.mem_map.mp hy; exact (each x hx).fx
      · obtain ⟨x, hx, rfl⟩ := List.mem_map.mp hy; exact (each x hx).ok (ok_mem o hx)
      · obtain ⟨x, hx, rfl⟩ := List.mem_map.mp hy; exact (each x hx).okF
      · rw [wts_sum, wts_sum, List.map_map]
        exact congrArg List.sum (List.map_congr_left fun x hx => (each x hx).wt)
      · obtain ⟨x, hx, rfl⟩ := List.mem_map.mp hy
        have h1 := (each x hx).dep
        have h2 := dep_mem hx
        omega
    have deps_le : ∀ (ys : List Vt) (n : Nat), (∀ y ∈ ys, dep y ≤ n) → deps ys ≤ n := fun ys n h => by
      induction ys with
      | nil => unfold deps; omega
      | cons y ys ih => unfold deps; exact Nat.max_le.mpr ⟨h y List.mem_cons_self, ih fun z m => h z (List.mem_cons_of_mem _ m)⟩
    cases x with
    | lst xs =>
      rw [dep_lst] at hd
      unfold okF at h
      obtain ⟨a, b, c, e, f⟩ := seq xs (by omega) h.1 h.2
      unfold fixT
      refine ⟨by unfold fxT; exact a, fun o => by unfold okT at o ⊢; exact b o, by unfold okF; exact ⟨by rw [fixTs_len]; exact h.1, c⟩, by unfold wt; rw [e], ?_⟩
      rw [dep_tup, dep_lst]
      have := deps_le _ _ f
      omega
    | tup xs =>
      rw [dep_tup] at hd
      unfold okF at h
      obtain ⟨a, b, c, e, f⟩ := seq xs (by omega) h.1 h.2
      unfold fixT
      refine ⟨by unfold fxT; exact a, fun o => by unfold okT at o ⊢; exact b o, by unfold okF; exact ⟨by rw [fixTs_len]; exact h.1, c⟩, by unfold wt; rw [e], ?_⟩
      rw [dep_tup, dep_tup]
      have := deps_le _ _ f
      omega
    | dct ks xs =>
      rw [dep_dct] at hd
      unfold okF at h
      obtain ⟨hl, nd, h64, un, hk⟩ := h
      obtain ⟨a, b, c, e, f⟩ := seq xs (by omega) (by omega) hk
      have hl2 : ks.length = (fixTs xs).length := by rw [fixTs_len]; exact hl
      have each : ∀ z ∈ dfix ks (fixTs xs), ∃ k y, z = pairT k y ∧ k ∈ ks ∧ y ∈ fixTs xs := fun z hz => dfix_mem hl2 nd hz
      unfold fixT
      refine ⟨?_, fun o => ?_, ?_, ?_, ?_⟩
      · unfold fxT
        refine fxTs_of fun z hz => ?_
        obtain ⟨k, y, rfl, hk, hy⟩ := each z hz
        unfold pairT fxT fxTs fxTs fxTs
        rw [fx_key, fx_mem a hy]
        rfl
      · unfold okT at o ⊢
        obtain ⟨_, o2⟩ := Bool.and_eq_true_iff.mp o
        obtain ⟨o3, o4⟩ := Bool.and_eq_true_iff.mp o2
        refine okTs_of fun z hz => ?_
        obtain ⟨k, y, rfl, hk, hy⟩ := each z hz
        unfold pairT okT okTs okTs okTs
        rw [ok_key (List.all_eq_true.mp o3 k hk), ok_mem (b o4) hy]
        rfl
      · unfold okF
        refine ⟨?_, okFs_of fun z hz => ?_⟩
        · unfold dfix
          rw [List.length_map, (order_perm nd).length_eq]
          omega
        · obtain ⟨k, y, rfl, hk, hy⟩ := each z hz
          unfold pairT okF okFs okFs okFs
          exact ⟨by show 2 ≤ 900; decide, okF_key k, okF_mem c hy, trivial⟩
      · show wt (.tup _) = wt (.dct _ _)
        unfold wt
        rw [dfix_wt hl2 nd, e]
      · rw [dep_tup, dep_dct]
        have : deps (dfix ks (fixTs xs)) ≤ 2 * deps xs + 1 := deps_le _ _ fun z hz => by
          obtain ⟨k, y, rfl, hk, hy⟩ := each z hz
          unfold pairT
          rw [dep_tup]
          have e2 : deps [keyVt k, y] = max (dep (keyVt k)) (max (dep y) 0) := by unfold deps; unfold deps; unfold deps; rfl
          rw [e2, dep_key]
          have := f y hy
          omega
        omega
    | _ => unfold fixT; exact ⟨by unfold fxT; rfl, id, h, rfl, by omega⟩
theorem fixIs {x : Vt} (h : okF x) : FxIs x (fixT x) := fix_of _ x (Nat.le_refl _) h
end K03
end

section -- K03c
set_option linter.all false
set_option maxRecDepth 100000
set_option maxHeartbeats 4000000
set_option synthInstance.maxSize 10000
set_option synthInstance.maxHeartbeats 4000000
/-! fixed, and the law's own walk to the same end -/
namespace K03
open PySem PySem.Spec L2 Pk Evl Pv Pw
open PyProof.Rows hiding St
theorem tp_key {R : Addr} (k : Key) : tp R (keyVt k) = keyV k := by cases k <;> (unfold keyVt tp; rfl)
theorem tp_pair {R : Addr} (k : Key) (y : Vt) : tp R (pairT k y) = .tup [keyV k, tp R y] := by
  unfold pairT
  rw [tp_tup, tps_map]
  show PV.tup [tp R (keyVt k), tp R y] = _
  rw [tp_key]
theorem keys_strs (zs : List Str) : (zs.map (Sum.inr : Str → Key)).map keyV = zs.map PV.str := by rw [List.map_map]; rfl
theorem keys_ints (zs : List Int) : (zs.map (Sum.inl : Int → Key)).map keyV = zs.map PV.int := by rw [List.map_map]; rfl
theorem out_len {m : Key} (ks : List Key) (h : m ∈ ks) : (outK m ks).length < ks.length := by
  unfold outK
  refine Nat.lt_of_le_of_ne (List.length_filter_le _ _) fun e => ?_
  have := List.length_filter_eq_length_iff.mp e m h
  simp at this
/-- keys of one kind -/
def Two (a b : Key) : Prop := (∃ i j, a = .inl i ∧ b = .inl j) ∨ ∃ i j, a = .inr i ∧ b = .inr j
theorem uni_two {ks : List Key} (u : Uni ks) {a b : Key} (ha : a ∈ ks) (hb : b ∈ ks) : Two a b := by
  rcases u with ⟨zs, rfl⟩ | ⟨zs, rfl, _⟩
  · obtain ⟨i, _, rfl⟩ := List.mem_map.mp ha
    obtain ⟨j, _, rfl⟩ := List.mem_map.mp hb
    exact .inl ⟨i, j, rfl, rfl⟩
  · obtain ⟨i, _, rfl⟩ := List.mem_map.mp ha
    obtain ⟨j, _, rfl⟩ := List.mem_map.mp hb
    exact .inr ⟨i, j, rfl, rfl⟩
theorem ne_key {a b : Key} (h : Two a b) {F : PV → Prop} (k : F (.bl (decide (a ≠ b)))) : gEq true (keyV a) (keyV b) F := by
  rcases h with ⟨i, j, rfl, rfl⟩ | ⟨i, j, rfl, rfl⟩
  · show F (.bl (!decide (i = j)))
    have e : (!decide (i = j)) = decide ((Sum.inl i : Key) ≠ .inl j) := by simp
    rw [e]; exact k
  · show F (.bl (!decide (i = j)))
    have e : (!decide (i = j)) = decide ((Sum.inr i : Key) ≠ .inr j) := by simp
    rw [e]; exact k
theorem lt_key {a b : Key} (h : Two a b) {F : PV → Prop} (k : F (.bl (keyLt a b))) : (fun x y F => gI0 (fun i j => V.bl (decide (i < j))) x y F ∨ gLtS x y F) (keyV a) (keyV b) F := by
  rcases h with ⟨i, j, rfl, rfl⟩ | ⟨i, j, rfl, rfl⟩
  · exact .inl k
  · exact .inr k
def keyD : Key → PyData | .inl i => .int i | .inr z => .str z
theorem pvD_keys : ∀ l : List Key, pvDs (l.map keyV) = some (l.map keyD)
  | [] => by unfold pvDs; rfl
  | k :: l => by
    rw [List.map_cons]
    unfold pvDs
    rw [pvD_keys l]
    cases k <;> (unfold keyV pvD; rfl)
theorem depth_keys : ∀ l : List Key, PyData.depthAll (l.map keyD) ≤ 1
  | [] => by simp [PyData.depthAll]
  | k :: r => by
    have := depth_keys r
    cases k <;> (simp only [List.map_cons, keyD, PyData.depthAll, PyData.depth]; omega)
def keyS : Key → Bool | .inl _ => true | .inr z => PyData.strOk z
theorem uni_S {ks : List Key} (u : Uni ks) {a : Key} (h : a ∈ ks) : keyS a = true := by
  rcases u with ⟨zs, rfl⟩ | ⟨zs, rfl, hz⟩
  · obtain ⟨i, _, rfl⟩ := List.mem_map.mp h
    rfl
  · obtain ⟨i, hi, rfl⟩ := List.mem_map.mp h
    exact hz i hi
theorem lay_keys : ∀ l : List Key, (∀ k ∈ l, keyS k = true) → PyData.canLayAll0 (l.map keyD) = true
  | [], _ => by simp [PyData.canLayAll0]
  | k :: r, h => by
    have h1 := h k List.mem_cons_self
    have ih := lay_keys r fun x m => h x (List.mem_cons_of_mem _ m)
    cases k with
    | inl i => simp [keyD, PyData.canLayAll0, PyData.canLay0, ih]
    | inr z => simp [keyD, PyData.canLayAll0, PyData.canLay0, ih]; exact h1
theorem shaped_keys (l : List Key) (h : ∀ k ∈ l, keyS k = true) : SeqAt.shaped (.list (l.map keyD)) = true := by
  have h1 := depth_keys l
  have h2 : PyData.depth (.list (l.map keyD)) ≤ 64 := by simp only [PyData.depth]; omega
  show (PyData.canLay0 (.list (l.map keyD)) && decide (PyData.depth (.list (l.map keyD)) ≤ 64)) = true
  rw [Bool.and_eq_true]
  exact ⟨by simp only [PyData.canLay0]; exact lay_keys l h, decide_eq_true h2⟩
theorem ne_keys (left : List Key) (h : ∀ k ∈ left, keyS k = true) (F : PV → Prop) (k : F (.bl (!decide (left = [])))) : gEqD true (.lst (left.map keyV)) (.lst []) F := by
  have e : pvD (.lst (left.map keyV)) = some (.list (left.map keyD)) := by unfold pvD; rw [pvD_keys]; rfl
  have e0 : pvD (.lst []) = some (.list []) := by unfold pvD pvDs; rfl
  unfold gEqD
  rw [e, e0]
  refine ⟨shaped_keys left h, shaped_keys [] (fun _ z => nomatch z), ?_⟩
  cases left <;> exact k
section
variable {S : Type}
theorem least_for {X1 X2 X5 : SL} {fb : FS S} (hb : fb = fIfS (Pv.fB (fOp (fun x y F => gI0 (fun i j => V.bl (decide (i < j))) x y F ∨ gLtS x y F) (fVar 4) (fVar 3))) (fAsg false 3 (fVar 4)) fNx) : ∀ (l : List Key) (m : Key) (X0 b4 : SL) (s : S) (G : DD S), (∀ x ∈ l, Two x m) → (∀ b4', G.nx [X0, X1, X2, .sh (keyV (least m l)), b4', X5] s) → forP (sName 4) fb (l.map keyV) [X0, X1, X2, .sh (keyV m), b4, X5] s G
  | [], m, X0, b4, s, G, _, h => h b4
  | x :: l, m, X0, b4, s, G, h2, h => by
    subst hb
    have t2 : Two x m := h2 x List.mem_cons_self
    have tr : ∀ {y : Key}, Two y m → Two y x := fun {y} q => by
      rcases q with ⟨i, j, rfl, e⟩ | ⟨i, j, rfl, e⟩ <;> (rcases t2 with ⟨a, b, rfl, e2⟩ | ⟨a, b, rfl, e2⟩ <;> (subst e; first | (cases e2; done) | skip))
      · exact .inl ⟨_, _, rfl, rfl⟩
      · exact .inr ⟨_, _, rfl, rfl⟩
    refine .inl (ifs_b (b := keyLt x m) (evb_of (evp_op (evp_var rfl) (evp_var rfl) fun F k => lt_key t2 k)) (fun c => set_ok (x := keyV x) (evp_var rfl) ?_) fun c => ?_)
    · refine least_for rfl l x X0 _ s G (fun y hy => tr (h2 y (List.mem_cons_of_mem _ hy))) ?_
      unfold least at h
      rw [if_pos c] at h
      exact h
    · refine least_for rfl l m X0 _ s G (fun y hy => h2 y (List.mem_cons_of_mem _ hy)) ?_
      unfold least at h
      rw [if_neg (by rw [c]; exact Bool.false_ne_true)] at h
      exact h
end
section
variable {P : Program} {w : World} {K : PySem.W.Frag} {mg : Str → Option Value} {base : Heap} {S : Type} {W : Wd S} {R : Addr}
def preFix (R : Addr) (d : Nat) : FP S := fun xs s F _ => ∃ x : Vt, xs = [tp R x] ∧ dep x < d ∧ okF x ∧ F (tp R (fixT x)) s
theorem sc_fx : FnScope ["value", "key", "item"] ["value"] (defScope sFixed) := ⟨rfl, rfl, rfl, by decide +kernel, rfl, by decide +kernel, by decide +kernel⟩
theorem ok_fx {f : Addr} {fd : FuncData} (F : Fun K "fixed" "fixed" sFixed f fd) (B : Bi mg) (c : RC K mg R) (b_fx : Binds K fd ["value"] []) (d_fx : Df K mg "fixed" f) : ∀ d : Nat, FnOk P w K mg base CX0 (d + 1) f fd ["value"] (spF W 1 (preFix R d)) := by
  intro d
  induction d with
  | zero =>
    refine F.ok sc_fx (fun vs H Q E h => h.len) (fun cdv A outer s H vs Q E hr h => ?_)
    refine ⟨_, pss_cons ps_never (pss_cons ps_never (pss_one ps_never)), ?_⟩
    obtain ⟨_, _, _, _, _, _, _, _, _, ⟨x, _, hx, _⟩, _⟩ := h
    omega
  | succ d G_fx =>
    refine F.ok sc_fx (fun vs H Q E h => h.len) (fun cdv A outer s H vs Q E hr h => ?_)
    have nd := sc_fx.nd
    refine ⟨_, (pss_cons (ps_if (pt_val (pe_callB call_isi (by rfl) B.n_isinstance (by decide +kernel) (pa_cons (pv 0) (pa_cons (pe_tyname "dict" B.n_dict (by decide +kernel)) pa_nil))))
(pss_one (ps_ret (pe_callTy call_tupS (by rfl) B.n_tuple (by decide +kernel) (pa_cons (pe_lc (own := [("key", 1)]) (g := gName 1) (by rfl) nd (pi_list (pe_callB (call_sortP rfl) (by rfl) B.n_sorted (by decide +kernel) (pa_cons (pv 0) pa_nil))) (blkOk_by (own := [("key", 1)]) (N := ["value", "key", "item"]) (sc := (defScope sFixed)) (by decide +kernel)) (fun _ _ _ _ _ => pg_name (i := 1) nd rfl (Or.inl rfl)) (fun _ _ _ _ _ => pts_nil) (fun _ _ _ _ _ => (pe_tup (pa_cons (pv 1) (pa_cons (pe_cs (calls_fn G_fx (hr.mono (by omega)) b_fx .nil pass0) d_fx.1 d_fx.2 (pa_cons (pe_dget (Nat.lt_of_le_of_lt (Nat.add_le_add_left (by decide) _) hr.units) (pv 0) (pv 1) (fun _ _ => rfl)) pa_nil)) pa_nil))))) pa_nil))))
pss_nil)
(pss_cons (ps_if (pt_val (pe_callB call_isiT (by rfl) B.n_isinstance (by decide +kernel) (pa_cons (pv 0) (pa_cons (pe_tup (pa_cons (pe_tyname "list" B.n_list (by decide +kernel)) (pa_cons (pe_tyname "tuple" B.n_tuple (by decide +kernel)) pa_nil))) pa_nil))))
(pss_one (ps_ret (pe_callTy call_tupS (by rfl) B.n_tuple (by decide +kernel) (pa_cons (pe_lc (own := [("item", 2)]) (g := gName 2) (by rfl) nd (pi_seq (pv 0)) (blkOk_by (own := [("item", 2)]) (N := ["value", "key", "item"]) (sc := (defScope sFixed)) (by decide +kernel)) (fun _ _ _ _ _ => pg_name (i := 2) nd rfl (Or.inl rfl)) (fun _ _ _ _ _ => pts_nil) (fun _ _ _ _ _ => (pe_cs (calls_fn G_fx (hr.mono (by omega)) b_fx .nil pass0) d_fx.1 d_fx.2 (pa_cons (pv 2) pa_nil)))) pa_nil))))
pss_nil)
(pss_one (ps_ret (pv 0))))), pure_run (W := W) h fun xs s F X hl h => ?_⟩
    obtain ⟨x, rfl, hd, hk, h⟩ := h
    have v0 : ∀ (x : Vt), EvP (S := S) (view (initS ["value", "key", "item"] [tp R x])) (fVar 0) (tp R x) := fun x => evp_var rfl
    refine ifs_b (b := isDct x) (evb_of (evp_cb (evps_cons (v0 x) (evps_cons evp_c evps_nil)) fun F k => isi_dct c k)) (fun hx => ?_) fun hx => .inl (ifs_b (b := isLst x || isTup x) (evb_of (evp_cb (evps_cons (v0 x) (evps_cons (evp_tup (evps_cons evp_c (evps_cons evp_c evps_nil)) (by show 2 ≤ 1000000; decide)) evps_nil)) fun F k => isi_LT c k)) (fun hx => ?_) fun hx2 => .inl (ret_ok (v0 x) ?_))
    · cases x <;> try cases hx
      rename_i ks xs
      rw [dep_dct] at hd
      unfold okF at hk
      obtain ⟨hl, nd1, h64, un, hk⟩ := hk
      have hl2 : ks.length = (fixTs xs).length := by rw [fixTs_len]; exact hl
      refine ret_ok (evp_tupS (evp_lcm (i := 1) (l := orderK ks) (a := keyV) (b := fun k => tp R (pairT k (valD ks (fixTs xs) k))) (items := (orderK ks).map keyV) (fun s G X g => ?_) rfl (by rw [(order_perm nd1).length_eq]; omega) fun k hm => ?_)) ?_
      · show fCB (fun xs F => gSortD xs F ∨ gSortDI xs F) (fCons (fVar 0) fNil) (view (initS ["value", "key", "item"] [tp R (.dct ks xs)])) s (fun x s1 => asL x fun l => G l s1) X
        refine evp_cb (z := .lst ((orderK ks).map keyV)) (evps_cons (v0 _) evps_nil) (fun F kF => ?_) s _ X g
        rw [tp_dct]
        rcases un with ⟨zs, rfl⟩ | ⟨zs, rfl, _⟩
        · refine .inr ⟨zs, rfl, by rw [List.length_map] at h64; exact h64, fun ys p q => ?_⟩
          rw [← order_ints nd1 p q, keys_ints] at kF
          exact kF
        · refine .inl ⟨zs, rfl, by rw [List.length_map] at h64; exact h64, fun ys p q => ?_⟩
          rw [← order_strs nd1 p q, keys_strs] at kF
          exact kF
      · have hm := (order_perm nd1).mem_iff.mp hm
        obtain ⟨y, e, hy⟩ := valK_mem hl hm
        have e2 : valP ks (tps R xs) k = some (tp R y) := by rw [valP_tp, e]; rfl
        have e3 : valD ks (fixTs xs) k = fixT y := by unfold valD; rw [fixTs_map, valK_map, e]; rfl
        rw [e3, tp_pair]
        refine evp_tup (evps_cons (evp_var rfl) (evps_cons (evp_call0 (evps_cons (evp_dget (k := k) (evp_var (by rw [tp_dct]; rfl)) (evp_var rfl) e2) evps_nil) rfl fun s F X kF => ⟨y, rfl, by have := dep_mem hy; omega, okF_mem hk hy, kF⟩) evps_nil)) (by show 2 ≤ 1000000; decide)
      · have e : tp R (fixT (.dct ks xs)) = .tup ((orderK ks).map fun k => tp R (pairT k (valD ks (fixTs xs) k))) := by
          unfold fixT
          rw [tp_tup, tps_map]
          unfold dfix
          rw [List.map_map]
          rfl
        rw [e] at h
        exact h
    · have seq : ∃ (κ : Bool) (xs : List Vt), tp R x = (if κ then .lst (tps R xs) else .tup (tps R xs)) ∧ (∀ y ∈ xs, dep y < d) ∧ xs.length ≤ 900 ∧ okFs xs ∧ fixT x = .tup (fixTs xs) := by
        cases x <;> try cases hx
        · unfold okF at hk
          rw [dep_lst] at hd
          exact ⟨true, _, tp_lst, fun y hy => by have := dep_mem hy; omega, hk.1, hk.2, by unfold fixT; rfl⟩
        · unfold okF at hk
          rw [dep_tup] at hd
          exact ⟨false, _, tp_tup, fun y hy => by have := dep_mem hy; omega, hk.1, hk.2, by unfold fixT; rfl⟩
      obtain ⟨κ, xs, e1, h1, h2, h3, e2⟩ := seq
      refine ret_ok (evp_tupS (evp_lcm (i := 2) (l := xs) (a := tp R) (b := fun y => tp R (fixT y)) (items := tps R xs) (fi_lt (κ := κ) (evp_is (v0 x) e1)) (tps_map R xs) (by omega) fun y hy => ?_)) ?_
      · exact evp_call0 (evps_cons (evp_var rfl) evps_nil) rfl fun s F X kF => ⟨y, rfl, h1 y hy, okF_mem h3 hy, kF⟩
      · rw [e2, tp_tup, tps_map, fixTs_map, List.map_map] at h
        exact h
    · have e : fixT x = x := by cases x <;> first | (cases hx; done) | (cases hx2; done) | (unfold fixT; rfl)
      rw [e] at h
      exact h
theorem sc_f2 : FnScope ["_law_value_here", "_law_found", "_law_left", "_law_least", "_law_key", "_law_one"] ["_law_value_here"] (defScope sFix2) := ⟨rfl, rfl, rfl, by decide +kernel, rfl, by decide +kernel, by decide +kernel⟩
theorem ok_f2 {f : Addr} {fd : FuncData} (F : Fun K "_law_fixed" "_law_fixed" sFix2 f fd) (B : Bi mg) (c : RC K mg R) (b_fx : Binds K fd ["_law_value_here"] []) (d_fx : Df K mg "_law_fixed" f) : ∀ d : Nat, FnOk P w K mg base CX0 (d + 1) f fd ["_law_value_here"] (spF W 1 (preFix R d)) := by
  intro d
  induction d with
  | zero =>
    refine F.ok sc_f2 (fun vs H Q E h => h.len) (fun cdv A outer s H vs Q E hr h => ?_)
    refine ⟨_, pss_cons ps_never (pss_cons ps_never (pss_cons ps_never (pss_cons ps_never (pss_one ps_never)))), ?_⟩
    obtain ⟨_, _, _, _, _, _, _, _, _, ⟨x, _, hx, _⟩, _⟩ := h
    omega
  | succ d G_fx =>
    refine F.ok sc_f2 (fun vs H Q E h => h.len) (fun cdv A outer s H vs Q E hr h => ?_)
    have nd := sc_f2.nd
    refine ⟨_, (pss_cons (ps_if (pt_val (pe_callB call_isiT (by rfl) B.n_isinstance (by decide +kernel) (pa_cons (pv 0) (pa_cons (pe_tup (pa_cons (pe_tyname "list" B.n_list (by decide +kernel)) (pa_cons (pe_tyname "tuple" B.n_tuple (by decide +kernel)) pa_nil))) pa_nil))))
(pss_one (ps_ret (pe_callTy call_tupS (by rfl) B.n_tuple (by decide +kernel) (pa_cons (pe_lc (own := [("_law_one", 5)]) (g := gName 5) (by rfl) nd (pi_seq (pv 0)) (blkOk_by (own := [("_law_one", 5)]) (N := ["_law_value_here", "_law_found", "_law_left", "_law_least", "_law_key", "_law_one"]) (sc := (defScope sFix2)) (by decide +kernel)) (fun _ _ _ _ _ => pg_name (i := 5) nd rfl (Or.inl rfl)) (fun _ _ _ _ _ => pts_nil) (fun _ _ _ _ _ => (pe_cs (calls_fn G_fx (hr.mono (by omega)) b_fx .nil pass0) d_fx.1 d_fx.2 (pa_cons (pv 5) pa_nil)))) pa_nil))))
pss_nil)
(pss_cons (ps_if (pt_not (pt_val (pe_callB call_isi (by rfl) B.n_isinstance (by decide +kernel) (pa_cons (pv 0) (pa_cons (pe_tyname "dict" B.n_dict (by decide +kernel)) pa_nil)))))
(pss_one (ps_ret (pv 0)))
pss_nil)
(pss_cons (ps_par (i := 1) (j := 2) (by rfl) nd rfl rfl (by decide) rfl rfl (pa_cons (pe_lst pa_nil) (pa_cons (pe_callTy (T := "list") (call_listP rfl) (by rfl) B.n_list (by decide +kernel) (pa_cons (pv 0) pa_nil)) pa_nil)) (by rfl))
(pss_cons (ps_while PassesOwn.never (pt_cmpR (op_neD hr.units) (pv 2) (pe_lst pa_nil) (nomark _))
(pss_cons (ps_set (i := 3) nd rfl (Or.inr rfl) (pe_ix ix_list (pv 2) pe_int (fun _ _ => rfl)))
(pss_cons (ps_for PassesOwn.never rfl (pi_list (pv 2)) (pg_name (i := 4) nd rfl (Or.inl rfl))
(pss_one (ps_if (pt_cmpR op_ltP (pv 4) (pv 3) (nomark _))
(pss_one (ps_set (i := 3) nd rfl (Or.inr rfl) (pv 4)))
pss_nil)))
(pss_cons (ps_expr (pe_bm PySem.F.plainAttrs_list PySem.F.slot_list_append PySem.F.type_list_append mt_append (pv 1) (pa_cons (pe_tup (pa_cons (pv 3) (pa_cons (pe_cs (calls_fn G_fx (hr.mono (by omega)) b_fx .nil pass0) d_fx.1 d_fx.2 (pa_cons (pe_dget (Nat.lt_of_le_of_lt (Nat.add_le_add_left (by decide) _) hr.units) (pv 0) (pv 3) (fun _ _ => rfl)) pa_nil)) pa_nil))) pa_nil)))
(pss_one (ps_setLc (i := 2) (own := [("_law_key", 4)]) (g := gName 4) (by rfl) nd rfl rfl (by rfl) (pi_list (pv 2)) (blkOk_by (own := [("_law_key", 4)]) (N := ["_law_value_here", "_law_found", "_law_left", "_law_least", "_law_key", "_law_one"]) (sc := (defScope sFix2)) (by decide +kernel)) (fun _ _ _ _ _ => pg_name (i := 4) nd rfl (Or.inl rfl)) (fun _ _ _ _ _ => (pts_one (pt_cmpR op_ne (pv 4) (pv 3) (nomark _)))) (fun _ _ _ _ _ => (pv 4))))))))
(pss_one (ps_ret (pe_callTy call_tupS (by rfl) B.n_tuple (by decide +kernel) (pa_cons (pv 1) pa_nil)))))))), pure_run (W := W) h fun xs s F X hl h => ?_⟩
    obtain ⟨x, rfl, hd, hk, h⟩ := h
    have v0 : ∀ (x : Vt), EvP (S := S) (view (initS ["_law_value_here", "_law_found", "_law_left", "_law_least", "_law_key", "_law_one"] [tp R x])) (fVar 0) (tp R x) := fun x => evp_var rfl
    refine ifs_b (b := isLst x || isTup x) (evb_of (evp_cb (evps_cons (v0 x) (evps_cons (evp_tup (evps_cons evp_c (evps_cons evp_c evps_nil)) (by show 2 ≤ 1000000; decide)) evps_nil)) fun F k => isi_LT c k)) (fun hx => ?_) fun hx => .inl (ifs_b (b := !isDct x) (evb_not (evb_of (evp_cb (evps_cons (v0 x) (evps_cons evp_c evps_nil)) fun F k => isi_dct c k))) (fun hx2 => ret_ok (v0 x) ?_) fun hx2 => .inl ?_)
    · have seq : ∃ (κ : Bool) (xs : List Vt), tp R x = (if κ then .lst (tps R xs) else .tup (tps R xs)) ∧ (∀ y ∈ xs, dep y < d) ∧ xs.length ≤ 900 ∧ okFs xs ∧ fixT x = .tup (fixTs xs) := by
        cases x <;> try cases hx
        · unfold okF at hk
          rw [dep_lst] at hd
          exact ⟨true, _, tp_lst, fun y hy => by have := dep_mem hy; omega, hk.1, hk.2, by unfold fixT; rfl⟩
        · unfold okF at hk
          rw [dep_tup] at hd
          exact ⟨false, _, tp_tup, fun y hy => by have := dep_mem hy; omega, hk.1, hk.2, by unfold fixT; rfl⟩
      obtain ⟨κ, xs, e1, h1, h2, h3, e2⟩ := seq
      refine ret_ok (evp_tupS (evp_lcm (i := 5) (l := xs) (a := tp R) (b := fun y => tp R (fixT y)) (items := tps R xs) (fi_lt (κ := κ) (evp_is (v0 x) e1)) (tps_map R xs) (by omega) fun y hy => ?_)) ?_
      · exact evp_call0 (evps_cons (evp_var rfl) evps_nil) rfl fun s F X kF => ⟨y, rfl, h1 y hy, okF_mem h3 hy, kF⟩
      · rw [e2, tp_tup, tps_map, fixTs_map, List.map_map] at h
        exact h
    · have e : fixT x = x := by cases x <;> first | (cases hx; done) | (cases hx2; done) | (unfold fixT; rfl)
      rw [e] at h
      exact h
    · cases x <;> try cases hx2
      rename_i ks xs
      rw [dep_dct] at hd
      unfold okF at hk
      obtain ⟨hl, nd1, h64, un, hk⟩ := hk
      have hl2 : ks.length = (fixTs xs).length := by rw [fixTs_len]; exact hl
      have init : initS ["_law_value_here", "_law_found", "_law_left", "_law_least", "_law_key", "_law_one"] [tp R (.dct ks xs)] = [.sh (.dct ks (tps R xs)), .no, .no, .no, .no, .no] := by rw [tp_dct]; rfl
      rw [init]
      refine .inl ⟨by show 0 ≤ 1000000; decide, fun a => .inl ?_⟩
      have e : tp R (fixT (.dct ks xs)) = .tup ((orderK ks).map fun k => tp R (pairT k (valD ks (fixTs xs) k))) := by
        unfold fixT
        rw [tp_tup, tps_map]
        unfold dfix
        rw [List.map_map]
        rfl
      rw [e] at h
      refine ⟨fun m ρ s' => ∃ (done left : List Key) (n : Nat) (b3 b4 : SL), m = left.length ∧ ρ = [.sh (.dct ks (tps R xs)), .own a (.lst (done.map fun k => tp R (pairT k (valD ks (fixTs xs) k)))), .sh (.lst (left.map keyV)), b3, b4, .no] ∧ s' = s ∧ left.length ≤ n ∧ done ++ sel n left = orderK ks ∧ (∀ k ∈ left, k ∈ ks) ∧ left.length ≤ ks.length, ⟨ks.length, [], ks, ks.length, .no, .no, rfl, rfl, rfl, Nat.le_refl _, rfl, fun _ h => h, Nat.le_refl _⟩, fun m ρ s' hi => ?_⟩
      obtain ⟨done, left, n, b3, b4, rfl, rfl, rfl, hn, hs, hm, hlk⟩ := hi
      have ol : (orderK ks).length = ks.length := (order_perm nd1).length_eq
      have dl : done.length ≤ ks.length := by
        have := congrArg List.length hs
        rw [List.length_append, ol] at this
        omega
      refine evb_of (b := !decide (left = [])) (evp_op (evp_var (x := .lst (left.map keyV)) rfl) (evp_lst evps_nil (by decide)) fun F kF => ?_) s' _ _ ?_
      · exact ne_keys left (fun k hk => uni_S un (hm k hk)) F kF
      · cases left with
        | nil =>
          show if (!true) = true then _ else _
          refine if_f rfl (.inl (ret_ok (evp_tupS (evp_var rfl)) ?_))
          have e2 : sel n ([] : List Key) = [] := by cases n <;> (unfold sel; rfl)
          rw [e2, List.append_nil] at hs
          rw [hs]
          exact h
        | cons k r =>
          show if (!false) = true then _ else _
          refine if_t rfl (.inl (set_ok (x := keyV k) (evp_ix (evp_var (x := .lst ((k :: r).map keyV)) rfl) evp_c (atI_nat (j := 0) rfl)) (.inl ?_)))
          obtain ⟨n, rfl⟩ : ∃ n', n = n' + 1 := ⟨n - 1, by rw [List.length_cons] at hn; omega⟩
          unfold sel at hs
          obtain ⟨v4, hf⟩ : ∃ v4 : SL, v4 = b4 := ⟨_, rfl⟩
          refine least_for rfl (k :: r) k _ _ _ _ (fun x hx => uni_two un (hm x hx) (hm k List.mem_cons_self)) ?_
          intro b4'
          have mm := least_mem (k := k) (r := r)
          have mk := hm _ mm
          generalize least k (k :: r) = m at mm mk hs ⊢
          obtain ⟨y, ey, hy⟩ := valK_mem hl mk
          have e2 : valP ks (tps R xs) m = some (tp R y) := by rw [valP_tp, ey]; rfl
          have e3 : valD ks (fixTs xs) m = fixT y := by unfold valD; rw [fixTs_map, valK_map, ey]; rfl
          refine .inl ⟨by rw [List.length_map]; omega, .inl ?_⟩
          refine evp_tup (xs := [keyV m, tp R (fixT y)]) (evps_cons (evp_var rfl) (evps_cons (evp_call0 (evps_cons (evp_dget (k := m) (evp_var rfl) (evp_var rfl) e2) evps_nil) rfl fun s F X kF => ⟨y, rfl, by have := dep_mem hy; omega, okF_mem hk hy, kF⟩) evps_nil)) (by show 2 ≤ 1000000; decide) s' _ _ ?_
          refine .inl (set_ok (evp_lcf (i := 4) (l := k :: r) (a := keyV) (b := keyV) (q := fun x => decide (x ≠ m)) (items := (k :: r).map keyV) (fi_l (evp_var rfl)) rfl (by omega) (fun x hx => evb_of (evp_op (evp_var rfl) (evp_var rfl) fun F kF => ne_key (uni_two un (hm x hx) mk) kF)) fun x hx => evp_var rfl) ?_)
          have po := (out_len (m := m) (k :: r) mm)
          refine ⟨_, po, done ++ [m], outK m (k :: r), n, .sh (keyV m), b4', rfl, ?_, rfl, by rw [List.length_cons] at hn po; omega, by rw [List.append_assoc]; exact hs, fun x hx => hm x (out_mem.mp hx).1, by omega⟩
          have e4 : tp R (pairT m (valD ks (fixTs xs) m)) = .tup [keyV m, tp R (fixT y)] := by rw [tp_pair, e3]
          rw [List.map_append]
          show _ = [_, SL.own a (.lst (_ ++ [tp R (pairT m (valD ks (fixTs xs) m))])), _, _, _, _]
          rw [e4]
          rfl
end
end K03
end

section -- K03d
set_option linter.all false
set_option maxRecDepth 100000
set_option maxHeartbeats 4000000
set_option synthInstance.maxSize 10000
set_option synthInstance.maxHeartbeats 4000000
/-! _law_same, _law_other_kind -/
namespace K03
open PySem PySem.Spec L2 Pk Evl Pv Pw
open PyProof.Rows hiding St
mutual
/-- the same tree of other kinds -/
def othT : Vt → Vt
  | .lst xs => .lst (othTs xs)
  | .tup xs => .tup (othTs xs)
  | .bl b => .int (if b then 1 else 0)
  | .int i => .rat i 1
  | .rat t b => if b = 1 then .int t else .rat t b
  | .non => .non
  | .str z => .str z
  | .dct ks xs => .dct ks xs
def othTs : List Vt → List Vt
  | [] => []
  | x :: xs => othT x :: othTs xs
end
theorem othTs_map : ∀ xs : List Vt, othTs xs = xs.map othT
  | [] => by unfold othTs; rfl
  | x :: xs => by unfold othTs; rw [List.map_cons, othTs_map xs]
/-- a value as a pair of top and bottom -/
def prV : Vt → Vt
  | .rat t b => .tup [.int t, .int b]
  | .non => .tup [.non, .int 1]
  | .bl b => .tup [.bl b, .int 1]
  | .int i => .tup [.int i, .int 1]
  | .str z => .tup [.str z, .int 1]
  | .lst xs => .tup [.lst xs, .int 1]
  | .tup xs => .tup [.tup xs, .int 1]
  | .dct ks xs => .tup [.dct ks xs, .int 1]
theorem eqTs_zip : ∀ xs ys : List Vt, eqTs xs ys = (decide (xs.length = ys.length) && ((xs.zip ys).map fun p => Pw.eqT p.1 p.2).all id)
  | [], [] => by unfold eqTs; rfl
  | [], _ :: _ => by unfold eqTs; rfl
  | _ :: _, [] => by unfold eqTs; rfl
  | x :: xs, y :: ys => by
    unfold eqTs
    show (Pw.eqT x y && eqTs xs ys) = _
    rw [eqTs_zip xs ys]
    show (Pw.eqT x y && _) = (decide (xs.length + 1 = ys.length + 1) && (Pw.eqT x y && ((xs.zip ys).map fun p => Pw.eqT p.1 p.2).all id))
    by_cases e : xs.length = ys.length
    · rw [decide_eq_true e, decide_eq_true (by omega), Bool.true_and, Bool.true_and]
    · rw [decide_eq_false e, decide_eq_false (by omega), Bool.false_and, Bool.false_and, Bool.and_false]
theorem pr_two {a b c d : Vt} : Pw.eqT (.tup [a, b]) (.tup [c, d]) = (Pw.eqT a c && Pw.eqT b d) := by
  conv => lhs; unfold Pw.eqT
  show eqTs [a, b] [c, d] = _
  unfold eqTs
  show (Pw.eqT a c && eqTs [b] [d]) = _
  unfold eqTs
  show (Pw.eqT a c && (Pw.eqT b d && eqTs [] [])) = _
  unfold eqTs
  rw [Bool.and_true]
theorem eq_ints (i j : Int) : Pw.eqT (.int i) (.int j) = decide (i = j) := by
  unfold Pw.eqT
  by_cases e : i = j
  · rw [decide_eq_true e, e]; simp
  · rw [decide_eq_false e]; simpa using e
theorem pr_eq (x y : Vt) (fx : fxT x = true) (fy : fxT y = true) (h : (isRat x || isRat y) = true) : (!((isBl x || isStr x) || (isBl y || isStr y)) && Pw.eqT (prV x) (prV y)) = Pw.eqT x y := by
  cases x with
  | rat t b =>
    cases y with
    | rat t' b' => unfold prV; rw [pr_two, eq_ints, eq_ints]; unfold Pw.eqT; rfl
    | int i =>
      unfold prV; rw [pr_two, eq_ints, eq_ints]
      show (decide (t = i) && decide (b = 1)) = _
      unfold Pw.eqT
      exact Bool.and_comm _ _
    | bl _ => unfold Pw.eqT; rfl
    | str _ => unfold Pw.eqT; rfl
    | non => unfold prV; rw [pr_two]; unfold Pw.eqT; rfl
    | tup _ => unfold prV; rw [pr_two]; unfold Pw.eqT; rfl
    | lst _ => unfold fxT at fy; cases fy
    | dct _ _ => unfold fxT at fy; cases fy
  | int i =>
    cases y with
    | rat t b =>
      unfold prV; rw [pr_two, eq_ints, eq_ints]
      show (decide (i = t) && decide (1 = b)) = _
      unfold Pw.eqT
      rw [Bool.and_comm, show decide (1 = b) = decide (b = 1) by simp [eq_comm], show decide (i = t) = decide (t = i) by simp [eq_comm]]
    | _ => cases h
  | bl _ =>
    cases y with
    | rat t b => unfold Pw.eqT; rfl
    | _ => cases h
  | str _ =>
    cases y with
    | rat t b => unfold Pw.eqT; rfl
    | _ => cases h
  | non =>
    cases y with
    | rat t b => unfold prV; rw [pr_two]; unfold Pw.eqT; rfl
    | _ => cases h
  | tup _ =>
    cases y with
    | rat t b => unfold prV; rw [pr_two]; unfold Pw.eqT; rfl
    | _ => cases h
  | lst _ => unfold fxT at fx; cases fx
  | dct _ _ => unfold fxT at fx; cases fx
theorem bls_map {α : Type} (f : α → Bool) : ∀ l : List α, blsOf (l.map fun x => PV.bl (f x)) = some (l.map f)
  | [] => rfl
  | x :: l => by
    rw [List.map_cons, List.map_cons]
    unfold blsOf
    rw [bls_map f l]
    rfl
section
variable {S : Type} {r : En}
theorem lc_mapz {α : Type} {fe : FE S} {ρ0 : En} {X : XF S} {a a2 b : α → PV} {i j : Nat} : ∀ (l : List α) (acc : List PV) (s : S) (G : List PV → S → Prop), (∀ x ∈ l, EvP ((ρ0.set i (.val (a x))).set j (.val (a2 x))) fe (b x)) → G (acc ++ l.map b) s → lcP (bTup 2 (bCons (bName i) (bCons (bName j) bNil))) fYes fe ρ0 X (l.map fun x => .tup [a x, a2 x]) acc s G
  | [], acc, s, G, _, h => by rw [List.map_nil, List.append_nil] at h; exact h
  | x :: l, acc, s, G, hf, h => ⟨rfl, hf x List.mem_cons_self s _ X (lc_mapz l (acc ++ [b x]) s G (fun y m => hf y (List.mem_cons_of_mem _ m)) (by rw [List.append_assoc]; exact h))⟩
theorem evp_lcz {α : Type} {i j : Nat} {fi : FI S} {fe : FE S} {l : List α} {a a2 b : α → PV} {items : List PV} (hi : ∀ (s : S) (G : List PV → S → Prop) (X : XF S), G items s → fi r s G X) (el : items = l.map fun x => .tup [a x, a2 x]) (hl : l.length ≤ 900000) (hj : ([i, j].all fun k => [i, j].contains k) = true) (he : ∀ x ∈ l, EvP (((wipeP r [i, j]).set i (.val (a x))).set j (.val (a2 x))) fe (b x)) : EvP r (fLc ([i] ++ ([j] ++ [])) fi (bTup 2 (bCons (bName i) (bCons (bName j) bNil))) fYes fe [i, j]) (.lst (l.map b)) := fun s F X k =>
  ⟨hj, hi s _ X (by subst el; exact ⟨by rw [List.length_map]; exact hl, lc_mapz l [] s _ he (by rw [List.nil_append]; exact k)⟩)⟩
end
section
variable {P : Program} {w : World} {K : PySem.W.Frag} {mg : Str → Option Value} {base : Heap} {S : Type} {W : Wd S} {R : Addr}
/-- what the text tells of the == of ratios -/
structure REq (P : Program) (w : World) (K : PySem.W.Frag) (mg : Str → Option Value) (base : Heap) (R : Addr) (fE : Addr) (fdE : FuncData) : Prop where
  hs : PySem.W.findIn K (.ref R) "__eq__" = some (some (.ref fE))
  hf : PySem.W.isFn K (.ref fE) = true
  first : ∀ T ∈ kinds5, PySem.W.notFirst K R (.type T) = true
  sub : ∀ T ∈ kinds5, PySem.W.subIn K (.ref R) (.type T) = some false
  G : FnOk P w K mg base CX0 2 fE fdE ["self", "other"] (spF W0 2 (preREq R))
  b : Binds K fdE ["self", "other"] []
theorem REq.at {fE : Addr} {fdE : FuncData} (k : REq P w K mg base R fE fdE) (c : RC K mg R) {X : Cx} (hP : X.prog = P) (hw : X.w = w) (hK : X.K = K) (hm : X.mg = mg) (hb : X.base = base) : RatEq X 2 R fE := by
  subst hP hw hK hm hb
  exact ⟨k.hs, k.hf, k.first, k.sub, c.ty, fun A hr hA => runAt_fn k.G hr hA k.b pass0⟩
def preSame (R : Addr) (d : Nat) : FP S := fun xs s F _ => ∃ x y : Vt, xs = [tp R x, tp R y] ∧ dep x < d ∧ fxT x = true ∧ fxT y = true ∧ okF x ∧ okF y ∧ F (.bl (Pw.eqT x y)) s
theorem sc_same : FnScope ["_law_one", "_law_other", "_law_pairs", "_law_kinds", "_law_a", "_law_b", "_law_value_here"] ["_law_one", "_law_other"] (defScope sSame) := ⟨rfl, rfl, rfl, by decide +kernel, rfl, by decide +kernel, by decide +kernel⟩
theorem ok_same {f fE : Addr} {fd fdE : FuncData} (F : Fun K "_law_same" "_law_same" sSame f fd) (B : Bi mg) (c : RC K mg R) (kR : REq P w K mg base R fE fdE) (b_same : Binds K fd ["_law_one", "_law_other"] []) (d_same : Df K mg "_law_same" f) : ∀ d : Nat, FnOk P w K mg base CX0 (d + 4) f fd ["_law_one", "_law_other"] (spF W 2 (preSame R d)) := by
  intro d
  induction d with
  | zero =>
    refine F.ok sc_same (fun vs H Q E h => h.len) (fun cdv A outer s H vs Q E hr h => ?_)
    refine ⟨_, pss_cons ps_never (pss_cons ps_never (pss_one ps_never)), ?_⟩
    obtain ⟨_, _, _, _, _, _, _, _, _, ⟨x, _, _, hx, _⟩, _⟩ := h
    omega
  | succ d G_same =>
    refine F.ok sc_same (fun vs H Q E h => h.len) (fun cdv A outer s H vs Q E hr h => ?_)
    have nd := sc_same.nd
    have kE := fun (X : Cx) hP hw hK hm hb => kR.at c (X := X) hP hw hK hm hb
    have kE := kE (cxOf CX0 P w K mg base ["_law_one", "_law_other", "_law_pairs", "_law_kinds", "_law_a", "_law_b", "_law_value_here"] "_law_same" (defScope sSame) f cdv A outer s H E).nox rfl rfl rfl rfl rfl
    refine ⟨_, (pss_cons (ps_if (PW.pt (pw_and (pt_val (pe_callB call_isi (by rfl) B.n_isinstance (by decide +kernel) (pa_cons (pv 0) (pa_cons (pe_tyname "tuple" B.n_tuple (by decide +kernel)) pa_nil)))) (pw_and1 (pt_val (pe_callB call_isi (by rfl) B.n_isinstance (by decide +kernel) (pa_cons (pv 1) (pa_cons (pe_tyname "tuple" B.n_tuple (by decide +kernel)) pa_nil)))))))
(pss_one (ps_ret (pe_and (pe_cmpR op_eq (pe_callB (show CallR _ (.builtin "len") (rLenS K) from call_lenL) (by rfl) B.n_len (by decide +kernel) (pa_cons (pv 0) pa_nil)) (pe_callB (show CallR _ (.builtin "len") (rLenS K) from call_lenL) (by rfl) B.n_len (by decide +kernel) (pa_cons (pv 1) pa_nil)) (nomark _)) (pe_one (pe_callB (cr_all rfl) (by rfl) B.n_all (by decide +kernel) (pa_cons (pe_lc (own := [("_law_a", 4), ("_law_b", 5)]) (g := gTup K 2 (gCons (gName 4) (gCons (gName 5) gNil))) (by rfl) nd (pi_zipK (by rfl) B.n_zip (pa_cons (pv 0) (pa_cons (pv 1) pa_nil))) (blkOk_by (own := [("_law_a", 4), ("_law_b", 5)]) (N := ["_law_one", "_law_other", "_law_pairs", "_law_kinds", "_law_a", "_law_b", "_law_value_here"]) (sc := (defScope sSame)) (by decide +kernel)) (fun _ _ _ _ _ => (pg_tup (by rfl) (pgs_cons (pg_name (i := 4) nd rfl (Or.inl rfl)) (pgs_cons (pg_name (i := 5) nd rfl (Or.inl rfl)) pgs_nil)))) (fun _ _ _ _ _ => pts_nil) (fun _ _ _ _ _ => (pe_cs (calls_fn G_same (hr.mono (by omega)) b_same .nil pass0) d_same.1 d_same.2 (pa_cons (pv 4) (pa_cons (pv 5) pa_nil))))) pa_nil))))))
pss_nil)
(pss_cons (ps_if (PW.pt (pw_or (pt_val (pe_callB call_isi (by rfl) B.n_isinstance (by decide +kernel) (pa_cons (pv 0) (pa_cons (pe_gv c.v) pa_nil)))) (pw_or1 (pt_val (pe_callB call_isi (by rfl) B.n_isinstance (by decide +kernel) (pa_cons (pv 1) (pa_cons (pe_gv c.v) pa_nil)))))))
(pss_cons (ps_set (i := 2) nd rfl (Or.inl rfl) (pe_lst (pa_cons (pe_ifExp (pt_val (pe_callB call_isi (by rfl) B.n_isinstance (by decide +kernel) (pa_cons (pv 0) (pa_cons (pe_gv c.v) pa_nil)))) (pe_tup (pa_cons (pe_fld (pv 0) rfl) (pa_cons (pe_fld (pv 0) rfl) pa_nil))) (pe_tup (pa_cons (pv 0) (pa_cons pe_int pa_nil)))) pa_nil)))
(pss_cons (ps_expr (pe_bm PySem.F.plainAttrs_list PySem.F.slot_list_append PySem.F.type_list_append mt_append (pv 2) (pa_cons (pe_ifExp (pt_val (pe_callB call_isi (by rfl) B.n_isinstance (by decide +kernel) (pa_cons (pv 1) (pa_cons (pe_gv c.v) pa_nil)))) (pe_tup (pa_cons (pe_fld (pv 1) rfl) (pa_cons (pe_fld (pv 1) rfl) pa_nil))) (pe_tup (pa_cons (pv 1) (pa_cons pe_int pa_nil)))) pa_nil)))
(pss_cons (ps_setLc (i := 3) (own := [("_law_value_here", 6)]) (g := gName 6) (by rfl) nd rfl rfl (by rfl) (pi_list (pe_lst (pa_cons (pv 0) (pa_cons (pv 1) pa_nil)))) (blkOk_by (own := [("_law_value_here", 6)]) (N := ["_law_one", "_law_other", "_law_pairs", "_law_kinds", "_law_a", "_law_b", "_law_value_here"]) (sc := (defScope sSame)) (by decide +kernel)) (fun _ _ _ _ _ => pg_name (i := 6) nd rfl (Or.inl rfl)) (fun _ _ _ _ _ => pts_nil) (fun _ _ _ _ _ => (pe_callB (show CallR _ (.builtin "isinstance") (rIsiT K) from call_isiT) (by rfl) B.n_isinstance (by decide +kernel) (pa_cons (pv 6) (pa_cons (pe_tup (pa_cons (pe_tyname "bool" B.n_bool (by decide +kernel)) (pa_cons (pe_tyname "str" B.n_str (by decide +kernel)) pa_nil))) pa_nil)))))
(pss_one (ps_ret (pe_and (pe_cmpR op_notIn_seq pe_bl (pv 3) rfl) (pe_one (pe_cmpR (op_eqT kE (R := R) (d := d + 1) (hr.mono (by omega))) (pe_ix ix_list (pv 2) pe_int (fun _ _ => rfl)) (pe_ix ix_list (pv 2) pe_int (fun _ _ => rfl)) (nomark _)))))))))
pss_nil)
(pss_one (ps_ret (pe_cmpR (op_eqT kE (R := R) (d := d + 1) (hr.mono (by omega))) (pv 0) (pv 1) (nomark _)))))), pure_run (W := W) h fun xs s F X hl h => ?_⟩
    obtain ⟨x, y, rfl, hd, fx, fy, kx, ky, h⟩ := h
    have v0 : EvP (S := S) (view (initS ["_law_one", "_law_other", "_law_pairs", "_law_kinds", "_law_a", "_law_b", "_law_value_here"] [tp R x, tp R y])) (fVar 0) (tp R x) := evp_var rfl
    have v1 : EvP (S := S) (view (initS ["_law_one", "_law_other", "_law_pairs", "_law_kinds", "_law_a", "_law_b", "_law_value_here"] [tp R x, tp R y])) (fVar 1) (tp R y) := evp_var rfl
    refine ifs_b (b := isTup x && isTup y) (evb_and (evb_of (evp_cb (evps_cons v0 (evps_cons evp_c evps_nil)) fun F k => isi_tup c k)) fun _ => evb_of (evp_cb (evps_cons v1 (evps_cons evp_c evps_nil)) fun F k => isi_tup c k)) (fun ht => ?_) fun ht => .inl (ifs_b (b := isRat x || isRat y) (evb_or (evb_of (evp_cb (evps_cons v0 (evps_cons evp_c evps_nil)) fun F k => isi_rat c k)) fun _ => evb_of (evp_cb (evps_cons v1 (evps_cons evp_c evps_nil)) fun F k => isi_rat c k)) (fun hr => ?_) fun hr => .inl ?_)
    · obtain ⟨h1, h2⟩ := Bool.and_eq_true_iff.mp ht
      cases x <;> try cases h1
      cases y <;> try cases h2
      rename_i xs ys
      rw [dep_tup] at hd
      unfold fxT at fx fy
      unfold okF at kx ky
      refine ret_ok (evp_andV (b := decide (xs.length = ys.length)) (c := ((xs.zip ys).map fun p => Pw.eqT p.1 p.2).all id) (evp_op (x := .int xs.length) (y := .int ys.length) (evp_cb (evps_cons (evp_is v0 tp_tup) evps_nil) fun F k => ?_) (evp_cb (evps_cons (evp_is v1 tp_tup) evps_nil) fun F k => ?_) fun F k => ?_) fun _ => ?_) ?_
      · show F (.int (tps R xs).length); rw [tps_len]; exact k
      · show F (.int (tps R ys).length); rw [tps_len]; exact k
      · have e : decide (xs.length = ys.length) = decide (((xs.length : Nat) : Int) = (ys.length : Nat)) := by rw [decide_eq_decide]; omega
        rw [e] at k
        exact k
      · refine evp_cb (xs := [.lst ((xs.zip ys).map fun p => .bl (Pw.eqT p.1 p.2))]) (evps_cons (evp_lcz (i := 4) (j := 5) (l := xs.zip ys) (a := fun p => tp R p.1) (a2 := fun p => tp R p.2) (items := zipP (tps R xs) (tps R ys)) (fun s G X g => ?_) ?_ ?_ (by decide) fun p hp => ?_) evps_nil) fun F k => ?_
        · refine (evps_cons v0 (evps_cons v1 evps_nil)) s (fun xs s1 => two xs fun x y => asLU x fun l => asLU y fun m => G (zipP l m) s1) X ?_
          rw [tp_tup, tp_tup]
          exact g
        · unfold zipP
          rw [tps_map, tps_map, List.zip_map, List.map_map]
          rfl
        · rw [List.length_zip]
          have := kx.1
          omega
        · have h1 := (List.of_mem_zip hp).1
          have h2 := (List.of_mem_zip hp).2
          exact evp_call0 (evps_cons (evp_var rfl) (evps_cons (evp_var rfl) evps_nil)) rfl fun s F X k => ⟨p.1, p.2, rfl, by have := dep_mem h1; omega, fx_mem fx h1, fx_mem fy h2, okF_mem kx.2 h1, okF_mem ky.2 h2, k⟩
        · show pick (blsOf ((xs.zip ys).map fun p => PV.bl (Pw.eqT p.1 p.2))) fun bs => F (.bl (bs.all id))
          rw [bls_map]
          exact k
      · have e : Pw.eqT (.tup xs) (.tup ys) = (decide (xs.length = ys.length) && ((xs.zip ys).map fun p => Pw.eqT p.1 p.2).all id) := by
          conv => lhs; unfold Pw.eqT
          exact eqTs_zip xs ys
        rw [e] at h
        exact h
    · have px : ∀ (r : En) (i : Nat) (z : Vt), r[i]? = some (.val (tp R z)) → EvP (S := S) r (fIf (Pv.fB (fCB (gIsi K) (fCons (fVar i) (fCons (fC (V.ref R)) fNil)))) (fTup (fCons (fFldO K i "top") (fCons (fFldO K i "bottom") fNil))) (fTup (fCons (fVar i) (fCons (fC (V.int 1)) fNil)))) (tp R (prV z)) := fun r i z e => by
        refine evp_if (b := isRat z) (evb_of (evp_cb (evps_cons (evp_var e) (evps_cons evp_c evps_nil)) fun F k => isi_rat c k)) (fun hz => ?_) fun hz => ?_
        · cases z <;> try cases hz
          rename_i t b
          unfold prV
          rw [tp_tup, tps_map]
          exact evp_tup (evps_cons (evp_fld (C := R) (ns := ratN) (xs := [.int t, .int b]) e c.cl c.nT rfl) (evps_cons (evp_fld (C := R) (ns := ratN) (xs := [.int t, .int b]) e c.cl c.nB rfl) evps_nil)) (by show 2 ≤ 1000000; decide)
        · have e2 : prV z = .tup [z, .int 1] := by cases z <;> first | (cases hz; done) | (unfold prV; rfl)
          rw [e2, tp_tup, tps_map]
          exact evp_tup (evps_cons (evp_var e) (evps_cons evp_c evps_nil)) (by show 2 ≤ 1000000; decide)
      have init : initS ["_law_one", "_law_other", "_law_pairs", "_law_kinds", "_law_a", "_law_b", "_law_value_here"] [tp R x, tp R y] = [.sh (tp R x), .sh (tp R y), .no, .no, .no, .no, .no] := rfl
      rw [init]
      refine setO_ok (evp_lst (evps_cons (px _ 0 x rfl) evps_nil) (by show 1 ≤ 1000000; decide)) fun a => .inl ⟨by show 1 < 900000; decide, .inl (px _ 1 y rfl s _ _ (.inl ?_))⟩
      have kd : ∀ (r : En) (z : Vt), r[6]? = some (.val (tp R z)) → EvP (S := S) r (fCB (gIsiT K) (fCons (fVar 6) (fCons (fTup (fCons (fC (V.ty "bool")) (fCons (fC (V.ty "str")) fNil))) fNil))) (.bl (isBl z || isStr z)) := fun r z e => evp_cb (evps_cons (evp_var e) (evps_cons (evp_tup (evps_cons evp_c (evps_cons evp_c evps_nil)) (by show 2 ≤ 1000000; decide)) evps_nil)) fun F k => isi_BS c k
      refine set_ok (evp_lcm (i := 6) (l := [x, y]) (a := tp R) (b := fun z => .bl (isBl z || isStr z)) (items := [tp R x, tp R y]) (fi_l (evp_lst (evps_cons (evp_var rfl) (evps_cons (evp_var rfl) evps_nil)) (by show 2 ≤ 1000000; decide))) rfl (by show 2 ≤ 900000; decide) fun z hz => kd _ z rfl) (.inl ?_)
      have dp : ∀ z : Vt, dep z < d + 1 → dep (prV z) ≤ d + 1 := fun z hz => by
        cases z <;> (unfold prV; rw [dep_tup]; simp only [deps]; first | (simp only [dep]; omega) | skip)
        all_goals (first | omega | (simp only [dep] at hz ⊢; omega))
      have fp : ∀ z : Vt, fxT z = true → fxT (prV z) = true := fun z hz => by
        cases z <;> (unfold prV fxT fxTs fxTs fxTs; first | rfl | (rw [hz]; rfl))
      refine ret_ok (x := .bl (!((isBl x || isStr x) || (isBl y || isStr y)) && Pw.eqT (prV x) (prV y))) (evp_andV (evp_op evp_c (evp_var (x := .lst [.bl (isBl x || isStr x), .bl (isBl y || isStr y)]) rfl) fun F k => ?_) fun _ => evp_op (evp_ix (evp_var (x := .lst [tp R (prV x), tp R (prV y)]) rfl) evp_c rfl) (evp_ix (evp_var (x := .lst [tp R (prV x), tp R (prV y)]) rfl) evp_c rfl) fun F k => ⟨prV x, prV y, rfl, rfl, fp x fx, fp y fy, dp x hd, k⟩) ?_
      · generalize (isBl x || isStr x) = p at k ⊢
        generalize (isBl y || isStr y) = q at k ⊢
        refine ⟨.bl true, [.bl p, .bl q], rfl, rfl, ?_⟩
        cases p <;> cases q <;> exact k
      · rw [pr_eq x y fx fy hr]
        exact h
    · exact ret_ok (evp_op v0 v1 fun F k => ⟨x, y, rfl, rfl, fx, fy, by omega, k⟩) h
def preOth (R : Addr) (d : Nat) : FP S := fun xs s F _ => ∃ x : Vt, xs = [tp R x] ∧ dep x < d ∧ okF x ∧ F (tp R (othT x)) s
theorem sc_oth : FnScope ["_law_value_here", "_law_one"] ["_law_value_here"] (defScope sOther) := ⟨rfl, rfl, rfl, by decide +kernel, rfl, by decide +kernel, by decide +kernel⟩
theorem ok_oth {f fI : Addr} {fd fdI : FuncData} {ds1 : List Value} (F : Fun K "_law_other_kind" "_law_other_kind" sOther f fd) (B : Bi mg) (c : RC K mg R) (b_ok : Binds K fd ["_law_value_here"] []) (d_ok : Df K mg "_law_other_kind" f)
    (M_ri : Mk K R fI) (G_ri : FnOk P w K mg base CX0 2 fI fdI ["self", "top", "bottom"] (spI W R 2 preRI)) (b_ri1 : Binds K fdI ["self", "top", "bottom"] ds1) (v_ri1 : Vals [.int 1] ds1) (d_ri : Df K mg "Ratio" R) : ∀ d : Nat, FnOk P w K mg base CX0 (d + 4) f fd ["_law_value_here"] (spF W 1 (preOth R d)) := by
  intro d
  induction d with
  | zero =>
    refine F.ok sc_oth (fun vs H Q E h => h.len) (fun cdv A outer s H vs Q E hr h => ?_)
    refine ⟨_, pss_cons ps_never (pss_cons ps_never (pss_cons ps_never (pss_cons ps_never (pss_one ps_never)))), ?_⟩
    obtain ⟨_, _, _, _, _, _, _, _, _, ⟨x, _, hx, _⟩, _⟩ := h
    omega
  | succ d G_ok =>
    refine F.ok sc_oth (fun vs H Q E h => h.len) (fun cdv A outer s H vs Q E hr h => ?_)
    have nd := sc_oth.nd
    refine ⟨_, (pss_cons (ps_if (pt_val (pe_callB call_isi (by rfl) B.n_isinstance (by decide +kernel) (pa_cons (pv 0) (pa_cons (pe_tyname "list" B.n_list (by decide +kernel)) pa_nil))))
(pss_one (ps_ret (pe_lc (own := [("_law_one", 1)]) (g := gName 1) (by rfl) nd (pi_list (pv 0)) (blkOk_by (own := [("_law_one", 1)]) (N := ["_law_value_here", "_law_one"]) (sc := (defScope sOther)) (by decide +kernel)) (fun _ _ _ _ _ => pg_name (i := 1) nd rfl (Or.inl rfl)) (fun _ _ _ _ _ => pts_nil) (fun _ _ _ _ _ => (pe_cs (calls_fn G_ok (hr.mono (by omega)) b_ok .nil pass0) d_ok.1 d_ok.2 (pa_cons (pv 1) pa_nil))))))
pss_nil)
(pss_cons (ps_if (pt_val (pe_callB call_isi (by rfl) B.n_isinstance (by decide +kernel) (pa_cons (pv 0) (pa_cons (pe_tyname "tuple" B.n_tuple (by decide +kernel)) pa_nil))))
(pss_one (ps_ret (pe_callTy call_tupS (by rfl) B.n_tuple (by decide +kernel) (pa_cons (pe_lc (own := [("_law_one", 1)]) (g := gName 1) (by rfl) nd (pi_tup (pv 0)) (blkOk_by (own := [("_law_one", 1)]) (N := ["_law_value_here", "_law_one"]) (sc := (defScope sOther)) (by decide +kernel)) (fun _ _ _ _ _ => pg_name (i := 1) nd rfl (Or.inl rfl)) (fun _ _ _ _ _ => pts_nil) (fun _ _ _ _ _ => (pe_cs (calls_fn G_ok (hr.mono (by omega)) b_ok .nil pass0) d_ok.1 d_ok.2 (pa_cons (pv 1) pa_nil)))) pa_nil))))
pss_nil)
(pss_cons (ps_if (pt_val (pe_callB call_isi (by rfl) B.n_isinstance (by decide +kernel) (pa_cons (pv 0) (pa_cons (pe_tyname "bool" B.n_bool (by decide +kernel)) pa_nil))))
(pss_one (ps_ret (pe_callTy call_intI (by rfl) B.n_int (by decide +kernel) (pa_cons (pv 0) pa_nil))))
pss_nil)
(pss_cons (ps_if (pt_val (pe_callB call_isi (by rfl) B.n_isinstance (by decide +kernel) (pa_cons (pv 0) (pa_cons (pe_tyname "int" B.n_int (by decide +kernel)) pa_nil))))
(pss_one (ps_ret (pe_cs (calls_make M_ri G_ri (hr.mono (by omega)) b_ri1 v_ri1 pass0) d_ri.1 d_ri.2 (pa_cons (pv 0) pa_nil))))
pss_nil)
(pss_one (ps_ret (pe_ifExp (PW.pt (pw_and (pt_val (pe_callB call_isi (by rfl) B.n_isinstance (by decide +kernel) (pa_cons (pv 0) (pa_cons (pe_gv c.v) pa_nil)))) (pw_and1 (pt_cmpR op_eq (pe_fld (pv 0) rfl) pe_int (nomark _))))) (pe_fld (pv 0) rfl) (pv 0)))))))), pure_run (W := W) h fun xs s F X hl h => ?_⟩
    obtain ⟨x, rfl, hd, hk, h⟩ := h
    have v0 : EvP (S := S) (view (initS ["_law_value_here", "_law_one"] [tp R x])) (fVar 0) (tp R x) := evp_var rfl
    refine ifs_b (b := isLst x) (evb_of (evp_cb (evps_cons v0 (evps_cons evp_c evps_nil)) fun F k => isi_lst c k)) (fun hx => ?_) fun hx1 => .inl (ifs_b (b := isTup x) (evb_of (evp_cb (evps_cons v0 (evps_cons evp_c evps_nil)) fun F k => isi_tup c k)) (fun hx => ?_) fun hx2 => .inl (ifs_b (b := isBl x) (evb_of (evp_cb (evps_cons v0 (evps_cons evp_c evps_nil)) fun F k => isi_bl c k)) (fun hx => ?_) fun hx3 => .inl (ifs_b (b := isInt x) (evb_of (evp_cb (evps_cons v0 (evps_cons evp_c evps_nil)) fun F k => isi_int c k)) (fun hx => ?_) fun hx4 => .inl ?_)))
    · cases x <;> try cases hx
      rename_i xs
      rw [dep_lst] at hd
      unfold okF at hk
      refine ret_ok (evp_lcm (i := 1) (l := xs) (a := tp R) (b := fun y => tp R (othT y)) (items := tps R xs) (fi_l (evp_is v0 tp_lst)) (tps_map R xs) (by omega) fun y hy => evp_call0 (evps_cons (evp_var rfl) evps_nil) rfl fun s F X kF => ⟨y, rfl, by have := dep_mem hy; omega, okF_mem hk.2 hy, kF⟩) ?_
      unfold othT at h
      rw [tp_lst, tps_map, othTs_map, List.map_map] at h
      exact h
    · cases x <;> try cases hx
      rename_i xs
      rw [dep_tup] at hd
      unfold okF at hk
      refine ret_ok (evp_tupS (evp_lcm (i := 1) (l := xs) (a := tp R) (b := fun y => tp R (othT y)) (items := tps R xs) (fun s G X g => (evp_is v0 tp_tup) s _ X g) (tps_map R xs) (by omega) fun y hy => evp_call0 (evps_cons (evp_var rfl) evps_nil) rfl fun s F X kF => ⟨y, rfl, by have := dep_mem hy; omega, okF_mem hk.2 hy, kF⟩)) ?_
      unfold othT at h
      rw [tp_tup, tps_map, othTs_map, List.map_map] at h
      exact h
    · cases x <;> try cases hx
      unfold othT at h
      exact ret_ok (evp_cb (evps_cons v0 evps_nil) fun F k => k) h
    · cases x <;> try first | (cases hx; done) | (cases hx3; done)
      rename_i i
      unfold othT at h
      have g1 : sg i 1 = 1 := by
        unfold sg
        rw [if_neg (by decide)]
        show ((Nat.gcd i.natAbs 1 : Nat) : Int) = 1
        rw [Nat.gcd_one_right]
        rfl
      refine ret_ok (evp_make0 (ns := ratN) (ys := [.int i, .int 1]) (evps_cons v0 evps_nil) rfl fun s F X kF => ⟨by decide, by decide, ?_⟩) h
      rw [g1, Int.fdiv_one]
      exact kF
    · refine ret_ok (evp_if (b := isRat x && (match x with | .rat _ b => decide (b = 1) | _ => false)) (evb_and (evb_of (evp_cb (evps_cons v0 (evps_cons evp_c evps_nil)) fun F k => isi_rat c k)) fun hr => ?_) (x := tp R (othT x)) (fun hx => ?_) fun hx => ?_) h
      · cases x <;> try cases hr
        rename_i t b
        exact evb_of (evp_op (evp_fld (C := R) (ns := ratN) (xs := [.int t, .int b]) rfl c.cl c.nB rfl) evp_c fun F k => k)
      · cases x <;> try cases hx
        rename_i t b
        have hb : b = 1 := of_decide_eq_true hx
        unfold othT
        rw [if_pos hb]
        exact evp_fld (C := R) (ns := ratN) (xs := [.int t, .int b]) rfl c.cl c.nT rfl
      · have e : othT x = x := by
          cases x <;> first | (cases hx1; done) | (cases hx2; done) | (cases hx3; done) | (cases hx4; done) | (unfold othT; rfl) | skip
          rename_i t b
          have hb : ¬ b = 1 := of_decide_eq_false hx
          unfold othT
          rw [if_neg hb]
        rw [e]
        exact v0
end
end K03
end

section -- PwV
set_option linter.all false
set_option maxRecDepth 100000
set_option maxHeartbeats 4000000
/-! PwV: == and != where the right one is of a class below that of the left: its own __eq__ is asked first. -/
namespace PySem.W
open PySem PySem.Spec PySem.Calls PyProof.Rows
section
variable {prog : Program} {w : World} {A : Around} {E : Value → Shared → Prop} {s : Shared} {K : Frag} {x y C D f L : Addr} {h₀ : Heap} {m : Str → Option Value} {ox oy : Obj} {od od2 : Option Obj}
theorem pw_cmpS {Q : Value → Shared → Prop} (hu : A.units < cLine) (X : K.In s.heap) (I : InstAt s.heap x ox C od) (J : InstAt s.heap y oy D od2) (ne : D ≠ C) (hsub : subIn K (.ref D) (.ref C) = some true)
    (hs : findIn K (.ref D) "__eq__" = some (some (.ref f))) (hf : isFn K (.ref f) = true)
    (h : wpAny (model prog w) A (call (.ref f) [.ref y, .ref x]) (CmpBack Q) E s) : wpAny (model prog w) A (richCompare .Eq (.ref x) (.ref y)) Q E s := by
  have one : wpAny (model prog w) A (tryCompare (.ref y) (cmpInfo .Eq).2.2 (.ref x)) (fun r s' => ∃ v, r = some v ∧ Q v s') E s := by
    unfold tryCompare
    refine wpAny_bind (ifBound_K X J hs hf (wpAny_mono h (fun v s' hv => ?_) fun _ _ e => e))
    cases v <;> first | exact hv.elim | exact wpAny_pure ⟨_, rfl, hv⟩
  unfold richCompare
  simp only [oneThing_ref]
  refine wpAny_holding (wpAny_bind (wpAny_cRoomFor hu ?_))
  refine wpAny_bind (I.type.here (wpAny_bind (J.type.here ?_)))
  have hn : (Value.ref C != Value.ref D) = true := by simp; exact fun z => ne z.symm
  simp only [hn, if_true]
  refine wpAny_bind ((looks_subIn X hsub).here ?_)
  simp only [if_true]
  refine wpAny_bind (wpAny_mono one (fun r s' z => ?_) fun _ _ e => e)
  obtain ⟨v, rfl, hq⟩ := z
  exact wpAny_bind (wpAny_rule (wpAny_pure hq))
theorem pw_neS {Q : Value → Shared → Prop} (hu : A.units + 1 < cLine) (X : K.In s.heap) (I : InstAt s.heap x ox C od) (J : InstAt s.heap y oy D od2) (ne : D ≠ C) (hsub : subIn K (.ref D) (.ref C) = some true) (hm : mroIn K D (.type "object") = some true)
    (hne : findIn K (.ref D) "__ne__" = some (some (.builtin "object.__ne__"))) (hs : findIn K (.ref D) "__eq__" = some (some (.ref f))) (hf : isFn K (.ref f) = true)
    (h : wpAny (model prog w) A.in1 (call (.ref f) [.ref y, .ref x]) (fun v z => ∃ c, v = .bool c ∧ Q (.bool (!c)) z) E s) : wpAny (model prog w) A (richCompare .NotEq (.ref x) (.ref y)) Q E s := by
  have ask : wpAny (model prog w) A (call (.builtin "object.__ne__") [.ref y, .ref x]) (fun v z => ∃ c, v = .bool c ∧ Q (.bool c) z) E s :=
    wpAny_call (codeAny_call_builtin PySem.F.cmp_object.ne.plain PySem.F.cmpEntry_ne (check_slot PySem.F.cmpKind_ne PySem.F.cmpSplit_ne (J.type.andThen (looks_mroIn X hm)) (PySem.F.cmpArgs_ne _ _) (pk_objNe (by show A.units + 1 < cLine; exact hu) X J hs hf (wpAny_mono h (fun v z hz => by
      obtain ⟨c, rfl, q⟩ := hz
      exact ⟨c, rfl, ⟨!c, rfl, q⟩⟩) fun _ _ e => e))))
  have one : wpAny (model prog w) A (tryCompare (.ref y) (cmpInfo .NotEq).2.2 (.ref x)) (fun r z => ∃ c, r = some (.bool c) ∧ Q (.bool c) z) E s := by
    unfold tryCompare
    refine wpAny_bind (pk_ifNe X J hne (wpAny_mono ask (fun v z hz => ?_) fun _ _ e => e))
    obtain ⟨c, rfl, q⟩ := hz
    exact wpAny_pure ⟨c, rfl, q⟩
  unfold richCompare
  simp only [oneThing_ref]
  refine wpAny_holding (wpAny_bind (wpAny_cRoomFor (Nat.lt_of_succ_lt hu) ?_))
  refine wpAny_bind (I.type.here (wpAny_bind (J.type.here ?_)))
  have hn : (Value.ref C != Value.ref D) = true := by simp; exact fun z => ne z.symm
  simp only [hn, if_true]
  refine wpAny_bind ((looks_subIn X hsub).here ?_)
  simp only [if_true]
  refine wpAny_bind (wpAny_mono one (fun r s' z => ?_) fun _ _ e => e)
  obtain ⟨c, rfl, hq⟩ := z
  exact wpAny_bind (wpAny_rule (wpAny_pure hq))
end
end PySem.W
namespace Pw
open PySem PySem.Spec L2 Pk Evl Pv
open PyProof.Rows hiding St
/-- x == y, x != y; x of the class at C, y of the class at D below it: y's own __eq__ answers -/
def rRef (neg : Bool) (C D : Addr) (r : List V → Hp → VK → Prop) : R2 := fun x y H Q => ∃ (a dx b dy : Addr) (fs gs : List (Str × V)), x = .ref a ∧ H a = some (.ins C dx fs) ∧ y = .ref b ∧ H b = some (.ins D dy gs) ∧ r [.ref b, .ref a] H fun v G => ∃ c, v = .bl c ∧ Q (.bl (c != neg)) G
section
variable {X : Cx} {C D f : Addr} {r : List V → Hp → VK → Prop}
theorem op_eqRef (hu : X.A.units < cLine) (ne : D ≠ C) (hsub : PySem.W.subIn X.K (.ref D) (.ref C) = some true) (hs : PySem.W.findIn X.K (.ref D) "__eq__" = some (some (.ref f))) (hf : PySem.W.isFn X.K (.ref f) = true) (c : RunAt X X.A f r) : OpR X (compareOp .Eq) (rRef false C D r) := by
  intro pins s σ H x y v u Q I rx ry q
  obtain ⟨a, dx, b, dy, fs, gs, rfl, ha, rfl, hb, q⟩ := q
  obtain ⟨mA, O, _⟩ := ins_get I.hok ha
  obtain ⟨od, J, _⟩ := O.look
  obtain ⟨mB, O2, _⟩ := ins_get I.hok hb
  obtain ⟨od2, J2, _⟩ := O2.look
  cases (show v = Value.ref a from rx)
  cases (show u = Value.ref b from ry)
  show wpAny _ X.A (richCompare .Eq (.ref a) (.ref b)) _ _ _
  refine PySem.W.pw_cmpS hu I.kIn J J2 ne hsub hs hf (thn (c pins s σ H [.ref b, .ref a] [.ref b, .ref a] _ I (.cons rfl (.cons rfl .nil)) q) fun z s1 hz => ?_)
  obtain ⟨v, G, I1, rz, k, rfl, q1⟩ := hz
  cases rz
  rw [Bool.bne_false] at q1
  exact ⟨.bl k, G, I1, rfl, q1⟩
theorem op_neRef (hu : X.A.units + 1 < cLine) (ne : D ≠ C) (hsub : PySem.W.subIn X.K (.ref D) (.ref C) = some true) (hm : PySem.W.mroIn X.K D (.type "object") = some true) (hne : PySem.W.findIn X.K (.ref D) "__ne__" = some (some (.builtin "object.__ne__"))) (hs : PySem.W.findIn X.K (.ref D) "__eq__" = some (some (.ref f))) (hf : PySem.W.isFn X.K (.ref f) = true)
    (c : RunAt X X.A.in1 f r) : OpR X (compareOp .NotEq) (rRef true C D r) := by
  intro pins s σ H x y v u Q I rx ry q
  obtain ⟨a, dx, b, dy, fs, gs, rfl, ha, rfl, hb, q⟩ := q
  obtain ⟨mA, O, _⟩ := ins_get I.hok ha
  obtain ⟨od, J, _⟩ := O.look
  obtain ⟨mB, O2, _⟩ := ins_get I.hok hb
  obtain ⟨od2, J2, _⟩ := O2.look
  cases (show v = Value.ref a from rx)
  cases (show u = Value.ref b from ry)
  show wpAny _ X.A (richCompare .NotEq (.ref a) (.ref b)) _ _ _
  refine PySem.W.pw_neS hu I.kIn J J2 ne hsub hm hne hs hf (thn (c pins s σ H [.ref b, .ref a] [.ref b, .ref a] _ I (.cons rfl (.cons rfl .nil)) q) fun z s1 hz => ?_)
  obtain ⟨v, G, I1, rz, k, rfl, q1⟩ := hz
  cases rz
  rw [Bool.bne_true] at q1
  exact ⟨k, rfl, .bl (!k), G, I1, rfl, q1⟩
end
def gRef (neg : Bool) (C D : Addr) (pre : FP Unit) : PV → PV → (PV → Prop) → Prop := fun x y F => asO x fun C1 _ _ => C1 = C ∧ asO y fun C2 _ _ => C2 = D ∧ pre [y, x] () (fun z _ => asB z fun b => F (.bl (b != neg))) fun _ _ _ _ => False
instance ao_ref {neg : Bool} {C D : Addr} {pre : FP Unit} {E : XK} : AO (rRef neg C D (fun vs H Q => spF W0 2 pre vs H Q E)) (gRef neg C D pre) false := ⟨fun {A H x y u v F Q} l r1 r2 h k => by
  obtain ⟨C1, ns, xs, rfl, rfl, h1⟩ := asO_ok h
  obtain ⟨C2, ms, ys, rfl, rfl, h2⟩ := asO_ok h1
  obtain ⟨a, dx, ws, rfl, na, ha, ea, ra⟩ := id r1
  obtain ⟨b, dy, ws2, rfl, nb, hb, eb, rb⟩ := id r2
  refine ⟨a, dx, b, dy, ws, ws2, rfl, ha, rfl, hb, rfl, A, _, (), _, _, ct0 l, RdL.cons r2 (RdL.cons r1 RdL.nil), xl0, h2, fun z H' y s' ry f w hz => ?_⟩
  obtain ⟨c, rfl, hf⟩ := asB_ok hz
  exact ⟨c, ry, k _ H' (.bl (c != neg)) rfl (fun z => nomatch z) (fr0 f) hf⟩⟩
end Pw
end

section -- K03e
set_option linter.all false
set_option maxRecDepth 100000
set_option maxHeartbeats 4000000
set_option synthInstance.maxSize 10000
set_option synthInstance.maxHeartbeats 4000000
/-! papers -/
namespace K03
open PySem PySem.Spec L2 Pk Evl Pv Pw
open PyProof.Rows hiding St
section
variable {P : Program} {w : World} {K : PySem.W.Frag} {mg : Str → Option Value} {base : Heap} {S : Type} {W : Wd S} {R CP CD C : Addr}
def papN : List Str := ["word", "parts"]
def papX (R : Addr) (z : Str) (as : List Vt) : List PV := [.str z, tp R (.tup as)]
def prePap (R : Addr) (d : Nat) : FI_ S := fun xs s F _ => ∃ (z : Str) (as : List Vt), xs = .str z :: as.map (tp R) ∧ dep (.tup as) < d ∧ okF (.tup as) ∧ F papN (papX R z (fixTs as)) s
def preBody (R : Addr) (d : Nat) : FI_ S := fun xs s F _ => ∃ (z : Str) (as : List Vt), xs = [.str z, tp R (.tup as)] ∧ dep (.tup as) < d ∧ okF (.tup as) ∧ F papN (papX R z (fixTs as)) s
theorem sc_pi : FnScope ["self", "word", "parts"] ["self", "word", "parts"] (defScope sPInit) := ⟨rfl, rfl, rfl, by decide +kernel, rfl, by decide +kernel, by decide +kernel⟩
theorem ok_pi {f fF : Addr} {fd fdF : FuncData} {d : Nat} (F : Fun K "__init__" "Paper.__init__" sPInit f fd) (cl : Cls K C) (nW : NoAttr K C "word") (nP : NoAttr K C "parts")
    (G_fx : FnOk P w K mg base CX0 (d + 1) fF fdF ["value"] (spF W 1 (preFix R d))) (b_fx : Binds K fdF ["value"] []) (d_fx : Df K mg "fixed" fF) : FnR P w K mg base CX0 (d + 2) f (spIs W C (prePap R d)) := by
  obtain ⟨oc, od, kV, doc, pm, an, cdv, ct, osl, rfl, lk, hcd⟩ := F.ex
  have h1 : FnR P w K mg base CX0 (d + 1 + 1) f (fun vs H Q E => ∃ ws rest, vs = ws ++ rest ∧ ws.length = (["self", "word"] : List Str).length ∧ rest.length ≤ sizeLine ∧ ∀ p, H p = Option.none → spI W C 2 (preBody R d) (ws ++ [V.ref p]) (upd H p (.tup rest)) Q E) := by
    refine StX.fn_star (N := ["self", "word", "parts"]) (ps := ["self", "word"]) (pv := "parts") lk hcd sc_pi StX.cxUp_none (fun us rest hl => match us, hl with | [u, v], _ => bind_star (fd := PySem.W.fnOf "__init__" "Paper.__init__" (defArgs sPInit) (defBody sPInit) (defScope sPInit) .none kV doc pm an cdv ct) rfl rfl rfl rfl rfl rfl u v rest) (fun A outer s H vs Q E hr h => ?_)
    have nd := sc_pi.nd
    refine ⟨_, (pss_cons (ps_fld (pv 0) (pv 1) rfl)
(pss_one (ps_fld (pv 0) (pe_cs (calls_fn G_fx (hr.mono (by omega)) b_fx .nil pass0) d_fx.1 d_fx.2 (pa_cons (pv 2) pa_nil)) rfl))), init_run (W := W) h fun x xs s F X hl h => ?_⟩
    obtain ⟨z, as, rfl, hd, hk, h⟩ := h
    refine ⟨cl, nW, by decide, .inl ?_⟩
    refine .inl ⟨cl, nP, by show 1 < 1000; decide, .inl ⟨rfl, .tup as, rfl, hd, hk, ?_⟩⟩
    refine ⟨_, _, rfl, ?_⟩
    have e1 : putN ("parts" : Str) (putN "word" []) = papN := by decide +kernel
    have e2 : ∀ x y : PV, putX ("parts" : Str) y (putN "word" []) (putX "word" x [] []) = [x, y] := fun x y => by
      show (if ("word" : Str) = "parts" then [y] else [x, y]) = [x, y]
      rw [if_neg (by decide +kernel)]
    have e3 : fixT (.tup as) = .tup (fixTs as) := by unfold fixT; rfl
    show F (putN ("parts" : Str) (putN "word" [])) (putX ("parts" : Str) (tp R (fixT (.tup as))) (putN "word" []) (putX "word" (.str z) [] [])) s
    rw [e1, e2, e3]
    exact h
  intro A outer s H us vs Q E hr e0 r hsp
  refine h1 A outer s H us vs Q E hr e0 r ?_
  obtain ⟨n, x, dx, ws, B, rfl, rfl, hx, hdx, ne, hl, A0, xs, s0, F0, X0, ct, rl, xl, ⟨z, as, rfl, hd, hk, hF⟩, k⟩ := hsp
  obtain ⟨w0, rest, rfl, rw0, rr⟩ := rl
  have hk2 := hk
  unfold okF at hk2
  have lr : rest.length = as.length := by rw [← rr.len, List.length_map]
  refine ⟨[V.ref x, w0], rest, rfl, rfl, sz (by rw [lr]; omega), fun p hp => ?_⟩
  have p1 : p ≠ x := fun z => by rw [z, upd_same] at hp; cases hp
  have p2 : p ≠ dx := fun z => by rw [z, upd_ne ne, upd_same] at hp; cases hp
  have hBp : B p = none := by rw [upd_ne p1, upd_ne p2] at hp; exact hp
  have ex : Ex B (upd B p (.tup rest)) := Ex.new hBp
  have eH : upd (upd (upd B dx (.own x)) x (.ins C dx [])) p (.tup rest) = upd (upd (upd B p (.tup rest)) dx (.own x)) x (.ins C dx []) := by
    funext b
    by_cases b1 : b = p
    · subst b1
      rw [upd_same, upd_ne p1, upd_ne p2, upd_same]
    · rw [upd_ne b1]
      by_cases b2 : b = x
      · subst b2; rw [upd_same, upd_same]
      · rw [upd_ne b2, upd_ne b2]
        by_cases b3 : b = dx
        · subst b3; rw [upd_same, upd_same]
        · rw [upd_ne b3, upd_ne b3, upd_ne b1]
  rw [eH]
  refine ⟨x, dx, [w0, .ref p], _, rfl, rfl, by rw [upd_ne p1.symm]; exact hx, by rw [upd_ne p2.symm]; exact hdx, ne, rfl, A0, [.str z, tp R (.tup as)], s0, F0, X0, ct.next (Fr.of ex) (W.stab ct.rel ex), ?_, xl.next (Fr.of ex), ⟨z, as, rfl, hd, hk, hF⟩, fun H' ns ys s' o f w q => k H' ns ys s' o ((Fr.of ex).trans f) w q⟩
  refine RdL.cons (rw0.ext ex) (RdL.cons ?_ RdL.nil)
  rw [tp_tup, tps_map]
  exact rd_tup ct hBp rr
/-- a denial is made by the __init__ above it -/
theorem ok_di {f cc cd g : Addr} {d : Nat} (T : SupI P K mg "Denial.__init__" sDInit f cc cd C g) (G : FnR P w K mg base CX0 (d + 2) g (spIs W C (prePap R d))) : FnR P w K mg base CX0 (d + 3) f (spIs W C (prePap R d)) := by
  have S : NdefX.NScope supN ["self", "word", "parts"] ["__class__"] (defScope sDInit) := by
    exact NdefX.nscope_by (by decide +kernel)
  have h1 := fn_super (k := d + 2) T S rfl rfl ⟨_, rfl, rfl⟩ (fun kV doc pm an ct us rest hl => match us, hl with | [u, v], _ => bind_star (fd := PySem.W.ksFn "__init__" "Denial.__init__" (defArgs sDInit) (defBody sDInit) (defScope sDInit) .none kV doc pm an (.ref cd) ct cc) rfl rfl rfl rfl rfl rfl u v rest) G
  intro A outer s H us vs Q E hr e0 r hsp
  refine h1 A outer s H us vs Q E hr e0 r ?_
  obtain ⟨n, x, dx, ws, B, rfl, rfl, hx, hdx, ne, hl, A0, xs, s0, F0, X0, ct, rl, xl, ⟨z, as, rfl, hd, hk, hF⟩, k⟩ := hsp
  obtain ⟨w0, rest, rfl, rw0, rr⟩ := id rl
  have hk2 := hk
  unfold okF at hk2
  have lr : rest.length = as.length := by rw [← rr.len, List.length_map]
  have hxD : x ≠ C := fun e => by
    obtain ⟨c0, hc⟩ := T.cls
    obtain ⟨o, lo⟩ : ∃ o, K.lookup C = some o := by
      unfold PySem.W.clsIn at hc
      split at hc
      · rename_i ho; exact ⟨_, ho⟩
      · cases hc
    have := (e0.bs _ _ (e0.mod.kin _ _ lo)).2
    rw [← e, upd_same] at this
    cases this
  refine ⟨x, dx, [], w0, rest, rfl, sz (by rw [lr]; omega), upd_same, hxD, fun H1 e1 => ?_⟩
  have hx1 : H1 x = some (.ins C dx []) := e1 _ _ upd_same
  have hd1 : H1 dx = some (.own x) := e1 _ _ (by rw [upd_ne ne, upd_same])
  obtain ⟨B1, hB1⟩ : ∃ B1 : Hp, B1 = fun b => if b = x ∨ b = dx then none else H1 b := ⟨_, rfl⟩
  have b1 : ∀ b, b ≠ x → b ≠ dx → B1 b = H1 b := fun b n1 n2 => by rw [hB1]; exact if_neg fun q => q.elim n1 n2
  have bx : B1 x = none := by rw [hB1]; exact if_pos (.inl rfl)
  have bd : B1 dx = none := by rw [hB1]; exact if_pos (.inr rfl)
  have eH : H1 = upd (upd B1 dx (.own x)) x (.ins C dx []) := by
    funext b
    by_cases c1 : b = x
    · subst c1; rw [upd_same, hx1]
    · rw [upd_ne c1]
      by_cases c2 : b = dx
      · subst c2; rw [upd_same, hd1]
      · rw [upd_ne c2, b1 b c1 c2]
  have ex : Ex B B1 := fun b o hb => by
    have c1 : b ≠ x := fun q => by rw [q, hx] at hb; cases hb
    have c2 : b ≠ dx := fun q => by rw [q, hdx] at hb; cases hb
    rw [b1 b c1 c2]
    exact e1 _ _ (by rw [upd_ne c1, upd_ne c2]; exact hb)
  rw [eH]
  exact ⟨n, x, dx, w0 :: rest, B1, rfl, rfl, bx, bd, ne, hl, A0, _, s0, F0, X0, ct.next (Fr.of ex) (W.stab ct.rel ex), RdL.cons (rw0.ext ex) (rr.ext ex), xl.next (Fr.of ex), ⟨z, as, rfl, hd, hk, hF⟩, fun H' ns ys s' o f w q => k H' ns ys s' o ((Fr.of ex).trans f) w q⟩
theorem sc_pb : FnScope ["self"] ["self"] (defScope sPBool) := ⟨rfl, rfl, rfl, by decide +kernel, rfl, by decide +kernel, by decide +kernel⟩
theorem sc_db : FnScope ["self"] ["self"] (defScope sDBool) := ⟨rfl, rfl, rfl, by decide +kernel, rfl, by decide +kernel, by decide +kernel⟩
def preBl (b : Bool) : FP S := fun xs s F _ => F (.bl b) s
theorem ok_pb {f : Addr} {fd : FuncData} (F : Fun K "__bool__" "Paper.__bool__" sPBool f fd) : FnOk P w K mg base CX0 1 f fd ["self"] (spF W 1 (preBl true)) := by
  refine F.ok sc_pb (fun vs H Q E h => h.len) (fun cdv A outer s H vs Q E hr h => ?_)
  exact ⟨_, (pss_one (ps_ret pe_bl)), pure_run (W := W) h fun xs s F X hl h => h⟩
theorem ok_db {f : Addr} {fd : FuncData} (F : Fun K "__bool__" "Denial.__bool__" sDBool f fd) : FnOk P w K mg base CX0 1 f fd ["self"] (spF W 1 (preBl false)) := by
  refine F.ok sc_db (fun vs H Q E h => h.len) (fun cdv A outer s H vs Q E hr h => ?_)
  exact ⟨_, (pss_one (ps_ret pe_bl)), pure_run (W := W) h fun xs s F X hl h => h⟩
/-- what the text tells of Paper, at CP, and Denial, at CD -/
structure PC (K : PySem.W.Frag) (mg : Str → Option Value) (R CP CD : Addr) : Prop where
  clP : Cls K CP
  clD : Cls K CD
  wP : NoAttr K CP "word"
  wD : NoAttr K CD "word"
  pP : NoAttr K CP "parts"
  pD : NoAttr K CD "parts"
  tyP : TyC K CP
  tyD : TyC K CD
  kPP : PySem.W.kitOne K (.ref CP) (.ref CP) = some true
  kDP : PySem.W.kitOne K (.ref CD) (.ref CP) = some true
  kPD : PySem.W.kitOne K (.ref CP) (.ref CD) = some false
  kDD : PySem.W.kitOne K (.ref CD) (.ref CD) = some true
  gP : mg "Paper" = some (.ref CP)
  gD : mg "Denial" = some (.ref CD)
theorem PC.vP (T : PC K mg R CP CD) : ∃ u, mg "Paper" = some u ∧ RelV (.ref CP) u := ⟨_, T.gP, rfl⟩
theorem PC.vD (T : PC K mg R CP CD) : ∃ u, mg "Denial" = some u ∧ RelV (.ref CD) u := ⟨_, T.gD, rfl⟩
def Two2 (CP CD C : Addr) : Prop := C = CP ∨ C = CD
def prePEq (K : PySem.W.Frag) (R CP CD : Addr) (d : Nat) : FP Unit := fun xs s F _ => ∃ (C : Addr) (z : Str) (as : List Vt) (y : PV), xs = [.ins C papN (papX R z as), y] ∧ Two2 CP CD C ∧
  ((∃ (C' : Addr) (z' : Str) (bs : List Vt), Two2 CP CD C' ∧ y = .ins C' papN (papX R z' bs) ∧ fxTs as = true ∧ fxTs bs = true ∧ dep (.tup as) ≤ d ∧ F (.bl (decide (z = z') && Pw.eqT (.tup as) (.tup bs))) s) ∨ ∃ T, TyP K y T ∧ PySem.W.kitOne K T (.ref CP) = some false ∧ F (.bl false) s)
theorem sc_pe : FnScope ["self", "other"] ["self", "other"] (defScope sPEq) := ⟨rfl, rfl, rfl, by decide +kernel, rfl, by decide +kernel, by decide +kernel⟩
theorem ok_pe {f fE : Addr} {fd fdE : FuncData} {d : Nat} (F : Fun K "__eq__" "Paper.__eq__" sPEq f fd) (B : Bi mg) (c : RC K mg R) (T : PC K mg R CP CD) (kR : REq P w K mg base R fE fdE) : FnOk P w K mg base CX0 (d + 3) f fd ["self", "other"] (spF W0 2 (prePEq K R CP CD d)) := by
  refine F.ok sc_pe (fun vs H Q E h => h.len) (fun cdv A outer s H vs Q E hr h => ?_)
  have nd := sc_pe.nd
  have gP := T.vP
  have kE := fun (X : Cx) hP hw hK hm hb => kR.at c (X := X) hP hw hK hm hb
  have kE := kE (cxOf CX0 P w K mg base ["self", "other"] "Paper.__eq__" (defScope sPEq) f cdv A outer s H E).nox rfl rfl rfl rfl rfl
  refine ⟨_, (pss_one (ps_ret (pe_and (pe_callB call_isi (by rfl) B.n_isinstance (by decide +kernel) (pa_cons (pv 1) (pa_cons (pe_gv gP) pa_nil))) (pe_and (pe_cmpR op_eq (pe_fld (pv 0) rfl) (pe_fld (pv 1) rfl) (nomark _)) (pe_one (pe_cmpR (op_eqT kE (R := R) (d := d) (hr.mono (by omega))) (pe_fld (pv 0) rfl) (pe_fld (pv 1) rfl) (nomark _))))))), pure_run (W := W0) h fun xs s F X hl h => ?_⟩
  obtain ⟨C, z, as, y, rfl, hC, h⟩ := h
  have v1 : EvP (S := Unit) (view (initS ["self", "other"] [.ins C papN (papX R z as), y])) (fVar 1) y := evp_var rfl
  have clC : Cls K C ∧ NoAttr K C "word" ∧ NoAttr K C "parts" := by
    rcases hC with rfl | rfl
    · exact ⟨T.clP, T.wP, T.pP⟩
    · exact ⟨T.clD, T.wD, T.pD⟩
  have lw : ∀ (z : Str) (as : List Vt), lookP "word" papN (papX R z as) = some (.str z) := fun z as => rfl
  have lp : ∀ (z : Str) (as : List Vt), lookP "parts" papN (papX R z as) = some (tp R (.tup as)) := fun z as => rfl
  rcases h with ⟨C', z', bs, hC', rfl, fa, fb, hd, h⟩ | ⟨Ty, ty, kt, h⟩
  · have clC' : Cls K C' ∧ NoAttr K C' "word" ∧ NoAttr K C' "parts" ∧ TyC K C' ∧ PySem.W.kitOne K (.ref C') (.ref CP) = some true := by
      rcases hC' with rfl | rfl
      · exact ⟨T.clP, T.wP, T.pP, T.tyP, T.kPP⟩
      · exact ⟨T.clD, T.wD, T.pD, T.tyD, T.kDP⟩
    refine ret_ok (x := .bl (true && (decide (z = z') && Pw.eqT (.tup as) (.tup bs)))) (evp_andV (evp_cb (evps_cons v1 (evps_cons evp_c evps_nil)) fun F k => ⟨.ref C', _, true, rfl, ⟨clC'.2.2.2.1, rfl⟩, clC'.2.2.2.2, k⟩) fun _ => evp_andV (evp_op (evp_fld rfl clC.1 clC.2.1 (lw z as)) (evp_fld rfl clC'.1 clC'.2.1 (lw z' bs)) fun F k => k) fun _ => evp_op (evp_fld rfl clC.1 clC.2.2 (lp z as)) (evp_fld rfl clC'.1 clC'.2.2.1 (lp z' bs)) fun F k => ⟨.tup as, .tup bs, rfl, rfl, by unfold fxT; exact fa, by unfold fxT; exact fb, hd, k⟩) ?_
    rw [Bool.true_and]
    exact h
  · exact ret_ok (x := .bl (false && false)) (evp_andV (evp_cb (evps_cons v1 (evps_cons evp_c evps_nil)) fun F k => ⟨Ty, _, false, rfl, ty, kt, k⟩) fun e => nomatch e) h
end
end K03
end

section -- PkI
set_option linter.all false
set_option maxRecDepth 100000
set_option maxHeartbeats 4000000
/-! PkI: d.items() walked by a name alone: each turn a new pair, whatever became of the first. -/
namespace Pk
open PySem PySem.Spec PyProof.Rows L2
open PySem.W (KdxIt)
section
variable {prog : Program} {w : World} {K : Type} [DecidableEq K] {knd : KeyKind prog w K} {A : Around} {E : Value → Shared → Prop}
theorem look_any {s : Shared} {a : Addr} {Q : Option Obj → Shared → Prop} (h : Q (s.heap.get? a) s) : wpAny (model prog w) A (loadIfAlive a) Q E s := fun _ _ _ => h
/-- the walker's record: what it owns, whether that was seen alive -/
theorem owns_seen {s : Shared} {it d a : Addr} {i n ep : Nat} {ok ov : Value} {f : Bool} {Q : Bool → Shared → Prop} (ht : KdxIt s.heap it d i n ep ok ov a f)
    (h : ∀ b g hp, KdxIt hp it d i n ep ok ov a g → Heap.SameBut it s.heap hp → Q b { s with heap := hp }) : wpAny (model prog w) A (Builtin.Dict_items.ownedTupleIsFree (.ref it)) Q E s := by
  unfold Builtin.Dict_items.ownedTupleIsFree
  refine wpAny_bind (wpAny_field ht rfl (x := rawInt a) rfl ?_)
  show wpAny _ _ (loadIfAlive ((a : Int).toNat) >>= _) _ _ _
  refine wpAny_bind (look_any ?_)
  by_cases c : ((s.heap.get? ((a : Int).toNat)).isNone) = true
  · rw [if_pos c]
    exact wpAny_pure (h true f s.heap ht (Heap.SameBut.refl _ _))
  · rw [if_neg c]
    refine wpAny_bind (wpAny_field ht rfl (x := .bool f) rfl ?_)
    cases f with
    | true => exact wpAny_pure (h false true s.heap ht (Heap.SameBut.refl _ _))
    | false => exact wpAny_bind (wpAny_setField_rec ht (by simp) fun hp e sb => wpAny_pure (h false true hp e sb))
/-- a pair of the walker's: new, whoever owns what -/
theorem pair_new {s : Shared} {it d a : Addr} {i n ep : Nat} {ok ov key val : Value} {f : Bool} {Q : Value → Shared → Prop} (ht : KdxIt s.heap it d i n ep ok ov a f)
    (h : ∀ (hp : Heap) (g : Bool) (b : Addr) (k2 v2 : Value), KdxIt hp it d i n ep k2 v2 b g → hp.get? s.heap.objs.size = some { cls := .type "tuple", data := .seq #[key, val] } → hp.objs.size = s.heap.objs.size + 1 →
      (∀ c o, c ≠ it → s.heap.get? c = some o → hp.get? c = some o) → Q (.ref s.heap.objs.size) { s with heap := hp }) : wpAny (model prog w) A (Builtin.Dict_items.pairFromOwner (.ref it) 6 key val) Q E s := by
  have lt : it < s.heap.objs.size := Heap.lt_size ht
  unfold Builtin.Dict_items.pairFromOwner
  refine wpAny_bind (wpAny_newTuple ?_)
  obtain ⟨h1, e1⟩ : ∃ h1, h1 = s.heap.push { cls := .type "tuple", data := .seq #[key, val] } := ⟨_, rfl⟩
  have t1 : h1.get? s.heap.objs.size = some { cls := .type "tuple", data := .seq #[key, val] } := e1 ▸ Heap.get?_push_size _ rfl
  have z1 : h1.objs.size = s.heap.objs.size + 1 := by rw [e1, Heap.size_push]
  have k1 : ∀ c o, s.heap.get? c = some o → h1.get? c = some o := fun c o e => e1 ▸ Heap.get?_push_of_some _ e
  have i1 : KdxIt h1 it d i n ep ok ov a f := k1 _ _ ht
  have go : ∀ {hp : Heap} {g : Bool} {b : Addr} {k2 v2 : Value}, KdxIt hp it d i n ep k2 v2 b g → Heap.SameBut it h1 hp → Q (.ref s.heap.objs.size) { s with heap := hp } := fun {hp g b k2 v2} e sb =>
    h hp g b k2 v2 e (sb.extBut _ _ (Nat.ne_of_gt lt) t1) (by rw [sb.1, z1]) fun c o nc q => sb.extBut c o nc (k1 c o q)
  rw [show s.heap.push { cls := .type "tuple", data := .seq [key, val].toArray } = h1 from e1.symm]
  refine wpAny_bind (owns_seen (s := { s with heap := h1 }) i1 fun b g hp e sb => ?_)
  cases b with
  | false => exact wpAny_pure (go e sb)
  | true =>
    simp only [if_true]
    refine wpAny_bind (wpAny_field e rfl (x := ok) rfl (wpAny_bind (wpAny_field e rfl (x := ov) rfl ?_)))
    refine wpAny_bind (wpAny_setField_rec e (by simp) fun h3 e3 s3 => wpAny_bind (wpAny_setField_rec e3 (by simp) fun h4 e4 s4 => wpAny_bind (wpAny_setField_rec e4 (by simp) fun h5 e5 s5 => wpAny_bind (wpAny_setField_rec e5 (by simp) fun h6 e6 s6 => wpAny_bind (wpAny_letGo (wpAny_pure ?_)))))) 
    have e6' : KdxIt h6 it d i n ep key val s.heap.objs.size false := e6
    exact go e6' ((((sb.trans s3).trans s4).trans s5).trans s6)
/-- the next pair -/
theorem next_pair {s : Shared} {it d a : Addr} {i ep : Nat} {kvs : List (K × Value)} {k : K} {v ok ov : Value} {f : Bool} {Q : Option Value → Shared → Prop} (ht : KdxIt s.heap it d i kvs.length ep ok ov a f) (hm : s.heap.DictAt knd d kvs ep) (hx : kvs[i]? = some (k, v))
    (h : ∀ (key : Value) (hp : Heap) (g : Bool) (b : Addr) (k2 v2 : Value), knd.is k key = true → KdxIt hp it d (i + 1) kvs.length ep k2 v2 b g → hp.get? s.heap.objs.size = some { cls := .type "tuple", data := .seq #[key, v] } → hp.objs.size = s.heap.objs.size + 1 →
      (∀ c o, c ≠ it → s.heap.get? c = some o → hp.get? c = some o) → Q (some (.ref s.heap.objs.size)) { s with heap := hp }) : wpAny (model prog w) A (pyNext (.ref it)) Q E s := by
  obtain ⟨od, es, e1, e2, e3, e4, pr, e5⟩ := id hm
  have ty : s.TypeIs (.ref it) "dict_itemiterator" := ⟨_, ht, rfl⟩
  have many : es.size = kvs.length := by rw [← pr.length]; simp
  have lt : i < es.size := by rw [many]; exact (List.getElem?_eq_some_iff.mp hx).1
  obtain ⟨ky, vy⟩ := pr.get? (e := es[i]) (by simp [lt]) hx
  have own : Builtin.Dict_items.ownsTuple "dict_itemiterator" = true := by decide
  unfold pyNext
  refine wpAny_bind (wpAny_attempt (wpAny_callSpecial?_slot (name := ("__next__" : Str)) ty F.slot_dict_itemiterator_next (wpAny_call_entry F.slot_dict_itemiterator_next ty F.entry_dict_itemiterator_next (wpAny_bind (wpAny_pure (wpAny_bind (wpAny_bind ?_)))) (F.args_dict_itemiterator_next_1 _))))
  refine wpAny_bind (wpAny_typeNameOfWhole_itemiter ty (wpAny_pure ?_))
  refine wpAny_bind (wpAny_fieldsOf ht rfl ?_)
  simp only [own, if_true]
  show wpAny _ _ (if ((Value.ref d) == .none) = true then _ else _) _ _ _
  have nn : ((Value.ref d) == Value.none) = false := rfl
  rw [nn]
  simp only [Bool.false_eq_true, if_false]
  refine wpAny_bind (wpAny_pure (wpAny_bind (wpAny_dictEntries e1 e3 ?_)))
  rw [if_neg (by rw [many]; simp)]
  refine wpAny_bind (wpAny_pure (wpAny_bind (wpAny_dictEpoch e1 e3 ?_)))
  rw [if_neg (by simp)]
  refine wpAny_pure ?_
  simp only [Int.toNat_natCast, Array.getElem?_eq_getElem lt, show ¬ ((i : Int) < 0) from fun z => by omega, if_false]
  refine wpAny_bind ?_
  refine wpAny_bind (wpAny_typeNameOfWhole_itemiter ty (wpAny_pure ?_))
  refine wpAny_bind (wpAny_isOneOf_itemiter ty ?_)
  show wpAny _ _ (setField (.ref it) 3 (rawInt ((i : Int) + 1)) >>= _) _ _ s
  refine wpAny_bind (wpAny_setField_rec ht (by simp) fun g1 q1 b1 => ?_)
  have i1 : KdxIt g1 it d (i + 1) kvs.length ep ok ov a f := by
    have z : ((i + 1 : Nat) : Int) = (i : Int) + 1 := by omega
    show g1.get? it = _
    rw [z]
    simpa [rawInt] using q1
  have y1 : ({ s with heap := g1 } : Shared).TypeIs (.ref it) "dict_itemiterator" := ⟨_, i1, rfl⟩
  have zz : g1.objs.size = s.heap.objs.size := b1.1
  refine wpAny_bind (wpAny_holding (wpAny_bind (wpAny_isOneOf_itemiter y1 ?_)))
  refine wpAny_bind (wpAny_isOneOf_itemiter y1 ?_)
  show wpAny _ _ (Builtin.Dict_items.pairFromOwner (.ref it) 6 es[i].key es[i].val) _ _ { s with heap := g1 }
  refine pair_new (s := { s with heap := g1 }) i1 fun hp g b k2 v2 r1 r2 r3 r4 => ?_
  refine wpAny_pure ⟨_, rfl, wpAny_pure ?_⟩
  show Q (some (.ref g1.objs.size)) { s with heap := hp }
  have r2 : hp.get? g1.objs.size = some { cls := .type "tuple", data := .seq #[es[i].key, es[i].val] } := r2
  have r3 : hp.objs.size = g1.objs.size + 1 := r3
  rw [zz] at r2 r3 ⊢
  exact h es[i].key hp g b k2 v2 ky r1 (by rw [← vy]; exact r2) r3 fun c o nc q => r4 c o nc (b1.extBut c o nc q)
end
/-- the walker of d.items(), at its turns -/
def WkIt (h : Heap) (it d : Addr) (i n ep : Nat) : Prop := (∃ ok ov, IsItemIter h it d i n ep ok ov) ∨ ∃ ok ov a f, KdxIt h it d i n ep ok ov a f
theorem WkIt.there {h : Heap} {it d : Addr} {i n ep : Nat} (x : WkIt h it d i n ep) : ∃ vs, h.get? it = some { cls := .type "dict_itemiterator", dict := none, data := .fields vs, slots := #[] } := by
  rcases x with ⟨ok, ov, e⟩ | ⟨ok, ov, a, f, e⟩ <;> exact ⟨_, e⟩
theorem turn_itemsN {P : Program} {w : World} {K : PySem.W.Frag} {d : Addr} {o : Obj} {es : Array DictEntry} {ep : Nat} {kvs : List (L2.Key × V)} {x : Str} {xp : Pos} (it : Addr) (hod : o.data = .dict es ep) :
    Turn P w K (.Name x xp) (Iti d o kvs) [it] it (fun i h => WkIt h it d i kvs.length ep) where
  mem := List.mem_singleton.mpr rfl
  obj := fun i h st b hb => by
    rw [List.mem_singleton.mp hb]
    obtain ⟨vs, e⟩ := st.there
    exact ⟨_, e, fun v z => nomatch z⟩
  keep := fun i h h' st k => st.imp (fun ⟨ok, ov, e⟩ => ⟨ok, ov, k it (List.mem_singleton.mpr rfl) _ e⟩) fun ⟨ok, ov, a, f, e⟩ => ⟨ok, ov, a, f, k it (List.mem_singleton.mpr rfl) _ e⟩
  item := by
    intro X hP hw hK hc i pins s σ H E I hf st hg
    subst hP hw hK
    obtain ⟨hd, hi⟩ := hg
    obtain ⟨hs, hgd, hx, es', ep', vs, hdt, hsz, kv, hm⟩ := I.frzK hd
    obtain ⟨rfl, rfl⟩ := dict_ep hod hdt
    obtain ⟨⟨k, v⟩, hkv⟩ : ∃ q, kvs[i]? = some q := ⟨kvs[i], List.getElem?_eq_getElem hi⟩
    obtain ⟨u, hu, ru⟩ := kv_get kv hkv
    have hl : kvs.length = vs.length := Paired.length kv
    rw [hl] at st
    have hlt : it < s.heap.objs.size := by obtain ⟨_, e⟩ := st.there; exact Heap.lt_size e
    -- a pair has come
    have fin : ∀ (key : Value) (h' : Heap), (mixKind X.prog X.w).is k key = true → WkIt h' it d (i + 1) vs.length ep' → h'.get? s.heap.objs.size = some { cls := .type "tuple", data := .seq #[key, u] } →
        (∀ b o, b ≠ it → s.heap.get? b = some o → h'.get? b = some o) → ∃ u1, some (Value.ref s.heap.objs.size) = some u1 ∧
        wpAny (model X.prog X.w) X.A (letOwnedTupleGo (.Name x xp) (.ref it) u1) (fun _ s2 => ∃ y H', Inv X pins σ H' s2 ∧ RelV y u1 ∧ (Iti d o kvs).yld i H y H' ∧ WkIt s2.heap it d (i + 1) kvs.length ep' ∧ ∀ b ∈ [it], H' b = none) E { s with heap := h' } := fun key h' hkey st' hT hk => by
      refine ⟨_, rfl, wpAny_pure ?_⟩
      have fresh : ObjOk X.prog X.w (upd H s.heap.objs.size (.tup [kV k, v])) h' s.heap.objs.size (.tup [kV k, v]) :=
        ⟨by show 2 ≤ sizeLine; decide, [key, u], Paired.cons (relV_key (show keyIs k key = true from hkey)) (Paired.cons ru Paired.nil), _, hT, rfl, _, rfl⟩
      refine ⟨V.ref s.heap.objs.size, _, I.turnedNew (t' := s.toks) (ch := [it]) (fun b ob hb e => hk b ob (fun z => hb (List.mem_singleton.mpr z)) e) hf (Nat.le_refl _) fresh, rfl, ⟨_, k, v, hkv, rfl, I.hok.fresh (Nat.le_refl _), rfl⟩, by rw [hl]; exact st', fun b hb => ?_⟩
      rw [List.mem_singleton.mp hb, upd_ne (Nat.ne_of_lt hlt)]
      exact (hf it (List.mem_singleton.mpr rfl)).1
    rcases st with ⟨ok, ov, e⟩ | ⟨ok, ov, a, f, e⟩
    · exact wpAny_pyNext_items_item e hm hu fun key h' hkey ho hT hz hk => fin key h' hkey (.inr ⟨key, u, _, false, ho⟩) hT hk
    · exact next_pair e hm hu fun key hp g b k2 v2 hkey ho hT hz hk => fin key hp hkey (.inr ⟨k2, v2, b, g, ho⟩) hT hk
  done := by
    intro X hP hw hK hc i pins s σ H E I hf st hg
    subst hP hw hK
    obtain ⟨hd, hi⟩ := hg
    obtain ⟨f0, f1, f2, f3, f4, f5⟩ := hf it (List.mem_singleton.mpr rfl)
    obtain ⟨hs, hgd, hx, es', ep', vs, hdt, hsz, kv, hm⟩ := I.frzK hd
    obtain ⟨rfl, rfl⟩ := dict_ep hod hdt
    have hl : kvs.length = vs.length := Paired.length kv
    rw [hl] at st
    have out : vs[i]? = none := List.getElem?_eq_none (by omega)
    have fin : ∀ h', Heap.ExtBut it s.heap h' → (none : Option Value) = none ∧ Inv X pins σ H { s with heap := h' } := fun h' eb => ⟨rfl, I.turned (t' := s.toks) (fun b ob hb e => eb b ob hb e) f0 f1 f3 f4 f5⟩
    rcases st with ⟨ok, ov, e⟩ | ⟨ok, ov, a, f, e⟩
    · exact wpAny_pyNext_items_end (I.ok.hd hc) e hm out fin
    · exact PySem.W.kdx_end_out (I.ok.hd hc) e hm out fin
  self := fun A i s Q E st h => by
    rcases st with ⟨ok, ov, e⟩ | ⟨ok, ov, a, f, e⟩
    · exact PySem.W.kcp_self e h
    · have ty : s.TypeIs (.ref it) "dict_itemiterator" := ⟨_, e, rfl⟩
      exact wpAny_pyIter_slot ty F.slot_dict_itemiterator_iter (wpAny_call_entry F.slot_dict_itemiterator_iter ty PySem.W.kcp_entry (show wpAny _ _ (ret (.ref it)) _ _ s from wpAny_pure ⟨_, rfl, "dict_itemiterator", _, ty, F.slot_dict_itemiterator_next.lookup, h⟩) (F.args_dict_itemiterator_iter_1 _))
section
variable {X : Cx} {e : Expr} {td : TE} {apos cpos xp : Pos} {x : Str}
/-- for x in d.items() -/
theorem pi_itemsN (he : PE X e td) (hb : attributeBase e "items" X.env (eval e X.env) = eval e X.env := by rfl) (hl : (apos.endLine == cpos.line) = true := by rfl) : PI X (.Name x xp) (.Call (.Attribute e "items" apos) [] [] cpos) (iItems td) := by
  refine ⟨fun pins s σ H R I h => wpAny_Call_method (T := "dict") (id := "dict.items") hb rfl hl F.plainAttrs_dict F.slot_dict_items F.type_dict_items (thn (he.run pins s σ H _ I h) fun u z ⟨y, G, J, ry, d, o, kvs, ey, hd, q⟩ => ?_)⟩
  subst ey
  cases (show u = Value.ref d from ry)
  obtain ⟨ok, _, _, es, ep, vs, hdt, _, kv, hm⟩ := J.frzK hd
  have many : kvs.length = vs.length := Paired.length kv
  refine ⟨hm.dictOf.typeIs, hm.dictOf.mapOf.noDict, ?_⟩
  obtain ⟨vo, ev⟩ : ∃ vo : Obj, vo = { cls := .type "dict_items", data := .fields #[.ref d] } := ⟨_, rfl⟩
  have J2 : Inv X pins σ G { z with heap := z.heap.push vo } := J.kept (t' := z.toks) fun b ob q => Heap.get?_push_of_some _ q
  have at0 : (z.heap.push vo).get? z.heap.objs.size = some vo := Heap.get?_push_size _ (by rw [ev]; rfl)
  have walk : wpAny (model X.prog X.w) X.A (pyIter (.ref z.heap.objs.size)) (PIE X pins σ (.Name x xp) R) X.xe { z with heap := z.heap.push vo } :=
    wpAny_pyIter_items (d := d) (knd := mixKind X.prog X.w) ⟨vo, at0, by rw [ev], by rw [ev]⟩ (hm.push _) (pi_one (tk := z.toks) J2 _ (turn_itemsN _ hdt) (.inl ⟨.none, .none, by rw [many]; exact Heap.get?_push_size _ rfl⟩) q)
  subst ev
  show wpAny _ _ (callWith cpos (.builtin "dict.items") [.ref d] [] []) _ X.xe z
  exact method_meetsIn F.slot_dict_items F.entry_dict_items rfl (PySem.evalArgs_none ⟨rfl, hm.dictOf.typeIs, F.args_dict_items_1 _, _, meets_dict_items (mixKind X.prog X.w) d ok, ⟨vs, hm.dictOf⟩, walk⟩)
end
end Pk
end

section -- K03f
set_option linter.all false
set_option maxRecDepth 100000
set_option maxHeartbeats 4000000
namespace K03
open PySem PySem.Spec L2 Pk Evl
open PyProof.Rows hiding St
open TL (tl numL)
/-- a small factor beside any number -/
def CMul2 (i _ : Int) : Prop := PySem.Builtin.Int.intBits i ≤ 64
theorem op_mul2 : OpR X (binaryOp .Mult) (rI CMul2 fun i j => .int (i * j)) := opI fun _ _ _ _ _ _ _ hc q => mul_int q (PySem.IntMulOk.of_left hc)
theorem mul2_2 (j : Int) : CMul2 2 j := by unfold CMul2; decide
/-! ### the pen: a list of cells, the turn, what is left -/
def PenAt (c : Addr) (H : Hp) (p : Addr) (k : Nat) : Prop := ∃ (t l : Int) (ns : List Int), H p = some (.lst [.ref c, .int t, .int l]) ∧ H c = some (.lst (ns.map V.int)) ∧ c ≠ p ∧ ns.length ≤ 63 ∧ 0 ≤ t ∧ t + (k : Int) ≤ 2 ^ 40 ∧ 0 ≤ l
/-- what stands beside p stays -/
def PFr (p : Addr) (H H1 : Hp) : Prop := ∀ b o, b ≠ p → H b = some o → H1 b = some o
theorem PFr.of {p : Addr} {H H1 : Hp} (e : Ex H H1) : PFr p H H1 := fun b o _ h => e b o h
theorem PFr.trans {p : Addr} {H H1 H2 : Hp} (a : PFr p H H1) (b : PFr p H1 H2) : PFr p H H2 := fun x o n h => b x o n (a x o n h)
theorem PFr.upd {p : Addr} {H H1 : Hp} {o : HO} (a : PFr p H H1) : PFr p H (upd H1 p o) := fun x u n h => by rw [upd_ne n]; exact a x u n h
theorem PenAt.ext {c : Addr} {H H1 : Hp} {p : Addr} {k : Nat} (h : PenAt c H p k) (e : Ex H H1) : PenAt c H1 p k := by
  obtain ⟨t, l, ns, a, b, r⟩ := h
  exact ⟨t, l, ns, e _ _ a, e _ _ b, r⟩
theorem PenAt.upd {c : Addr} {H : Hp} {p b : Addr} {k : Nat} {o : HO} (h : PenAt c H p k) (np : b ≠ p) (nc : b ≠ c) : PenAt c (upd H b o) p k := by
  obtain ⟨t, l, ns, a, b, r⟩ := h
  exact ⟨t, l, ns, by rw [upd_ne (Ne.symm np)]; exact a, by rw [upd_ne (Ne.symm nc)]; exact b, r⟩
theorem PenAt.less {c : Addr} {H : Hp} {p : Addr} {k m : Nat} (h : PenAt c H p k) (e : m ≤ k) : PenAt c H p m := by
  obtain ⟨t, l, ns, a, b, n, z, t0, tk, l0⟩ := h
  exact ⟨t, l, ns, a, b, n, z, t0, by omega, l0⟩
/-- _law_pen -/
def spPen (K : PySem.W.Frag) : Sp := fun vs H Q _ => ∃ (s : Addr) (ns : List Int), vs = [.ref s] ∧ SqL K H s (ns.map V.int) ∧ ∀ p c H1, H p = none → Ex H H1 → PenAt c H1 p (2 ^ 40) → Q (.ref p) H1
/-- _law_draw -/
def spDraw : Sp := fun vs H Q _ => ∃ (p : Addr) (n : Int) (k : Nat) (c : Addr), vs = [.ref p, .int n] ∧ 0 < n ∧ n < 2 ^ 200 ∧ PenAt c H p (k + 1) ∧ ∀ r H1, 0 ≤ r → r < n → PFr p H H1 → PenAt c H1 p k → Q (.int r) H1
/-- _law_pick, out of a list, out of a text -/
def spPickL : Sp := fun vs H Q _ => ∃ (p a : Addr) (xs : List V) (k : Nat) (c : Addr), vs = [.ref p, .ref a] ∧ H a = some (.lst xs) ∧ a ≠ p ∧ xs ≠ [] ∧ xs.length ≤ 1000 ∧ PenAt c H p (k + 1) ∧ ∀ x H1, x ∈ xs → PFr p H H1 → PenAt c H1 p k → Q x H1
section
variable {P : Program} {w : World} {K : PySem.W.Frag} {mg : Str → Option Value} {base : Heap}
theorem scPen : FnScope ["_law_script", "_law_cell"] ["_law_script"] (defScope sPen) := ⟨rfl, rfl, rfl, by decide +kernel, rfl, by decide +kernel, by decide +kernel⟩
theorem cut_ints (ns : List Int) (lo hi : Option Int) : ∃ ms : List Int, cutV (ns.map V.int) lo hi = ms.map V.int := ⟨(ns.drop (HT.sIx (ns.map V.int).length 0 lo)).take (HT.sIx (ns.map V.int).length (ns.map V.int).length hi - HT.sIx (ns.map V.int).length 0 lo), by
  unfold cutV
  rw [List.map_take, List.map_drop]⟩
theorem ret_lst_c {tl : TE} {tr : TA} {D : Ends} {σ : L2.St} {H : Hp} (h : tl σ H fun x H1 => tr σ H1 fun vs H2 => (x :: vs).length ≤ sizeLine ∧ ∀ p, H2 p = none → D.rt (.ref p) (upd H2 p (.lst (x :: vs)))) : tRet (tLst (tCons tl tr)) D σ H := h
theorem ok_pen {f : Addr} {fd : FuncData} (F : Fun K "_law_pen" "_law_pen" sPen f fd) (B : Bi mg) : FnOk P w K mg base CX0 1 f fd ["_law_script"] (spPen K) := by
  refine F.ok scPen (fun vs H Q E h => ?_) (fun cdv A outer s H vs Q E hr h => ?_)
  · obtain ⟨x, _, rfl, _⟩ := h
    rfl
  · obtain ⟨x, ns, rfl, hx, kq⟩ := h
    have nd := scPen.nd
    refine ⟨_, (pss_one (ps_ret (pe_lst (pa_cons (pe_lc (own := [("_law_cell", 1)]) (g := gName 1) (by rfl) nd (pi_list (pe_slice sl_list (pv 0) po_none (po_some pe_int))) (blkOk_by (own := [("_law_cell", 1)]) (N := ["_law_script", "_law_cell"]) (sc := defScope sPen) (by decide +kernel)) (fun _ _ _ _ _ => pg_name (i := 1) nd rfl (Or.inl rfl)) (fun _ _ _ _ _ => pts_nil) (fun _ _ _ _ _ => (pe_callTy call_intI (by rfl) B.n_int (by decide +kernel) (pa_cons (pv 1) pa_nil)))) (pa_cons pe_int (pa_cons pe_int pa_nil)))))), ?_⟩
    obtain ⟨ms, hms⟩ := cut_ints ns none (some 63)
    have hl : ms.length ≤ 63 := by
      have h1 := congrArg List.length hms
      rw [List.length_map] at h1
      rw [← h1]
      unfold cutV
      have h2 : HT.sIx (ns.map V.int).length (ns.map V.int).length (some ((63 : Nat) : Int)) ≤ 63 := by rw [HT.sIx_nat]; omega
      have h3 : HT.sIx (ns.map V.int).length (ns.map V.int).length (some 63) ≤ 63 := h2
      rw [List.length_take]
      omega
    have esl : EvL (tSl (rSlL K) (tVar 0) tNoPart (tPart (tC (.int 63)))) (L2.start ["_law_script", "_law_cell"] [V.ref x]) H (ms.map V.int) := by
      rw [← hms]
      exact el_sl (ev_var rfl) eo_none (eo_some ev_c) hx
    have el := el_lcN (K := K) (te := tCB rInt1 (tCons (tVar 1) tNil)) (j := 1) (vs := [1]) (ms.map V.int) esl rfl (by rw [List.length_map]; omega) (fun _ => rfl) (fun i a b h1 h2 H1 e => by
      rw [h1] at h2
      cases h2
      rw [List.getElem?_map] at h1
      cases h3 : ms[i]? with
      | none => rw [h3] at h1; cases h1
      | some j =>
        rw [h3] at h1
        cases h1
        exact ev_cb (ea_cons (ev_var rfl) ea_nil) rc_int)
    refine ret_lst_c (el H (Ex.refl H) _ fun c H1 hc e1 h1 => ⟨sz (by show 3 ≤ 1000000; decide), fun p hp => ?_⟩)
    have nc : c ≠ p := fun z => by rw [z, hp] at h1; cases h1
    refine kq p c _ (fresh_back e1 hp) (e1.trans (Ex.new hp)) ⟨0, 0, ms, upd_same, ?_, nc, hl, by decide, by decide, by decide⟩
    rw [upd_ne nc]
    exact h1
theorem mulWb {i j : Int} {a b : Nat} (hi : i.natAbs < 2 ^ a) (hj : j.natAbs < 2 ^ b) (h : 0 < a ∧ 0 < b ∧ a + b ≤ 100000) : CMulW i j := by
  have h1 := PySem.Flt.log2_lt_of h.1 hi
  have h2 := PySem.Flt.log2_lt_of h.2.1 hj
  unfold CMulW
  omega
theorem mulW40 {i j : Int} (hi : i.natAbs < 2 ^ 40) (h0 : 0 ≤ j) (h1 : j < 2 ^ 40) : CMulW i j := mulWb hi (b := 40) (by omega) (by decide)
theorem scDraw : FnScope ["_law_pen_here", "_law_many", "_law_left", "_law_turn", "_law_cell", "_law_mixed"] ["_law_pen_here", "_law_many"] (defScope sDraw) := ⟨rfl, rfl, rfl, by decide +kernel, rfl, by decide +kernel, by decide +kernel⟩
theorem nb_ints {H : Hp} : ∀ ns : List Int, DpAll K H (ns.map V.int) (ns.map PyData.int)
  | [] => .nil
  | n :: r => .cons (.int n) (nb_ints r)
theorem eqv_nil (ns : List Int) : PyData.eqv (.list (ns.map PyData.int)) (.list []) = decide (ns = []) := by
  cases ns <;> simp [PyData.eqv, PyData.eqvAll]
/-- pen[i], the pen known -/
theorem ev_pen {H : Hp} {p c : Addr} {t l : Int} {σ : L2.St} {i : Nat} {v : V} (s0 : σ[0]? = some (some (.ref p))) (hp : H p = some (.lst [.ref c, .int t, .int l])) (hv : ([.ref c, .int t, .int l] : List V)[i]? = some v) : Ev (tOp (rIxL K) (tVar 0) (tC (.int (i : Int)))) σ H v := ev_op (ev_var s0) ev_c (rv_ixL (sq_of hp) (atI_nat hv))
theorem ok_draw {f : Addr} {fd : FuncData} (F : Fun K "_law_draw" "_law_draw" sDraw f fd) (B : Bi mg) : FnOk P w K mg base CX0 1 f fd ["_law_pen_here", "_law_many"] spDraw := by
  refine F.ok scDraw (fun vs H Q E h => ?_) (fun cdv A outer s H vs Q E hr h => ?_)
  · obtain ⟨p, n, k, pc, rfl, _⟩ := h
    rfl
  · obtain ⟨p, n, k, c, rfl, n0, nb, ⟨t, l, ns, hp, hc, ne, hn, t0, tk, l0⟩, kq⟩ := h
    have nd := scDraw.nd
    refine ⟨_, (pss_cons (ps_if (pt_cmpR op_gt (pe_ix ix_list (pv 0) pe_int (fun _ _ => rfl)) pe_int (nomark _))
(pss_cons (ps_set (i := 2) nd rfl (Or.inl rfl) (pe_ix ix_list (pv 0) pe_int (fun _ _ => rfl)))
(pss_cons (ps_asg (pe_op op_fdivZ (pe_callTy call_intI (by rfl) B.n_int (by decide +kernel) (pa_cons (pv 2) pa_nil)) (pv 1)) (pg_sub (pv 0) pe_int set_list))
(pss_one (ps_ret (pe_op op_mod (pe_callTy call_intI (by rfl) B.n_int (by decide +kernel) (pa_cons (pv 2) pa_nil)) (pv 1))))))
pss_nil)
(pss_cons (ps_set (i := 3) nd rfl (Or.inl rfl) (pe_ix ix_list (pv 0) pe_int (fun _ _ => rfl)))
(pss_cons (ps_asg (pe_op op_add (pv 3) pe_int) (pg_sub (pv 0) pe_int set_list))
(pss_cons (ps_set (i := 4) nd rfl (Or.inl rfl) (pe_op op_add (pe_op op_mulW pe_int (pv 3)) pe_int))
(pss_cons (ps_if (pt_cmpR (op_neD hr.units) (pe_ix ix_list (pv 0) pe_int (fun _ _ => rfl)) (pe_lst pa_nil) (nomark _))
(pss_one (ps_set (i := 4) nd rfl (Or.inl rfl) (pe_ix ix_list (pe_ix ix_list (pv 0) pe_int (fun _ _ => rfl)) (pe_op op_mod (pe_callTy call_intI (by rfl) B.n_int (by decide +kernel) (pa_cons (pv 3) pa_nil)) (pe_callB call_lenL (by rfl) B.n_len (by decide +kernel) (pa_cons (pe_ix ix_list (pv 0) pe_int (fun _ _ => rfl)) pa_nil))) (fun _ _ => rfl))))
pss_nil)
(pss_cons (ps_if (PW.pt (pw_and (pt_cmpR op_lt (pv 3) (pe_callB call_lenL (by rfl) B.n_len (by decide +kernel) (pa_cons (pe_ix ix_list (pv 0) pe_int (fun _ _ => rfl)) pa_nil)) (nomark _)) (pw_and1 (pt_cmpR op_ge (pe_callB call_absI (by rfl) B.n_abs (by decide +kernel) (pa_cons (pv 4) pa_nil)) (pe_op op_powW pe_int pe_int) (nomark _)))))
(pss_cons (ps_set (i := 2) nd rfl (Or.inl rfl) (pe_op op_sub (pe_callB call_absI (by rfl) B.n_abs (by decide +kernel) (pa_cons (pv 4) pa_nil)) (pe_op op_powW pe_int pe_int)))
(pss_cons (ps_asg (pe_op op_fdivZ (pe_callTy call_intI (by rfl) B.n_int (by decide +kernel) (pa_cons (pv 2) pa_nil)) (pv 1)) (pg_sub (pv 0) pe_int set_list))
(pss_one (ps_ret (pe_op op_mod (pe_callTy call_intI (by rfl) B.n_int (by decide +kernel) (pa_cons (pv 2) pa_nil)) (pv 1))))))
pss_nil)
(pss_cons (ps_set (i := 5) nd rfl (Or.inl rfl) (pe_op op_mod (pe_callTy call_intI (by rfl) B.n_int (by decide +kernel) (pa_cons (pe_op op_powW (pe_op op_add (pe_op op_add (pe_op op_mod (pe_callTy call_intI (by rfl) B.n_int (by decide +kernel) (pa_cons (pv 4) pa_nil)) pe_int) (pe_op op_mulW pe_int (pv 3))) pe_int) pe_int) pa_nil)) pe_int))
(pss_cons (ps_set (i := 5) nd rfl (Or.inl rfl) (pe_op op_mod (pe_callTy call_intI (by rfl) B.n_int (by decide +kernel) (pa_cons (pe_op op_powW (pe_op op_add (pe_op op_add (pe_op op_mulW (pv 5) (pe_op op_add (pe_op op_mulW pe_int (pv 3)) pe_int)) (pe_op op_mulW (pe_op op_mulW pe_int (pv 3)) (pv 3))) pe_int) pe_int) pa_nil)) pe_int))
(pss_one (ps_ret (pe_op op_mod (pe_callTy call_intI (by rfl) B.n_int (by decide +kernel) (pa_cons (pe_op op_fdivZ (pv 5) pe_int) pa_nil)) (pv 1)))))))))))), ?_⟩
    have dn : ∀ i : Int, CDivZ i n := fun i => divZ (a := 200) (by omega) (by omega) (by decide) (by decide)
    have pick : ∀ (σ : L2.St) (H1 : Hp) (t1 l1 : Int), σ[0]? = some (some (.ref p)) → σ[1]? = some (some (.int n)) → σ[2]? = some (some (.int l1)) → PFr p H H1 → H1 p = some (.lst [.ref c, .int t1, .int l]) → 0 ≤ t1 → t1 + (k : Int) ≤ 2 ^ 40 → 0 ≤ l1 →
        tSeq (tAsg (tOp (rI CDivZ fun i j => V.int (i.fdiv j)) (tCB rInt1 (tCons (tVar 2) tNil)) (tVar 1)) (gSub (tVar 0) (tC (.int 2)) rSetL)) (tRet (tOp (rI (fun _ j => 0 < j) fun i j => V.int (i % j)) (tCB rInt1 (tCons (tVar 2) tNil)) (tVar 1))) { nx := fun _ G => Q .non G, rt := Q } σ H1 := fun σ H1 t1 l1 s0 s1 s2 fr h1 t10 t1k l10 => by
      refine q_setL (j := 2) h1 (ev_op (ev_cb (ea_cons (ev_var s2) ea_nil) rc_int) (ev_var s1) (rv_I (dn l1))) (ev_var s0) ev_c (by show 2 < 3; decide) fun H2 e2 => ?_
      refine s_ret (ev_op (ev_cb (ea_cons (ev_var s2) ea_nil) rc_int) (ev_var s1) (rv_I n0)) fun H3 e3 => ?_
      refine kq _ H3 (Int.emod_nonneg _ (by omega)) (Int.emod_lt_of_pos _ n0) ((fr.trans (PFr.of e2)).upd.trans (PFr.of e3)) ⟨t1, l1.fdiv n, ns, e3 _ _ upd_same, e3 _ _ ?_, ne, hn, t10, t1k, Int.fdiv_nonneg l10 (by omega)⟩
      rw [upd_ne ne]
      exact e2 _ _ (fr _ _ ne hc)
    refine q_when (b := decide (l > 0)) (et_test (ev_op (ev_pen (i := 2) rfl hp rfl) ev_c rv_I0)) (fun c1 H1 e1 => ?_) (fun c1 H1 e1 => ?_)
    · have l1 : 0 < l := of_decide_eq_true c1
      refine q_asg (ev_pen (i := 2) rfl (e1 _ _ hp) rfl) fun H2 e2 => ?_
      exact pick _ H2 t l rfl rfl rfl (PFr.of (e1.trans e2)) (e2 _ _ (e1 _ _ hp)) t0 (by omega) l0
    · refine q_asg (ev_pen (i := 1) rfl (e1 _ _ hp) rfl) fun H2 e2 => ?_
      refine q_setL (j := 1) (e2 _ _ (e1 _ _ hp)) (ev_op (ev_var rfl) ev_c rv_I0) (ev_var rfl) ev_c (by show 1 < 3; decide) fun H3 e3 => ?_
      obtain ⟨Hx, hHx⟩ : ∃ Hx, Hx = upd H3 p (.lst (([.ref c, .int t, .int l] : List V).set 1 (.int (t + 1)))) := ⟨_, rfl⟩
      rw [← hHx]
      have fx : PFr p H Hx := by rw [hHx]; exact (PFr.of ((e1.trans e2).trans e3)).upd
      have hpx : Hx p = some (.lst [.ref c, .int (t + 1), .int l]) := by rw [hHx]; exact upd_same
      have hcx : Hx c = some (.lst (ns.map V.int)) := fx _ _ ne hc
      have t1 : t < 2 ^ 40 := by omega
      refine q_asg (ev_op (ev_op ev_c (ev_var rfl) (rv_I (mulW40 (by decide) t0 t1))) ev_c rv_I0) fun H4 e4 => ?_
      have dl : 0 ≤ t % (ns.length : Int) := by
        by_cases z : ns.length = 0
        · rw [z]; show 0 ≤ t % 0; rw [Int.emod_zero]; exact t0
        · exact Int.emod_nonneg _ (by omega)
      obtain ⟨u, hu1, hu2⟩ : ∃ u : Int, (ns ≠ [] → (ns.map V.int)[(t % (ns.length : Int)).toNat]? = some (.int u)) ∧ (ns = [] → u = 63029 * t + 157) := by
        by_cases z : ns = []
        · exact ⟨_, fun w => (w z).elim, fun _ => rfl⟩
        · have h1 : 0 < ns.length := List.length_pos_iff.mpr z
          have h2 : (t % (ns.length : Int)).toNat < ns.length := by
            have := Int.emod_lt_of_pos t (b := (ns.length : Int)) (by omega)
            omega
          exact ⟨ns[(t % (ns.length : Int)).toNat]'h2, fun _ => by rw [List.getElem?_map, List.getElem?_eq_getElem h2]; rfl, fun w => (z w).elim⟩
      refine q_ifAsg (v := .int u) (b := !decide (ns = [])) (et_test fun H5 e5 Q5 q5 => ?_) (fun b5 => ?_) (fun b5 => ?_) fun H6 e6 => ?_
      · refine ev_pen (i := 0) rfl (e4 _ _ hpx) rfl H5 e5 _ fun H6 e6 => ⟨(by decide), fun q hq => ?_⟩
        have nq : Ex H6 (upd H6 q (.lst [])) := Ex.new hq
        refine ⟨.list (ns.map PyData.int), .list [], .lst (sq_of (nq _ _ (e6 _ _ (e5 _ _ (e4 _ _ hcx))))) (nb_ints ns), .lst (sq_of upd_same) .nil, PySem.W.shaped_ints ns, PySem.W.shaped_ints [], ?_⟩
        rw [eqv_nil]
        exact q5 _ (e6.trans nq)
      · have z : ns ≠ [] := fun w => by rw [decide_eq_true w] at b5; cases b5
        refine ev_op (ev_pen (i := 0) rfl (e4 _ _ hpx) rfl) (ev_op (ev_cb (ea_cons (ev_var rfl) ea_nil) rc_int) (ev_len (ev_pen (i := 0) rfl (e4 _ _ hpx) rfl) (sq_of (e4 _ _ hcx))) (rv_I ?_)) (rv_ixL (sq_of (e4 _ _ hcx)) ?_)
        · rw [List.length_map]
          have : 0 < ns.length := List.length_pos_iff.mpr z
          show (0 : Int) < (ns.length : Int)
          omega
        · rw [List.length_map, ← Int.toNat_of_nonneg dl]
          exact atI_nat (hu1 z)
      · have z : ns = [] := by
          by_cases z : ns = []
          · exact z
          · rw [decide_eq_false z] at b5; cases b5
        rw [hu2 z]
        rfl
      · have e46 := e4.trans e6
        have hp6 := e46 _ _ hpx
        have hc6 := e46 _ _ hcx
        refine q_when (et_and (et_test (ev_op (ev_var rfl) (ev_len (ev_pen (i := 0) rfl hp6 rfl) (sq_of hc6)) rv_I0)) fun _ => et_test (ev_op (ev_cb (ea_cons (ev_var rfl) ea_nil) rc_abs) (ev_op ev_c ev_c (rv_I ⟨by decide, by decide, by decide⟩)) rv_I0)) (fun b H7 e7 => ?_) (fun b H7 e7 => ?_)
        · have b2 := of_decide_eq_true (Bool.and_eq_true_iff.mp b).2
          refine q_asg (ev_op (ev_cb (ea_cons (ev_var rfl) ea_nil) rc_abs) (ev_op ev_c ev_c (rv_I ⟨by decide, by decide, by decide⟩)) rv_I0) fun H8 e8 => ?_
          exact pick _ H8 (t + 1) _ rfl rfl rfl (fx.trans (PFr.of ((e46.trans e7).trans e8))) (e8 _ _ (e7 _ _ hp6)) (by omega) (by omega) (by omega)
        · have a1 : 0 ≤ u % 2147483549 ∧ u % 2147483549 < 2147483549 := ⟨Int.emod_nonneg _ (by decide), Int.emod_lt_of_pos _ (by decide)⟩
          refine q_asg (ev_op (ev_cb (ea_cons (ev_op (ev_op (ev_op (ev_op (ev_cb (ea_cons (ev_var rfl) ea_nil) rc_int) ev_c (rv_I (by decide : (0 : Int) < 2147483549))) (ev_op ev_c (ev_var rfl) (rv_I (mulW40 (by decide) t0 t1))) rv_I0) ev_c rv_I0) ev_c (rv_I ⟨by decide, by decide, by omega⟩)) ea_nil) rc_int) ev_c (rv_I (by decide : (0 : Int) < 2147483647))) fun H8 e8 => ?_
          obtain ⟨m, hm⟩ : ∃ m : Int, m = (u % 2147483549 + 72089 * t + 157) ^ (5 : Int).toNat % 2147483647 := ⟨_, rfl⟩
          rw [← hm]
          have m0 : 0 ≤ m ∧ m < 2147483647 := by rw [hm]; exact ⟨Int.emod_nonneg _ (by decide), Int.emod_lt_of_pos _ (by decide)⟩
          have w1 : 0 ≤ m * (2 * t + 1321) ∧ m * (2 * t + 1321) ≤ 2147483647 * (2 * 2 ^ 40 + 1321) := ⟨Int.mul_nonneg m0.1 (by omega), Int.mul_le_mul (by omega) (by omega) (by omega) (by decide)⟩
          have w2 : 0 ≤ 63029 * t * t ∧ 63029 * t * t ≤ (63029 * 2 ^ 40) * 2 ^ 40 := ⟨Int.mul_nonneg (by omega) t0, Int.mul_le_mul (by omega) (by omega) t0 (by decide)⟩
          refine q_asg (ev_op (ev_cb (ea_cons (ev_op (ev_op (ev_op (ev_op (ev_var rfl) (ev_op (ev_op ev_c (ev_var rfl) (rv_I (mulW40 (by decide) t0 t1))) ev_c rv_I0) (rv_I (mulWb (a := 31) (b := 50) (by omega) (by omega) (by decide)))) (ev_op (ev_op ev_c (ev_var rfl) (rv_I (mulW40 (by decide) t0 t1))) (ev_var rfl) (rv_I (mulWb (a := 60) (b := 50) (by omega) (by omega) (by decide)))) rv_I0) ev_c rv_I0) ev_c (rv_I ⟨by decide, by decide, by omega⟩)) ea_nil) rc_int) ev_c (rv_I (by decide : (0 : Int) < 2147483579))) fun H9 e9 => ?_
          refine s_ret (ev_op (ev_cb (ea_cons (ev_op (ev_var rfl) ev_c (rv_I ⟨by decide, by decide⟩)) ea_nil) rc_int) (ev_var rfl) (rv_I n0)) fun H10 e10 => ?_
          have ee := (((e46.trans e7).trans e8).trans e9).trans e10
          exact kq _ H10 (Int.emod_nonneg _ (by omega)) (Int.emod_lt_of_pos _ n0) (fx.trans (PFr.of ee)) ⟨t + 1, l, ns, ee _ _ hpx, ee _ _ hcx, ne, hn, by omega, by omega, l0⟩
end
end K03
end

section -- K03g
set_option linter.all false
set_option maxRecDepth 100000
set_option maxHeartbeats 4000000
namespace K03
open PySem PySem.Spec L2 Pk Evl Pv
open PyProof.Rows hiding St
open TL (tl numL)
/-- the world of the law: the pen at p, its cells at c; how many draws are left -/
def penW (p c : Addr) (Z : Addr → Prop) : Wd Nat where
  rel H k := PenAt c H p k ∧ ∀ a, Z a → H a ≠ none
  pf a := a = p
  sp a := (a = p ∨ a = c) ∨ Z a
  ps h := .inl (.inl h)
  lives := fun {H s a} h e => by
    obtain ⟨⟨t, l, ns, a1, a2, _⟩, hz⟩ := h
    rcases e with (rfl | rfl) | e
    · rw [a1]; exact fun z => nomatch z
    · rw [a2]; exact fun z => nomatch z
    · exact hz a e
  stabs := fun {H H' s} h e => by
    obtain ⟨⟨t, l, ns, a1, a2, r⟩, hz⟩ := h
    refine ⟨⟨t, l, ns, e _ _ (.inl (.inl rfl)) a1, e _ _ (.inl (.inr rfl)) a2, r⟩, fun a z n => ?_⟩
    cases q : H a with
    | none => exact hz a z q
    | some o => rw [e a o (.inr z) q] at n; cases n
theorem pen_live {c : Addr} {H : Hp} {p : Addr} {k : Nat} (h : PenAt c H p k) : H p ≠ none := by
  obtain ⟨t, l, ns, a1, _⟩ := h
  rw [a1]; exact fun z => nomatch z
def preDraw (p : Addr) : FP Nat := fun xs k F _ => two xs fun x y => x = .adr p ∧ asI y fun n => 0 < n ∧ n < 2 ^ 200 ∧ ∃ m, k = m + 1 ∧ ∀ r : Int, 0 ≤ r → r < n → F (.int r) m
def prePick (p : Addr) : FP Nat := fun xs k F _ => two xs fun x y => x = .adr p ∧ asL y fun l => l ≠ [] ∧ l.length ≤ 1000 ∧ ∃ m, k = m + 1 ∧ ∀ z ∈ l, F z m
section
variable {P : Program} {w : World} {K : PySem.W.Frag} {mg : Str → Option Value} {base : Heap} {p c : Addr} {Z : Addr → Prop}
theorem draw_imp {vs : List V} {H : Hp} {Q : VK} {E : XK} (h : spF (penW p c Z) 2 (preDraw p) vs H Q E) : spDraw vs H Q E := by
  obtain ⟨hl, A, xs, k, F, X, ct, rl, _, hp, kk⟩ := h
  obtain ⟨x, y, u, v, rfl, rfl, rx, ry, h2⟩ := two_ok hp rl
  obtain ⟨rfl, h3⟩ := h2
  obtain ⟨n, rfl, n0, n1, m, rfl, h4⟩ := asI_ok h3
  cases rx
  cases ry
  exact ⟨p, n, m, c, rfl, n0, n1, ct.rel.1, fun r H1 r0 r1 fr hp1 => kk _ H1 (.int r) m rfl (fun a o na => fr a o na) ⟨hp1, fun a z n => by
    by_cases e : a = p
    · rw [e] at n; exact pen_live hp1 n
    · cases q : H a with
      | none => exact ct.rel.2 a z q
      | some o => rw [fr a o e q] at n; cases n⟩ (h4 r r0 r1)⟩
theorem ok_drawP {f : Addr} {fd : FuncData} (G : FnOk P w K mg base CX0 1 f fd ["_law_pen_here", "_law_many"] spDraw) : FnOk P w K mg base CX0 1 f fd ["_law_pen_here", "_law_many"] (spF (penW p c Z) 2 (preDraw p)) := G.imp fun _ _ _ _ h => draw_imp h
theorem sc_pick : FnScope ["_law_pen_here", "_law_some"] ["_law_pen_here", "_law_some"] (defScope sPick) := ⟨rfl, rfl, rfl, by decide +kernel, rfl, by decide +kernel, by decide +kernel⟩
theorem ok_pick {f fD : Addr} {fd fdD : FuncData} (F : Fun K "_law_pick" "_law_pick" sPick f fd) (B : Bi mg) (G_draw : FnOk P w K mg base CX0 1 fD fdD ["_law_pen_here", "_law_many"] (spF (penW p c Z) 2 (preDraw p))) (b_draw : Binds K fdD ["_law_pen_here", "_law_many"] []) (d_draw : Df K mg "_law_draw" fD) :
    FnOk P w K mg base CX0 2 f fd ["_law_pen_here", "_law_some"] (spF (penW p c Z) 2 (prePick p)) := by
  refine F.ok sc_pick (fun vs H Q E h => h.len) (fun cdv A outer s H vs Q E hr h => ?_)
  have nd := sc_pick.nd
  refine ⟨_, (pss_one (ps_ret (pe_ix ix_list (pv 1) (pe_cs (calls_fn G_draw (hr.mono (by decide)) b_draw .nil pass0) d_draw.1 d_draw.2 (pa_cons (pv 0) (pa_cons (pe_callB call_lenL (by rfl) B.n_len (by decide +kernel) (pa_cons (pv 1) pa_nil)) pa_nil))) (fun _ _ => rfl)))), pure_run (W := penW p c Z) h fun xs s F X hl h => ?_⟩
  match xs, h with
  | [x, y], ⟨hx, h⟩ =>
    subst hx
    obtain ⟨l, rfl, l0, l1, m, rfl, hF⟩ := asL_ok h
    have h0 : 0 < l.length := List.length_pos_iff.mpr l0
    refine ⟨rfl, rfl, by omega, Int.lt_of_le_of_lt (b := 1000) (by omega) (by decide), m, rfl, fun r r0 r1 => ?_⟩
    obtain ⟨j, rfl⟩ := Int.eq_ofNat_of_zero_le r0
    have hj : j < l.length := by omega
    show pick (atI l ((j : Nat) : Int)) fun z => F z m
    rw [atI_nat (List.getElem?_eq_getElem hj)]
    exact hF _ (List.getElem_mem hj)
end
end K03
end

section -- K03h
set_option linter.all false
set_option maxRecDepth 100000
set_option maxHeartbeats 4000000
set_option synthInstance.maxSize 10000
set_option synthInstance.maxHeartbeats 4000000
/-! a drawn value -/
namespace K03
open PySem PySem.Spec L2 Pk Evl Pv Pw
open PyProof.Rows hiding St
/-- how many draws a value takes at the most -/
def cst : Nat → Nat
  | 0 => 10
  | d + 1 => 3 * cst d + 10
def wB : Nat → Nat
  | 0 => 1
  | d + 1 => 3 * wB d + 7
structure Drawn (d : Nat) (x : Vt) : Prop where
  dep : dep x ≤ d
  ok : okT x = true
  okF : okF x
  wt : wt x ≤ wB d
theorem wB_pos (d : Nat) : 1 ≤ wB d := by cases d <;> (unfold wB; omega)
theorem cst_ge (d : Nat) : 10 ≤ cst d := by cases d <;> (unfold cst; omega)
theorem leaf_drawn {x : Vt} (h1 : Pw.dep x = 0) (h2 : okT x = true) (h3 : K03.okF x) (h4 : Pw.wt x = 1) (d : Nat) : Drawn d x := ⟨by omega, h2, h3, by have := wB_pos d; omega⟩
theorem Drawn.up {d : Nat} {x : Vt} (h : Drawn d x) {e : Nat} (l : d ≤ e) : Drawn e x := ⟨Nat.le_trans h.dep l, h.ok, h.okF, Nat.le_trans h.wt (by
  induction l with
  | refl => exact Nat.le_refl _
  | step _ ih => exact Nat.le_trans ih (by rename_i m _; show wB m ≤ 3 * wB m + 7; omega))⟩
def Flat (R : Addr) (x : PV) : Prop := ∃ v : Vt, x = tp R v ∧ ∀ d, Drawn d v
theorem flat_int {R : Addr} {i : Int} (h : i.natAbs < 2 ^ 200) : Flat R (.int i) := ⟨.int i, by unfold tp; rfl, leaf_drawn (by unfold dep; rfl) (by unfold okT; exact decide_eq_true (Nat.lt_trans (PySem.Flt.log2_lt_of (k := 200) (by decide) h) (by decide : 200 < 1000))) (by unfold okF; trivial) (by unfold wt; rfl)⟩
theorem flat_str {R : Addr} {z : Str} (h : decide ((reprText z).length ≤ 100) = true) : Flat R (.str z) := ⟨.str z, by unfold tp; rfl, leaf_drawn (by unfold dep; rfl) (by unfold okT; exact h) (by unfold okF; trivial) (by unfold wt; rfl)⟩
theorem flat_non {R : Addr} : Flat R .non := ⟨.non, by unfold tp; rfl, leaf_drawn (by unfold dep; rfl) (by unfold okT; rfl) (by unfold okF; trivial) (by unfold wt; rfl)⟩
theorem flat_bl {R : Addr} {b : Bool} : Flat R (.bl b) := ⟨.bl b, by unfold tp; rfl, leaf_drawn (by unfold dep; rfl) (by unfold okT; rfl) (by unfold okF; trivial) (by unfold wt; rfl)⟩
theorem rat_small : ∀ j < 9, ∀ l < 6, okT (.rat ((((j : Nat) : Int) - 4).fdiv (sg (((j : Nat) : Int) - 4) (1 + ((l : Nat) : Int)))) ((1 + ((l : Nat) : Int)).fdiv (sg (((j : Nat) : Int) - 4) (1 + ((l : Nat) : Int))))) = true := by decide +kernel
theorem drawR {p : Addr} {r : En} {fe : FE Nat} {n k : Nat} (e0 : r[0]? = some (.val (.adr p))) (hv : EvP r fe (.int (n : Int))) (n0 : 0 < n) (n1 : (n : Int) < 2 ^ 200) (hk : 1 ≤ k) : EvR r (fCall0 2 (preDraw p) (List.map toPV []) (fCons (fVar 0) (fCons fe fNil))) k (fun x k' => (∃ j : Nat, j < n ∧ x = .int (j : Int)) ∧ k ≤ k' + 1) := fun G X g => by
  obtain ⟨m, rfl⟩ : ∃ m, k = m + 1 := ⟨k - 1, by omega⟩
  refine (evps_cons (evp_var e0) (evps_cons hv evps_nil)) _ _ X ⟨rfl, rfl, by omega, n1, m, rfl, fun i i0 i1 => ?_⟩
  obtain ⟨j, rfl⟩ := Int.eq_ofNat_of_zero_le i0
  exact g _ _ ⟨⟨j, by omega, rfl⟩, by omega⟩
theorem pickR {p : Addr} {r : En} {fe : FE Nat} {l : List PV} {k : Nat} (e0 : r[0]? = some (.val (.adr p))) (hv : EvP r fe (.lst l)) (l0 : l ≠ []) (l1 : l.length ≤ 1000) (hk : 1 ≤ k) : EvR r (fCall0 2 (prePick p) (List.map toPV []) (fCons (fVar 0) (fCons fe fNil))) k (fun x k' => x ∈ l ∧ k ≤ k' + 1) := fun G X g => by
  obtain ⟨m, rfl⟩ : ∃ m, k = m + 1 := ⟨k - 1, by omega⟩
  exact (evps_cons (evp_var e0) (evps_cons hv evps_nil)) _ _ X ⟨rfl, rfl, l0, l1, m, rfl, fun z hz => g _ _ ⟨hz, by omega⟩⟩
theorem trees_of {R : Addr} {d : Nat} : ∀ zs : List PV, (∀ z ∈ zs, ∃ y : Vt, z = tp R y ∧ Drawn d y) → ∃ ys : List Vt, zs = tps R ys ∧ ∀ y ∈ ys, Drawn d y
  | [], _ => ⟨[], by unfold tps; rfl, fun _ h => nomatch h⟩
  | z :: zs, h => by
    obtain ⟨y, e, hy⟩ := h z List.mem_cons_self
    obtain ⟨ys, e2, hys⟩ := trees_of zs fun w m => h w (List.mem_cons_of_mem _ m)
    refine ⟨y :: ys, by unfold tps; rw [e, e2], fun w m => ?_⟩
    rcases List.mem_cons.mp m with q | m
    · rw [q]; exact hy
    · exact hys w m
theorem deps_le (ys : List Vt) (n : Nat) (h : ∀ y ∈ ys, dep y ≤ n) : deps ys ≤ n := by
  induction ys with
  | nil => unfold deps; omega
  | cons y ys ih => unfold deps; exact Nat.max_le.mpr ⟨h y List.mem_cons_self, ih fun z m => h z (List.mem_cons_of_mem _ m)⟩
theorem sum_le {c : Nat} : ∀ {l : List Nat}, (∀ x ∈ l, x ≤ c) → l.sum ≤ l.length * c
  | [], _ => by simp
  | x :: l, h => by
    have h1 := h x List.mem_cons_self
    have h2 := sum_le fun y m => h y (List.mem_cons_of_mem x m)
    rw [List.sum_cons, List.length_cons, Nat.add_mul, Nat.one_mul]
    omega
def poolS : List Key := [.inr "lit", .inr "dark", .inr "a", .inr "b", .inr "a.b", .inr "c9"]
def poolI : List Key := [.inl 9, .inl 10, .inl (-1), .inl 0, .inl 100, .inl 99]
def rotK (pool : List Key) (t : Nat) (up : Bool) : List Key := if up then pool.drop t ++ pool.take t else (pool.drop t ++ pool.take t).reverse
theorem rot_ok {pool : List Key} (hp : pool = poolS ∨ pool = poolI) {t : Nat} (ht : t < 6) (up : Bool) : (rotK pool t up).length = 6 ∧ (rotK pool t up).Nodup ∧ (∀ k ∈ rotK pool t up, k ∈ pool) ∧ ∀ k ∈ pool, keyOk k = true := by
  have pm : (rotK pool t up).Perm pool := by
    have h1 : (pool.drop t ++ pool.take t).Perm pool := by
      have := List.perm_append_comm (l₁ := pool.drop t) (l₂ := pool.take t)
      rw [List.take_append_drop] at this
      exact this
    unfold rotK
    cases up
    · exact (List.reverse_perm _).trans h1
    · exact h1
  refine ⟨?_, ?_, fun k hk => pm.mem_iff.mp hk, ?_⟩
  · rw [pm.length_eq]; rcases hp with rfl | rfl <;> rfl
  · refine pm.symm.nodup ?_
    rcases hp with rfl | rfl
    · unfold poolS; decide +kernel
    · unfold poolI; decide +kernel
  · rcases hp with rfl | rfl
    · unfold poolS; decide +kernel
    · unfold poolI; decide +kernel
theorem zip_take {α β : Type} : ∀ (ks : List α) (ys : List β), ks.zip ys = (ks.take ys.length).zip ys
  | [], ys => by simp
  | _ :: _, [] => by simp
  | k :: ks, y :: ys => by
    rw [List.length_cons, List.take_succ_cons, List.zip_cons_cons, List.zip_cons_cons, ← zip_take ks ys]
theorem pairs_ok {R : Addr} : ∀ l : List (Key × Vt), pairsP (l.map fun q => PV.tup [keyV q.1, tp R q.2]) = some (l.map fun q => (q.1, tp R q.2))
  | [] => rfl
  | (k, y) :: l => by
    rw [List.map_cons, List.map_cons]
    cases k with
    | inl i =>
      show (pairsP (l.map fun q => PV.tup [keyV q.1, tp R q.2])).map ((.inl i, tp R y) :: ·) = _
      rw [pairs_ok l]; rfl
    | inr i =>
      show (pairsP (l.map fun q => PV.tup [keyV q.1, tp R q.2])).map ((.inr i, tp R y) :: ·) = _
      rw [pairs_ok l]; rfl
theorem uni_S_of : ∀ ks : List Key, (∀ k ∈ ks, k ∈ poolS) → ∃ zs : List Str, ks = zs.map Sum.inr ∧ ∀ z ∈ zs, PyData.strOk z = true
  | [], _ => ⟨[], rfl, fun _ h => nomatch h⟩
  | k :: ks, h => by
    obtain ⟨zs, e, hz⟩ := uni_S_of ks fun x m => h x (List.mem_cons_of_mem _ m)
    have hk := h k List.mem_cons_self
    have one : ∀ k ∈ poolS, ∃ z : Str, k = .inr z ∧ PyData.strOk z = true := by
      intro k hk
      unfold poolS at hk
      simp only [List.mem_cons, List.not_mem_nil, or_false] at hk
      rcases hk with rfl | rfl | rfl | rfl | rfl | rfl <;> exact ⟨_, rfl, by decide +kernel⟩
    obtain ⟨z, e1, e2⟩ := one k hk
    refine ⟨z :: zs, by rw [e, e1]; rfl, fun w m => ?_⟩
    rcases List.mem_cons.mp m with q | m
    · rw [q]; exact e2
    · exact hz w m
theorem uni_I_of : ∀ ks : List Key, (∀ k ∈ ks, k ∈ poolI) → ∃ zs : List Int, ks = zs.map Sum.inl
  | [], _ => ⟨[], rfl⟩
  | k :: ks, h => by
    obtain ⟨zs, e⟩ := uni_I_of ks fun x m => h x (List.mem_cons_of_mem _ m)
    have hk := h k List.mem_cons_self
    have one : ∀ k ∈ poolI, ∃ z : Int, k = .inl z := by
      intro k hk
      unfold poolI at hk
      simp only [List.mem_cons, List.not_mem_nil, or_false] at hk
      rcases hk with rfl | rfl | rfl | rfl | rfl | rfl <;> exact ⟨_, rfl⟩
    obtain ⟨z, e1⟩ := one k hk
    exact ⟨z :: zs, by rw [e, e1]; rfl⟩
section
variable {P : Program} {w : World} {K : PySem.W.Frag} {mg : Str → Option Value} {base : Heap} {R p q : Addr} {Z : Addr → Prop}
def preVal (p R : Addr) (n : Nat) : FP Nat := fun xs k F _ => ∃ deep : Nat, xs = [.adr p, .int deep] ∧ deep < n ∧ cst deep ≤ k ∧ ∀ (x : Vt) (k' : Nat), Drawn deep x → k ≤ k' + cst deep → F (tp R x) k'
theorem sc_val : FnScope ["_law_pen_here", "_law_deep", "_law_way", "_law_number", "_law_plain", "_law_some", "_law_keys", "_law_turned", "_law_turn", "_law_key", "_law_one"] ["_law_pen_here", "_law_deep"] (defScope sValue) := ⟨rfl, rfl, rfl, by decide +kernel, rfl, by decide +kernel, by decide +kernel⟩
theorem ok_val {f fD fK fI : Addr} {fd fdD fdK fdI : FuncData} (F : Fun K "_law_value" "_law_value" sValue f fd) (B : Bi mg) (c : RC K mg R) (G_draw : FnOk P w K mg base CX0 1 fD fdD ["_law_pen_here", "_law_many"] (spF (penW p q Z) 2 (preDraw p))) (b_draw : Binds K fdD ["_law_pen_here", "_law_many"] []) (d_draw : Df K mg "_law_draw" fD)
    (G_pick : FnOk P w K mg base CX0 2 fK fdK ["_law_pen_here", "_law_some"] (spF (penW p q Z) 2 (prePick p))) (b_pick : Binds K fdK ["_law_pen_here", "_law_some"] []) (d_pick : Df K mg "_law_pick" fK)
    (M_ri : Mk K R fI) (G_ri : FnOk P w K mg base CX0 2 fI fdI ["self", "top", "bottom"] (spI (penW p q Z) R 2 preRI)) (b_ri : Binds K fdI ["self", "top", "bottom"] []) (d_ri : Df K mg "Ratio" R)
    (b_val : Binds K fd ["_law_pen_here", "_law_deep"] []) (d_val : Df K mg "_law_value" f) : ∀ n : Nat, FnOk P w K mg base CX0 (n + 4) f fd ["_law_pen_here", "_law_deep"] (spF (penW p q Z) 2 (preVal p R n)) := by
  intro n
  induction n with
  | zero =>
    refine F.ok sc_val (fun vs H Q E h => h.len) (fun cdv A outer s H vs Q E hr h => ?_)
    refine ⟨_, pss_cons ps_never (pss_cons ps_never (pss_cons ps_never (pss_cons ps_never (pss_cons ps_never (pss_cons ps_never (pss_one ps_never)))))), ?_⟩
    obtain ⟨_, _, _, _, _, _, _, _, _, ⟨deep, _, hx, _⟩, _⟩ := h
    omega
  | succ n G_val =>
    refine F.ok sc_val (fun vs H Q E h => h.len) (fun cdv A outer s H vs Q E hr h => ?_)
    have nd := sc_val.nd
    refine ⟨_, (pss_cons (ps_set (i := 2) nd rfl (Or.inl rfl) (pe_cs (calls_fn G_draw (hr.mono (by omega)) b_draw .nil pass0) d_draw.1 d_draw.2 (pa_cons (pv 0) (pa_cons (pe_ifExp (pt_cmpR op_gt (pv 1) pe_int (nomark _)) pe_int pe_int) pa_nil))))
(pss_cons (ps_if (pt_cmpR op_lt (pv 2) pe_int (nomark _))
(pss_cons (ps_set (i := 3) nd rfl (Or.inl rfl) (pe_op op_sub (pe_cs (calls_fn G_draw (hr.mono (by omega)) b_draw .nil pass0) d_draw.1 d_draw.2 (pa_cons (pv 0) (pa_cons (pe_op op_powW pe_int pe_int) pa_nil))) (pe_op op_mulW pe_int (pe_op op_powW pe_int pe_int))))
(pss_cons (ps_set (i := 4) nd rfl (Or.inl rfl) (pe_lst (pa_cons (pe_cs (calls_fn G_pick (hr.mono (by omega)) b_pick .nil pass0) d_pick.1 d_pick.2 (pa_cons (pv 0) (pa_cons (pe_lst (pa_cons pe_int (pa_cons pe_int (pa_cons pe_int (pa_cons pe_int (pa_cons (pe_un un_neg pe_int) (pa_cons (pv 3) pa_nil))))))) pa_nil))) (pa_cons (pe_cs (calls_fn G_pick (hr.mono (by omega)) b_pick .nil pass0) d_pick.1 d_pick.2 (pa_cons (pv 0) (pa_cons (pe_lst (pa_cons pe_str (pa_cons pe_str (pa_cons pe_str (pa_cons pe_str (pa_cons pe_str pa_nil)))))) pa_nil))) (pa_cons pe_non (pa_cons pe_bl pa_nil))))))
(pss_cons (ps_set (i := 4) nd rfl (Or.inl rfl) (pe_op op_cat (pv 4) (pe_lst (pa_cons pe_bl (pa_cons (pe_cs (calls_make M_ri G_ri (hr.mono (by omega)) b_ri .nil pass0) d_ri.1 d_ri.2 (pa_cons (pe_op op_sub (pe_cs (calls_fn G_draw (hr.mono (by omega)) b_draw .nil pass0) d_draw.1 d_draw.2 (pa_cons (pv 0) (pa_cons pe_int pa_nil))) pe_int) (pa_cons (pe_op op_add pe_int (pe_cs (calls_fn G_draw (hr.mono (by omega)) b_draw .nil pass0) d_draw.1 d_draw.2 (pa_cons (pv 0) (pa_cons pe_int pa_nil)))) pa_nil))) (pa_cons (pe_op op_powW pe_int pe_int) pa_nil))))))
(pss_one (ps_ret (pe_ix ix_list (pv 4) (pe_callB (call_min2P rfl) (by rfl) B.n_min (by decide +kernel) (pa_cons pe_int (pa_cons (pe_op op_add (pe_op op_mulW pe_int (pv 2)) (pe_cs (calls_fn G_draw (hr.mono (by omega)) b_draw .nil pass0) d_draw.1 d_draw.2 (pa_cons (pv 0) (pa_cons pe_int pa_nil)))) pa_nil))) (fun _ _ => rfl)))))))
pss_nil)
(pss_cons (ps_setLc (i := 5) (own := [("_law_turn", 8)]) (g := gName 8) (by rfl) nd rfl rfl (by rfl) (pi_range1 (by rfl) B.n_range (pa_cons (pe_cs (calls_fn G_draw (hr.mono (by omega)) b_draw .nil pass0) d_draw.1 d_draw.2 (pa_cons (pv 0) (pa_cons pe_int pa_nil))) pa_nil)) (blkOk_by (own := [("_law_turn", 8)]) (N := ["_law_pen_here", "_law_deep", "_law_way", "_law_number", "_law_plain", "_law_some", "_law_keys", "_law_turned", "_law_turn", "_law_key", "_law_one"]) (sc := (defScope sValue)) (by decide +kernel)) (fun _ _ _ _ _ => pg_name (i := 8) nd rfl (Or.inl rfl)) (fun _ _ _ _ _ => pts_nil) (fun _ _ _ _ _ => (pe_cs (calls_fn G_val (hr.mono (by omega)) b_val .nil pass0) d_val.1 d_val.2 (pa_cons (pv 0) (pa_cons (pe_op op_sub (pv 1) pe_int) pa_nil)))))
(pss_cons (ps_if (pt_cmpR op_lt (pv 2) pe_int (nomark _))
(pss_one (ps_ret (pe_ifExp (pt_cmpR op_eq (pv 2) pe_int (nomark _)) (pv 5) (pe_callTy call_tupS (by rfl) B.n_tuple (by decide +kernel) (pa_cons (pv 5) pa_nil)))))
pss_nil)
(pss_cons (ps_set (i := 6) nd rfl (Or.inl rfl) (pe_ifExp (pt_cmpR op_eq (pv 2) pe_int (nomark _)) (pe_lst (pa_cons pe_str (pa_cons pe_str (pa_cons pe_str (pa_cons pe_str (pa_cons pe_str (pa_cons pe_str pa_nil))))))) (pe_lst (pa_cons pe_int (pa_cons pe_int (pa_cons (pe_un un_neg pe_int) (pa_cons pe_int (pa_cons pe_int (pa_cons pe_int pa_nil)))))))))
(pss_cons (ps_set (i := 7) nd rfl (Or.inl rfl) (pe_cs (calls_fn G_draw (hr.mono (by omega)) b_draw .nil pass0) d_draw.1 d_draw.2 (pa_cons (pv 0) (pa_cons pe_int pa_nil))))
(pss_one (ps_ret (pe_callTy (T := "dict") (call_dictQ (by rfl)) (by rfl) B.n_dict (by decide +kernel) (pa_cons (pe_lc (own := [("_law_key", 9), ("_law_one", 10)]) (g := gTup K 2 (gCons (gName 9) (gCons (gName 10) gNil))) (by rfl) nd (pi_zipK (by rfl) B.n_zip (pa_cons (pe_step (pe_op op_cat (pe_slice sl_list (pv 6) (po_some (pv 7)) po_none) (pe_slice sl_list (pv 6) po_none (po_some (pv 7)))) (po_some (pe_cs (calls_fn G_pick (hr.mono (by omega)) b_pick .nil pass0) d_pick.1 d_pick.2 (pa_cons (pv 0) (pa_cons (pe_lst (pa_cons pe_int (pa_cons (pe_un un_neg pe_int) pa_nil))) pa_nil))))) (pa_cons (pv 5) pa_nil))) (blkOk_by (own := [("_law_key", 9), ("_law_one", 10)]) (N := ["_law_pen_here", "_law_deep", "_law_way", "_law_number", "_law_plain", "_law_some", "_law_keys", "_law_turned", "_law_turn", "_law_key", "_law_one"]) (sc := (defScope sValue)) (by decide +kernel)) (fun _ _ _ _ _ => (pg_tup (by rfl) (pgs_cons (pg_name (i := 9) nd rfl (Or.inl rfl)) (pgs_cons (pg_name (i := 10) nd rfl (Or.inl rfl)) pgs_nil)))) (fun _ _ _ _ _ => pts_nil) (fun _ _ _ _ _ => (pe_tup (pa_cons (pv 9) (pa_cons (pv 10) pa_nil))))) pa_nil)))))))))), pure_run (W := penW p q Z) h fun xs s F X hl h => ?_⟩
    obtain ⟨deep, rfl, hdn, hk, h⟩ := h
    have init : initS ["_law_pen_here", "_law_deep", "_law_way", "_law_number", "_law_plain", "_law_some", "_law_keys", "_law_turned", "_law_turn", "_law_key", "_law_one"] [PV.adr p, PV.int (deep : Int)] = [.sh (.adr p), .sh (.int deep), .no, .no, .no, .no, .no, .no, .no, .no, .no] := rfl
    rw [init]
    have c10 := cst_ge deep
    refine asg_R (drawR (n := if 0 < deep then 8 else 4) rfl (evp_if (b := decide ((0 : Int) < (deep : Int))) (evb_of (evp_op (evp_var rfl) evp_c fun F k => k)) (fun c => ?_) fun c => ?_) (by split <;> decide) (by split <;> decide) (by omega)) fun x k1 ⟨⟨way, hw, ex⟩, hk1⟩ => .inl ?_
    · have c := of_decide_eq_true c
      rw [if_pos (by omega)]
      exact evp_c
    · have c := of_decide_eq_false c
      rw [if_neg (by omega)]
      exact evp_c
    subst ex
    refine ifs_b (b := decide ((way : Int) < 4)) (evb_of (evp_op (evp_var rfl) evp_c fun F k => k)) (fun c4 => ?_) (fun c4 => .inl ?_)
    · have c4 := of_decide_eq_true c4
      refine asg_R (P := fun x k' => (∃ i : Int, i.natAbs < 2 ^ 40 ∧ x = .int i) ∧ k1 ≤ k' + 1) (fun G X g => op_R (drawR (n := 10 ^ 9) rfl (evp_op evp_c evp_c fun F k => ⟨⟨by decide, by decide, by decide⟩, k⟩) (by decide) (by decide) (by omega)) fun x s1 ⟨⟨j, hj, ex⟩, hs⟩ => ?_) fun x k2 ⟨⟨num, hnum, ex⟩, hk2⟩ => .inl ?_
      · subst ex
        refine (evp_op (z := .int (5 * 10 ^ 8)) evp_c (evp_op (z := .int (10 ^ 8)) evp_c evp_c fun F k => ⟨⟨by decide, by decide, by decide⟩, k⟩) fun F k => ⟨by unfold CMulW; decide, k⟩) s1 _ X ?_
        exact g _ _ ⟨⟨_, by omega, rfl⟩, hs⟩
      subst ex
      refine asg_R (P := fun x k' => (∃ x1 x2 : PV, Flat R x1 ∧ Flat R x2 ∧ x = .lst [x1, x2, .non, .bl true]) ∧ k2 ≤ k' + 2) (fun G X g => ?_) fun x k3 ⟨⟨x1, x2, f1, f2, ex⟩, hk3⟩ => .inl ?_
      · show fCons _ _ _ _ _ _
        refine cons_R (pickR (l := [.int 0, .int 1, .int 1, .int 2, .int (-1), .int num]) rfl (evp_lst (evps_cons evp_c (evps_cons evp_c (evps_cons evp_c (evps_cons evp_c (evps_cons (evp_un evp_c fun F k => k) (evps_cons (evp_var rfl) evps_nil)))))) (by show 6 ≤ 1000000; decide)) (by simp) (by show 6 ≤ 1000; decide) (by omega)) fun x1 s1 ⟨m1, hs1⟩ => ?_
        refine cons_R (pickR (l := [.str "", .str "a", .str "lit", .str "hit.lost", .str "Z 9"]) rfl (evp_lst (evps_cons evp_c (evps_cons evp_c (evps_cons evp_c (evps_cons evp_c (evps_cons evp_c evps_nil))))) (by show 5 ≤ 1000000; decide)) (by simp) (by show 5 ≤ 1000; decide) (by omega)) fun x2 s2 ⟨m2, hs2⟩ => ?_
        refine ⟨by show 4 ≤ 1000000; decide, g _ _ ⟨⟨x1, x2, ?_, ?_, rfl⟩, by omega⟩⟩
        · simp only [List.mem_cons, List.not_mem_nil, or_false] at m1
          rcases m1 with rfl | rfl | rfl | rfl | rfl | rfl
          · exact flat_int (by decide)
          · exact flat_int (by decide)
          · exact flat_int (by decide)
          · exact flat_int (by decide)
          · exact flat_int (by decide)
          · exact flat_int (Nat.lt_trans hnum (by decide))
        · simp only [List.mem_cons, List.not_mem_nil, or_false] at m2
          rcases m2 with rfl | rfl | rfl | rfl | rfl <;> exact flat_str (by decide +kernel)
      subst ex
      refine asg_R (P := fun x k' => (∃ x3 : PV, Flat R x3 ∧ x = .lst ([x1, x2, .non, .bl true] ++ [.bl false, x3, .int (10 ^ 40)])) ∧ k3 ≤ k' + 2) (fun G X g => op_R (evr_p (evp_var (x := .lst [x1, x2, .non, .bl true]) rfl)) fun x s1 ⟨ex, es⟩ => ?_) fun x k4 ⟨⟨x3, f3, ex⟩, hk4⟩ => .inl ?_
      · subst ex es
        show fCons _ _ _ _ _ _
        refine cons_R (evr_p evp_c) fun x s1 ⟨ex, es⟩ => ?_
        subst ex es
        refine cons_R (P := fun x k' => Flat R x ∧ s1 ≤ k' + 2) (fun G2 X2 g2 => ?_) fun x3 s2 ⟨f3, hs2⟩ => ?_
        · show fCons _ _ _ _ _ _
          refine cons_R (P := fun x k' => (∃ j : Nat, j < 9 ∧ x = .int ((j : Int) - 4)) ∧ s1 ≤ k' + 1) (fun G3 X3 g3 => op_R (drawR (n := 9) rfl evp_c (by decide) (by decide) (by omega)) fun x s3 ⟨⟨j, hj, ex⟩, hs⟩ => ?_) fun x s4 ⟨⟨j, hj, ex⟩, hs4⟩ => ?_
          · subst ex
            exact g3 _ _ ⟨⟨j, hj, rfl⟩, hs⟩
          subst ex
          refine cons_R (P := fun x k' => (∃ l : Nat, l < 6 ∧ x = .int (1 + (l : Int))) ∧ s4 ≤ k' + 1) (fun G3 X3 g3 => op_R (evr_p evp_c) fun x s5 ⟨ex, es⟩ => ?_) fun x s6 ⟨⟨l, hl, ex⟩, hs6⟩ => ?_
          · subst ex es
            refine drawR (n := 6) rfl evp_c (by decide) (by decide) (by omega) _ X3 fun x s7 ⟨⟨l, hl, ex⟩, hs⟩ => ?_
            subst ex
            exact g3 _ _ ⟨⟨l, hl, rfl⟩, hs⟩
          subst ex
          refine ⟨rfl, by omega, Nat.lt_trans (show (1 + (l : Int)).natAbs < 2 ^ 10 by omega) (Nat.pow_lt_pow_right (by decide) (by decide)), g2 _ _ ⟨⟨.rat _ _, rfl, leaf_drawn (by unfold dep; rfl) (rat_small j hj l hl) (by unfold okF; trivial) (by unfold wt; rfl)⟩, by omega⟩⟩
        refine (evps_cons (evp_op (z := .int (10 ^ 40)) evp_c evp_c fun F k => ⟨⟨by decide, by decide, by decide⟩, k⟩) evps_nil) s2 _ _ ?_
        exact ⟨by show 3 ≤ 1000000; decide, by show 4 + 3 ≤ 1000000; decide, g _ _ ⟨⟨x3, f3, rfl⟩, by omega⟩⟩
      subst ex
      have all : ∀ x ∈ [x1, x2, .non, .bl true, .bl false, x3, .int (10 ^ 40)], Flat R x := fun x hx => by
        simp only [List.mem_cons, List.not_mem_nil, or_false] at hx
        rcases hx with rfl | rfl | rfl | rfl | rfl | rfl | rfl
        · exact f1
        · exact f2
        · exact flat_non
        · exact flat_bl
        · exact flat_bl
        · exact f3
        · exact flat_int (by decide)
      refine ret_R (P := fun x k' => Flat R x ∧ k4 ≤ k' + 1) (fun G X g => op_R (evr_p (evp_var (x := .lst [x1, x2, .non, .bl true, .bl false, x3, .int (10 ^ 40)]) rfl)) fun x s1 ⟨ex, es⟩ => ?_) fun x k5 ⟨fx, hk5⟩ => ?_
      · subst ex es
        show fCons _ _ _ _ _ _
        refine cons_R (evr_p evp_c) fun x s2 ⟨ex, es⟩ => ?_
        subst ex es
        refine cons_R (P := fun x k' => (∃ j : Nat, j < 2 ∧ x = .int (2 * (way : Int) + (j : Int))) ∧ s2 ≤ k' + 1) (fun G3 X3 g3 => op_R (evr_p (evp_op (z := .int (2 * (way : Int))) evp_c (evp_var rfl) fun F k => ⟨?_, k⟩)) fun x s5 ⟨ex, es⟩ => ?_) fun x s6 ⟨⟨j, hj, ex⟩, hs6⟩ => ?_
        · exact mulWb (a := 2) (b := 3) (by decide) (by omega) (by decide)
        · subst ex es
          refine drawR (n := 2) rfl evp_c (by decide) (by decide) (by omega) _ X3 fun x s7 ⟨⟨l, hl, ex⟩, hs⟩ => ?_
          subst ex
          exact g3 _ _ ⟨⟨l, hl, rfl⟩, hs⟩
        subst ex
        obtain ⟨i, hi, ei⟩ : ∃ i : Nat, i < 7 ∧ (if 2 * (way : Int) + (j : Int) < 6 then 2 * (way : Int) + (j : Int) else 6) = (i : Int) := by
          by_cases c : 2 * (way : Int) + (j : Int) < 6
          · rw [if_pos c]; exact ⟨2 * way + j, by omega, by omega⟩
          · rw [if_neg c]; exact ⟨6, by omega, rfl⟩
        show pick (atI [x1, x2, .non, .bl true, .bl false, x3, .int (10 ^ 40)] (if 2 * (way : Int) + (j : Int) < 6 then 2 * (way : Int) + (j : Int) else 6)) _
        have hi2 : i < [x1, x2, PV.non, .bl true, .bl false, x3, .int (10 ^ 40)].length := hi
        rw [ei, atI_nat (List.getElem?_eq_getElem hi2)]
        exact g _ _ ⟨all _ (List.getElem_mem hi2), hs6⟩
      · obtain ⟨v, rfl, hv⟩ := fx
        exact h v k5 (hv deep) (by omega)
    · have c4 := of_decide_eq_false c4
      obtain ⟨d, rfl⟩ : ∃ d, deep = d + 1 := ⟨deep - 1, by
        by_cases z : 0 < deep
        · omega
        · rw [if_neg z] at hw; omega⟩
      have ec : cst (d + 1) = 3 * cst d + 10 := rfl
      refine asg_R (P := fun x k' => (∃ ys : List Vt, ys.length ≤ 3 ∧ (∀ y ∈ ys, Drawn d y) ∧ x = .lst (tps R ys)) ∧ k1 ≤ k' + (3 * cst d + 1)) (fun G X g => ⟨by decide, ?_⟩) fun x k2 ⟨⟨ys, hy3, hyd, ex⟩, hk2⟩ => .inl ?_
      · show fCons _ _ _ _ _ _
        refine cons_R (drawR (n := 4) rfl evp_c (by decide) (by decide) (by omega)) fun x s1 ⟨⟨j, hj, ex⟩, hs⟩ => ?_
        subst ex
        refine ⟨⟨by omega, by omega⟩, ?_⟩
        have el : (rngP 0 ((j : Int)).toNat).length = j := rngP_len 0 _
        refine ⟨by omega, lc_R (c := cst d) (Q := fun x => ∃ y : Vt, x = tp R y ∧ Drawn d y) (fun v k hc G2 X2 g2 => ?_) _ [] s1 _ ?_ fun zs k' hl hq hk' => ?_⟩
        · have em : ((((d + 1 : Nat) : Int)) - 1) = ((d : Nat) : Int) := by omega
          refine (evps_cons (evp_var (x := .adr p) rfl) (evps_cons (evp_is (evp_op (z := .int (((d + 1 : Nat) : Int) - 1)) (evp_var rfl) evp_c fun F k => k) (by rw [em])) evps_nil)) k _ X2 ⟨rfl, d, rfl, by omega, hc, fun y k' hy hk' => g2 _ _ ⟨⟨y, rfl, hy⟩, hk'⟩⟩
        · rw [el]
          have : j * cst d ≤ 3 * cst d := Nat.mul_le_mul_right _ (by omega)
          omega
        · rw [el] at hl hk'
          have : j * cst d ≤ 3 * cst d := Nat.mul_le_mul_right _ (by omega)
          obtain ⟨ys, e1, e2⟩ : ∃ ys : List Vt, zs = tps R ys ∧ ∀ y ∈ ys, Drawn d y := trees_of zs hq
          rw [List.nil_append]
          have ly : ys.length = j := by rw [← hl, e1, tps_len]
          exact g _ _ ⟨⟨ys, by omega, e2, by rw [e1]⟩, by omega⟩
      subst ex
      have dl : deps ys ≤ d := deps_le _ _ fun y hy => (hyd y hy).dep
      have okl : okTs ys = true := okTs_of fun y hy => (hyd y hy).ok
      have okl2 : okFs ys := okFs_of fun y hy => (hyd y hy).okF
      have wl : wts ys ≤ 3 * wB d := by
        rw [wts_sum]
        refine Nat.le_trans (sum_le (c := wB d) fun z hz => ?_) (by rw [List.length_map]; exact Nat.mul_le_mul_right _ hy3)
        obtain ⟨y, hy, rfl⟩ := List.mem_map.mp hz
        exact (hyd y hy).wt
      refine ifs_b (b := decide ((way : Int) < 6)) (evb_of (evp_op (evp_var rfl) evp_c fun F k => k)) (fun c6 => ?_) (fun c6 => .inl ?_)
      · refine ret_ok (x := if way = 4 then .lst (tps R ys) else .tup (tps R ys)) (evp_if (b := decide ((way : Int) = 4)) (evb_of (evp_op (evp_var rfl) evp_c fun F k => k)) (fun c => ?_) fun c => ?_) ?_
        · have c := of_decide_eq_true c
          rw [if_pos (by omega)]
          exact evp_var rfl
        · have c := of_decide_eq_false c
          rw [if_neg (by omega)]
          exact evp_tupS (evp_var rfl)
        · by_cases c : way = 4
          · rw [if_pos c, ← tp_lst]
            exact h (.lst ys) k2 ⟨by rw [dep_lst]; omega, by unfold okT; exact okl, by unfold K03.okF; exact ⟨by omega, okl2⟩, by unfold Pw.wt wB; omega⟩ (by omega)
          · rw [if_neg c, ← tp_tup]
            exact h (.tup ys) k2 ⟨by rw [dep_tup]; omega, by unfold okT; exact okl, by unfold K03.okF; exact ⟨by omega, okl2⟩, by unfold Pw.wt wB; omega⟩ (by omega)
      · have ek : ∃ pool : List Key, (pool = poolS ∨ pool = poolI) ∧ EvP (S := Nat) (hide [.sh (.adr p), .sh (.int ((d + 1 : Nat) : Int)), .sh (.int (way : Int)), .no, .no, .sh (.lst (tps R ys)), .no, .no, .no, .no, .no]) (fIf (Pv.fB (fOp (gEq false) (fVar 2) (fC (V.int 6)))) (fLst (fCons (fC (V.str "lit")) (fCons (fC (V.str "dark")) (fCons (fC (V.str "a")) (fCons (fC (V.str "b")) (fCons (fC (V.str "a.b")) (fCons (fC (V.str "c9")) fNil))))))) (fLst (fCons (fC (V.int 9)) (fCons (fC (V.int 10)) (fCons (fUn (gU fun i => V.int (-i)) (fC (V.int 1))) (fCons (fC (V.int 0)) (fCons (fC (V.int 100)) (fCons (fC (V.int 99)) fNil)))))))) (.lst (pool.map keyV)) := by
          by_cases c : (way : Int) = 6
          · exact ⟨poolS, .inl rfl, evp_if (b := true) (evb_of (evp_op (evp_var rfl) evp_c fun F k => by show F (.bl (decide ((way : Int) = 6))); rw [decide_eq_true c]; exact k)) (fun _ => evp_lst (evps_cons evp_c (evps_cons evp_c (evps_cons evp_c (evps_cons evp_c (evps_cons evp_c (evps_cons evp_c evps_nil)))))) (by show 6 ≤ 1000000; decide)) fun z => nomatch z⟩
          · exact ⟨poolI, .inr rfl, evp_if (b := false) (evb_of (evp_op (evp_var rfl) evp_c fun F k => by show F (.bl (decide ((way : Int) = 6))); rw [decide_eq_false c]; exact k)) (fun z => nomatch z) fun _ => evp_lst (evps_cons evp_c (evps_cons evp_c (evps_cons (evp_un evp_c fun F k => k) (evps_cons evp_c (evps_cons evp_c (evps_cons evp_c evps_nil)))))) (by show 6 ≤ 1000000; decide)⟩
        obtain ⟨pool, hp, ek⟩ := ek
        refine set_ok ek (.inl (asg_R (drawR (n := 6) rfl evp_c (by decide) (by decide) (by omega)) fun x k3 ⟨⟨t, ht, ex⟩, hk3⟩ => .inl ?_))
        subst ex
        refine ret_R (P := fun x k' => (∃ up : Bool, x = tp R (.dct ((rotK pool t up).take ys.length) ys)) ∧ k3 ≤ k' + 1) (fun G X g => ?_) fun x k4 ⟨⟨up, ex⟩, hk4⟩ => ?_
        · refine cons_R (fr := fNil) (F := fun xs s1 => gDictP xs fun z => G z s1) (P := fun x k' => (∃ up : Bool, x = .lst (((rotK pool t up).zip ys).map fun q => .tup [keyV q.1, tp R q.2])) ∧ k3 ≤ k' + 1) (fun G2 X2 g2 => ⟨by decide, ?_⟩) fun x s1 ⟨⟨up, ex⟩, hs⟩ => ?_
          · refine cons_R (P := fun x k' => (∃ up : Bool, x = .lst ((rotK pool t up).map keyV)) ∧ k3 ≤ k' + 1) (fun G3 X3 g3 => ?_) fun x s6 ⟨⟨up, ex⟩, hs6⟩ => ?_
            · refine step_R (evp_cat (evp_lo (evp_var rfl) (evp_var rfl)) (evp_hi (evp_var rfl) (evp_var rfl)) ?_) (pickR (l := [.int 1, .int (-1)]) rfl (evp_lst (evps_cons evp_c (evps_cons (evp_un evp_c fun F k => k) evps_nil)) (by show 2 ≤ 1000000; decide)) (by simp) (by show 2 ≤ 1000; decide) (by omega)) fun x s7 ⟨m, hs⟩ => ?_
              · rw [cut_drop, cut_take, List.length_drop, List.length_take, List.length_map]
                have : pool.length = 6 := by rcases hp with rfl | rfl <;> rfl
                omega
              · rw [cut_drop, cut_take, ← List.map_drop, ← List.map_take, ← List.map_append]
                simp only [List.mem_cons, List.not_mem_nil, or_false] at m
                rcases m with rfl | rfl
                · exact .inl ⟨rfl, g3 _ _ ⟨⟨true, rfl⟩, hs⟩⟩
                · refine .inr ⟨rfl, ?_⟩
                  rw [← List.map_reverse]
                  exact g3 _ _ ⟨⟨false, rfl⟩, hs⟩
            · subst ex
              refine (evps_cons (evp_var (x := .lst (tps R ys)) rfl) evps_nil) s6 _ X2 ?_
              have ez : zipP ((rotK pool t up).map keyV) (tps R ys) = ((rotK pool t up).zip ys).map fun q => PV.tup [keyV q.1, tp R q.2] := by
                unfold zipP
                rw [tps_map, List.zip_map, List.map_map]
                rfl
              show (zipP ((rotK pool t up).map keyV) (tps R ys)).length ≤ 900000 ∧ lcP _ _ _ _ _ (zipP ((rotK pool t up).map keyV) (tps R ys)) _ _ _
              rw [ez]
              refine ⟨by rw [List.length_map, List.length_zip]; omega, lc_mapz (a := fun q : Key × Vt => keyV q.1) (a2 := fun q => tp R q.2) (b := fun q => .tup [keyV q.1, tp R q.2]) _ [] s6 _ (fun q _ => evp_tup (evps_cons (evp_var rfl) (evps_cons (evp_var rfl) evps_nil)) (by show 2 ≤ 1000000; decide)) ?_⟩
              exact g2 _ _ ⟨⟨up, rfl⟩, hs6⟩
          · subst ex
            obtain ⟨r1, r2, r3, r4⟩ := rot_ok hp ht up
            show pick (pairsP (((rotK pool t up).zip ys).map fun q => PV.tup [keyV q.1, tp R q.2])) fun ps => G (.dct (mergeP [] [] ps).1 (mergeP [] [] ps).2) s1
            have l1 : ((rotK pool t up).take ys.length).length = ys.length := by rw [List.length_take]; omega
            have ef : (((rotK pool t up).zip ys).map fun q => (q.1, tp R q.2)).map (·.1) = (rotK pool t up).take ys.length := by
              rw [List.map_map, zip_take]
              exact List.map_fst_zip (by omega)
            have es : (((rotK pool t up).zip ys).map fun q => (q.1, tp R q.2)).map (·.2) = tps R ys := by
              rw [List.map_map, zip_take, tps_map]
              show (((rotK pool t up).take ys.length).zip ys).map ((tp R) ∘ Prod.snd) = _
              rw [← List.map_map, List.map_snd_zip (by omega)]
            rw [pairs_ok, ]
            show G (.dct (mergeP [] [] (((rotK pool t up).zip ys).map fun q => (q.1, tp R q.2))).1 (mergeP [] [] (((rotK pool t up).zip ys).map fun q => (q.1, tp R q.2))).2) s1
            rw [merge_self _ [] [] (by rw [List.nil_append, ef]; exact r2.sublist (List.take_sublist _ _)), ef, es, List.nil_append, List.nil_append]
            exact g _ _ ⟨⟨up, by rw [tp_dct]⟩, hs⟩
        · subst ex
          obtain ⟨r1, r2, r3, r4⟩ := rot_ok hp ht up
          have l1 : ((rotK pool t up).take ys.length).length = ys.length := by rw [List.length_take]; omega
          have mm : ∀ k ∈ (rotK pool t up).take ys.length, k ∈ pool := fun k hk => r3 k (List.mem_of_mem_take hk)
          refine h _ k4 ⟨by rw [dep_dct]; omega, ?_, ?_, ?_⟩ (by omega)
          · unfold okT
            rw [decide_eq_true l1, okl, List.all_eq_true.mpr fun k hk => r4 k (mm k hk)]
            rfl
          · unfold K03.okF
            refine ⟨l1, r2.sublist (List.take_sublist _ _), by omega, ?_, okl2⟩
            rcases hp with rfl | rfl
            · exact .inr (uni_S_of _ mm)
            · exact .inl (uni_I_of _ mm)
          · unfold Pw.wt wB
            omega
end
end K03
end

section -- K03i
set_option linter.all false
set_option maxRecDepth 100000
set_option maxHeartbeats 4000000
set_option synthInstance.maxSize 10000
set_option synthInstance.maxHeartbeats 4000000
/-! papers made as asked, looked at; fixed looked at -/
namespace K03
open PySem PySem.Spec L2 Pk Evl Pv Pw
open PyProof.Rows hiding St
mutual
/-- what is fixed stays as it is -/
theorem fix_same : ∀ {x : Vt}, fxT x = true → fixT x = x
  | .tup xs, h => by
    unfold fxT at h
    unfold fixT
    rw [fixs_same h]
  | .lst xs, h => by unfold fxT at h; cases h
  | .dct ks xs, h => by unfold fxT at h; cases h
  | .non, _ => by unfold fixT; rfl
  | .bl _, _ => by unfold fixT; rfl
  | .int _, _ => by unfold fixT; rfl
  | .str _, _ => by unfold fixT; rfl
  | .rat _ _, _ => by unfold fixT; rfl
theorem fixs_same : ∀ {xs : List Vt}, fxTs xs = true → fixTs xs = xs
  | [], _ => by unfold fixTs; rfl
  | x :: xs, h => by
    unfold fxTs at h
    obtain ⟨h1, h2⟩ := Bool.and_eq_true_iff.mp h
    unfold fixTs
    rw [fix_same h1, fixs_same h2]
end
theorem par_ok {S : Type} {i j : Nat} {f : FA S} {ρ : SEn} {s : S} {G : DD S} {x y : PV} (h : EvPs (hide ρ) f [x, y]) (k : G.nx ((ρ.set i (.sh x)).set j (.sh y)) s) : fPar i j f ρ s G := h s _ _ k
section
variable {P : Program} {w : World} {K : PySem.W.Frag} {mg : Str → Option Value} {base : Heap} {S : Type} {W : Wd S} {R CP CD : Addr}
def preMade (R CP CD : Addr) (d : Nat) : FP S := fun xs s F _ => ∃ (no : Bool) (z : Str) (ys : List Vt), xs = [.bl no, .str z, .lst (tps R ys)] ∧ ys.length ≤ 4 ∧ dep (.tup ys) < d ∧ okF (.tup ys) ∧ F (.ins (if no then CD else CP) papN (papX R z (fixTs ys))) s
theorem sc_mk : FnScope ["_law_says_no", "_law_word", "_law_parts"] ["_law_says_no", "_law_word", "_law_parts"] (defScope sMade) := ⟨rfl, rfl, rfl, by decide +kernel, rfl, by decide +kernel, by decide +kernel⟩
theorem ok_mk {f gP gD : Addr} {fd : FuncData} {d : Nat} (F : Fun K "_law_made" "_law_made" sMade f fd) (B : Bi mg) (M_pi : Mk K CP gP) (G_pi : FnR P w K mg base CX0 (d + 2) gP (spIs W CP (prePap R d))) (g_pi : mg "Paper" = some (.ref CP))
    (M_di : Mk K CD gD) (G_di : FnR P w K mg base CX0 (d + 3) gD (spIs W CD (prePap R d))) (g_di : mg "Denial" = some (.ref CD)) : FnOk P w K mg base CX0 (d + 5) f fd ["_law_says_no", "_law_word", "_law_parts"] (spF W 3 (preMade R CP CD d)) := by
  refine F.ok sc_mk (fun vs H Q E h => h.len) (fun cdv A outer s H vs Q E hr h => ?_)
  have nd := sc_mk.nd
  refine ⟨_, (pss_cons (ps_if (pt_cmpR op_eq (pe_callB call_lenL (by rfl) B.n_len (by decide +kernel) (pa_cons (pv 2) pa_nil)) pe_int (nomark _))
(pss_one (ps_ret (pe_ifExp (pt_val (pv 0)) (StX.pe_makeR M_di G_di (hr.mono (by omega)) (by rfl) g_di pass0 (pa_cons (pv 1) pa_nil)) (StX.pe_makeR M_pi G_pi (hr.mono (by omega)) (by rfl) g_pi pass0 (pa_cons (pv 1) pa_nil)))))
pss_nil)
(pss_cons (ps_if (pt_cmpR op_eq (pe_callB call_lenL (by rfl) B.n_len (by decide +kernel) (pa_cons (pv 2) pa_nil)) pe_int (nomark _))
(pss_one (ps_ret (pe_ifExp (pt_val (pv 0)) (StX.pe_makeR M_di G_di (hr.mono (by omega)) (by rfl) g_di pass0 (pa_cons (pv 1) (pa_cons (pe_ix ix_list (pv 2) pe_int (fun _ _ => rfl)) pa_nil))) (StX.pe_makeR M_pi G_pi (hr.mono (by omega)) (by rfl) g_pi pass0 (pa_cons (pv 1) (pa_cons (pe_ix ix_list (pv 2) pe_int (fun _ _ => rfl)) pa_nil))))))
pss_nil)
(pss_cons (ps_if (pt_cmpR op_eq (pe_callB call_lenL (by rfl) B.n_len (by decide +kernel) (pa_cons (pv 2) pa_nil)) pe_int (nomark _))
(pss_one (ps_ret (pe_ifExp (pt_val (pv 0)) (StX.pe_makeR M_di G_di (hr.mono (by omega)) (by rfl) g_di pass0 (pa_cons (pv 1) (pa_cons (pe_ix ix_list (pv 2) pe_int (fun _ _ => rfl)) (pa_cons (pe_ix ix_list (pv 2) pe_int (fun _ _ => rfl)) pa_nil)))) (StX.pe_makeR M_pi G_pi (hr.mono (by omega)) (by rfl) g_pi pass0 (pa_cons (pv 1) (pa_cons (pe_ix ix_list (pv 2) pe_int (fun _ _ => rfl)) (pa_cons (pe_ix ix_list (pv 2) pe_int (fun _ _ => rfl)) pa_nil)))))))
pss_nil)
(pss_cons (ps_if (pt_cmpR op_eq (pe_callB call_lenL (by rfl) B.n_len (by decide +kernel) (pa_cons (pv 2) pa_nil)) pe_int (nomark _))
(pss_one (ps_ret (pe_ifExp (pt_val (pv 0)) (StX.pe_makeR M_di G_di (hr.mono (by omega)) (by rfl) g_di pass0 (pa_cons (pv 1) (pa_cons (pe_ix ix_list (pv 2) pe_int (fun _ _ => rfl)) (pa_cons (pe_ix ix_list (pv 2) pe_int (fun _ _ => rfl)) (pa_cons (pe_ix ix_list (pv 2) pe_int (fun _ _ => rfl)) pa_nil))))) (StX.pe_makeR M_pi G_pi (hr.mono (by omega)) (by rfl) g_pi pass0 (pa_cons (pv 1) (pa_cons (pe_ix ix_list (pv 2) pe_int (fun _ _ => rfl)) (pa_cons (pe_ix ix_list (pv 2) pe_int (fun _ _ => rfl)) (pa_cons (pe_ix ix_list (pv 2) pe_int (fun _ _ => rfl)) pa_nil))))))))
pss_nil)
(pss_cons (ps_if (pt_val (pv 0))
(pss_one (ps_ret (StX.pe_makeR M_di G_di (hr.mono (by omega)) (by rfl) g_di pass0 (pa_cons (pv 1) (pa_cons (pe_ix ix_list (pv 2) pe_int (fun _ _ => rfl)) (pa_cons (pe_ix ix_list (pv 2) pe_int (fun _ _ => rfl)) (pa_cons (pe_ix ix_list (pv 2) pe_int (fun _ _ => rfl)) (pa_cons (pe_ix ix_list (pv 2) pe_int (fun _ _ => rfl)) pa_nil))))))))
pss_nil)
(pss_one (ps_ret (StX.pe_makeR M_pi G_pi (hr.mono (by omega)) (by rfl) g_pi pass0 (pa_cons (pv 1) (pa_cons (pe_ix ix_list (pv 2) pe_int (fun _ _ => rfl)) (pa_cons (pe_ix ix_list (pv 2) pe_int (fun _ _ => rfl)) (pa_cons (pe_ix ix_list (pv 2) pe_int (fun _ _ => rfl)) (pa_cons (pe_ix ix_list (pv 2) pe_int (fun _ _ => rfl)) pa_nil))))))))))))), pure_run (W := W) h fun xs s F X hl h => ?_⟩
  obtain ⟨no, z, ys, rfl, h4, hd, hk, h⟩ := h
  have init : initS ["_law_says_no", "_law_word", "_law_parts"] [PV.bl no, .str z, .lst (tps R ys)] = [.sh (.bl no), .sh (.str z), .sh (.lst (tps R ys))] := rfl
  rw [init]
  have ln : ∀ k : Nat, EvB (S := S) (view [.sh (.bl no), .sh (.str z), .sh (.lst (tps R ys))]) (Pv.fB (fOp (gEq false) (fCB gLen (fCons (fVar 2) fNil)) (fC (V.int (k : Int))))) (decide (ys.length = k)) := fun k => evb_of (evp_op (evp_len (l := tps R ys) (evp_var rfl)) evp_c fun F q => by
    show F (.bl (decide (((tps R ys).length : Int) = (k : Int))))
    rw [tps_len]
    have e : decide (((ys.length : Nat) : Int) = (k : Int)) = decide (ys.length = k) := by rw [decide_eq_decide]; omega
    rw [e]
    exact q)
  have at_ : ∀ (k : Nat) (y : Vt), ys[k]? = some y → EvP (S := S) (view [.sh (.bl no), .sh (.str z), .sh (.lst (tps R ys))]) (fOp gIxL (fVar 2) (fC (V.int (k : Int)))) (tp R y) := fun k y e => evp_ix (evp_var (x := .lst (tps R ys)) rfl) evp_c (atI_nat (tps_get e))
  have vz : EvP (S := S) (view [.sh (.bl no), .sh (.str z), .sh (.lst (tps R ys))]) (fVar 1) (.str z) := evp_var rfl
  have mk : ∀ (C : Addr) (fa : FA S), EvPs (view [.sh (.bl no), .sh (.str z), .sh (.lst (tps R ys))]) fa (.str z :: ys.map (tp R)) → EvP (S := S) (view [.sh (.bl no), .sh (.str z), .sh (.lst (tps R ys))]) (fMakeR C (prePap R d) fa) (.ins C papN (papX R z (fixTs ys))) := fun C fa ha => evp_makeR ha fun s F X q => ⟨z, ys, rfl, hd, hk, q⟩
  have pick2 : ∀ (fa : FA S), EvPs (view [.sh (.bl no), .sh (.str z), .sh (.lst (tps R ys))]) fa (.str z :: ys.map (tp R)) → EvP (S := S) (view [.sh (.bl no), .sh (.str z), .sh (.lst (tps R ys))]) (fIf (Pv.fB (fVar 0)) (fMakeR CD (prePap R d) fa) (fMakeR CP (prePap R d) fa)) (.ins (if no then CD else CP) papN (papX R z (fixTs ys))) := fun fa ha => evp_if (b := no) (evb_of (evp_var rfl)) (fun e => by subst e; exact mk CD fa ha) fun e => by subst e; exact mk CP fa ha
  refine ifs_b (ln 0) (fun c => ?_) fun c0 => .inl (ifs_b (ln 1) (fun c => ?_) fun c1 => .inl (ifs_b (ln 2) (fun c => ?_) fun c2 => .inl (ifs_b (ln 3) (fun c => ?_) fun c3 => .inl ?_)))
  · obtain rfl : ys = [] := List.eq_nil_of_length_eq_zero (of_decide_eq_true c)
    exact ret_ok (pick2 _ (evps_cons vz evps_nil)) h
  · obtain ⟨a, rfl⟩ := List.length_eq_one_iff.mp (of_decide_eq_true c)
    exact ret_ok (pick2 _ (evps_cons vz (evps_cons (at_ 0 a rfl) evps_nil))) h
  · obtain ⟨a, b, rfl⟩ : ∃ a b, ys = [a, b] := by
      match ys, of_decide_eq_true c with
      | [a, b], _ => exact ⟨a, b, rfl⟩
    exact ret_ok (pick2 _ (evps_cons vz (evps_cons (at_ 0 a rfl) (evps_cons (at_ 1 b rfl) evps_nil)))) h
  · obtain ⟨a, b, c', rfl⟩ : ∃ a b c', ys = [a, b, c'] := by
      match ys, of_decide_eq_true c with
      | [a, b, c'], _ => exact ⟨a, b, c', rfl⟩
    exact ret_ok (pick2 _ (evps_cons vz (evps_cons (at_ 0 a rfl) (evps_cons (at_ 1 b rfl) (evps_cons (at_ 2 c' rfl) evps_nil))))) h
  · have l4 : ys.length = 4 := by
      have := of_decide_eq_false c0
      have := of_decide_eq_false c1
      have := of_decide_eq_false c2
      have := of_decide_eq_false c3
      omega
    obtain ⟨a, b, c', e, rfl⟩ : ∃ a b c e, ys = [a, b, c, e] := by
      match ys, l4 with
      | [a, b, c, e], _ => exact ⟨a, b, c, e, rfl⟩
    have args := evps_cons vz (evps_cons (at_ 0 a rfl) (evps_cons (at_ 1 b rfl) (evps_cons (at_ 2 c' rfl) (evps_cons (at_ 3 e rfl) evps_nil))))
    refine ifs_b (b := no) (evb_of (evp_var rfl)) (fun e => ?_) fun e => .inl ?_
    · subst e
      exact ret_ok (mk CD _ args) h
    · subst e
      exact ret_ok (mk CP _ args) h
/-- what the text tells of the repr of ratios -/
structure RRp (P : Program) (w : World) (K : PySem.W.Frag) (mg : Str → Option Value) (base : Heap) (R : Addr) (fE : Addr) (fdE : FuncData) : Prop where
  hs : PySem.W.findIn K (.ref R) "__repr__" = some (some (.ref fE))
  hf : PySem.W.isFn K (.ref fE) = true
  G : FnOk P w K mg base CX0 5 fE fdE ["self"] (spF W0 1 (preRRp R))
  b : Binds K fdE ["self"] []
theorem RRp.at {fE : Addr} {fdE : FuncData} (k : RRp P w K mg base R fE fdE) {X : Cx} (hP : X.prog = P) (hw : X.w = w) (hK : X.K = K) (hm : X.mg = mg) (hb : X.base = base) : RatRp X 5 R fE := by
  subst hP hw hK hm hb
  exact ⟨k.hs, k.hf, fun A hr hA => runAt_fn k.G hr hA k.b pass0⟩
def preKept (R CP CD : Addr) (d : Nat) : FP S := fun xs s F _ => ∃ (no : Bool) (z : Str) (as : List Vt), xs = [.ins (if no then CD else CP) papN (papX R z as), .bl no, .str z, tp R (.tup as)] ∧ fxTs as = true ∧ dep (.tup as) < d ∧ okF (.tup as) ∧ okT (.tup as) = true ∧ okT (.str z) = true ∧ wt (.tup as) ≤ 10000 ∧ F (.bl true) s
theorem sc_kp : FnScope ["_law_paper", "_law_says_no", "_law_word", "_law_due"] ["_law_paper", "_law_says_no", "_law_word", "_law_due"] (defScope sKept) := ⟨rfl, rfl, rfl, by decide +kernel, rfl, by decide +kernel, by decide +kernel⟩
theorem ok_kp {f fR fS fB fD : Addr} {fd fdR fdS fdB fdD : FuncData} {dd : Nat} (F : Fun K "_law_kept" "_law_kept" sKept f fd) (B : Bi mg) (c : RC K mg R) (T : PC K mg R CP CD) (kR : RRp P w K mg base R fR fdR)
    (G_same : FnOk P w K mg base CX0 (dd + 4) fS fdS ["_law_one", "_law_other"] (spF W 2 (preSame R dd))) (b_same : Binds K fdS ["_law_one", "_law_other"] []) (d_same : Df K mg "_law_same" fS)
    (b_s1 : PySem.W.findIn K (.ref CP) "__bool__" = some (some (.ref fB))) (b_i1 : PySem.W.isFn K (.ref fB) = true) (G_pb : FnOk P w K mg base CX0 1 fB fdB ["self"] (spF W0 1 (preBl true))) (b_pb : Binds K fdB ["self"] [])
    (b_s2 : PySem.W.findIn K (.ref CD) "__bool__" = some (some (.ref fD))) (b_i2 : PySem.W.isFn K (.ref fD) = true) (G_db : FnOk P w K mg base CX0 1 fD fdD ["self"] (spF W0 1 (preBl false))) (b_db : Binds K fdD ["self"] []) :
    FnG P w K mg base CX0 (dd + 8) f fd ["_law_paper", "_law_says_no", "_law_word", "_law_due"] (spF W 4 (preKept R CP CD dd)) := by
  refine fnG_of F sc_kp (fun vs H Q E h => h.len) (fun cdv A outer s H vs Q E hr hg h => ?_)
  have nd := sc_kp.nd
  have gP := T.vP
  have gD := T.vD
  have r2 := (hr.mono (by omega : 3 ≤ dd + 7)).in1.in1
  have kRp := kR.at (X := (cxOf CX0 P w K mg base ["_law_paper", "_law_says_no", "_law_word", "_law_due"] "_law_kept" (defScope sKept) f cdv A outer s H E)) rfl rfl rfl rfl rfl
  refine ⟨_, (pss_cons (ps_if (PW.pt (pw_or (pt_not (pt_val (pe_callB call_isi (by rfl) B.n_isinstance (by decide +kernel) (pa_cons (pv 0) (pa_cons (pe_gv gP) pa_nil))))) (pw_or (pt_cmpR op_ne (pe_callB call_isi (by rfl) B.n_isinstance (by decide +kernel) (pa_cons (pv 0) (pa_cons (pe_gv gD) pa_nil))) (pv 1) (nomark _)) (pw_or1 (pt_cmpR op_ne (pe_callB (call_reprT kRp (R := R) (d := dd) hg (hr.mono (by omega))) (by rfl) B.n_repr (by decide +kernel) (pa_cons (pe_callTy (T := "bool") (call_or (call_boolP (C := CP) b_s1 b_i1 (runAt_fn G_pb r2 rfl b_pb pass0)) (call_boolP (C := CD) b_s2 b_i2 (runAt_fn G_db r2 rfl b_db pass0))) (by rfl) B.n_bool (by decide +kernel) (pa_cons (pv 0) pa_nil)) pa_nil)) (pe_callB (call_reprT kRp (R := R) (d := dd) hg (hr.mono (by omega))) (by rfl) B.n_repr (by decide +kernel) (pa_cons (pe_not (pv 1)) pa_nil)) (nomark _))))))
(pss_one (ps_ret pe_bl))
pss_nil)
(pss_cons (ps_if (PW.pt (pw_or (pt_cmpR op_ne (pe_callB (call_reprT kRp (R := R) (d := dd) hg (hr.mono (by omega))) (by rfl) B.n_repr (by decide +kernel) (pa_cons (pe_fld (pv 0) rfl) pa_nil)) (pe_callB (call_reprT kRp (R := R) (d := dd) hg (hr.mono (by omega))) (by rfl) B.n_repr (by decide +kernel) (pa_cons (pv 2) pa_nil)) (nomark _)) (pw_or (pt_not (pt_val (pe_callB call_isi (by rfl) B.n_isinstance (by decide +kernel) (pa_cons (pe_fld (pv 0) rfl) (pa_cons (pe_tyname "tuple" B.n_tuple (by decide +kernel)) pa_nil))))) (pw_or1 (pt_cmpR op_ne (pe_callB (call_reprT kRp (R := R) (d := dd) hg (hr.mono (by omega))) (by rfl) B.n_repr (by decide +kernel) (pa_cons (pe_fld (pv 0) rfl) pa_nil)) (pe_callB (call_reprT kRp (R := R) (d := dd) hg (hr.mono (by omega))) (by rfl) B.n_repr (by decide +kernel) (pa_cons (pv 3) pa_nil)) (nomark _))))))
(pss_one (ps_ret pe_bl))
pss_nil)
(pss_one (ps_ret (pe_cs (calls_fn G_same (hr.mono (by omega)) b_same .nil pass0) d_same.1 d_same.2 (pa_cons (pe_fld (pv 0) rfl) (pa_cons (pv 3) pa_nil))))))), pure_run (W := W) h fun xs s F X hl h => ?_⟩
  obtain ⟨no, z, as, rfl, fa, hd, hk, oka, okz, hw, h⟩ := h
  obtain ⟨C, hC⟩ : ∃ C, C = if no then CD else CP := ⟨_, rfl⟩
  rw [← hC]
  have cl : Cls K C ∧ NoAttr K C "word" ∧ NoAttr K C "parts" ∧ TyC K C ∧ PySem.W.kitOne K (.ref C) (.ref CP) = some true ∧ PySem.W.kitOne K (.ref C) (.ref CD) = some no := by
    cases no
    · subst hC; exact ⟨T.clP, T.wP, T.pP, T.tyP, T.kPP, T.kPD⟩
    · subst hC; exact ⟨T.clD, T.wD, T.pD, T.tyD, T.kDP, T.kDD⟩
  have init : initS ["_law_paper", "_law_says_no", "_law_word", "_law_due"] [PV.ins C papN (papX R z as), .bl no, .str z, tp R (.tup as)] = [.sh (.ins C papN (papX R z as)), .sh (.bl no), .sh (.str z), .sh (tp R (.tup as))] := rfl
  rw [init]
  have v0 : EvP (S := S) (view [.sh (.ins C papN (papX R z as)), .sh (.bl no), .sh (.str z), .sh (tp R (.tup as))]) (fVar 0) (.ins C papN (papX R z as)) := evp_var rfl
  have v1 : EvP (S := S) (view [.sh (.ins C papN (papX R z as)), .sh (.bl no), .sh (.str z), .sh (tp R (.tup as))]) (fVar 1) (.bl no) := evp_var rfl
  have rp : ∀ (fe : FE S) (x : Vt), EvP (view [.sh (.ins C papN (papX R z as)), .sh (.bl no), .sh (.str z), .sh (tp R (.tup as))]) fe (tp R x) → okT x = true → Pw.dep x ≤ dd → Pw.wt x ≤ 10000 → EvP (view [.sh (.ins C papN (papX R z as)), .sh (.bl no), .sh (.str z), .sh (tp R (.tup as))]) (fCB (gReprT R dd) (fCons fe fNil)) (.str (rpT x)) := fun fe x he ok d w => evp_cb (evps_cons he evps_nil) fun F k => ⟨x, rfl, ok, d, w, k⟩
  have fw : EvP (S := S) (view [.sh (.ins C papN (papX R z as)), .sh (.bl no), .sh (.str z), .sh (tp R (.tup as))]) (fFldO K 0 "word") (.str z) := evp_fld rfl cl.1 cl.2.1 rfl
  have fp : EvP (S := S) (view [.sh (.ins C papN (papX R z as)), .sh (.bl no), .sh (.str z), .sh (tp R (.tup as))]) (fFldO K 0 "parts") (tp R (.tup as)) := evp_fld rfl cl.1 cl.2.2.1 rfl
  have ez : tp R (.str z) = .str z := by unfold tp; rfl
  have ebl : ∀ b, tp R (.bl b) = .bl b := fun b => by unfold tp; rfl
  have nes : ∀ (x y : FE S) (a b : Str), a = b → EvP (view [.sh (.ins C papN (papX R z as)), .sh (.bl no), .sh (.str z), .sh (tp R (.tup as))]) x (.str a) → EvP (view [.sh (.ins C papN (papX R z as)), .sh (.bl no), .sh (.str z), .sh (tp R (.tup as))]) y (.str b) → EvB (view [.sh (.ins C papN (papX R z as)), .sh (.bl no), .sh (.str z), .sh (tp R (.tup as))]) (Pv.fB (fOp (gEq true) x y)) false := fun x y a b e hx hy => evb_of (evp_op hx hy fun F k => by
    subst e
    show F (.bl (!decide (a = a)))
    rw [decide_eq_true rfl]
    exact k)
  refine ifs_f ?_ (.inl (ifs_f ?_ (.inl (ret_ok (x := .bl true) ?_ h))))
  · refine evb_or (b := !true) (c := false) (evb_not (evb_of (evp_cb (evps_cons v0 (evps_cons evp_c evps_nil)) fun F k => ⟨_, _, true, rfl, ⟨cl.2.2.2.1, rfl⟩, cl.2.2.2.2.1, k⟩))) fun _ => evb_or (b := false) (c := false) (evb_of (evp_op (x := .bl no) (y := .bl no) (evp_cb (evps_cons v0 (evps_cons evp_c evps_nil)) fun F k => ⟨_, _, no, rfl, ⟨cl.2.2.2.1, rfl⟩, cl.2.2.2.2.2, k⟩) v1 fun F k => ?_)) fun _ => nes _ _ (rpT (.bl (!no))) (rpT (.bl (!no))) rfl (rp _ _ ?_ (by unfold okT; rfl) (by unfold Pw.dep; omega) (by unfold Pw.wt; omega)) (rp _ _ ?_ (by unfold okT; rfl) (by unfold Pw.dep; omega) (by unfold Pw.wt; omega))
    · show F (.bl (!decide (no = no)))
      rw [decide_eq_true rfl]
      exact k
    · rw [ebl]
      refine evp_cb (evps_cons v0 evps_nil) fun F k => ?_
      cases no
      · exact .inl ⟨hC, k⟩
      · exact .inr ⟨hC, k⟩
    · rw [ebl]
      exact evp_notV v1
  · refine evb_or (b := false) (c := false) (nes _ _ (rpT (.str z)) (rpT (.str z)) rfl (rp _ _ (by rw [ez]; exact fw) okz (by unfold Pw.dep; omega) (by unfold Pw.wt; omega)) (rp _ _ (by rw [ez]; exact evp_var rfl) okz (by unfold Pw.dep; omega) (by unfold Pw.wt; omega))) fun _ => evb_or (b := !true) (c := false) (evb_not (evb_of (evp_cb (evps_cons fp (evps_cons evp_c evps_nil)) fun F k => isi_tup c k))) fun _ => nes _ _ (rpT (.tup as)) (rpT (.tup as)) rfl (rp _ _ fp oka (by omega) hw) (rp _ _ (evp_var rfl) oka (by omega) hw)
  · refine evp_call0 (evps_cons fp (evps_cons (evp_var (x := tp R (.tup as)) rfl) evps_nil)) rfl fun s F X k => ⟨.tup as, .tup as, rfl, hd, by unfold fxT; exact fa, by unfold fxT; exact fa, hk, hk, ?_⟩
    rw [Pw.eqT_refl _ (by unfold fxT; exact fa)]
    exact k
def preFR (R : Addr) (d : Nat) : FP S := fun xs s F _ => ∃ x : Vt, xs = [tp R x] ∧ dep x < d ∧ 2 * dep x + 2 < d ∧ okF x ∧ okT x = true ∧ wt x ≤ 5000 ∧ F (.bl true) s
theorem sc_fr : FnScope ["_law_value_here", "_law_told", "_law_found", "_law_due"] ["_law_value_here"] (defScope sFRight) := ⟨rfl, rfl, rfl, by decide +kernel, rfl, by decide +kernel, by decide +kernel⟩
theorem ok_fr {f fR fS fF fG : Addr} {fd fdR fdS fdF fdG : FuncData} {dd : Nat} (F : Fun K "_law_fixed_right" "_law_fixed_right" sFRight f fd) (B : Bi mg) (c : RC K mg R) (kR : RRp P w K mg base R fR fdR)
    (G_same : FnOk P w K mg base CX0 (dd + 4) fS fdS ["_law_one", "_law_other"] (spF W 2 (preSame R dd))) (b_same : Binds K fdS ["_law_one", "_law_other"] []) (d_same : Df K mg "_law_same" fS)
    (G_fx : FnOk P w K mg base CX0 (dd + 1) fF fdF ["value"] (spF W 1 (preFix R dd))) (b_fx : Binds K fdF ["value"] []) (bk_fx : KBinds K fdF ["value"] ["value"] (fun us ws => us ++ ws) (fun vs zs => vs ++ zs)) (d_fx : Df K mg "fixed" fF)
    (G_f2 : FnOk P w K mg base CX0 (dd + 1) fG fdG ["_law_value_here"] (spF W 1 (preFix R dd))) (b_f2 : Binds K fdG ["_law_value_here"] []) (d_f2 : Df K mg "_law_fixed" fG) :
    FnG P w K mg base CX0 (dd + 8) f fd ["_law_value_here"] (spF W 1 (preFR R dd)) := by
  refine fnG_of F sc_fr (fun vs H Q E h => h.len) (fun cdv A outer s H vs Q E hr hg h => ?_)
  have nd := sc_fr.nd
  have kRp := kR.at (X := (cxOf CX0 P w K mg base ["_law_value_here", "_law_told", "_law_found", "_law_due"] "_law_fixed_right" (defScope sFRight) f cdv A outer s H E)) rfl rfl rfl rfl rfl
  refine ⟨_, (pss_cons (ps_set (i := 1) nd rfl (Or.inl rfl) (pe_callB (call_reprT kRp (R := R) (d := dd) hg (hr.mono (by omega))) (by rfl) B.n_repr (by decide +kernel) (pa_cons (pv 0) pa_nil)))
(pss_cons (ps_par (i := 2) (j := 3) (by rfl) nd rfl rfl (by decide) rfl rfl (pa_cons (pe_cs (calls_fn G_fx (hr.mono (by omega)) b_fx .nil pass0) d_fx.1 d_fx.2 (pa_cons (pv 0) pa_nil)) (pa_cons (pe_cs (calls_fn G_f2 (hr.mono (by omega)) b_f2 .nil pass0) d_f2.1 d_f2.2 (pa_cons (pv 0) pa_nil)) pa_nil)) (by rfl))
(pss_cons (ps_if (PW.pt (pw_or (pt_cmpR op_ne (pe_callB (call_reprT kRp (R := R) (d := dd) hg (hr.mono (by omega))) (by rfl) B.n_repr (by decide +kernel) (pa_cons (pv 2) pa_nil)) (pe_callB (call_reprT kRp (R := R) (d := dd) hg (hr.mono (by omega))) (by rfl) B.n_repr (by decide +kernel) (pa_cons (pv 3) pa_nil)) (nomark _)) (pw_or (pt_not (pt_val (pe_cs (calls_fn G_same (hr.mono (by omega)) b_same .nil pass0) d_same.1 d_same.2 (pa_cons (pv 2) (pa_cons (pv 3) pa_nil))))) (pw_or1 (pt_cmpR op_ne (pe_callB (call_reprT kRp (R := R) (d := dd) hg (hr.mono (by omega))) (by rfl) B.n_repr (by decide +kernel) (pa_cons (pv 0) pa_nil)) (pv 1) (nomark _))))))
(pss_one (ps_ret pe_bl))
pss_nil)
(pss_one (ps_ret (pe_and (pe_cmpR op_eq (pe_callB (call_reprT kRp (R := R) (d := dd) hg (hr.mono (by omega))) (by rfl) B.n_repr (by decide +kernel) (pa_cons (pe_csK (E := fun _ => E0) G_fx (hr.mono (by omega)) bk_fx (fun σ pins H s e s' I c => False.elim c) d_fx.1 d_fx.2 (pk_cons (pv 2) pk_nil)) pa_nil)) (pe_callB (call_reprT kRp (R := R) (d := dd) hg (hr.mono (by omega))) (by rfl) B.n_repr (by decide +kernel) (pa_cons (pe_cs (calls_fn G_f2 (hr.mono (by omega)) b_f2 .nil pass0) d_f2.1 d_f2.2 (pa_cons (pv 3) pa_nil)) pa_nil)) (nomark _)) (pe_one (pe_cmpR op_eq (pe_callB (call_reprT kRp (R := R) (d := dd) hg (hr.mono (by omega))) (by rfl) B.n_repr (by decide +kernel) (pa_cons (pe_cs (calls_fn G_fx (hr.mono (by omega)) b_fx .nil pass0) d_fx.1 d_fx.2 (pa_cons (pe_lst (pa_cons (pv 0) pa_nil)) pa_nil)) pa_nil)) (pe_callB (call_reprT kRp (R := R) (d := dd) hg (hr.mono (by omega))) (by rfl) B.n_repr (by decide +kernel) (pa_cons (pe_tup (pa_cons (pv 3) pa_nil)) pa_nil)) (nomark _))))))))), pure_run (W := W) h fun xs s F X hl h => ?_⟩
  obtain ⟨x, rfl, hd, hd2, hk, ok, hw, h⟩ := h
  have fi := fixIs hk
  have fj := fixIs fi.okF
  have d2 : Pw.dep (fixT x) < dd := by have := fi.dep; omega
  have hwx : Pw.wt (fixT x) ≤ 5000 := by rw [fi.wt]; exact hw
  have kr : ∀ (r : En) (fe : FE S) (y : Vt), EvP r fe (tp R y) → okT y = true → Pw.dep y ≤ dd → Pw.wt y ≤ 10000 → EvP r (fCB (gReprT R dd) (fCons fe fNil)) (.str (rpT y)) := fun r fe y he ok d w => evp_cb (evps_cons he evps_nil) fun F k => ⟨y, rfl, ok, d, w, k⟩
  have cf : ∀ (r : En) (fe : FE S) (y : Vt), EvP r fe (tp R y) → Pw.dep y < dd → okF y → EvP r (fCall0 1 (preFix R dd) (List.map toPV []) (fCons fe fNil)) (tp R (fixT y)) := fun r fe y he d k => evp_call0 (evps_cons he evps_nil) rfl fun s F X q => ⟨y, rfl, d, k, q⟩
  have init : initS ["_law_value_here", "_law_told", "_law_found", "_law_due"] [tp R x] = [.sh (tp R x), .no, .no, .no] := rfl
  rw [init]
  refine setS_ok (kr _ _ x (evp_var rfl) ok (by omega) (by omega)) rfl (.inl (par_ok (evps_cons (cf _ _ x (evp_var rfl) hd hk) (evps_cons (cf _ _ x (evp_var rfl) hd hk) evps_nil)) (.inl ?_)))
  have nes : ∀ (r : En) (x y : FE S) (a b : Str), a = b → EvP r x (.str a) → EvP r y (.str b) → EvB r (Pv.fB (fOp (gEq true) x y)) false := fun r x y a b e hx hy => evb_of (evp_op hx hy fun F k => by
    subst e
    show F (.bl (!decide (a = a)))
    rw [decide_eq_true rfl]
    exact k)
  have eqs : ∀ (r : En) (x y : FE S) (a b : Str), a = b → EvP r x (.str a) → EvP r y (.str b) → EvP r (fOp (gEq false) x y) (.bl true) := fun r x y a b e hx hy => evp_op hx hy fun F k => by
    subst e
    show F (.bl (decide (a = a)))
    rw [decide_eq_true rfl]
    exact k
  refine ifs_f ?_ (.inl (ret_ok (x := .bl (true && true)) ?_ h))
  · refine evb_or (b := false) (c := false) (nes _ _ _ _ _ rfl (kr _ _ (fixT x) (evp_var rfl) (fi.ok ok) (by omega) (by omega)) (kr _ _ (fixT x) (evp_var rfl) (fi.ok ok) (by omega) (by omega))) fun _ => evb_or (b := !true) (c := false) (evb_not (evb_of (evp_call0 (evps_cons (evp_var (x := tp R (fixT x)) rfl) (evps_cons (evp_var (x := tp R (fixT x)) rfl) evps_nil)) rfl fun s F X k => ⟨fixT x, fixT x, rfl, d2, fi.fx, fi.fx, fi.okF, fi.okF, ?_⟩))) fun _ => nes _ _ _ _ _ rfl (kr _ _ x (evp_var rfl) ok (by omega) (by omega)) (evp_var rfl)
    rw [Pw.eqT_refl _ fi.fx]
    exact k
  · have l1 : tp R (.lst [x]) = .lst [tp R x] := by rw [tp_lst, tps_map]; rfl
    have l2 : tp R (.tup [fixT x]) = .tup [tp R (fixT x)] := by rw [tp_tup, tps_map]; rfl
    have l3 : fixT (.lst [x]) = .tup [fixT x] := by rw [show fixT (.lst [x]) = .tup (fixTs [x]) by rw [fixT], fixTs_map]; rfl
    have d1 : Pw.dep (.lst [x]) = Pw.dep x + 1 := by rw [dep_lst]; simp only [deps]; omega
    have d3 : Pw.dep (.tup [fixT x]) = Pw.dep (fixT x) + 1 := by rw [dep_tup]; simp only [deps]; omega
    have w3 : Pw.wt (.tup [fixT x]) = Pw.wt (fixT x) + 1 := by rw [show Pw.wt (.tup [fixT x]) = wts [fixT x] + 1 by rw [Pw.wt]]; rw [wts_sum]; show Pw.wt (fixT x) + 0 + 1 = _; omega
    have kl : okF (.lst [x]) := by unfold okF okFs okFs; exact ⟨by show 1 ≤ 900; decide, hk, trivial⟩
    have o3 : okT (.tup [fixT x]) = true := by unfold okT okTs okTs; rw [fi.ok ok]; rfl
    have dj : Pw.dep (fixT (fixT x)) ≤ dd := by rw [fix_same fi.fx]; omega
    refine evp_andV (eqs _ _ _ _ _ rfl (kr _ _ (fixT (fixT x)) (evp_callK (evps_cons (evp_var (x := tp R (fixT x)) rfl) evps_nil) rfl fun s F X k => ⟨fixT x, rfl, d2, fi.okF, k⟩) (fj.ok (fi.ok ok)) dj (by rw [fj.wt]; omega)) (kr _ _ (fixT (fixT x)) (cf _ _ (fixT x) (evp_var rfl) d2 fi.okF) (fj.ok (fi.ok ok)) dj (by rw [fj.wt]; omega))) fun _ => eqs _ _ _ _ _ rfl (kr _ _ (.tup [fixT x]) (by rw [← l3]; exact cf _ _ (.lst [x]) (by rw [l1]; exact evp_lst (evps_cons (evp_var rfl) evps_nil) (by show 1 ≤ 1000000; decide)) (by omega) kl) o3 (by have := fi.dep; omega) (by omega)) (kr _ _ (.tup [fixT x]) (by rw [l2]; exact evp_tup (evps_cons (evp_var rfl) evps_nil) (by show 1 ≤ 1000000; decide)) o3 (by have := fi.dep; omega) (by omega))
end
end K03
end

section -- PwW
set_option linter.all false
set_option maxRecDepth 100000
set_option maxHeartbeats 4000000
/-! PwW: what was locked since the entry may be read as plain. -/
namespace L2
open PySem PySem.Spec PyProof.Rows
def coreH : HO → HO
  | .frz _ u => coreH u
  | .lst xs => .lst xs
  | .tup xs => .tup xs
  | .dK k => .dK k
  | .dT k => .dT k
  | .set S n => .set S n
  | .ins C dx fs => .ins C dx fs
  | .own x => .own x
  | .xd fs => .xd fs
  | .met f x => .met f x
  | .rng l h => .rng l h
  | .tbl p => .tbl p
  | .ext φ => .ext φ
theorem core_not (u : HO) : ∀ (o : Obj) (x : HO), coreH u ≠ .frz o x := by
  induction u with
  | frz ob u ih => intro o x; unfold coreH; exact ih o x
  | _ => intro o x; unfold coreH; intro z; cases z
theorem core_same {u : HO} (h : ∀ o x, u ≠ .frz o x) : coreH u = u := by
  cases u <;> first | rfl | exact absurd rfl (h _ _)
theorem core_ok {P : Program} {w : World} {H : Hp} {h : Heap} {a : Addr} (u : HO) : ObjOk P w H h a u → ObjOk P w H h a (coreH u) := by
  induction u with
  | frz ob u ih => intro x; unfold coreH; exact ih x.2
  | _ => intro x; unfold coreH; exact x
open Classical in
/-- H, what is locked off Z as it is without the lock -/
noncomputable def thaw (Z : Addr → Prop) (H : Hp) : Hp := fun a => if Z a then H a else (H a).map coreH
section
variable {Z : Addr → Prop} {H : Hp} {a : Addr}
theorem thaw_same {u : HO} (e : H a = some u) (h : ∀ o x, u ≠ .frz o x) : thaw Z H a = some u := by
  unfold thaw
  by_cases c : Z a
  · rw [if_pos c]; exact e
  · rw [if_neg c, e]
    show some (coreH u) = _
    rw [core_same h]
theorem thaw_none (e : H a = none) : thaw Z H a = none := by
  unfold thaw
  by_cases c : Z a
  · rw [if_pos c]; exact e
  · rw [if_neg c, e]; rfl
theorem thaw_Z (z : Z a) : thaw Z H a = H a := by unfold thaw; rw [if_pos z]
theorem thaw_off (n : ¬ Z a) : thaw Z H a = (H a).map coreH := by unfold thaw; rw [if_neg n]
theorem thaw_plain (n : ¬ Z a) (o : Obj) (u : HO) : thaw Z H a ≠ some (.frz o u) := by
  rw [thaw_off n]
  cases H a with
  | none => intro z; cases z
  | some x => intro z; exact core_not x o u (Option.some.inj z)
theorem thaw_some {u : HO} (e : thaw Z H a = some u) : H a ≠ none := fun z => by rw [thaw_none z] at e; cases e
end
/-- what was locked at the entry -/
def zAt (H0 : Hp) : Addr → Prop := fun a => ∃ o u, H0 a = some (.frz o u)
section
variable {X : Cx} {pins : List (Addr × Obj)} {σ : List (Option V)} {H : Hp} {s : Shared}
theorem Inv.thaw (I : Inv X pins σ H s) : Inv X pins σ (L2.thaw (zAt X.H_0) H) s := by
  refine ⟨I.ok, I.os, I.bare, ⟨I.base.keep, I.base.slot, fun b o e n hx => ?_, I.base.there, fun b xs e => ?_, fun b o x e => ?_, fun b ps e => ?_⟩, I.loc, I.cell, thaw_none I.free, fun x c e => thaw_none (I.freeC x c e), fun p hp => ?_, fun b o e => ?_, I.len⟩
  · exact thaw_none (I.base.free b o e n hx)
  · exact thaw_same (I.base.tups b xs e) fun _ _ z => nomatch z
  · rw [thaw_Z ⟨o, x, e⟩]; exact I.base.frzs b o x e
  · obtain ⟨m, q⟩ := I.base.tbls b ps e
    exact ⟨m, thaw_same q fun _ _ z => nomatch z⟩
  · obtain ⟨e, n, r⟩ := I.pin p hp
    exact ⟨e, thaw_none n, r⟩
  · have st : ∀ {u : HO}, ObjOk X.prog X.w H s.heap b u → ObjOk X.prog X.w (L2.thaw (zAt X.H_0) H) s.heap b u := fun x => x.stay (fun c v _ q => q) (fun c q => thaw_same q fun _ _ z => nomatch z) fun c xs q => thaw_same q fun _ _ z => nomatch z
    by_cases c : zAt X.H_0 b
    · rw [thaw_Z c] at e
      exact st (I.hok b o e)
    · rw [thaw_off c] at e
      cases q : H b with
      | none => rw [q] at e; cases e
      | some u =>
        rw [q] at e
        cases e
        exact st (core_ok u (I.hok b u q))
end
/-- the statement runs where nothing is locked but what was locked at the entry -/
noncomputable def tThaw (Z : Addr → Prop) (t : TS) : TS := fun D σ H => t D σ (thaw Z H)
theorem ps_thaw {X : Cx} {st : Stmt} {t : TS} (h : PS X st t) : PS X st (tThaw (zAt X.H_0) t) := ⟨fun pins s σ H D I hw => h.run pins s σ _ D I.thaw hw⟩
end L2
end

section -- K03j
set_option linter.all false
set_option maxRecDepth 100000
set_option maxHeartbeats 4000000
set_option synthInstance.maxSize 10000
set_option synthInstance.maxHeartbeats 4000000
/-! spoiled values -/
namespace K03
open PySem PySem.Spec L2 Pk Evl Pv Pw
open PyProof.Rows hiding St
theorem rd_live {R : Addr} {A : Addr → Prop} {H : Hp} {x : Vt} {a : Addr} (r : Rd A H (tp R x) (.ref a)) : H a ≠ none := by
  intro n
  cases x <;> (unfold tp at r; first | (cases r; done) | skip)
  · obtain ⟨b, dx, ws, e, _, h, _⟩ := r; cases e; rw [n] at h; cases h
  · obtain ⟨b, vs, e, _, h, _⟩ := r; cases e; rw [n] at h; cases h
  · obtain ⟨b, vs, e, _, h, _⟩ := r; cases e; rw [n] at h; cases h
  · obtain ⟨b, ws, e, _, h, _⟩ := r; cases e; rcases h with h | ⟨_, h⟩ <;> (rw [n] at h; cases h)
mutual
/-- how many lists there are in a tree -/
def nl : Vt → Nat
  | .lst xs => nls xs + 1
  | .tup xs => nls xs
  | .dct _ xs => nls xs
  | _ => 0
def nls : List Vt → Nat
  | [] => 0
  | x :: xs => nl x + nls xs
end
def spd : V := .str "spoiled"
/-- what a walk over trees that stood in Hs may have done: texts behind lists, dicts emptied; of depth d at the most -/
def Chg (R : Addr) (A : Addr → Prop) (Hs : Hp) (d j : Nat) (H H' : Hp) : Prop := ∀ b o, H b = some o → H' b = some o ∨ ∃ y : Vt, Rd A Hs (tp R y) (.ref b) ∧ Pw.dep y ≤ d ∧ ((∃ vs i, o = .lst vs ∧ i ≤ j ∧ H' b = some (.lst (vs ++ List.replicate i spd))) ∨ ∃ ws, o = .dK ws ∧ H' b = some (.dK []))
def spSp (R : Addr) (n : Nat) : Sp := fun vs H Q _ => ∃ (A : Addr → Prop) (Hs : Hp) (x : Vt) (v : V) (k : Nat), vs = [v] ∧ Rd A Hs (tp R x) v ∧ Pw.dep x < n ∧ okF x ∧ (∀ a o u, ¬ A a → Hs a ≠ some (.frz o u)) ∧ Pw.dep x ≤ 1000 ∧ Chg R A Hs 1000 k Hs H ∧ k + nl x ≤ 100000 ∧ ∀ H', Chg R A Hs (Pw.dep x) (nl x) H H' → Q .non H'
theorem sp_len {R : Addr} {n : Nat} {vs : List V} {H : Hp} {Q : VK} {E : L2.XK} (h : spSp R n vs H Q E) : vs.length = (["_law_value_here"] : List Str).length := by
  obtain ⟨_, _, _, _, _, rfl, _⟩ := h
  rfl
section
variable {R : Addr} {A : Addr → Prop} {Hs H H1 H2 : Hp} {d e i j : Nat}
theorem Chg.of (h : Ex H H1) : Chg R A Hs d j H H1 := fun b o q => .inl (h b o q)
theorem Chg.refl : Chg R A Hs d j H H := fun b o q => .inl q
theorem Chg.mono (h : Chg R A Hs d j H H1) (l : d ≤ e) (m : j ≤ i) : Chg R A Hs e i H H1 := fun b o q => (h b o q).imp id fun ⟨y, r, hd, z⟩ => ⟨y, r, Nat.le_trans hd l, z.imp (fun ⟨vs, n, e1, e2, e3⟩ => ⟨vs, n, e1, Nat.le_trans e2 m, e3⟩) id⟩
theorem Chg.trans (h : Chg R A Hs d j H H1) (g : Chg R A Hs d i H1 H2) : Chg R A Hs d (j + i) H H2 := fun b o q => by
  rcases h b o q with h | ⟨y, r, hd, ⟨vs, n, e1, e2, e3⟩ | ⟨ws, e1, e2⟩⟩
  · rcases g b o h with g | ⟨y, r, hd, z⟩
    · exact .inl g
    · exact .inr ⟨y, r, hd, z.imp (fun ⟨vs, n, e1, e2, e3⟩ => ⟨vs, n, e1, by omega, e3⟩) id⟩
  · rcases g b _ e3 with g | ⟨y2, r2, hd2, ⟨vs2, n2, e4, e5, e6⟩ | ⟨ws2, e4, _⟩⟩
    · exact .inr ⟨y, r, hd, .inl ⟨vs, n, e1, by omega, g⟩⟩
    · cases e4
      refine .inr ⟨y, r, hd, .inl ⟨vs, n + n2, e1, by omega, ?_⟩⟩
      rw [e6, List.append_assoc, ← List.replicate_append_replicate]
    · cases e4
  · rcases g b _ e2 with g | ⟨y2, r2, hd2, ⟨vs2, n2, e4, _⟩ | ⟨ws2, e4, e5⟩⟩
    · exact .inr ⟨y, r, hd, .inr ⟨ws, e1, g⟩⟩
    · cases e4
    · exact .inr ⟨y, r, hd, .inr ⟨ws, e1, e5⟩⟩
theorem Chg.lst (h : Chg R A Hs d j H H1) {a : Addr} {vs : List V} (e : H a = some (.lst vs)) : ∃ i, i ≤ j ∧ H1 a = some (.lst (vs ++ List.replicate i spd)) := by
  rcases h a _ e with h | ⟨y, r, hd, ⟨vs2, n, e1, e2, e3⟩ | ⟨ws, e1, e2⟩⟩
  · exact ⟨0, Nat.zero_le _, by rw [List.replicate_zero, List.append_nil]; exact h⟩
  · cases e1; exact ⟨n, e2, e3⟩
  · cases e1
theorem Chg.dk (h : Chg R A Hs d j H H1) {a : Addr} {ws : List (Key × V)} (e : H a = some (.dK ws)) : H1 a = some (.dK ws) ∨ H1 a = some (.dK []) := by
  rcases h a _ e with h | ⟨y, r, hd, ⟨vs2, n, e1, e2, e3⟩ | ⟨ws, e1, e2⟩⟩
  · exact .inl h
  · cases e1
  · exact .inr e2
theorem Chg.stay (h : Chg R A Hs d j H H1) {a : Addr} {o : HO} (e : H a = some o) (n1 : ∀ vs, o ≠ .lst vs) (n2 : ∀ ws, o ≠ .dK ws) : H1 a = some o := by
  rcases h a _ e with h | ⟨y, r, hd, ⟨vs2, n, e1, e2, e3⟩ | ⟨ws, e1, e2⟩⟩
  · exact h
  · exact absurd e1 (n1 _)
  · exact absurd e1 (n2 _)
/-- a tree deeper than what is walked stays -/
theorem Chg.deep (h : Chg R A Hs d j H H1) {a : Addr} {x : Vt} (r : Rd A Hs (tp R x) (.ref a)) (l : d < Pw.dep x) {o : HO} (e : H a = some o) : H1 a = some o := by
  rcases h a _ e with h | ⟨y, r2, hd, _⟩
  · exact h
  · rw [Pw.rd_detA r r2] at l
    omega
/-- what never stood in Hs stays -/
theorem Chg.new (h : Chg R A Hs d j H H1) {a : Addr} (n : Hs a = none) {o : HO} (e : H a = some o) : H1 a = some o := by
  rcases h a _ e with h | ⟨y, r2, hd, z⟩
  · exact h
  · exact absurd n (rd_live r2)
theorem nls_rep (m : Nat) (z : Str) : nls (List.replicate m (.str z)) = 0 := by
  induction m with
  | zero => rw [List.replicate_zero]; unfold nls; rfl
  | succ m ih => rw [List.replicate_succ, show nls (Vt.str z :: List.replicate m (.str z)) = nl (.str z) + nls (List.replicate m (.str z)) by rw [nls], ih]; unfold nl; rfl
theorem nls_app : ∀ xs ys : List Vt, nls (xs ++ ys) = nls xs + nls ys
  | [], ys => by simp [nls]
  | x :: xs, ys => by rw [List.cons_append, show nls (x :: (xs ++ ys)) = nl x + nls (xs ++ ys) by rw [nls], show nls (x :: xs) = nl x + nls xs by rw [nls], nls_app xs ys]; omega
theorem nls_take_succ {xs : List Vt} {i : Nat} {x : Vt} (h : xs[i]? = some x) : nls (xs.take (i + 1)) = nls (xs.take i) + nl x := by
  have e : xs.take (i + 1) = xs.take i ++ [x] := by rw [List.take_add_one, h]; rfl
  rw [e, nls_app]
  simp [nls]
theorem nls_take_le (xs : List Vt) (i : Nat) : nls (xs.take i) ≤ nls xs := by
  have := nls_app (xs.take i) (xs.drop i)
  rw [List.take_append_drop] at this
  omega
/-- the items walked, one after another -/
theorem sp_loop {J : It} {G : Hp → Prop} {us : List V} {ws : List V} {ys : List Vt} {n k l : Nat} {v : V} {te : TE} {D : Ends} {σ : L2.St} (w : L2.Walk J us.length G (L2.YAt us)) (rl : RdL A Hs (tps R ys) ws) (lw : ws.length = us.length)
    (hte : ∀ (σ' : L2.St) (H1 : Hp) (i : Nat) (u x : V) (Q : VK), σ'[0]? = some (some v) → σ'[l]? = some (some u) → us[i]? = some u → ws[i]? = some x → Chg R A Hs d (nls ys) H H1 → Q x H1 → te σ' H1 Q)
    (hG : ∀ H1, Chg R A Hs d (nls ys) H H1 → G H1) (hd : ∀ y ∈ ys, Pw.dep y ≤ d) (hn : d < n) (d1 : d ≤ 1000) (hk : okFs ys) (pl : ∀ a o u, ¬ A a → Hs a ≠ some (.frz o u)) (c0 : Chg R A Hs 1000 k Hs H) (bud : k + nls ys ≤ 100000)
    (s0 : σ[0]? = some (some v)) (sl : σ.length = 3) (l0 : 0 < l) (l3 : l < 3) (fin : ∀ σ' H', σ'[0]? = some (some v) → σ'.length = 3 → Chg R A Hs d (nls ys) H H' → D.nx σ' H') :
    ∃ W : Nat → Nat → L2.St → Hp → Prop, (∃ m, W 0 m σ H) ∧ ∀ i m σ H, W i m σ H →
      (J.stop i H ∧ D.nx σ H) ∨ (J.go i H ∧ ∃ N : L2.St → Hp → Prop, (∀ σ' H', N σ' H' → ∃ m', m' < m ∧ W (i + 1) m' σ' H') ∧ ∀ x H', J.yld i H x H' → gName l x σ H' fun σ2 H2 => (tDrop (tCS (fun _ vs H Q => spSp R n (vs ++ []) H Q E0) (tCons te tNil))) { D with nx := N, ct := N, bk := D.nx } σ2 H2) := by
  refine L2.for_it w (fun i σ' H' => σ'[0]? = some (some v) ∧ σ'.length = 3 ∧ Chg R A Hs d (nls (ys.take i)) H H') ⟨s0, sl, Chg.refl⟩ (fun i σ' H' _ p => ?_) (fun i u σ' H' H2 hi p y => ?_) (fun σ' H' p => ?_)
  · exact hG _ (p.2.2.mono (Nat.le_refl _) (nls_take_le _ _))
  · obtain ⟨rfl, hu⟩ := y
    obtain ⟨p0, pl3, pc⟩ := p
    have ly : ys.length = us.length := by rw [← lw, ← rl.len, tps_len]
    have hy : ys[i]? = some ys[i] := List.getElem?_eq_getElem (by omega)
    obtain ⟨x, hx, rx⟩ := rl.get' (tps_get (R := R) hy)
    have my : ys[i] ∈ ys := List.getElem_mem _
    have ec := nls_take_succ hy
    have le1 := nls_take_le ys (i + 1)
    refine hte _ H2 i u x _ (by rw [List.getElem?_set_ne (by omega)]; exact p0) (List.getElem?_set_self (by omega)) hu hx (pc.mono (Nat.le_refl _) (nls_take_le _ _)) ?_
    refine ⟨A, Hs, ys[i], x, k + nls (ys.take i), rfl, rx, Nat.lt_of_le_of_lt (hd _ my) hn, okF_mem hk my, pl, Nat.le_trans (hd _ my) d1, c0.trans (pc.mono d1 (Nat.le_refl _)), by omega, fun H3 hc => ?_⟩
    refine ⟨by rw [List.getElem?_set_ne (by omega)]; exact p0, by rw [List.length_set]; exact pl3, ?_⟩
    rw [ec]
    exact pc.trans (hc.mono (hd _ my) (Nat.le_refl _))
  · obtain ⟨p0, pl3, pc⟩ := p
    refine fin σ' H' p0 pl3 ?_
    have ly : ys.length = us.length := by rw [← lw, ← rl.len, tps_len]
    rw [List.take_of_length_le (by omega)] at pc
    exact pc
end
/-- isinstance, of a value whose kind is told -/
theorem test_is {K : PySem.W.Frag} {H : Hp} {σ : L2.St} {z : PV} {v : V} {T : String} {b : Bool} {Q : Bool → Hp → Prop} (r0 : σ[0]? = some (some v)) (rz : Rd NoA H z v) (g : ∀ F : PV → Prop, F (.bl b) → gIsi K [z, .ty T] F) (k : Q b H) : (tB (tCB (rIsi K) (tCons (tVar 0) (tCons (tC (.ty T)) tNil)))) σ H Q := by
  obtain ⟨t, w, b2, e1, e2, e3, e4⟩ := g (fun y => y = .bl b) rfl
  have eb : b2 = b := by injection e4
  subst eb
  exact ⟨v, r0, v, .ty T, t, w, b2, rfl, clsP_ok (A := NoA) (H := H) (y := .ty T) rfl e1, e2.ok rz, e3, b2, rfl, k⟩
theorem test_isT {K : PySem.W.Frag} {H : Hp} {σ : L2.St} {z : PV} {v : V} {b : Bool} {Q : Bool → Hp → Prop} (r0 : σ[0]? = some (some v)) (rz : Rd NoA H z v) (g : ∀ F : PV → Prop, F (.bl b) → gIsiT K [z, .tup [.ty "list", .ty "tuple"]] F) (k : ∀ H1, Ex H H1 → Q b H1) : (tB (tCB (rIsiT K) (tCons (tVar 0) (tCons (tTup (tCons (tC (.ty "list")) (tCons (tC (.ty "tuple")) tNil))) tNil)))) σ H Q := by
  refine ⟨v, r0, ⟨sz (by show 2 ≤ 1000000; decide), fun p hp => ?_⟩⟩
  obtain ⟨t, us, b2, e1, e2, e3, e4⟩ := g (fun y => y = .bl b) rfl
  have eb : b2 = b := by injection e4
  subst eb
  have ex : Ex H (upd H p (.tup [.ty "list", .ty "tuple"])) := Ex.new hp
  exact ⟨v, p, _, t, us, b2, rfl, upd_same, clsPs_ok (A := NoA) (H := H) (ys := [.ty "list", .ty "tuple"]) (RdL.cons rfl (RdL.cons rfl RdL.nil)) e1, e2.ok (rz.ext ex), e3, b2, rfl, k _ ex⟩
theorem rdl_oth {A : Addr → Prop} {H : Hp} : ∀ vs : List V, RdL A H (vs.map PV.oth) vs
  | [] => rfl
  | v :: vs => ⟨v, vs, rfl, rfl, rdl_oth vs⟩
theorem rdl_reps {R : Addr} {A : Addr → Prop} {H : Hp} : ∀ m : Nat, RdL A H (tps R (List.replicate m (.str "spoiled"))) (List.replicate m spd)
  | 0 => by rw [List.replicate_zero]; unfold tps; rfl
  | m + 1 => by rw [List.replicate_succ, List.replicate_succ]; unfold tps; exact ⟨_, _, rfl, by unfold tp; rfl, rdl_reps m⟩
theorem tps_app {R : Addr} (xs ys : List Vt) : tps R (xs ++ ys) = tps R xs ++ tps R ys := by rw [tps_map, tps_map, tps_map, List.map_append]
theorem okFs_app : ∀ {xs ys : List Vt}, okFs xs → okFs ys → okFs (xs ++ ys) := fun h g => okFs_of fun x m => (List.mem_append.mp m).elim (fun m => okF_mem h m) fun m => okF_mem g m
theorem okFs_reps (m : Nat) : okFs (List.replicate m (.str "spoiled")) := okFs_of fun x h => by rw [List.eq_of_mem_replicate h]; unfold okF; trivial
theorem ifs_run {tt : TT} {t u : TS} {D : Ends} {σ : L2.St} {H : Hp} {b : Bool} (h : ∀ Q : Bool → Hp → Prop, (∀ H1, Ex H H1 → Q b H1) → tt σ H Q) (k1 : b = true → ∀ H1, Ex H H1 → t D σ H1) (k2 : b = false → ∀ H1, Ex H H1 → u D σ H1) : tIfS tt t u D σ H := h _ fun H1 e => by
  cases b with
  | true => exact k1 rfl H1 e
  | false => exact k2 rfl H1 e
theorem seq_run {t u : TS} {D : Ends} {σ : L2.St} {H : Hp} (h : t { D with nx := fun σ' H' => u D σ' H' } σ H) : tSeq t u D σ H := h
/-- a value read by its own object alone -/
theorem sh_lst {H : Hp} {a : Addr} {vs : List V} (h : H a = some (.lst vs)) : Rd NoA H (.lst (vs.map PV.oth)) (.ref a) := ⟨a, vs, rfl, id, h, rdl_oth vs⟩
theorem sh_tup {H : Hp} {a : Addr} {vs : List V} (h : H a = some (.tup vs)) : Rd NoA H (.tup (vs.map PV.oth)) (.ref a) := ⟨a, vs, rfl, id, h, rdl_oth vs⟩
theorem sh_dct {H : Hp} {a : Addr} {ws : List (Key × V)} (h : H a = some (.dK ws)) : Rd NoA H (.dct (ws.map (·.1)) ((ws.map (·.2)).map PV.oth)) (.ref a) := ⟨a, ws, rfl, id, .inl h, rfl, rdl_oth _⟩
theorem sh_ins {H : Hp} {a C dx : Addr} {ws : List (Str × V)} (h : H a = some (.ins C dx ws)) : Rd NoA H (.ins C (ws.map (·.1)) ((ws.map (·.2)).map PV.oth)) (.ref a) := ⟨a, dx, ws, rfl, id, h, rfl, rdl_oth _⟩
theorem flat3 {K : PySem.W.Frag} {t1 t2 t3 : TS} {D : Ends} {σ : L2.St} {H : Hp} {v : V} {z : PV} (s0 : σ[0]? = some (some v)) (rz : ∀ H1, Ex H H1 → Rd NoA H1 z v) (g1 : ∀ F : PV → Prop, F (.bl false) → gIsiT K [z, .tup [.ty "list", .ty "tuple"]] F) (g2 : ∀ F : PV → Prop, F (.bl false) → gIsi K [z, .ty "list"] F) (g3 : ∀ F : PV → Prop, F (.bl false) → gIsi K [z, .ty "dict"] F)
    (kq : ∀ H1, Ex H H1 → D.nx σ H1) : tSeq (tIfS (tB (tCB (rIsiT K) (tCons (tVar 0) (tCons (tTup (tCons (tC (.ty "list")) (tCons (tC (.ty "tuple")) tNil))) tNil)))) t1 tNext) (tSeq (tIfS (tB (tCB (rIsi K) (tCons (tVar 0) (tCons (tC (.ty "list")) tNil)))) t2 tNext) (tIfS (tB (tCB (rIsi K) (tCons (tVar 0) (tCons (tC (.ty "dict")) tNil)))) t3 tNext)) D σ H := by
  refine seq_run (ifs_run (b := false) (fun Q h => test_isT s0 (rz H (Ex.refl H)) g1 h) (fun e => nomatch e) fun _ H1 e1 => ?_)
  refine seq_run (ifs_run (b := false) (fun Q h => test_is s0 (rz H1 e1) g2 (h _ (Ex.refl H1))) (fun e => nomatch e) fun _ H2 e2 => ?_)
  exact ifs_run (b := false) (fun Q h => test_is s0 (rz H2 (e1.trans e2)) g3 (h _ (Ex.refl H2))) (fun e => nomatch e) fun _ H3 e3 => kq H3 ((e1.trans e2).trans e3)
theorem valV_at : ∀ {ws : List (Key × V)} {i : Nat} {kv : Key × V}, (ws.map (·.1)).Nodup → ws[i]? = some kv → valV ws kv.1 = some kv.2
  | (k, v) :: ws, 0, kv, _, h => by
    cases h
    unfold valV
    rw [List.find?_cons, decide_eq_true rfl]
    rfl
  | (k, v) :: ws, i + 1, kv, nd, h => by
    rw [List.getElem?_cons_succ] at h
    rw [List.map_cons] at nd
    obtain ⟨n1, n2⟩ := List.nodup_cons.mp nd
    have m : kv.1 ∈ ws.map (·.1) := List.mem_map.mpr ⟨kv, List.mem_of_getElem? h, rfl⟩
    have e : decide ((k, v).1 = kv.1) = false := decide_eq_false fun z => n1 (by rw [show k = kv.1 from z]; exact m)
    have ih := valV_at n2 h
    unfold valV at ih ⊢
    rw [List.find?_cons, e]
    exact ih
section
variable {P : Program} {w : World} {K : PySem.W.Frag} {mg : Str → Option Value} {base : Heap} {R : Addr}
theorem sc_sp : FnScope ["_law_value_here", "_law_one", "_law_key"] ["_law_value_here"] (defScope sSpoil) := ⟨rfl, rfl, rfl, by decide +kernel, rfl, by decide +kernel, by decide +kernel⟩
theorem ok_sp {f : Addr} {fd : FuncData} (F : Fun K "_law_spoiled" "_law_spoiled" sSpoil f fd) (B : Bi mg) (c : RC K mg R) (b_sp : Binds K fd ["_law_value_here"] []) (d_sp : Df K mg "_law_spoiled" f) : ∀ n : Nat, FnOk P w K mg base CX0 (n + 2) f fd ["_law_value_here"] (spSp R n) := by
  intro n
  induction n with
  | zero =>
    refine F.ok sc_sp (fun vs H Q E h => sp_len h) (fun cdv A outer s H vs Q E hr h => ?_)
    refine ⟨_, pss_cons ps_never (pss_cons ps_never (pss_one ps_never)), ?_⟩
    obtain ⟨_, _, x, _, _, _, _, hx, _⟩ := h
    omega
  | succ n G_sp =>
    refine F.ok sc_sp (fun vs H Q E h => sp_len h) (fun cdv A outer s H vs Q E hr h => ?_)
    have nd := sc_sp.nd
    refine ⟨_, (pss_cons (ps_if (pt_val (pe_callB call_isiT (by rfl) B.n_isinstance (by decide +kernel) (pa_cons (pv 0) (pa_cons (pe_tup (pa_cons (pe_tyname "list" B.n_list (by decide +kernel)) (pa_cons (pe_tyname "tuple" B.n_tuple (by decide +kernel)) pa_nil))) pa_nil))))
(pss_one (ps_for PassesOwn.never rfl (pi_seq (pv 0)) (pg_name (i := 1) nd rfl (Or.inl rfl))
(pss_one (ps_expr (pe_cs (calls_fn G_sp (hr.mono (by omega)) b_sp .nil pass0) d_sp.1 d_sp.2 (pa_cons (pv 1) pa_nil))))))
pss_nil)
(pss_cons (ps_if (pt_val (pe_callB call_isi (by rfl) B.n_isinstance (by decide +kernel) (pa_cons (pv 0) (pa_cons (pe_tyname "list" B.n_list (by decide +kernel)) pa_nil))))
(pss_one (ps_expr (pe_bm PySem.F.plainAttrs_list PySem.F.slot_list_append PySem.F.type_list_append mt_append (pv 0) (pa_cons pe_str pa_nil))))
pss_nil)
(pss_one (ps_if (pt_val (pe_callB call_isi (by rfl) B.n_isinstance (by decide +kernel) (pa_cons (pv 0) (pa_cons (pe_tyname "dict" B.n_dict (by decide +kernel)) pa_nil))))
(pss_cons (ps_for PassesOwn.never rfl (pi_list (pe_callTy (T := "list") (call_listP rfl) (by rfl) B.n_list (by decide +kernel) (pa_cons (pv 0) pa_nil))) (pg_name (i := 2) nd rfl (Or.inl rfl))
(pss_one (ps_expr (pe_cs (calls_fn G_sp (hr.mono (by omega)) b_sp .nil pass0) d_sp.1 d_sp.2 (pa_cons (pe_dget (Nat.lt_of_le_of_lt (Nat.add_le_add_left (by decide) _) hr.units) (pv 0) (pv 2) (fun _ _ => rfl)) pa_nil)))))
(pss_one (ps_expr (pe_dclear (pv 0)))))
pss_nil)))), ?_⟩
    obtain ⟨A0, Hs, x, v, k, rfl, rx, hx, hk, pl, d1, c0, bud, kq⟩ := h
    have s0 : (L2.start ["_law_value_here", "_law_one", "_law_key"] [v])[0]? = some (some v) := rfl
    have sl : (L2.start ["_law_value_here", "_law_one", "_law_key"] [v]).length = 3 := rfl
    generalize L2.start ["_law_value_here", "_law_one", "_law_key"] [v] = σ at s0 sl ⊢
    cases x with
    | non => exact flat3 s0 (z := tp R .non) (fun H1 e => by unfold tp at rx ⊢; exact rx) (fun F q => isi_LT c q) (fun F q => isi_lst c q) (fun F q => isi_dct c q) fun H1 e => kq H1 (Chg.of e)
    | bl b => exact flat3 s0 (z := tp R (.bl b)) (fun H1 e => by unfold tp at rx ⊢; exact rx) (fun F q => isi_LT c q) (fun F q => isi_lst c q) (fun F q => isi_dct c q) fun H1 e => kq H1 (Chg.of e)
    | int b => exact flat3 s0 (z := tp R (.int b)) (fun H1 e => by unfold tp at rx ⊢; exact rx) (fun F q => isi_LT c q) (fun F q => isi_lst c q) (fun F q => isi_dct c q) fun H1 e => kq H1 (Chg.of e)
    | str b => exact flat3 s0 (z := tp R (.str b)) (fun H1 e => by unfold tp at rx ⊢; exact rx) (fun F q => isi_LT c q) (fun F q => isi_lst c q) (fun F q => isi_dct c q) fun H1 e => kq H1 (Chg.of e)
    | rat t b =>
      obtain ⟨a, dx, ws, rfl, na, ha, en, rl⟩ := rx
      have h0 := c0.stay ha (fun _ z => nomatch z) (fun _ z => nomatch z)
      exact flat3 s0 (fun H1 e => sh_ins (e _ _ h0)) (fun F q => ⟨_, _, _, rfl, ⟨c.ty, rfl⟩, any2 c.kL c.kT, q⟩) (fun F q => ⟨_, _, _, rfl, ⟨c.ty, rfl⟩, c.kL, q⟩) (fun F q => ⟨_, _, _, rfl, ⟨c.ty, rfl⟩, c.kD, q⟩) fun H1 e => kq H1 (Chg.of e)
    | lst xs =>
      obtain ⟨a, vs, rfl, na, ha, rl⟩ := id rx
      rw [dep_lst] at hx d1
      have rxa : Rd A0 Hs (tp R (.lst xs)) (.ref a) := by rw [tp_lst]; exact rx
      unfold okF at hk
      have enl : nl (.lst xs) = nls xs + 1 := by rw [nl]
      rw [enl] at bud kq
      obtain ⟨m, hm, h0⟩ := c0.lst ha
      have dls : ∀ y ∈ xs ++ List.replicate m (.str "spoiled"), Pw.dep y ≤ deps xs := fun y hy => by
        rcases List.mem_append.mp hy with hy | hy
        · exact dep_mem hy
        · rw [List.eq_of_mem_replicate hy]; unfold Pw.dep; omega
      have enls : nls (xs ++ List.replicate m (.str "spoiled")) = nls xs := by rw [nls_app, nls_rep]; omega
      have rls : RdL A0 Hs (tps R (xs ++ List.replicate m (.str "spoiled"))) (vs ++ List.replicate m spd) := by rw [tps_app]; exact rl.app (rdl_reps m)
      refine seq_run (ifs_run (b := true) (fun Q h => test_isT s0 (sh_lst h0) (fun F q => ⟨_, _, _, rfl, rfl, rfl, q⟩) h) (fun _ H1 e1 => ?_) fun e => nomatch e)
      have g1 := e1 _ _ h0
      have stay : ∀ H2, Chg R A0 Hs (deps xs) (nls (xs ++ List.replicate m (.str "spoiled"))) H1 H2 → H2 a = some (.lst (vs ++ List.replicate m spd)) := fun H2 hc => hc.deep rxa (by rw [dep_lst]; omega) g1
      refine ⟨.ref a, s0, a, rfl, .inl ⟨⟨_, sq_of g1⟩, sp_loop (k := k) (n := n) L2.walk_list rls rfl (fun σ' H2 i u y Q _ hl hu hy _ q => ?_) (fun H2 hc => sq_of (stay H2 hc)) dls (by omega) (by omega) (okFs_app hk.2 (okFs_reps m)) pl (c0.trans (Chg.of (j := 0) e1)) (by rw [enls]; omega) s0 sl (by omega) (by omega) fun σ' H2 p0 p3 hc => ?_⟩⟩
      · rw [hu] at hy
        cases hy
        exact ⟨u, hl, q⟩
      have g2 := stay H2 hc
      rw [enls] at hc
      refine seq_run (ifs_run (b := true) (fun Q h => test_is p0 (sh_lst g2) (fun F q => ⟨_, _, _, rfl, rfl, rfl, q⟩) (h _ (Ex.refl H2))) (fun _ H3 e3 => ?_) fun e => nomatch e)
      have g3 := e3 _ _ g2
      have lv : vs.length = xs.length := by rw [← rl.len, tps_len]
      refine ⟨.ref a, p0, .inl ⟨rfl, _, sq_of g3⟩, ⟨a, _, _, rfl, rfl, g3, by rw [List.length_append, List.length_replicate]; exact Nat.lt_of_lt_of_le (show _ < 900000 by omega) (sz (by decide)), ?_⟩⟩
      have g4 : (upd H3 a (.lst ((vs ++ List.replicate m spd) ++ [.str "spoiled"]))) a = some (.lst ((vs ++ List.replicate m spd) ++ [.str "spoiled"])) := upd_same
      refine ifs_run (b := false) (fun Q h => test_is p0 (sh_lst g4) (fun F q => ⟨_, _, _, rfl, rfl, rfl, q⟩) (h _ (Ex.refl _))) (fun e => nomatch e) fun _ H5 e5 => kq H5 ?_
      have c3 : Chg R A0 Hs (Pw.dep (.lst xs)) 1 H3 (upd H3 a (.lst ((vs ++ List.replicate m spd) ++ [.str "spoiled"]))) := fun b o q => by
        by_cases eb : b = a
        · subst eb
          rw [g3] at q
          cases q
          exact .inr ⟨.lst xs, rxa, Nat.le_refl _, .inl ⟨_, 1, rfl, Nat.le_refl _, upd_same⟩⟩
        · exact .inl (by rw [upd_ne eb]; exact q)
      have dl : deps xs ≤ Pw.dep (.lst xs) := by rw [dep_lst]; omega
      exact ((((Chg.of (j := 0) e1).trans (hc.mono dl (Nat.le_refl _))).trans (Chg.of (j := 0) e3)).trans c3).trans (Chg.of (j := 0) e5) |>.mono (Nat.le_refl _) (by omega)
    | tup xs =>
      obtain ⟨a, vs, rfl, na, ha, rl⟩ := id rx
      rw [dep_tup] at hx d1
      unfold okF at hk
      have enl : nl (.tup xs) = nls xs := by rw [nl]
      rw [enl] at bud kq
      have h0 := c0.stay ha (fun _ z => nomatch z) (fun _ z => nomatch z)
      have dls : ∀ y ∈ xs, Pw.dep y ≤ deps xs := fun y hy => dep_mem hy
      refine seq_run (ifs_run (b := true) (fun Q h => test_isT s0 (sh_tup h0) (fun F q => ⟨_, _, _, rfl, rfl, rfl, q⟩) h) (fun _ H1 e1 => ?_) fun e => nomatch e)
      have g1 := e1 _ _ h0
      have stay : ∀ H2, Chg R A0 Hs (deps xs) (nls xs) H1 H2 → H2 a = some (.tup vs) := fun H2 hc => hc.stay g1 (fun _ z => nomatch z) (fun _ z => nomatch z)
      refine ⟨.ref a, s0, a, rfl, .inr ⟨⟨_, st_of g1⟩, sp_loop (k := k) (n := n) L2.walk_tup rl rfl (fun σ' H2 i u y Q _ hl hu hy _ q => ?_) (fun H2 hc => st_of (stay H2 hc)) dls (by omega) (by omega) hk.2 pl (c0.trans (Chg.of (j := 0) e1)) (by omega) s0 sl (by omega) (by omega) fun σ' H2 p0 p3 hc => ?_⟩⟩
      · rw [hu] at hy
        cases hy
        exact ⟨u, hl, q⟩
      have g2 := stay H2 hc
      have dl : deps xs ≤ Pw.dep (.tup xs) := by rw [dep_tup]; omega
      refine seq_run (ifs_run (b := false) (fun Q h => test_is p0 (sh_tup g2) (fun F q => ⟨_, _, _, rfl, rfl, rfl, q⟩) (h _ (Ex.refl H2))) (fun e => nomatch e) fun _ H3 e3 => ?_)
      refine ifs_run (b := false) (fun Q h => test_is p0 (sh_tup (e3 _ _ g2)) (fun F q => ⟨_, _, _, rfl, rfl, rfl, q⟩) (h _ (Ex.refl _))) (fun e => nomatch e) fun _ H5 e5 => kq H5 ?_
      exact (((Chg.of (j := 0) e1).trans (hc.mono dl (Nat.le_refl _))).trans (Chg.of (j := 0) e3)).trans (Chg.of (j := 0) e5) |>.mono (Nat.le_refl _) (by omega)
    | dct ks xs =>
      obtain ⟨a, ws, rfl, na, ha, ek, rl⟩ := id rx
      have ha : Hs a = some (.dK ws) := ha.elim id fun ⟨o, q⟩ => absurd q (pl a o _ na)
      have rxa : Rd A0 Hs (tp R (.dct ks xs)) (.ref a) := by rw [tp_dct]; exact rx
      rw [dep_dct] at hx d1
      unfold okF at hk
      obtain ⟨hl0, nd1, h64, un, hk⟩ := hk
      have enl : nl (.dct ks xs) = nls xs := by rw [nl]
      rw [enl] at bud kq
      have dl : deps xs ≤ Pw.dep (.dct ks xs) := by rw [dep_dct]; omega
      -- what stands there now
      obtain ⟨ws2, ys, h0, rl2, hy, l64⟩ : ∃ (ws2 : List (Key × V)) (ys : List Vt), H a = some (.dK ws2) ∧ RdL A0 Hs (tps R ys) (ws2.map (·.2)) ∧ (ys = xs ∨ ys = []) ∧ (ws2.map (·.1)).Nodup := by
        rcases c0.dk ha with h | h
        · exact ⟨ws, xs, h, rl, .inl rfl, by rw [ek]; exact nd1⟩
        · exact ⟨[], [], h, by unfold tps; rfl, .inr rfl, List.nodup_nil⟩
      have n0 : nls ys ≤ nls xs := by
        rcases hy with rfl | rfl
        · omega
        · rw [show nls [] = 0 by rw [nls]]; omega
      have dls : ∀ y ∈ ys, Pw.dep y ≤ deps xs := fun y m => by
        rcases hy with rfl | rfl
        · exact dep_mem m
        · cases m
      have hk2 : okFs ys := by
        rcases hy with rfl | rfl
        · exact hk
        · unfold okFs; trivial
      refine seq_run (ifs_run (b := false) (fun Q h => test_isT s0 (sh_dct h0) (fun F q => ⟨_, _, _, rfl, rfl, rfl, q⟩) h) (fun e => nomatch e) fun _ H1 e1 => ?_)
      have g1 := e1 _ _ h0
      refine seq_run (ifs_run (b := false) (fun Q h => test_is s0 (sh_dct g1) (fun F q => ⟨_, _, _, rfl, rfl, rfl, q⟩) (h _ (Ex.refl H1))) (fun e => nomatch e) fun _ H2 e2 => ?_)
      have g2 := e2 _ _ g1
      refine ifs_run (b := true) (fun Q h => test_is s0 (sh_dct g2) (fun F q => ⟨_, _, _, rfl, rfl, rfl, q⟩) (h _ (Ex.refl H2))) (fun _ H3 e3 => seq_run ?_) fun e => nomatch e
      have g3 := e3 _ _ g2
      refine ⟨.ref a, s0, a, ws2, rfl, .inl g3, fun P hP => ?_⟩
      have e4 : Ex H3 (upd H3 P (.lst (ws2.map fun kv => kV kv.1))) := Ex.new hP
      have nP : Hs P = none := by
        cases q : Hs P with
        | none => rfl
        | some o =>
          have live : H P ≠ none := by
            rcases c0 P o q with z | ⟨y, _, _, ⟨_, _, _, _, z⟩ | ⟨_, _, z⟩⟩ <;> (rw [z]; exact fun z => nomatch z)
          exact absurd (Evl.fresh_back ((e1.trans e2).trans e3) hP) live
      have c4 : Chg R A0 Hs 1000 k Hs (upd H3 P (.lst (ws2.map fun kv => kV kv.1))) := c0.trans (Chg.of (j := 0) (((e1.trans e2).trans e3).trans e4))
      have g4 := e4 _ _ g3
      have p4 : (upd H3 P (.lst (ws2.map fun kv => kV kv.1))) P = some (.lst (ws2.map fun kv => kV kv.1)) := upd_same
      have stay : ∀ H5, Chg R A0 Hs (deps xs) (nls ys) (upd H3 P (.lst (ws2.map fun kv => kV kv.1))) H5 → H5 a = some (.dK ws2) ∧ H5 P = some (.lst (ws2.map fun kv => kV kv.1)) := fun H5 hc => ⟨hc.deep rxa (by rw [dep_dct]; omega) g4, hc.new nP p4⟩
      refine ⟨P, rfl, ⟨_, sq_of p4⟩, sp_loop (k := k) (n := n) (ws := ws2.map (·.2)) L2.walk_list rl2 (by rw [List.length_map, List.length_map]) (fun σ' H5 i u y Q p0 hl hu hy2 hc q => ?_) (fun H5 hc => sq_of (stay H5 hc).2) dls (by omega) (by omega) hk2 pl c4 (by omega) s0 sl (by omega) (by omega) fun σ' H5 p0 p3 hc => ?_⟩
      · rw [List.getElem?_map] at hu hy2
        cases qi : ws2[i]? with
        | none => rw [qi] at hu; cases hu
        | some kv =>
          rw [qi] at hu hy2
          cases hu
          cases hy2
          refine ⟨.ref a, p0, _, hl, a, kv.2, rfl, .inl ⟨ws2, kv.1, .inl (stay H5 hc).1, rfl, ?_⟩, q⟩
          exact (valV_at l64 qi).symm
      have g5 := (stay H5 hc).1
      refine ⟨.ref a, p0, .inr (.inr (.inl ⟨rfl, .inl ⟨_, g5⟩⟩)), a, ws2, rfl, rfl, g5, kq _ ?_⟩
      have c6 : Chg R A0 Hs (Pw.dep (.dct ks xs)) 0 H5 (upd H5 a (.dK [])) := fun b o q => by
        by_cases eb : b = a
        · subst eb
          rw [g5] at q
          cases q
          exact .inr ⟨.dct ks xs, rxa, Nat.le_refl _, .inr ⟨_, rfl, upd_same⟩⟩
        · exact .inl (by rw [upd_ne eb]; exact q)
      exact ((Chg.of (j := 0) (((e1.trans e2).trans e3).trans e4)).trans (hc.mono dl (Nat.le_refl _))).trans c6 |>.mono (Nat.le_refl _) (by omega)
end
end K03
end

section -- K03k
set_option linter.all false
set_option maxRecDepth 100000
set_option maxHeartbeats 4000000
/-! what is left of the slots behind the walk that spoils -/
namespace K03
open PySem PySem.Spec L2 Pk Evl Pv Pw
open PyProof.Rows hiding St
mutual
/-- neither a list nor a dict within -/
def noLD : PV → Bool
  | .lst _ => false
  | .dct _ _ => false
  | .tup xs => noLDs xs
  | .ins _ _ xs => noLDs xs
  | _ => true
def noLDs : List PV → Bool
  | [] => true
  | x :: xs => noLD x && noLDs xs
end
section
variable {A : Addr → Prop} {H H' : Hp} (h : ∀ a o, ¬ A a → H a = some o → (∀ l, o ≠ .lst l) → (∀ l, o ≠ .dK l) → (∀ q u, o ≠ .frz q u) → H' a = some o)
include h
mutual
theorem rd_noLD : ∀ {x : PV} {v : V}, noLD x = true → Rd A H x v → Rd A H' x v
  | .non, _, _, r => r
  | .bl _, _, _, r => r
  | .int _, _, _, r => r
  | .str _, _, _, r => r
  | .ty _, _, _, r => r
  | .adr _, _, _, r => r
  | .oth _, _, _, r => r
  | .lst _, _, n, _ => by unfold noLD at n; cases n
  | .dct _ _, _, n, _ => by unfold noLD at n; cases n
  | .tup xs, _, n, ⟨a, vs, e, na, ha, rl⟩ => by
    unfold noLD at n
    exact ⟨a, vs, e, na, h a _ na ha (fun _ z => nomatch z) (fun _ z => nomatch z) (fun _ _ z => nomatch z), rdl_noLD n rl⟩
  | .ins C ns xs, _, n, ⟨a, dx, ws, e, na, ha, en, rl⟩ => by
    unfold noLD at n
    exact ⟨a, dx, ws, e, na, h a _ na ha (fun _ z => nomatch z) (fun _ z => nomatch z) (fun _ _ z => nomatch z), en, rdl_noLD n rl⟩
theorem rdl_noLD : ∀ {xs : List PV} {vs : List V}, noLDs xs = true → RdL A H xs vs → RdL A H' xs vs
  | [], _, _, r => r
  | x :: xs, _, n, ⟨v, ws, e, r1, r2⟩ => by
    unfold noLDs at n
    obtain ⟨n1, n2⟩ := Bool.and_eq_true_iff.mp n
    exact ⟨v, ws, e, rd_noLD n1 r1, rdl_noLD n2 r2⟩
end
end
mutual
theorem noLD_tp {R : Addr} : ∀ {x : Vt}, fxT x = true → noLD (tp R x) = true
  | .non, _ => by unfold tp noLD; rfl
  | .bl _, _ => by unfold tp noLD; rfl
  | .int _, _ => by unfold tp noLD; rfl
  | .str _, _ => by unfold tp noLD; rfl
  | .rat _ _, _ => by unfold tp noLD; rfl
  | .lst _, h => by unfold fxT at h; cases h
  | .dct _ _, h => by unfold fxT at h; cases h
  | .tup xs, h => by unfold fxT at h; unfold tp noLD; exact noLDs_tp h
theorem noLDs_tp {R : Addr} : ∀ {xs : List Vt}, fxTs xs = true → noLDs (tps R xs) = true
  | [], _ => by unfold tps noLDs; rfl
  | x :: xs, h => by
    unfold fxTs at h
    obtain ⟨h1, h2⟩ := Bool.and_eq_true_iff.mp h
    unfold tps noLDs
    rw [noLD_tp h1, noLDs_tp h2]
    rfl
end
/-- behind a walk that spoils what is new -/
theorem rs_after {R p c : Addr} {Z : Addr → Prop} {A0 : Addr → Prop} {H0 H H2 : Hp} {σ σ2 : L2.St} {ρ ρ2 : SEn} {s d j : Nat} (r : RS (penW p c Z) A0 H0 [] H σ ρ s) (hA : ∀ a, H0 a ≠ none → A0 a) (hZ : ∀ a o u, H0 a = some (.frz o u) → Z a)
    (no : ∀ (i : Nat) (a : Addr) (x : PV), ρ[i]? ≠ some (.own a x)) (ch : Chg R A0 (thaw Z H) d j (thaw Z H) H2) (len : ρ2.length = σ2.length) (sh : ∀ (i : Nat) (x : PV), ρ2[i]? = some (.sh x) → ρ[i]? = some (.sh x) ∧ σ2[i]? = σ[i]? ∧ noLD x = true) (no2 : ∀ (i : Nat) (a : Addr) (x : PV), ρ2[i]? ≠ some (.own a x)) :
    RS (penW p c Z) A0 H0 [] H2 σ2 ρ2 s := by
  have root : ∀ {b : Addr} {y : Vt}, Rd A0 (thaw Z H) (tp R y) (.ref b) → ¬ A0 b := fun {b y} r => by
    cases y <;> (unfold tp at r; first | (cases r; done) | skip)
    · obtain ⟨a, dx, ws, e, n, _⟩ := r; cases e; exact n
    · obtain ⟨a, vs, e, n, _⟩ := r; cases e; exact n
    · obtain ⟨a, vs, e, n, _⟩ := r; cases e; exact n
    · obtain ⟨a, ws, e, n, _⟩ := r; cases e; exact n
  have old : ∀ a o, A0 a → thaw Z H a = some o → H2 a = some o := fun a o ha e => by
    rcases ch a o e with h | ⟨y, ry, _⟩
    · exact h
    · exact absurd ha (root ry)
  have ao : ∀ (σ : L2.St) (ρ : SEn), (∀ (i : Nat) (a : Addr) (x : PV), ρ[i]? ≠ some (.own a x)) → AO_ A0 σ ρ = A0 := fun σ ρ no => funext fun a => propext ⟨fun z => z.elim id fun ⟨i, x, e, _⟩ => absurd e (no i a x), .inl⟩
  refine ⟨r.sa, r.lv, fun a o na e => ?_, ?_, len, fun i x h => ?_, fun i a x h => absurd h (no2 i a x), fun i j x y a h => absurd h (no2 i a x), fun _ m => nomatch m⟩
  · have e1 := r.fr a o na e
    refine old a o (hA a fun z => by rw [z] at e; cases e) ?_
    by_cases z : Z a
    · rw [thaw_Z z]; exact e1
    · exact thaw_same e1 fun q u eq => z (hZ a q u (by rw [e, eq]))
  · have rel : (penW p c Z).rel (thaw Z H) s := by
      obtain ⟨⟨t, l, ns, a1, a2, rr⟩, hz⟩ := r.rel
      exact ⟨⟨t, l, ns, thaw_same a1 (fun _ _ z => nomatch z), thaw_same a2 (fun _ _ z => nomatch z), rr⟩, fun a z n => by rw [thaw_Z z] at n; exact hz a z n⟩
    exact (penW p c Z).stabs rel fun a o h e => old a o (r.sa a h) e
  · obtain ⟨h1, h2, h3⟩ := sh i x h
    obtain ⟨v, ev, rv⟩ := r.sh i x h1
    refine ⟨v, h2.trans ev, ?_⟩
    rw [ao σ ρ no] at rv
    rw [ao σ2 ρ2 no2]
    exact rd_noLD (fun a o na e n1 n2 n3 => ch.stay (thaw_same e fun q u z => n3 q u z) n1 n2) h3 rv
theorem assoc {a b c : TS} {D : Ends} {σ : L2.St} {H : Hp} (h : tSeq (tSeq a b) c D σ H) : tSeq a (tSeq b c) D σ H := h
end K03
end

section -- K03m
set_option linter.all false
set_option maxRecDepth 100000
set_option maxHeartbeats 4000000
/-! what papers are made of in the law -/
namespace K03
open PySem PySem.Spec L2 Pk Evl Pv Pw
open PyProof.Rows hiding St
/-- a part of a paper, in the law -/
structure Part (x : Vt) : Prop where
  dep : Pw.dep x ≤ 8
  okF : K03.okF x
  ok : okT x = true
  wt : Pw.wt x ≤ 400
mutual
theorem nl_wt : ∀ x : Vt, nl x ≤ wt x
  | .lst xs => by unfold nl wt; have := nls_wts xs; omega
  | .tup xs => by unfold nl wt; have := nls_wts xs; omega
  | .dct ks xs => by unfold nl wt; have := nls_wts xs; omega
  | .non => by unfold nl; omega
  | .bl _ => by unfold nl; omega
  | .int _ => by unfold nl; omega
  | .str _ => by unfold nl; omega
  | .rat _ _ => by unfold nl; omega
theorem nls_wts : ∀ xs : List Vt, nls xs ≤ wts xs
  | [] => by unfold nls; omega
  | x :: xs => by
    have h1 := nl_wt x
    have h2 := nls_wts xs
    rw [show nls (x :: xs) = nl x + nls xs by rw [nls], show wts (x :: xs) = wt x + wts xs by rw [wts]]
    omega
end
theorem Part.nl {x : Vt} (h : Part x) : K03.nl x ≤ 400 := Nat.le_trans (nl_wt x) h.wt
/-! the same of other kinds -/
structure OthIs (x : Vt) : Prop where
  dep : Pw.dep (othT x) = Pw.dep x
  wt : Pw.wt (othT x) = Pw.wt x
  ok : okT x = true → okT (othT x) = true
  okF : K03.okF x → K03.okF (othT x)
structure OthsIs (xs : List Vt) : Prop where
  dep : deps (othTs xs) = deps xs
  wt : wts (othTs xs) = wts xs
  ok : okTs xs = true → okTs (othTs xs) = true
  okF : okFs xs → okFs (othTs xs)
  len : (othTs xs).length = xs.length
mutual
theorem oth_is : ∀ x : Vt, OthIs x
  | .lst xs => by
    have h := oths_is xs
    have e : othT (.lst xs) = .lst (othTs xs) := by rw [othT]
    refine ⟨?_, ?_, fun o => ?_, fun o => ?_⟩
    · rw [e, dep_lst, dep_lst, h.dep]
    · rw [e]; show wt (.lst _) = wt (.lst _); rw [wt, wt, h.wt]
    · rw [e]; unfold okT at o ⊢; exact h.ok o
    · rw [e]; unfold K03.okF at o ⊢; exact ⟨by rw [h.len]; exact o.1, h.okF o.2⟩
  | .tup xs => by
    have h := oths_is xs
    have e : othT (.tup xs) = .tup (othTs xs) := by rw [othT]
    refine ⟨?_, ?_, fun o => ?_, fun o => ?_⟩
    · rw [e, dep_tup, dep_tup, h.dep]
    · rw [e]; show wt (.tup _) = wt (.tup _); rw [wt, wt, h.wt]
    · rw [e]; unfold okT at o ⊢; exact h.ok o
    · rw [e]; unfold K03.okF at o ⊢; exact ⟨by rw [h.len]; exact o.1, h.okF o.2⟩
  | .dct ks xs => by
    have e : othT (.dct ks xs) = .dct ks xs := by rw [othT]
    rw [show OthIs (.dct ks xs) ↔ True from ⟨fun _ => trivial, fun _ => ⟨by rw [e], by rw [e], fun o => by rw [e]; exact o, fun o => by rw [e]; exact o⟩⟩]
    trivial
  | .non => ⟨by rw [othT], by rw [othT], fun o => by rw [othT]; exact o, fun o => by rw [othT]; exact o⟩
  | .str _ => ⟨by rw [othT], by rw [othT], fun o => by rw [othT]; exact o, fun o => by rw [othT]; exact o⟩
  | .bl b => ⟨by rw [othT]; unfold dep; rfl, by rw [othT]; unfold wt; rfl, fun o => by rw [othT]; unfold okT; cases b <;> rfl, fun o => by rw [othT]; unfold K03.okF; trivial⟩
  | .int i => ⟨by rw [othT]; unfold dep; rfl, by rw [othT]; unfold wt; rfl, fun o => by
      rw [othT]; unfold okT at o ⊢
      rw [o]
      rfl, fun o => by rw [othT]; unfold K03.okF; trivial⟩
  | .rat t b => by
    by_cases e : b = 1
    · have e2 : othT (.rat t b) = .int t := by rw [othT, if_pos e]
      refine ⟨by rw [e2]; unfold dep; rfl, by rw [e2]; unfold wt; rfl, fun o => ?_, fun o => by rw [e2]; unfold K03.okF; trivial⟩
      rw [e2]; unfold okT at o ⊢
      exact (Bool.and_eq_true_iff.mp o).1
    · have e2 : othT (.rat t b) = .rat t b := by rw [othT, if_neg e]
      exact ⟨by rw [e2], by rw [e2], fun o => by rw [e2]; exact o, fun o => by rw [e2]; exact o⟩
theorem oths_is : ∀ xs : List Vt, OthsIs xs
  | [] => ⟨by rw [othTs], by rw [othTs], fun o => by rw [othTs]; exact o, fun o => by rw [othTs]; exact o, by rw [othTs]⟩
  | x :: xs => by
    have h1 := oth_is x
    have h2 := oths_is xs
    have e : othTs (x :: xs) = othT x :: othTs xs := by rw [othTs]
    refine ⟨?_, ?_, fun o => ?_, fun o => ?_, ?_⟩
    · rw [e]; show max (dep (othT x)) (deps (othTs xs)) = max (dep x) (deps xs); rw [h1.dep, h2.dep]
    · rw [e]; show wt (othT x) + wts (othTs xs) = wt x + wts xs; rw [h1.wt, h2.wt]
    · rw [e]
      have o : (okT x && okTs xs) = true := o
      obtain ⟨o1, o2⟩ := Bool.and_eq_true_iff.mp o
      show (okT (othT x) && okTs (othTs xs)) = true
      rw [h1.ok o1, h2.ok o2]; rfl
    · rw [e]
      have o : K03.okF x ∧ okFs xs := o
      exact ⟨h1.okF o.1, h2.okF o.2⟩
    · rw [e, List.length_cons, List.length_cons, h2.len]
end
theorem Drawn.part {d : Nat} {x : Vt} (h : Drawn d x) (hd : d ≤ 3) : Part x := by
  have h := h.up hd
  exact ⟨Nat.le_trans h.dep (by decide), h.okF, h.ok, Nat.le_trans h.wt (by decide)⟩
theorem part_fix {x : Vt} {d : Nat} (h : Drawn d x) (hd : d ≤ 3) : Part (fixT x) := by
  have h := h.up hd
  have f := fixIs h.okF
  exact ⟨by have := f.dep; have := h.dep; omega, f.okF, f.ok h.ok, by rw [f.wt]; exact Nat.le_trans h.wt (by decide)⟩
theorem part_oth {x : Vt} {d : Nat} (h : Drawn d x) (hd : d ≤ 3) : Part (othT x) := by
  have h := h.up hd
  have f := oth_is x
  exact ⟨by rw [f.dep]; have := h.dep; omega, f.okF h.okF, f.ok h.ok, by rw [f.wt]; exact Nat.le_trans h.wt (by decide)⟩
theorem part_non : Part .non := ⟨by unfold Pw.dep; omega, by unfold K03.okF; trivial, by unfold okT; rfl, by unfold Pw.wt; omega⟩
theorem part_lst {ys : List Vt} (hl : ys.length ≤ 3) (h : ∀ y ∈ ys, Drawn 3 y) : Part (.lst ys) := by
  have dl : deps ys ≤ 3 := deps_le _ _ fun y hy => (h y hy).dep
  have wl : wts ys ≤ 3 * wB 3 := by
    rw [wts_sum]
    refine Nat.le_trans (sum_le (c := wB 3) fun z hz => ?_) (by rw [List.length_map]; exact Nat.mul_le_mul_right _ hl)
    obtain ⟨y, hy, rfl⟩ := List.mem_map.mp hz
    exact (h y hy).wt
  have e : wB 3 = 118 := by decide
  rw [e] at wl
  refine ⟨by rw [dep_lst]; omega, by unfold K03.okF; exact ⟨by omega, okFs_of fun y hy => (h y hy).okF⟩, by unfold okT; exact okTs_of fun y hy => (h y hy).ok, ?_⟩
  show wt (.lst ys) ≤ 400
  rw [wt]
  omega
/-- what a paper of parts holds -/
structure Held (zs : List Vt) : Prop where
  len : zs.length ≤ 4
  each : ∀ z ∈ zs, Part z
section
variable {zs : List Vt} (h : Held zs)
include h
theorem Held.dep : Pw.dep (.tup zs) ≤ 9 := by
  rw [dep_tup]
  have := deps_le zs 8 fun y hy => (h.each y hy).dep
  omega
theorem Held.okF : K03.okF (.tup zs) := by
  unfold K03.okF
  exact ⟨by have := h.len; omega, okFs_of fun y hy => (h.each y hy).okF⟩
theorem Held.fx : fxTs (fixTs zs) = true := by
  rw [fixTs_map]
  refine fxTs_of fun y hy => ?_
  obtain ⟨z, hz, rfl⟩ := List.mem_map.mp hy
  exact (fixIs (h.each z hz).okF).fx
theorem Held.fdep : Pw.dep (.tup (fixTs zs)) ≤ 17 := by
  rw [dep_tup]
  have := deps_le (fixTs zs) 16 fun y hy => by
    rw [fixTs_map] at hy
    obtain ⟨z, hz, rfl⟩ := List.mem_map.mp hy
    have := (fixIs (h.each z hz).okF).dep
    have := (h.each z hz).dep
    omega
  omega
theorem Held.fokF : K03.okF (.tup (fixTs zs)) := by
  unfold K03.okF
  refine ⟨by rw [fixTs_len]; have := h.len; omega, okFs_of fun y hy => ?_⟩
  rw [fixTs_map] at hy
  obtain ⟨z, hz, rfl⟩ := List.mem_map.mp hy
  exact (fixIs (h.each z hz).okF).okF
theorem Held.fok : okT (.tup (fixTs zs)) = true := by
  unfold okT
  refine okTs_of fun y hy => ?_
  rw [fixTs_map] at hy
  obtain ⟨z, hz, rfl⟩ := List.mem_map.mp hy
  exact (fixIs (h.each z hz).okF).ok (h.each z hz).ok
theorem Held.fwt : Pw.wt (.tup (fixTs zs)) ≤ 10000 := by
  have wl : wts (fixTs zs) ≤ 4 * 400 := by
    rw [wts_sum]
    refine Nat.le_trans (sum_le (c := 400) fun z hz => ?_) (by rw [List.length_map, fixTs_len]; exact Nat.mul_le_mul_right _ h.len)
    rw [fixTs_map] at hz
    obtain ⟨y, hy, rfl⟩ := List.mem_map.mp hz
    obtain ⟨x, hx, rfl⟩ := List.mem_map.mp hy
    rw [(fixIs (h.each x hx).okF).wt]
    exact (h.each x hx).wt
  show wt (.tup (fixTs zs)) ≤ 10000
  rw [wt]
  omega
end
end K03
end

section -- K03l
set_option linter.all false
set_option maxRecDepth 100000
set_option maxHeartbeats 4000000
set_option synthInstance.maxSize 10000
set_option synthInstance.maxHeartbeats 4000000
/-! papers looked at: the derivation -/
namespace K03
open PySem PySem.Spec L2 Pk Evl Pv Pw
open PyProof.Rows hiding St
section
variable {P : Program} {w : World} {K : PySem.W.Frag} {mg : Str → Option Value} {base : Heap} {R CP CD : Addr}
/-- what the text tells of == and != of papers -/
structure PEq (P : Program) (w : World) (K : PySem.W.Frag) (mg : Str → Option Value) (base : Heap) (R CP CD : Addr) (fE : Addr) (fdE : FuncData) : Prop where
  sP : PySem.W.findIn K (.ref CP) "__eq__" = some (some (.ref fE))
  sD : PySem.W.findIn K (.ref CD) "__eq__" = some (some (.ref fE))
  nP : PySem.W.findIn K (.ref CP) "__ne__" = some (some (.builtin "object.__ne__"))
  nD : PySem.W.findIn K (.ref CD) "__ne__" = some (some (.builtin "object.__ne__"))
  mP : PySem.W.mroIn K CP (.type "object") = some true
  mD : PySem.W.mroIn K CD (.type "object") = some true
  hf : PySem.W.isFn K (.ref fE) = true
  ne : CD ≠ CP
  sub : PySem.W.subIn K (.ref CD) (.ref CP) = some true
  pd : PySem.W.subIn K (.ref CP) (.ref CD) = some false
  G : FnOk P w K mg base CX0 23 fE fdE ["self", "other"] (spF W0 2 (prePEq K R CP CD 20))
  b : Binds K fdE ["self", "other"] []
  out : ∀ T ∈ ["NoneType", "bool", "int", "str", "tuple", "list", "dict"], PySem.W.kitOne K (.type T) (.ref CP) = some false ∧ PySem.W.notFirst K CP (.type T) = true ∧ PySem.W.notFirst K CD (.type T) = true
abbrev N20 : List Str := ["_law_pen_here", "_law_word", "_law_parts", "_law_due", "_law_some", "_law_like", "_law_name", "_law_says_no", "_law_other_due", "_law_same_here", "_law_one", "_law_two", "_law_other", "_law_paper", "_law_no", "_law_label", "_law_told", "_law_odd", "_law_part", "_law_turn"]
abbrev rE (K : PySem.W.Frag) (R CP CD : Addr) : List V → Hp → VK → Prop := fun vs H Q => spF W0 2 (prePEq K R CP CD 20) vs H Q E0
abbrev rCmp (neg : Bool) (K : PySem.W.Frag) (R CP CD : Addr) : R2 := r2Or (r2Or (rEqV neg K CP (rE K R CP CD)) (rEqV neg K CD (rE K R CP CD))) (rRef neg CP CD (rE K R CP CD))
theorem PEq.eq {fE : Addr} {fdE : FuncData} (k : PEq P w K mg base R CP CD fE fdE) {X : Cx} (hP : X.prog = P) (hw : X.w = w) (hK : X.K = K) (hm : X.mg = mg) (hb : X.base = base) (hr : Room 24 X.A) : OpR X (compareOp .Eq) (rCmp false K R CP CD) := by
  subst hP hw hK hm hb
  have c : RunAt X X.A fE (rE X.K R CP CD) := runAt_fn k.G (hr.mono (by decide)) rfl k.b pass0
  exact op_or (op_or (op_eqV hr.units0 k.sP k.hf c) (op_eqV hr.units0 k.sD k.hf c)) (op_eqRef hr.units0 k.ne k.sub k.sD k.hf c)
theorem PEq.neq {fE : Addr} {fdE : FuncData} (k : PEq P w K mg base R CP CD fE fdE) {X : Cx} (hP : X.prog = P) (hw : X.w = w) (hK : X.K = K) (hm : X.mg = mg) (hb : X.base = base) (hr : Room 24 X.A) : OpR X (compareOp .NotEq) (rCmp true K R CP CD) := by
  subst hP hw hK hm hb
  have hu : X.A.units + 1 < cLine := Nat.lt_of_le_of_lt (Nat.add_le_add_left (by decide) _) hr.units
  have c : RunAt X X.A.in1 fE (rE X.K R CP CD) := runAt_fn k.G hr.in1 rfl k.b pass0
  exact op_or (op_or (op_neV hu k.mP k.nP k.sP k.hf c) (op_neV hu k.mD k.nD k.sD k.hf c)) (op_neRef hu k.ne k.sub k.mD k.nD k.sD k.hf c)
theorem sc_pr : FnScope ["_law_pen_here", "_law_word", "_law_parts", "_law_due", "_law_some", "_law_like", "_law_name", "_law_says_no", "_law_other_due", "_law_same_here", "_law_one", "_law_two", "_law_other", "_law_paper", "_law_no", "_law_label", "_law_told", "_law_odd", "_law_part", "_law_turn"] ["_law_pen_here"] (defScope sPRight) := by
  refine ⟨rfl, rfl, rfl, by decide +kernel, rfl, by decide +kernel, by decide +kernel⟩
abbrev gCmp (neg : Bool) (K : PySem.W.Frag) (R CP CD : Addr) : PV → PV → (PV → Prop) → Prop := fun x y F => (fun x y F => gEqV neg K CP (prePEq K R CP CD 20) x y F ∨ gEqV neg K CD (prePEq K R CP CD 20) x y F) x y F ∨ gRef neg CP CD (prePEq K R CP CD 20) x y F
theorem cmp_ok {neg : Bool} {fE : Addr} {fdE : FuncData} (kQ : PEq P w K mg base R CP CD fE fdE) (T : PC K mg R CP CD) {C1 C2 : Addr} (h1 : Two2 CP CD C1) (h2 : Two2 CP CD C2) {z1 z2 : Str} {as bs : List Vt} (fa : fxTs as = true) (fb : fxTs bs = true) (da : Pw.dep (.tup as) ≤ 20) (db : Pw.dep (.tup bs) ≤ 20) {F : PV → Prop}
    (k : F (.bl ((decide (z1 = z2) && Pw.eqT (.tup as) (.tup bs)) != neg))) : gCmp neg K R CP CD (.ins C1 papN (papX R z1 as)) (.ins C2 papN (papX R z2 bs)) F := by
  have self : ∀ C : Addr, PySem.W.notFirst K C (.ref C) = true := fun C => by simp [PySem.W.notFirst]
  rcases h1 with rfl | rfl
  · rcases h2 with rfl | rfl
    · exact .inl (.inl ⟨rfl, .ref C2, ⟨T.tyP, rfl⟩, self _, C2, z1, as, _, rfl, .inl rfl, .inl ⟨C2, z2, bs, .inl rfl, rfl, fa, fb, da, k⟩⟩)
    · refine .inr ⟨rfl, rfl, C2, z2, bs, _, rfl, .inr rfl, .inl ⟨C1, z1, as, .inl rfl, rfl, fb, fa, db, ?_⟩⟩
      rw [eqT_symm (.tup bs) (.tup as) (by unfold fxT; exact fb) (by unfold fxT; exact fa), show decide (z2 = z1) = decide (z1 = z2) by rw [decide_eq_decide]; exact eq_comm]
      exact k
  · rcases h2 with rfl | rfl
    · refine .inl (.inr ⟨rfl, .ref C2, ⟨T.tyP, rfl⟩, ?_, C1, z1, as, _, rfl, .inr rfl, .inl ⟨C2, z2, bs, .inl rfl, rfl, fa, fb, da, k⟩⟩)
      unfold PySem.W.notFirst
      rw [kQ.pd]
      simp
    · exact .inl (.inr ⟨rfl, .ref C2, ⟨T.tyD, rfl⟩, self _, C2, z1, as, _, rfl, .inr rfl, .inl ⟨C2, z2, bs, .inr rfl, rfl, fa, fb, da, k⟩⟩)
theorem cmp_odd {neg : Bool} {fE : Addr} {fdE : FuncData} (kQ : PEq P w K mg base R CP CD fE fdE) {C1 : Addr} (h1 : Two2 CP CD C1) {z1 : Str} {as : List Vt} {y : PV} {t : String} (ht : t ∈ ["NoneType", "bool", "int", "str", "tuple", "list", "dict"]) (hy : TyP K y (.type t)) {F : PV → Prop}
    (k : F (.bl (false != neg))) : gCmp neg K R CP CD (.ins C1 papN (papX R z1 as)) y F := by
  obtain ⟨o1, o2, o3⟩ := kQ.out t ht
  rcases h1 with rfl | rfl
  · exact .inl (.inl ⟨rfl, _, hy, o2, C1, z1, as, y, rfl, .inl rfl, .inr ⟨_, hy, o1, k⟩⟩)
  · exact .inl (.inr ⟨rfl, _, hy, o3, C1, z1, as, y, rfl, .inr rfl, .inr ⟨_, hy, o1, k⟩⟩)
def spX (n : Nat) (pre : Addr → FP Nat) : Sp := fun vs H Q E => ∃ (p c : Addr) (Z : Addr → Prop), spF (penW p c Z) n (pre p) vs H Q E
theorem fnX {CX : CXT} {k n : Nat} {f : Addr} {fd : FuncData} {ps : List Str} {pre : Addr → FP Nat} (h : ∀ p c Z, FnOk P w K mg base CX k f fd ps (spF (penW p c Z) n (pre p))) : FnOk P w K mg base CX k f fd ps (spX n pre) :=
  ⟨fun vs H Q E ⟨p, c, Z, q⟩ => (h p c Z).len vs H Q E q, fun A l s H args us vs Q E hr e0 hb rv ⟨p, c, Z, q⟩ => (h p c Z).run A l s H args us vs Q E hr e0 hb rv q⟩
theorem fnXG {CX : CXT} {k n : Nat} {f : Addr} {fd : FuncData} {ps : List Str} {pre : Addr → FP Nat} (h : ∀ p c Z, FnG P w K mg base CX k f fd ps (spF (penW p c Z) n (pre p))) : FnG P w K mg base CX k f fd ps (spX n pre) :=
  ⟨fun vs H Q E ⟨p, c, Z, q⟩ => (h p c Z).len vs H Q E q, fun A l s H args us vs Q E hr hg e0 hb rv ⟨p, c, Z, q⟩ => (h p c Z).go A l s H args us vs Q E hr hg e0 hb rv q⟩
def prePR (p : Addr) : FP Nat := fun xs k F _ => xs = [.adr p] ∧ 2000 ≤ k ∧ ∀ k', k ≤ k' + 2000 → F (.bl true) k'
theorem vals_R {p : Addr} {r : En} {i d m k : Nat} {fi : FI Nat} (hd : d < 4) (hi : ∀ (G : List PV → Nat → Prop) (X : XF Nat), (∀ items k', items.length ≤ m → k ≤ k' + 1 → G items k') → fi r k G X) (hm : m ≤ 900) (hk : m * cst d + 1 ≤ k) (e0 : ∀ v, ((wipeP r [i]).set i v)[0]? = some (.val (.adr p))) :
    EvR r (fLc [i] fi (bName i) fYes (fCall0 2 (preVal p R 4) (List.map toPV []) (fCons (fVar 0) (fCons (fC (V.int (d : Int))) fNil))) [i]) k (fun x k' => (∃ ys : List Vt, ys.length ≤ m ∧ (∀ y ∈ ys, Drawn d y) ∧ x = .lst (tps R ys)) ∧ k ≤ k' + (m * cst d + 1)) := fun G X g => by
  refine ⟨by simp, hi _ X fun items k1 hl hk1 => ⟨by omega, ?_⟩⟩
  have hmul : items.length * cst d ≤ m * cst d := Nat.mul_le_mul_right _ hl
  refine lc_R (c := cst d) (Q := fun x => ∃ y : Vt, x = tp R y ∧ Drawn d y) (fun v k hc G2 X2 g2 => ?_) items [] k1 _ (by omega) fun zs k' hl2 hq hk' => ?_
  · exact (evps_cons (evp_var (e0 v)) (evps_cons evp_c evps_nil)) k _ X2 ⟨rfl, d, rfl, hd, hc, fun y k' hy hk' => g2 _ _ ⟨⟨y, rfl, hy⟩, hk'⟩⟩
  · obtain ⟨ys, e1, e2⟩ := trees_of zs hq
    rw [List.nil_append]
    have ly : ys.length = items.length := by rw [← hl2, e1, tps_len]
    exact g _ _ ⟨⟨ys, by omega, e2, by rw [e1]⟩, by omega⟩
theorem cut2 {S : Type} {W : Wd S} {E : XK} {A0 : Addr → Prop} {H0 H : Hp} {σ : L2.St} {ρ : SEn} {s : S} {t1 t2 : TS} {f1 : FS S} [ia : AS W E t1 f1] {D : Ends} {X : XF S} {rt : PV → S → Prop} (r : RS W A0 H0 [] H σ ρ s) (x : XL W A0 H0 E X) (Pf : SEn → S → Prop) (h : f1 ρ s ⟨Pf, rt, fun _ _ => False, fun _ _ => False, X⟩)
    (k : ∀ σ' H' ρ' s', RS W A0 H0 [] H' σ' ρ' s' → Pf ρ' s' → t2 D σ' H') (krt : ∀ v H' x s', Rd A0 H' x v → Fr W.pf H0 H' → W.rel H' s' → rt x s' → D.rt v H') : tSeq t1 t2 D σ H :=
  ia.run (D := { D with nx := t2 D }) (G := ⟨Pf, rt, fun _ _ => False, fun _ _ => False, X⟩) r x h ⟨k, fun _ _ _ _ _ h => h.elim, fun _ _ _ _ _ h => h.elim, krt⟩
mutual
/-- a value stays where what is locked is read as plain -/
theorem rd_thaw {Z A : Addr → Prop} {H : Hp} : ∀ {x : PV} {v : V}, Rd A H x v → Rd A (thaw Z H) x v
  | .non, _, r => r
  | .bl _, _, r => r
  | .int _, _, r => r
  | .str _, _, r => r
  | .ty _, _, r => r
  | .adr _, _, r => r
  | .oth _, _, r => r
  | .lst xs, _, ⟨a, vs, e, na, ha, rl⟩ => ⟨a, vs, e, na, thaw_same ha (fun _ _ z => nomatch z), rdl_thaw rl⟩
  | .tup xs, _, ⟨a, vs, e, na, ha, rl⟩ => ⟨a, vs, e, na, thaw_same ha (fun _ _ z => nomatch z), rdl_thaw rl⟩
  | .dct ks xs, _, ⟨a, ws, e, na, ha, ek, rl⟩ => by
    refine ⟨a, ws, e, na, ?_, ek, rdl_thaw rl⟩
    rcases ha with ha | ⟨o, ha⟩
    · exact .inl (thaw_same ha (fun _ _ z => nomatch z))
    · by_cases c : Z a
      · exact .inr ⟨o, by rw [thaw_Z c]; exact ha⟩
      · exact .inl (by rw [thaw_off c, ha]; rfl)
  | .ins C ns xs, _, ⟨a, dx, ws, e, na, ha, en, rl⟩ => ⟨a, dx, ws, e, na, thaw_same ha (fun _ _ z => nomatch z), en, rdl_thaw rl⟩
theorem rdl_thaw {Z A : Addr → Prop} {H : Hp} : ∀ {xs : List PV} {vs : List V}, RdL A H xs vs → RdL A (thaw Z H) xs vs
  | [], _, r => r
  | x :: xs, _, ⟨v, ws, e, r1, r2⟩ => ⟨v, ws, e, rd_thaw r1, rdl_thaw r2⟩
end
def WordOk (z : Str) : Prop := okT (.str z) = true ∧ okT (.str (z ++ "s")) = true ∧ z.length ≤ 100
theorem words {x : PV} (h : x ∈ [PV.str "x", .str "greatest", .str "", .str "no way"]) : ∃ z : Str, x = .str z ∧ WordOk z := by
  simp only [List.mem_cons, List.not_mem_nil, or_false] at h
  rcases h with rfl | rfl | rfl | rfl <;> exact ⟨_, rfl, by unfold okT; decide +kernel, by unfold okT; decide +kernel, by decide +kernel⟩
/-- behind the looks, ahead of the walk that spoils -/
def Pst (p R CP CD : Addr) (k0 : Nat) : SEn → Nat → Prop := fun ρ k => ∃ (z nm : Str) (ys zs : List Vt) (no : Bool) (x4 x9 x13 x14 x15 x16 x17 : PV), Held ys ∧ Held zs ∧ okT (.str z) = true ∧ okT (.str nm) = true ∧ k0 ≤ k + 2000 ∧
  ρ = [.sh (.adr p), .sh (.str z), .sh (.lst (tps R ys)), .sh (tp R (.tup (fixTs ys))), .sh x4, .sh (.lst (tps R zs)), .sh (.str nm), .sh (.bl no), .sh (tp R (.tup (fixTs zs))), .sh x9, .sh (.ins CP papN (papX R z (fixTs ys))), .sh (.ins CD papN (papX R z (fixTs ys))), .sh (.ins (if no then CD else CP) papN (papX R nm (fixTs zs))), .sh x13, .sh x14, .sh x15, .sh x16, .sh x17, .no, .no]
theorem fassoc {S : Type} {f g h : FS S} {ρ : SEn} {s : S} {G : DD S} (q : fSeq f (fFz (fSeq g (fFz h))) ρ s G) : fSeq (fSeq f (fFz g)) (fFz h) ρ s G := q
theorem evp_call {S : Type} {r : En} {n : Nat} {pre : FP S} {ds : List PV} {fa : FA S} {xs : List PV} {z : PV} (ha : EvPs r fa xs) (hn : (xs ++ ds).length = n) (h : ∀ (s : S) (F : PV → S → Prop) X, F z s → pre (xs ++ ds) s F X) : EvP r (fCall n pre ds fa) z := fun s G X k => ha s _ X ⟨hn, h s G X k⟩
theorem fixl {S : Type} {r : En} {i : Nat} {us : List Vt} (hl : us.length ≤ 4) (hu : ∀ y ∈ us, Pw.dep y < 20 ∧ okF y) (hx : ∀ x, ((wipeP r [18]).set 18 (.val x))[18]? = some (.val x)) (e : r[i]? = some (.val (.lst (tps R us)))) : EvP (S := S) r (fCB gTupS (fCons (fLc [18] (fiL (fVar i)) (bName 18) fYes (fCall0 1 (preFix R 20) (List.map toPV []) (fCons (fVar 18) fNil)) [18]) fNil)) (tp R (.tup (fixTs us))) := by
  rw [tp_tup, tps_map, fixTs_map, List.map_map]
  exact evp_tupS (evp_lcm (i := 18) (l := us) (a := tp R) (b := tp R ∘ fixT) (fi_l (evp_var e)) (tps_map R us) (by omega) fun y hy => evp_call0 (evps_cons (evp_var (hx _)) evps_nil) rfl fun s F X k => ⟨y, rfl, (hu y hy).1, (hu y hy).2, k⟩)
theorem evp_step {S : Type} {r : En} {fe fk : FE S} {l : List PV} (he : EvP r fe (.lst l)) (hk : EvP r fk (.int (-1))) : EvP r (fStep fe (fPart fk)) (.lst l.reverse) := fun s G X g => he s _ X (hk s _ X (.inr ⟨rfl, g⟩))
theorem evp_listS {S : Type} {r : En} {fe : FE S} {l : List PV} (he : EvP r fe (.tup l)) : EvP r (fCB gListS (fCons fe fNil)) (.lst l) := fun s G X g => he s _ X g
/-- what a paper may be like -/
theorem like_of {x : PV} {ys us : List Vt} (hy : ys.length ≤ 3) (hyd : ∀ y ∈ ys, Drawn 3 y) (hu : us.length ≤ 4) (hud : ∀ y ∈ us, Drawn 2 y) (h : x ∈ [PV.lst (tps R us), .lst (tps R ys), .lst (tps R (fixTs ys)), .lst (tps R ys).reverse, .lst (tps R ys ++ [.non]), .lst (cutP (tps R ys) none (some 1)), .lst [.lst (tps R ys)], tp R (othT (.lst ys))]) : ∃ zs : List Vt, x = .lst (tps R zs) ∧ Held zs := by
  simp only [List.mem_cons, List.not_mem_nil, or_false] at h
  rcases h with rfl | rfl | rfl | rfl | rfl | rfl | rfl | rfl
  · exact ⟨us, rfl, hu, fun y m => (hud y m).part (by decide)⟩
  · exact ⟨ys, rfl, by omega, fun y m => (hyd y m).part (by decide)⟩
  · refine ⟨fixTs ys, rfl, by rw [fixTs_len]; omega, fun y m => ?_⟩
    rw [fixTs_map] at m
    obtain ⟨x, hx, rfl⟩ := List.mem_map.mp m
    exact part_fix (hyd x hx) (by decide)
  · exact ⟨ys.reverse, by rw [tps_map, tps_map, List.map_reverse], by rw [List.length_reverse]; omega, fun y m => (hyd y (List.mem_reverse.mp m)).part (by decide)⟩
  · refine ⟨ys ++ [.non], by rw [tps_app]; unfold tps tps; unfold tp; rfl, by rw [List.length_append]; show ys.length + 1 ≤ 4; omega, fun y m => ?_⟩
    rcases List.mem_append.mp m with m | m
    · exact (hyd y m).part (by decide)
    · rw [List.mem_singleton.mp m]; exact part_non
  · refine ⟨ys.take 1, by rw [show ((some 1 : Option Int)) = some ((1 : Nat) : Int) from rfl, cut_take, tps_map, tps_map, List.map_take], by rw [List.length_take]; omega, fun y m => (hyd y (List.mem_of_mem_take m)).part (by decide)⟩
  · exact ⟨[.lst ys], by rw [tps_map R [.lst ys]]; show _ = PV.lst [tp R (.lst ys)]; rw [tp_lst], by show 1 ≤ 4; decide, fun y m => by rw [List.mem_singleton.mp m]; exact part_lst hy hyd⟩
  · refine ⟨othTs ys, by rw [show othT (.lst ys) = .lst (othTs ys) by rw [othT], tp_lst], by rw [(oths_is ys).len]; omega, fun y m => ?_⟩
    rw [othTs_map] at m
    obtain ⟨x, hx, rfl⟩ := List.mem_map.mp m
    exact part_oth (hyd x hx) (by decide)
theorem names {x : PV} {z : Str} (hz : WordOk z) (h : x ∈ [PV.str z, .str z, .str z, .str (z ++ "s"), .str ""]) : ∃ nm : Str, x = .str nm ∧ okT (.str nm) = true := by
  simp only [List.mem_cons, List.not_mem_nil, or_false] at h
  rcases h with rfl | rfl | rfl | rfl | rfl
  · exact ⟨_, rfl, hz.1⟩
  · exact ⟨_, rfl, hz.1⟩
  · exact ⟨_, rfl, hz.1⟩
  · exact ⟨_, rfl, hz.2.1⟩
  · exact ⟨_, rfl, by unfold okT; decide +kernel⟩
theorem drawR1 {p : Addr} {r : En} {fe : FE Nat} {n k : Nat} (e0 : r[0]? = some (.val (.adr p))) (hv : EvP r fe (.int (n : Int))) (n0 : 0 < n) (n1 : (n : Int) < 2 ^ 200) (hk : 1 ≤ k) : EvR r (fCall 2 (preDraw p) (List.map toPV []) (fCons (fVar 0) (fCons fe fNil))) k (fun x k' => (∃ j : Nat, j < n ∧ x = .int (j : Int)) ∧ k ≤ k' + 1) := fun G X g => by
  obtain ⟨m, rfl⟩ : ∃ m, k = m + 1 := ⟨k - 1, by omega⟩
  refine (evps_cons (evp_var e0) (evps_cons hv evps_nil)) _ _ X ⟨rfl, rfl, by omega, n1, m, rfl, fun i i0 i1 => ?_⟩
  obtain ⟨j, rfl⟩ := Int.eq_ofNat_of_zero_le i0
  exact g _ _ ⟨⟨j, by omega, rfl⟩, by omega⟩
theorem pickR1 {p : Addr} {r : En} {fe : FE Nat} {l : List PV} {k : Nat} (e0 : r[0]? = some (.val (.adr p))) (hv : EvP r fe (.lst l)) (l0 : l ≠ []) (l1 : l.length ≤ 1000) (hk : 1 ≤ k) : EvR r (fCall 2 (prePick p) (List.map toPV []) (fCons (fVar 0) (fCons fe fNil))) k (fun x k' => x ∈ l ∧ k ≤ k' + 1) := fun G X g => by
  obtain ⟨m, rfl⟩ : ∃ m, k = m + 1 := ⟨k - 1, by omega⟩
  exact (evps_cons (evp_var e0) (evps_cons hv evps_nil)) _ _ X ⟨rfl, rfl, l0, l1, m, rfl, fun z hz => g _ _ ⟨hz, by omega⟩⟩
theorem fixl1 {S : Type} {r : En} {i : Nat} {us : List Vt} (hl : us.length ≤ 4) (hu : ∀ y ∈ us, Pw.dep y < 20 ∧ okF y) (hx : ∀ x, ((wipeP r [18]).set 18 (.val x))[18]? = some (.val x)) (e : r[i]? = some (.val (.lst (tps R us)))) : EvP (S := S) r (fCB gTupS (fCons (fLc [18] (fiL (fVar i)) (bName 18) fYes (fCall 1 (preFix R 20) (List.map toPV []) (fCons (fVar 18) fNil)) [18]) fNil)) (tp R (.tup (fixTs us))) := by
  rw [tp_tup, tps_map, fixTs_map, List.map_map]
  exact evp_tupS (evp_lcm (i := 18) (l := us) (a := tp R) (b := tp R ∘ fixT) (fi_l (evp_var e)) (tps_map R us) (by omega) fun y hy => evp_call (evps_cons (evp_var (hx _)) evps_nil) rfl fun s F X k => ⟨y, rfl, (hu y hy).1, (hu y hy).2, k⟩)
theorem parRR {S : Type} {i j : Nat} {fa fb : FE S} {ρ : SEn} {s : S} {G : DD S} {P : PV → S → Prop} {Q : PV → S → PV → S → Prop} (ha : EvR (hide ρ) fa s P) (hb : ∀ x s1, P x s1 → EvR (hide ρ) fb s1 (Q x s1)) (k : ∀ x s1 y s2, P x s1 → Q x s1 y s2 → G.nx ((ρ.set i (.sh x)).set j (.sh y)) s2) : fPar i j (fCons fa (fCons fb fNil)) ρ s G := ha _ _ fun x s1 hx => hb x s1 hx _ _ fun y s2 hy => k x s1 y s2 hx hy
theorem par3_ok {S : Type} {i j l : Nat} {f : FA S} {ρ : SEn} {s : S} {G : DD S} {x y z : PV} (h : EvPs (hide ρ) f [x, y, z]) (k : G.nx (((ρ.set i (.sh x)).set j (.sh y)).set l (.sh z)) s) : fPar3 i j l f ρ s G := h s _ _ ⟨_, _, _, rfl, k⟩
theorem forL {S : Type} {fe : FE S} {items : List PV} {bg} {fb : FS S} {ρ : SEn} {s : S} {G : DD S} (h : EvP (hide ρ) fe (.lst items)) (k : forP bg fb items ρ s G) : fFor (fiL fe) bg fb ρ s G := h s _ _ k
theorem seq_i {S : Type} {f g : FS S} {ρ : SEn} {s : S} {G : DD S} (h : f ρ s { G with nx := fun ρ' s' => g ρ' s' G }) : fSeq f g ρ s G := h
theorem forP_nil {S : Type} {bg : PV → SEn → (SEn → Prop) → Prop} {fb : FS S} {ρ : SEn} {s : S} {G : DD S} (h : G.nx ρ s) : forP bg fb [] ρ s G := h
theorem forP_cons {S : Type} {bg : PV → SEn → (SEn → Prop) → Prop} {fb : FS S} {x : PV} {l : List PV} {ρ ρ1 : SEn} {s : S} {G : DD S} (hb : ∀ F : SEn → Prop, F ρ1 → bg x ρ F) (h : fb ρ1 s { G with nx := fun ρ' s' => forP bg fb l ρ' s' G, ct := fun ρ' s' => forP bg fb l ρ' s' G, bk := G.nx }) : forP bg fb (x :: l) ρ s G := hb _ (.inl h)
theorem tup4 {x1 x2 x3 x4 : PV} {ρ : SEn} {F : SEn → Prop} {a b c d : Nat} (h : F ((((ρ.set a (.sh x1)).set b (.sh x2)).set c (.sh x3)).set d (.sh x4))) : sTup 4 (sCons (sName a) (sCons (sName b) (sCons (sName c) (sCons (sName d) sNil)))) (.tup [x1, x2, x3, x4]) ρ F := ⟨rfl, h⟩
theorem forP_4 {S : Type} {fb : FS S} {x1 x2 x3 x4 : PV} {l : List PV} {ρ : SEn} {s : S} {G : DD S} {a b c d : Nat} (h : fb ((((ρ.set a (.sh x1)).set b (.sh x2)).set c (.sh x3)).set d (.sh x4)) s { G with nx := fun ρ' s' => forP (sTup 4 (sCons (sName a) (sCons (sName b) (sCons (sName c) (sCons (sName d) sNil))))) fb l ρ' s' G, ct := fun ρ' s' => forP (sTup 4 (sCons (sName a) (sCons (sName b) (sCons (sName c) (sCons (sName d) sNil))))) fb l ρ' s' G, bk := G.nx }) :
    forP (sTup 4 (sCons (sName a) (sCons (sName b) (sCons (sName c) (sCons (sName d) sNil))))) fb (.tup [x1, x2, x3, x4] :: l) ρ s G := forP_cons (fun F h => tup4 h) h
theorem ifs_fx {S : Type} {ft : FT S} {f : FS S} {ρ : SEn} {s : S} {G : DD S} (ht : EvB (view ρ) ft false) (h : G.nx ρ s) : fIfS ft f fNx ρ s G := ifs_f ht h
theorem re_st {S : Type} {f : FS S} {ρ ρ' : SEn} {s : S} {G : DD S} (e : ρ = ρ') (h : f ρ' s G) : f ρ s G := by subst e; exact h
theorem odds {x : PV} {z : Str} {D : Vt} {xs : List Vt} {o : PV} (hD : D = .tup xs) (h : x ∈ [PV.non, .str z, tp R D, .tup [.str z, tp R D], .lst [o], .dct [] [], .bl true, .int 0]) : ∃ t : String, t ∈ ["NoneType", "bool", "int", "str", "tuple", "list", "dict"] ∧ TyP K x (.type t) := by
  simp only [List.mem_cons, List.not_mem_nil, or_false] at h
  rcases h with rfl | rfl | rfl | rfl | rfl | rfl | rfl | rfl
  · exact ⟨"NoneType", by decide, rfl⟩
  · exact ⟨"str", by decide, rfl⟩
  · exact ⟨"tuple", by decide, by subst hD; rw [tp_tup]; rfl⟩
  · exact ⟨"tuple", by decide, rfl⟩
  · exact ⟨"list", by decide, rfl⟩
  · exact ⟨"dict", by decide, rfl⟩
  · exact ⟨"bool", by decide, rfl⟩
  · exact ⟨"int", by decide, rfl⟩
theorem sp_loop2 {A : Addr → Prop} {Hs H : Hp} {d : Nat} {J : It} {G : Hp → Prop} {us : List V} {ys : List Vt} {n k l : Nat} {D : Ends} {σ : L2.St} (w : L2.Walk J us.length G (L2.YAt us)) (rl : RdL A Hs (tps R ys) us)
    (hG : ∀ H1, Chg R A Hs d (nls ys) H H1 → G H1) (hd : ∀ y ∈ ys, Pw.dep y ≤ d) (hn : d < n) (d1 : d ≤ 1000) (hk : okFs ys) (pl : ∀ a o u, ¬ A a → Hs a ≠ some (.frz o u)) (c0 : Chg R A Hs 1000 k Hs H) (bud : k + nls ys ≤ 100000)
    (l3 : l < σ.length) (fin : ∀ σ' H', (∀ i, i ≠ l → σ'[i]? = σ[i]?) → σ'.length = σ.length → Chg R A Hs d (nls ys) H H' → D.nx σ' H') :
    ∃ W : Nat → Nat → L2.St → Hp → Prop, (∃ m, W 0 m σ H) ∧ ∀ i m σ H, W i m σ H →
      (J.stop i H ∧ D.nx σ H) ∨ (J.go i H ∧ ∃ N : L2.St → Hp → Prop, (∀ σ' H', N σ' H' → ∃ m', m' < m ∧ W (i + 1) m' σ' H') ∧ ∀ x H', J.yld i H x H' → gName l x σ H' fun σ2 H2 => (tDrop (tCS (fun _ vs H Q => spSp R n (vs ++ []) H Q E0) (tCons (tVar l) tNil))) { D with nx := N, ct := N, bk := D.nx } σ2 H2) := by
  refine L2.for_it w (fun i σ' H' => (∀ i, i ≠ l → σ'[i]? = σ[i]?) ∧ σ'.length = σ.length ∧ Chg R A Hs d (nls (ys.take i)) H H') ⟨fun _ _ => rfl, rfl, Chg.refl⟩ (fun i σ' H' _ p => ?_) (fun i u σ' H' H2 hi p y => ?_) (fun σ' H' p => ?_)
  · exact hG _ (p.2.2.mono (Nat.le_refl _) (nls_take_le _ _))
  · obtain ⟨rfl, hu⟩ := y
    obtain ⟨p0, pl3, pc⟩ := p
    have ly : ys.length = us.length := by rw [← rl.len, tps_len]
    have hy : ys[i]? = some ys[i] := List.getElem?_eq_getElem (by omega)
    obtain ⟨x, hx, rx⟩ := rl.get' (tps_get (R := R) hy)
    rw [hu] at hx
    cases hx
    have my : ys[i] ∈ ys := List.getElem_mem _
    have ec := nls_take_succ hy
    have le1 := nls_take_le ys (i + 1)
    refine ⟨u, List.getElem?_set_self (by omega), A, Hs, ys[i], u, k + nls (ys.take i), rfl, rx, Nat.lt_of_le_of_lt (hd _ my) hn, okF_mem hk my, pl, Nat.le_trans (hd _ my) d1, c0.trans (pc.mono d1 (Nat.le_refl _)), by omega, fun H3 hc => ?_⟩
    refine ⟨fun j hj => by rw [List.getElem?_set_ne (Ne.symm hj)]; exact p0 j hj, by rw [List.length_set]; exact pl3, ?_⟩
    rw [ec]
    exact pc.trans (hc.mono (hd _ my) (Nat.le_refl _))
  · obtain ⟨p0, pl3, pc⟩ := p
    refine fin σ' H' p0 pl3 ?_
    have ly : ys.length = us.length := by rw [← rl.len, tps_len]
    rw [List.take_of_length_le (by omega)] at pc
    exact pc
theorem as_end {S : Type} {W : Wd S} {E : XK} {A0 : Addr → Prop} {H0 H : Hp} {σ : L2.St} {ρ : SEn} {s : S} {t : TS} {f : FS S} [ia : AS W E t f] {D : Ends} {X : XF S} {rt : PV → S → Prop} (r : RS W A0 H0 [] H σ ρ s) (x : XL W A0 H0 E X) (h : f ρ s ⟨fun _ _ => False, rt, fun _ _ => False, fun _ _ => False, X⟩)
    (krt : ∀ v H' x s', Rd A0 H' x v → Fr W.pf H0 H' → W.rel H' s' → rt x s' → D.rt v H') : t D σ H :=
  ia.run (D := D) (G := ⟨fun _ _ => False, rt, fun _ _ => False, fun _ _ => False, X⟩) r x h ⟨fun _ _ _ _ _ h => h.elim, fun _ _ _ _ _ h => h.elim, fun _ _ _ _ _ h => h.elim, krt⟩
theorem nx_mk {n b c : L2.St → Hp → Prop} {a : V → Hp → Prop} {σ : L2.St} {H : Hp} (h : n σ H) : Ends.nx { nx := n, rt := a, bk := b, ct := c } σ H := h
theorem ok_pr {f fE f_draw f_pick f_val f_fr f_f2 f_ok f_same f_mk f_kp f_sp : Addr} {fd fdE fd_draw fd_pick fd_val fd_fr fd_f2 fd_ok fd_same fd_mk fd_kp fd_sp : FuncData} (F : Fun K "_law_papers_right" "_law_papers_right" sPRight f fd) (B : Bi mg) (c : RC K mg R) (T : PC K mg R CP CD) (kQ : PEq P w K mg base R CP CD fE fdE)
    (G_draw : ∀ (p q : Addr) (Z : Addr → Prop), FnOk P w K mg base CX0 1 f_draw fd_draw ["_law_pen_here", "_law_many"] (spF (penW p q Z) 2 (preDraw p))) (b_draw : Binds K fd_draw ["_law_pen_here", "_law_many"] []) (d_draw : Df K mg "_law_draw" f_draw)
    (G_pick : ∀ (p q : Addr) (Z : Addr → Prop), FnOk P w K mg base CX0 2 f_pick fd_pick ["_law_pen_here", "_law_some"] (spF (penW p q Z) 2 (prePick p))) (b_pick : Binds K fd_pick ["_law_pen_here", "_law_some"] []) (d_pick : Df K mg "_law_pick" f_pick)
    (G_val : ∀ (p q : Addr) (Z : Addr → Prop), FnOk P w K mg base CX0 8 f_val fd_val ["_law_pen_here", "_law_deep"] (spF (penW p q Z) 2 (preVal p R 4))) (b_val : Binds K fd_val ["_law_pen_here", "_law_deep"] []) (d_val : Df K mg "_law_value" f_val)
    (G_fr : ∀ (p q : Addr) (Z : Addr → Prop), FnG P w K mg base CX0 28 f_fr fd_fr ["_law_value_here"] (spF (penW p q Z) 1 (preFR R 20))) (b_fr : Binds K fd_fr ["_law_value_here"] []) (d_fr : Df K mg "_law_fixed_right" f_fr)
    (G_f2 : ∀ (p q : Addr) (Z : Addr → Prop), FnOk P w K mg base CX0 21 f_f2 fd_f2 ["_law_value_here"] (spF (penW p q Z) 1 (preFix R 20))) (b_f2 : Binds K fd_f2 ["_law_value_here"] []) (d_f2 : Df K mg "_law_fixed" f_f2)
    (G_ok : ∀ (p q : Addr) (Z : Addr → Prop), FnOk P w K mg base CX0 24 f_ok fd_ok ["_law_value_here"] (spF (penW p q Z) 1 (preOth R 20))) (b_ok : Binds K fd_ok ["_law_value_here"] []) (d_ok : Df K mg "_law_other_kind" f_ok)
    (G_same : ∀ (p q : Addr) (Z : Addr → Prop), FnOk P w K mg base CX0 24 f_same fd_same ["_law_one", "_law_other"] (spF (penW p q Z) 2 (preSame R 20))) (b_same : Binds K fd_same ["_law_one", "_law_other"] []) (d_same : Df K mg "_law_same" f_same)
    (G_mk : ∀ (p q : Addr) (Z : Addr → Prop), FnOk P w K mg base CX0 25 f_mk fd_mk ["_law_says_no", "_law_word", "_law_parts"] (spF (penW p q Z) 3 (preMade R CP CD 20))) (b_mk : Binds K fd_mk ["_law_says_no", "_law_word", "_law_parts"] []) (d_mk : Df K mg "_law_made" f_mk)
    (G_kp : ∀ (p q : Addr) (Z : Addr → Prop), FnG P w K mg base CX0 28 f_kp fd_kp ["_law_paper", "_law_says_no", "_law_word", "_law_due"] (spF (penW p q Z) 4 (preKept R CP CD 20))) (b_kp : Binds K fd_kp ["_law_paper", "_law_says_no", "_law_word", "_law_due"] []) (d_kp : Df K mg "_law_kept" f_kp)
    (G_sp : FnOk P w K mg base CX0 22 f_sp fd_sp ["_law_value_here"] (spSp R 20)) (b_sp : Binds K fd_sp ["_law_value_here"] []) (d_sp : Df K mg "_law_spoiled" f_sp)
    : FnG P w K mg base CX0 30 f fd ["_law_pen_here"] (spX 1 prePR) := by
  refine fnG_of F sc_pr (fun vs H Q E ⟨p, c, Z, h⟩ => h.len) (fun cdv A outer s H vs Q E hr hg h => ?_)
  have nd := sc_pr.nd
  have opE := kQ.eq (X := (cxOf CX0 P w K mg base ["_law_pen_here", "_law_word", "_law_parts", "_law_due", "_law_some", "_law_like", "_law_name", "_law_says_no", "_law_other_due", "_law_same_here", "_law_one", "_law_two", "_law_other", "_law_paper", "_law_no", "_law_label", "_law_told", "_law_odd", "_law_part", "_law_turn"] "_law_papers_right" (defScope sPRight) f cdv A outer s H E).nox) rfl rfl rfl rfl rfl (hr.mono (by decide))
  have opN := kQ.neq (X := (cxOf CX0 P w K mg base ["_law_pen_here", "_law_word", "_law_parts", "_law_due", "_law_some", "_law_like", "_law_name", "_law_says_no", "_law_other_due", "_law_same_here", "_law_one", "_law_two", "_law_other", "_law_paper", "_law_no", "_law_label", "_law_told", "_law_odd", "_law_part", "_law_turn"] "_law_papers_right" (defScope sPRight) f cdv A outer s H E).nox) rfl rfl rfl rfl rfl (hr.mono (by decide))
  have hcx := hr
  obtain ⟨p, q, Z0, h⟩ := h
  have G_draw := G_draw p q (zAt H)
  have G_pick := G_pick p q (zAt H)
  have G_val := G_val p q (zAt H)
  have G_fr := G_fr p q (zAt H)
  have G_f2 := G_f2 p q (zAt H)
  have G_ok := G_ok p q (zAt H)
  have G_same := G_same p q (zAt H)
  have G_mk := G_mk p q (zAt H)
  have G_kp := G_kp p q (zAt H)
  refine ⟨_, PSs.nox (pss_cons (ps_set (i := 1) nd rfl (Or.inl rfl) (pe_cs (calls_fn G_pick (hr.mono (by decide)) b_pick .nil pass0) d_pick.1 d_pick.2 (pa_cons (pv 0) (pa_cons (pe_lst (pa_cons pe_str (pa_cons pe_str (pa_cons pe_str (pa_cons pe_str pa_nil))))) pa_nil))))
(pss_cons (ps_setLc (i := 2) (own := [("_law_turn", 19)]) (g := gName 19) (by rfl) nd rfl rfl (by rfl) (pi_range1 (by rfl) B.n_range (pa_cons (pe_cs (calls_fn G_draw (hr.mono (by decide)) b_draw .nil pass0) d_draw.1 d_draw.2 (pa_cons (pv 0) (pa_cons pe_int pa_nil))) pa_nil)) (blkOk_by (own := [("_law_turn", 19)]) (N := ["_law_pen_here", "_law_word", "_law_parts", "_law_due", "_law_some", "_law_like", "_law_name", "_law_says_no", "_law_other_due", "_law_same_here", "_law_one", "_law_two", "_law_other", "_law_paper", "_law_no", "_law_label", "_law_told", "_law_odd", "_law_part", "_law_turn"]) (sc := (defScope sPRight)) (by decide +kernel)) (fun _ _ _ _ _ => pg_name (i := 19) nd rfl (Or.inl rfl)) (fun _ _ _ _ _ => pts_nil) (fun _ _ _ _ _ => (pe_cs (calls_fn G_val (hr.mono (by decide)) b_val .nil pass0) d_val.1 d_val.2 (pa_cons (pv 0) (pa_cons pe_int pa_nil)))))
(pss_cons (ps_if (pt_cmpR (op_neD hr.units) (pe_lc (own := [("_law_part", 18)]) (g := gName 18) (by rfl) nd (pi_list (pv 2)) (blkOk_by (own := [("_law_part", 18)]) (N := ["_law_pen_here", "_law_word", "_law_parts", "_law_due", "_law_some", "_law_like", "_law_name", "_law_says_no", "_law_other_due", "_law_same_here", "_law_one", "_law_two", "_law_other", "_law_paper", "_law_no", "_law_label", "_law_told", "_law_odd", "_law_part", "_law_turn"]) (sc := (defScope sPRight)) (by decide +kernel)) (fun _ _ _ _ _ => pg_name (i := 18) nd rfl (Or.inl rfl)) (fun _ _ _ _ _ => (pts_one (pt_not (pt_val (pe_cs (callsG G_fr (hr.mono (by decide)) hg b_fr .nil pass0) d_fr.1 d_fr.2 (pa_cons (pv 18) pa_nil)))))) (fun _ _ _ _ _ => (pv 18))) (pe_lst pa_nil) (nomark _))
(pss_one (ps_ret pe_bl))
pss_nil)
(pss_cons (ps_set (i := 3) nd rfl (Or.inl rfl) (pe_callTy call_tupS (by rfl) B.n_tuple (by decide +kernel) (pa_cons (pe_lc (own := [("_law_part", 18)]) (g := gName 18) (by rfl) nd (pi_list (pv 2)) (blkOk_by (own := [("_law_part", 18)]) (N := ["_law_pen_here", "_law_word", "_law_parts", "_law_due", "_law_some", "_law_like", "_law_name", "_law_says_no", "_law_other_due", "_law_same_here", "_law_one", "_law_two", "_law_other", "_law_paper", "_law_no", "_law_label", "_law_told", "_law_odd", "_law_part", "_law_turn"]) (sc := (defScope sPRight)) (by decide +kernel)) (fun _ _ _ _ _ => pg_name (i := 18) nd rfl (Or.inl rfl)) (fun _ _ _ _ _ => pts_nil) (fun _ _ _ _ _ => (pe_cs (calls_fn G_f2 (hr.mono (by decide)) b_f2 .nil pass0) d_f2.1 d_f2.2 (pa_cons (pv 18) pa_nil)))) pa_nil)))
(pss_cons (ps_setLc (i := 4) (own := [("_law_turn", 19)]) (g := gName 19) (by rfl) nd rfl rfl (by rfl) (pi_range1 (by rfl) B.n_range (pa_cons (pe_cs (calls_fn G_pick (hr.mono (by decide)) b_pick .nil pass0) d_pick.1 d_pick.2 (pa_cons (pv 0) (pa_cons (pe_lst (pa_cons pe_int (pa_cons pe_int (pa_cons pe_int (pa_cons pe_int pa_nil))))) pa_nil))) pa_nil)) (blkOk_by (own := [("_law_turn", 19)]) (N := ["_law_pen_here", "_law_word", "_law_parts", "_law_due", "_law_some", "_law_like", "_law_name", "_law_says_no", "_law_other_due", "_law_same_here", "_law_one", "_law_two", "_law_other", "_law_paper", "_law_no", "_law_label", "_law_told", "_law_odd", "_law_part", "_law_turn"]) (sc := (defScope sPRight)) (by decide +kernel)) (fun _ _ _ _ _ => pg_name (i := 19) nd rfl (Or.inl rfl)) (fun _ _ _ _ _ => pts_nil) (fun _ _ _ _ _ => (pe_cs (calls_fn G_val (hr.mono (by decide)) b_val .nil pass0) d_val.1 d_val.2 (pa_cons (pv 0) (pa_cons pe_int pa_nil)))))
(pss_cons (ps_set (i := 5) nd rfl (Or.inl rfl) (pe_cs (calls_fn G_pick (hr.mono (by decide)) b_pick .nil pass0) d_pick.1 d_pick.2 (pa_cons (pv 0) (pa_cons (pe_lst (pa_cons (pv 4) (pa_cons (pv 2) (pa_cons (pe_callTy call_listS (by rfl) B.n_list (by decide +kernel) (pa_cons (pv 3) pa_nil)) (pa_cons (pe_step (pv 2) (po_some (pe_un un_neg pe_int))) (pa_cons (pe_op op_cat (pv 2) (pe_lst (pa_cons pe_non pa_nil))) (pa_cons (pe_slice sl_list (pv 2) po_none (po_some pe_int)) (pa_cons (pe_lst (pa_cons (pv 2) pa_nil)) (pa_cons (pe_cs (calls_fn G_ok (hr.mono (by decide)) b_ok .nil pass0) d_ok.1 d_ok.2 (pa_cons (pv 2) pa_nil)) pa_nil))))))))) pa_nil))))
(pss_cons (ps_par (i := 6) (j := 7) (by rfl) nd rfl rfl (by decide) rfl rfl (pa_cons (pe_cs (calls_fn G_pick (hr.mono (by decide)) b_pick .nil pass0) d_pick.1 d_pick.2 (pa_cons (pv 0) (pa_cons (pe_lst (pa_cons (pv 1) (pa_cons (pv 1) (pa_cons (pv 1) (pa_cons (pe_op op_addT (pv 1) pe_str) (pa_cons pe_str pa_nil)))))) pa_nil))) (pa_cons (pe_cmpR op_eq (pe_cs (calls_fn G_draw (hr.mono (by decide)) b_draw .nil pass0) d_draw.1 d_draw.2 (pa_cons (pv 0) (pa_cons pe_int pa_nil))) pe_int (nomark _)) pa_nil)) (by rfl))
(pss_cons (ps_set (i := 8) nd rfl (Or.inl rfl) (pe_callTy call_tupS (by rfl) B.n_tuple (by decide +kernel) (pa_cons (pe_lc (own := [("_law_part", 18)]) (g := gName 18) (by rfl) nd (pi_list (pv 5)) (blkOk_by (own := [("_law_part", 18)]) (N := ["_law_pen_here", "_law_word", "_law_parts", "_law_due", "_law_some", "_law_like", "_law_name", "_law_says_no", "_law_other_due", "_law_same_here", "_law_one", "_law_two", "_law_other", "_law_paper", "_law_no", "_law_label", "_law_told", "_law_odd", "_law_part", "_law_turn"]) (sc := (defScope sPRight)) (by decide +kernel)) (fun _ _ _ _ _ => pg_name (i := 18) nd rfl (Or.inl rfl)) (fun _ _ _ _ _ => pts_nil) (fun _ _ _ _ _ => (pe_cs (calls_fn G_f2 (hr.mono (by decide)) b_f2 .nil pass0) d_f2.1 d_f2.2 (pa_cons (pv 18) pa_nil)))) pa_nil)))
(pss_cons (ps_set (i := 9) nd rfl (Or.inl rfl) (pe_and (pe_cmpR op_eq (pv 6) (pv 1) (nomark _)) (pe_one (pe_cs (calls_fn G_same (hr.mono (by decide)) b_same .nil pass0) d_same.1 d_same.2 (pa_cons (pv 3) (pa_cons (pv 8) pa_nil))))))
(pss_cons (ps_par3 rfl nd (i := 10) (j := 11) (l := 12) rfl rfl rfl (by decide) (by decide) (by decide) rfl rfl rfl (pa_cons (pe_cs (calls_fn G_mk (hr.mono (by decide)) b_mk .nil pass0) d_mk.1 d_mk.2 (pa_cons pe_bl (pa_cons (pv 1) (pa_cons (pv 2) pa_nil)))) (pa_cons (pe_cs (calls_fn G_mk (hr.mono (by decide)) b_mk .nil pass0) d_mk.1 d_mk.2 (pa_cons pe_bl (pa_cons (pv 1) (pa_cons (pv 2) pa_nil)))) (pa_cons (pe_cs (calls_fn G_mk (hr.mono (by decide)) b_mk .nil pass0) d_mk.1 d_mk.2 (pa_cons (pv 7) (pa_cons (pv 6) (pa_cons (pv 5) pa_nil)))) pa_nil))) (by rfl))
(pss_cons (ps_for PassesOwn.never rfl (pi_list (pe_lst (pa_cons (pe_tup (pa_cons (pv 10) (pa_cons pe_bl (pa_cons (pv 1) (pa_cons (pv 3) pa_nil))))) (pa_cons (pe_tup (pa_cons (pv 11) (pa_cons pe_bl (pa_cons (pv 1) (pa_cons (pv 3) pa_nil))))) (pa_cons (pe_tup (pa_cons (pv 12) (pa_cons (pv 7) (pa_cons (pv 6) (pa_cons (pv 8) pa_nil))))) pa_nil))))) (pg_tup (by rfl) (pgs_cons (pg_name (i := 13) nd rfl (Or.inl rfl)) (pgs_cons (pg_name (i := 14) nd rfl (Or.inl rfl)) (pgs_cons (pg_name (i := 15) nd rfl (Or.inl rfl)) (pgs_cons (pg_name (i := 16) nd rfl (Or.inl rfl)) pgs_nil)))))
(pss_one (ps_if (pt_not (pt_val (pe_cs (callsG G_kp (hr.mono (by decide)) hg b_kp .nil pass0) d_kp.1 d_kp.2 (pa_cons (pv 13) (pa_cons (pv 14) (pa_cons (pv 15) (pa_cons (pv 16) pa_nil)))))))
(pss_one (ps_ret pe_bl))
pss_nil)))
(pss_cons (ps_if (PW.pt (pw_or (pt_cmpR opN (pv 10) (pv 11) (nomark _)) (pw_or (pt_cmpR opN (pv 11) (pv 10) (nomark _)) (pw_or (pt_not (pt_cmpR opE (pv 10) (pv 11) (nomark _))) (pw_or (pt_cmpR op_ne (pe_cmpR opE (pv 10) (pv 12) (nomark _)) (pv 9) (nomark _)) (pw_or (pt_cmpR op_ne (pe_cmpR opE (pv 12) (pv 11) (nomark _)) (pv 9) (nomark _)) (pw_or1 (pt_cmpR op_eq (pe_cmpR opN (pv 11) (pv 12) (nomark _)) (pv 9) (nomark _)))))))))
(pss_one (ps_ret pe_bl))
pss_nil)
(pss_cons (ps_set (i := 17) nd rfl (Or.inl rfl) (pe_cs (calls_fn G_pick (hr.mono (by decide)) b_pick .nil pass0) d_pick.1 d_pick.2 (pa_cons (pv 0) (pa_cons (pe_lst (pa_cons pe_non (pa_cons (pv 1) (pa_cons (pv 3) (pa_cons (pe_tup (pa_cons (pv 1) (pa_cons (pv 3) pa_nil))) (pa_cons (pe_lst (pa_cons (pv 10) pa_nil)) (pa_cons pe_dnewK (pa_cons pe_bl (pa_cons pe_int pa_nil))))))))) pa_nil))))
(pss_cons (ps_if (PW.pt (pw_or (pt_cmpR opE (pv 10) (pv 17) (nomark _)) (pw_or (pt_cmpR opE (pv 11) (pv 17) (nomark _)) (pw_or1 (pt_not (pt_cmpR opN (pv 10) (pv 17) (nomark _)))))))
(pss_one (ps_ret pe_bl))
pss_nil)
(pss_cons (ps_thaw (ps_for PassesOwn.never rfl (pi_list (pe_op op_cat (pv 2) (pv 5))) (pg_name (i := 18) nd rfl (Or.inl rfl))
(pss_one (ps_expr (pe_cs (calls_fn G_sp (hr.mono (by decide)) b_sp .nil pass0) d_sp.1 d_sp.2 (pa_cons (pv 18) pa_nil))))))
(pss_one (ps_ret (pe_and (pe_cs (callsG G_kp (hr.mono (by decide)) hg b_kp .nil pass0) d_kp.1 d_kp.2 (pa_cons (pv 10) (pa_cons pe_bl (pa_cons (pv 1) (pa_cons (pv 3) pa_nil))))) (pe_and (pe_cs (callsG G_kp (hr.mono (by decide)) hg b_kp .nil pass0) d_kp.1 d_kp.2 (pa_cons (pv 11) (pa_cons pe_bl (pa_cons (pv 1) (pa_cons (pv 3) pa_nil))))) (pe_one (pe_cs (callsG G_kp (hr.mono (by decide)) hg b_kp .nil pass0) d_kp.1 d_kp.2 (pa_cons (pv 12) (pa_cons (pv 7) (pa_cons (pv 6) (pa_cons (pv 8) pa_nil))))))))))))))))))))))))), ?_⟩
  obtain ⟨hl, A1, xs, s0, F0, X0, ct, rl, xl, ⟨rfl, hk, hF⟩, kq⟩ := h
  obtain ⟨v0, vs0, e0, r0, e1⟩ := rl
  cases e1
  subst e0
  cases r0
  have rel' : (penW p q (zAt H)).rel H s0 := ⟨ct.rel.1, fun a ⟨o, u, e⟩ n => by rw [e] at n; cases n⟩
  have ct' : Ct (penW p q (zAt H)) (fun a => H a ≠ none) H s0 := ⟨fun a z => (penW p q (zAt H)).lives rel' z, fun a z => z, rel'⟩
  have r := rs_start (N := N20) ct' (RdL.cons (x := .adr p) (v := .ref p) rfl RdL.nil)
  have krt : ∀ v H' x s', Rd (fun a => H a ≠ none) H' x v → Fr (penW p q (zAt H)).pf H H' → (penW p q (zAt H)).rel H' s' → F0 x s' → Q v H' := fun v H' x s' rx f w hx => kq v H' x s' (rx.less ct.lv) f ⟨w.1, fun a z n => by
    by_cases e : a = p
    · rw [e] at n; exact pen_live w.1 n
    · cases q1 : H a with
      | none => exact ct.rel.2 a z q1
      | some o => rw [f a o e q1] at n; cases n⟩ hx
  refine assoc (assoc (assoc (assoc (assoc (assoc (assoc (assoc (assoc (assoc (assoc (assoc (assoc ?_))))))))))))
  refine cut2 (W := penW p q (zAt H)) (E := E0) (X := fun _ _ _ _ => False) (rt := F0) r (fun _ _ _ _ _ _ _ _ _ _ _ _ q => q.elim) (Pst p R CP CD s0) ?_ (fun σ' H' ρ' s' r' hP => ?_) krt
  · have init : initS N20 [PV.adr p] = [.sh (.adr p), .no, .no, .no, .no, .no, .no, .no, .no, .no, .no, .no, .no, .no, .no, .no, .no, .no, .no, .no] := rfl
    rw [init]
    have e3 : cst 3 = 400 := by decide
    have e2 : cst 2 = 130 := by decide
    refine fassoc (fassoc (fassoc (fassoc (fassoc (fassoc (fassoc (fassoc (fassoc (fassoc (fassoc (fassoc ?_)))))))))))
    -- the word
    refine asg_R (pickR (l := [.str "x", .str "greatest", .str "", .str "no way"]) rfl (evp_lst (evps_cons evp_c (evps_cons evp_c (evps_cons evp_c (evps_cons evp_c evps_nil)))) (by show 4 ≤ 1000000; decide)) (by simp) (by show 4 ≤ 1000; decide) (by omega)) fun x k1 ⟨m1, hk1⟩ => .inl ?_
    obtain ⟨z, rfl, hz⟩ := words m1
    -- the parts
    refine asg_R (vals_R (p := p) (R := R) (d := 3) (m := 3) (by decide) (fun G X g => ?_) (by decide) (by omega) (fun v => rfl)) fun x k2 ⟨⟨ys, hy3, hyd, ex⟩, hk2⟩ => .inl ?_
    · refine cons_R (fr := fNil) (F := fun xs s1 => one xs fun x => asI x fun j => (-(2 ^ 62) ≤ j ∧ j < 2 ^ 62) ∧ G (rngP 0 j.toNat) s1) (drawR (n := 4) rfl evp_c (by decide) (by decide) (by omega)) fun x s1 ⟨⟨j, hj, ex⟩, hs⟩ => ?_
      subst ex
      exact ⟨⟨by omega, by omega⟩, g _ _ (by rw [rngP_len]; show j ≤ 3; omega) hs⟩
    subst ex
    have hys : Held ys := ⟨by omega, fun y hy => (hyd y hy).part (by decide)⟩
    -- fixed of each
    have hyr : ∀ y ∈ ys, Pw.dep y < 20 ∧ 2 * Pw.dep y + 2 < 20 ∧ okF y ∧ okT y = true ∧ Pw.wt y ≤ 5000 := fun y hy => by
      have h := hyd y hy
      have w3 : wB 3 = 118 := by decide
      have := h.dep
      have := h.wt
      exact ⟨by omega, by omega, h.okF, h.ok, by omega⟩
    refine ifs_f (evb_of (evp_op (x := .lst []) (y := .lst []) (evp_is (evp_lcf (i := 18) (l := ys) (a := tp R) (b := tp R) (q := fun _ => false) (items := tps R ys) (fi_l (evp_var rfl)) (tps_map R ys) (by omega) (fun y hy => evb_not (b := true) (evb_of (evp_call (evps_cons (evp_var rfl) evps_nil) rfl fun s F X k => ⟨y, rfl, (hyr y hy).1, (hyr y hy).2.1, (hyr y hy).2.2.1, (hyr y hy).2.2.2.1, (hyr y hy).2.2.2.2, k⟩))) fun y hy => evp_var rfl) (by simp)) (evp_lst evps_nil (by decide)) fun F k => ne_keys [] (fun _ q => nomatch q) F k)) (.inl ?_)
    refine set_ok (fixl (us := ys) (by omega) (fun y hy => ⟨(hyr y hy).1, (hyr y hy).2.2.1⟩) (fun _ => rfl) rfl) (.inl ?_)
    -- some more
    refine asg_R (vals_R (p := p) (R := R) (d := 2) (m := 4) (by decide) (fun G X g => ?_) (by decide) (by omega) (fun v => rfl)) fun x k3 ⟨⟨us, hu4, hud, ex⟩, hk3⟩ => .inl ?_
    · refine cons_R (fr := fNil) (F := fun xs s1 => one xs fun x => asI x fun j => (-(2 ^ 62) ≤ j ∧ j < 2 ^ 62) ∧ G (rngP 0 j.toNat) s1) (pickR (l := [.int 0, .int 1, .int 2, .int 4]) rfl (evp_lst (evps_cons evp_c (evps_cons evp_c (evps_cons evp_c (evps_cons evp_c evps_nil)))) (by show 4 ≤ 1000000; decide)) (by simp) (by show 4 ≤ 1000; decide) (by omega)) fun x s1 ⟨m, hs⟩ => ?_
      simp only [List.mem_cons, List.not_mem_nil, or_false] at m
      rcases m with rfl | rfl | rfl | rfl <;> exact ⟨⟨by decide, by decide⟩, g _ _ (by rw [rngP_len]; decide) hs⟩
    subst ex
    refine re_st (ρ' := [.sh (.adr p), .sh (.str z), .sh (.lst (tps R ys)), .sh (tp R (.tup (fixTs ys))), .sh (.lst (tps R us)), .no, .no, .no, .no, .no, .no, .no, .no, .no, .no, .no, .no, .no, .no, .no]) rfl ?_
    -- what the other is like
    have d2 : Pw.dep (.lst ys) < 20 := by
      rw [dep_lst]
      have := K03.deps_le ys 3 fun y hy => (hyd y hy).dep
      omega
    have kl : okF (.lst ys) := by unfold okF; exact ⟨by omega, okFs_of fun y hy => (hyr y hy).2.2.1⟩
    refine asg_R (pickR (l := [PV.lst (tps R us), .lst (tps R ys), .lst (tps R (fixTs ys)), .lst (tps R ys).reverse, .lst (tps R ys ++ [.non]), .lst (cutP (tps R ys) none (some 1)), .lst [.lst (tps R ys)], tp R (othT (.lst ys))]) rfl (evp_lst (evps_cons (evp_var rfl) (evps_cons (evp_var rfl) (evps_cons (evp_listS (evp_is (evp_var rfl) tp_tup)) (evps_cons (evp_step (evp_var rfl) (evp_un evp_c fun F k => k)) (evps_cons (evp_cat (evp_var rfl) (evp_lst (evps_cons evp_c evps_nil) (by show 1 ≤ 1000000; decide)) (by rw [tps_len]; show ys.length + 1 ≤ 1000000; omega)) (evps_cons (evp_hi (evp_var rfl) evp_c) (evps_cons (evp_lst (evps_cons (evp_var rfl) evps_nil) (by show 1 ≤ 1000000; decide)) (evps_cons (evp_call (evps_cons (evp_is (evp_var rfl) tp_lst.symm) evps_nil) rfl fun s F X k => ⟨.lst ys, rfl, d2, kl, k⟩) evps_nil)))))))) (by show 8 ≤ 1000000; decide)) (by simp) (by show 8 ≤ 1000; decide) (by omega)) fun x k4 ⟨m4, hk4⟩ => .inl ?_
    obtain ⟨zs, rfl, hzs⟩ := like_of hy3 hyd hu4 hud m4
    -- its name, whether it says no
    refine parRR (P := fun x k' => (∃ nm : Str, x = .str nm ∧ okT (.str nm) = true) ∧ k4 ≤ k' + 1) (Q := fun _ k5 x k' => (∃ no : Bool, x = .bl no) ∧ k5 ≤ k' + 1) (fun G X g => ?_) (fun x k5 hx5 G X g => ?_) fun x k5 y k6 ⟨⟨nm, ex, hnm⟩, hk5⟩ ⟨⟨no, ey⟩, hk6⟩ => .inl ?_
    · refine pickR1 (l := [PV.str z, .str z, .str z, .str (z ++ "s"), .str ""]) rfl (evp_lst (evps_cons (evp_var rfl) (evps_cons (evp_var rfl) (evps_cons (evp_var rfl) (evps_cons (evp_op (evp_var rfl) evp_c fun F k => ⟨?_, k⟩) (evps_cons evp_c evps_nil))))) (by show 5 ≤ 1000000; decide)) (by simp) (by show 5 ≤ 1000; decide) (by omega) G X fun x k' ⟨m, hk'⟩ => g _ _ ⟨names hz m, hk'⟩
      have := hz.2.2
      have : ("s" : Str).length = 1 := by decide +kernel
      omega
    · refine op_R (drawR1 (n := 2) rfl evp_c (by decide) (by decide) (by omega)) fun x s1 ⟨⟨j, hj, ex⟩, hs⟩ => ?_
      subst ex
      exact g _ _ ⟨⟨_, rfl⟩, hs⟩
    subst ex ey
    -- what the other is to hold; whether it is the same
    have hys : Held ys := ⟨by omega, fun y hy => (hyd y hy).part (by decide)⟩
    refine set_ok (fixl1 (us := zs) hzs.len (fun y hy => ⟨by have := (hzs.each y hy).dep; omega, (hzs.each y hy).okF⟩) (fun _ => rfl) rfl) (.inl ?_)
    have fxy : fxT (.tup (fixTs ys)) = true := by unfold fxT; exact hys.fx
    have fxz : fxT (.tup (fixTs zs)) = true := by unfold fxT; exact hzs.fx
    have dy := hys.fdep
    have dz := hzs.fdep
    refine set_ok (x := .bl (decide (nm = z) && Pw.eqT (.tup (fixTs ys)) (.tup (fixTs zs)))) (evp_andV (evp_op (evp_var rfl) (evp_var rfl) fun F k => k) fun _ => evp_call (evps_cons (evp_var (x := tp R (.tup (fixTs ys))) rfl) (evps_cons (evp_var (x := tp R (.tup (fixTs zs))) rfl) evps_nil)) rfl fun s F X k => ⟨_, _, rfl, by omega, fxy, fxz, hys.fokF, hzs.fokF, k⟩) (.inl ?_)
    -- the papers
    refine par3_ok (evps_cons (evp_call (z := .ins CP papN (papX R z (fixTs ys))) (evps_cons evp_c (evps_cons (evp_var rfl) (evps_cons (evp_var rfl) evps_nil))) rfl fun s F X k => ⟨false, z, ys, rfl, hys.len, by have := hys.dep; omega, hys.okF, k⟩) (evps_cons (evp_call (z := .ins CD papN (papX R z (fixTs ys))) (evps_cons evp_c (evps_cons (evp_var rfl) (evps_cons (evp_var rfl) evps_nil))) rfl fun s F X k => ⟨true, z, ys, rfl, hys.len, by have := hys.dep; omega, hys.okF, k⟩) (evps_cons (evp_call (z := .ins (if no then CD else CP) papN (papX R nm (fixTs zs))) (evps_cons (evp_var rfl) (evps_cons (evp_var rfl) (evps_cons (evp_var rfl) evps_nil))) rfl fun s F X k => ⟨no, nm, zs, rfl, hzs.len, by have := hzs.dep; omega, hzs.okF, k⟩) evps_nil))) (.inl ?_)
    refine re_st (ρ' := [.sh (.adr p), .sh (.str z), .sh (.lst (tps R ys)), .sh (tp R (.tup (fixTs ys))), .sh (.lst (tps R us)), .sh (.lst (tps R zs)), .sh (.str nm), .sh (.bl no), .sh (tp R (.tup (fixTs zs))), .sh (.bl (decide (nm = z) && Pw.eqT (.tup (fixTs ys)) (.tup (fixTs zs)))), .sh (.ins CP papN (papX R z (fixTs ys))), .sh (.ins CD papN (papX R z (fixTs ys))), .sh (.ins (if no then CD else CP) papN (papX R nm (fixTs zs))), .no, .no, .no, .no, .no, .no, .no]) rfl ?_
    -- each holds what it is to hold
    have kp : ∀ (r : En) (a b c' d : FE Nat) (no : Bool) (u : Str) (as : List Vt), Held as → okT (.str u) = true → EvPs r (fCons a (fCons b (fCons c' (fCons d fNil)))) [.ins (if no then CD else CP) papN (papX R u (fixTs as)), .bl no, .str u, tp R (.tup (fixTs as))] → EvB r (fNot (Pv.fB (fCall 4 (preKept R CP CD 20) (List.map toPV []) (fCons a (fCons b (fCons c' (fCons d fNil))))))) false := fun r a b c' d no u as ha hu hv => evb_not (b := true) (evb_of (evp_call hv rfl fun s F X k => ⟨no, u, fixTs as, rfl, ha.fx, by have := ha.fdep; omega, ha.fokF, ha.fok, hu, ha.fwt, k⟩))
    refine seq_i (forL (items := [.tup [.ins CP papN (papX R z (fixTs ys)), .bl false, .str z, tp R (.tup (fixTs ys))], .tup [.ins CD papN (papX R z (fixTs ys)), .bl true, .str z, tp R (.tup (fixTs ys))], .tup [.ins (if no then CD else CP) papN (papX R nm (fixTs zs)), .bl no, .str nm, tp R (.tup (fixTs zs))]]) ?_ ?_)
    · exact evp_lst (evps_cons (evp_tup (evps_cons (evp_var rfl) (evps_cons evp_c (evps_cons (evp_var rfl) (evps_cons (evp_var rfl) evps_nil)))) (by show 4 ≤ 1000000; decide)) (evps_cons (evp_tup (evps_cons (evp_var rfl) (evps_cons evp_c (evps_cons (evp_var rfl) (evps_cons (evp_var rfl) evps_nil)))) (by show 4 ≤ 1000000; decide)) (evps_cons (evp_tup (evps_cons (evp_var rfl) (evps_cons (evp_var rfl) (evps_cons (evp_var rfl) (evps_cons (evp_var rfl) evps_nil)))) (by show 4 ≤ 1000000; decide)) evps_nil))) (by show 3 ≤ 1000000; decide)
    refine forP_4 (re_st (ρ' := [.sh (.adr p), .sh (.str z), .sh (.lst (tps R ys)), .sh (tp R (.tup (fixTs ys))), .sh (.lst (tps R us)), .sh (.lst (tps R zs)), .sh (.str nm), .sh (.bl no), .sh (tp R (.tup (fixTs zs))), .sh (.bl (decide (nm = z) && Pw.eqT (.tup (fixTs ys)) (.tup (fixTs zs)))), .sh (.ins CP papN (papX R z (fixTs ys))), .sh (.ins CD papN (papX R z (fixTs ys))), .sh (.ins (if no then CD else CP) papN (papX R nm (fixTs zs))), .sh (.ins CP papN (papX R z (fixTs ys))), .sh (.bl false), .sh (.str z), .sh (tp R (.tup (fixTs ys))), .no, .no, .no]) rfl (ifs_fx (kp _ _ _ _ _ false z ys hys hz.1 ?_) ?_))
    · exact (evps_cons (evp_var rfl) (evps_cons (evp_var rfl) (evps_cons (evp_var rfl) (evps_cons (evp_var rfl) evps_nil))))
    refine forP_4 (re_st (ρ' := [.sh (.adr p), .sh (.str z), .sh (.lst (tps R ys)), .sh (tp R (.tup (fixTs ys))), .sh (.lst (tps R us)), .sh (.lst (tps R zs)), .sh (.str nm), .sh (.bl no), .sh (tp R (.tup (fixTs zs))), .sh (.bl (decide (nm = z) && Pw.eqT (.tup (fixTs ys)) (.tup (fixTs zs)))), .sh (.ins CP papN (papX R z (fixTs ys))), .sh (.ins CD papN (papX R z (fixTs ys))), .sh (.ins (if no then CD else CP) papN (papX R nm (fixTs zs))), .sh (.ins CD papN (papX R z (fixTs ys))), .sh (.bl true), .sh (.str z), .sh (tp R (.tup (fixTs ys))), .no, .no, .no]) rfl (ifs_fx (kp _ _ _ _ _ true z ys hys hz.1 ?_) ?_))
    · exact (evps_cons (evp_var rfl) (evps_cons (evp_var rfl) (evps_cons (evp_var rfl) (evps_cons (evp_var rfl) evps_nil))))
    refine forP_4 (re_st (ρ' := [.sh (.adr p), .sh (.str z), .sh (.lst (tps R ys)), .sh (tp R (.tup (fixTs ys))), .sh (.lst (tps R us)), .sh (.lst (tps R zs)), .sh (.str nm), .sh (.bl no), .sh (tp R (.tup (fixTs zs))), .sh (.bl (decide (nm = z) && Pw.eqT (.tup (fixTs ys)) (.tup (fixTs zs)))), .sh (.ins CP papN (papX R z (fixTs ys))), .sh (.ins CD papN (papX R z (fixTs ys))), .sh (.ins (if no then CD else CP) papN (papX R nm (fixTs zs))), .sh (.ins (if no then CD else CP) papN (papX R nm (fixTs zs))), .sh (.bl no), .sh (.str nm), .sh (tp R (.tup (fixTs zs))), .no, .no, .no]) rfl (ifs_fx (kp _ _ _ _ _ no nm zs hzs hnm ?_) ?_))
    · exact (evps_cons (evp_var rfl) (evps_cons (evp_var rfl) (evps_cons (evp_var rfl) (evps_cons (evp_var rfl) evps_nil))))
    refine Or.inl ?_
    -- == and != of them
    have oC : Two2 CP CD (if no then CD else CP) := by cases no <;> first | exact .inl rfl | exact .inr rfl
    have es : Pw.eqT (.tup (fixTs zs)) (.tup (fixTs ys)) = Pw.eqT (.tup (fixTs ys)) (.tup (fixTs zs)) := eqT_symm _ _ fxz fxy
    have er : Pw.eqT (.tup (fixTs ys)) (.tup (fixTs ys)) = true := Pw.eqT_refl _ fxy
    have ez : decide (z = nm) = decide (nm = z) := by rw [decide_eq_decide]; exact eq_comm
    generalize hS : (decide (nm = z) && Pw.eqT (.tup (fixTs ys)) (.tup (fixTs zs))) = sm
    refine seq_i (ifs_fx ?_ ?_)
    · refine evb_or (b := false) (c := false) (evb_of (evp_op (evp_var rfl) (evp_var rfl) fun F k => cmp_ok kQ T (.inl rfl) (.inr rfl) hys.fx hys.fx (by omega) (by omega) (by rw [decide_eq_true rfl, er]; exact k))) fun _ => ?_
      refine evb_or (b := false) (c := false) (evb_of (evp_op (evp_var rfl) (evp_var rfl) fun F k => cmp_ok kQ T (.inr rfl) (.inl rfl) hys.fx hys.fx (by omega) (by omega) (by rw [decide_eq_true rfl, er]; exact k))) fun _ => ?_
      refine evb_or (b := !true) (c := false) (evb_not (evb_of (evp_op (evp_var rfl) (evp_var rfl) fun F k => cmp_ok kQ T (.inl rfl) (.inr rfl) hys.fx hys.fx (by omega) (by omega) (by rw [decide_eq_true rfl, er]; exact k)))) fun _ => ?_
      refine evb_or (b := false) (c := false) (evb_of (evp_op (x := .bl sm) (evp_op (evp_var rfl) (evp_var rfl) fun F k => cmp_ok kQ T (.inl rfl) oC hys.fx hzs.fx (by omega) (by omega) (by rw [ez, hS, Bool.bne_false]; exact k)) (evp_var rfl) fun F k => ?_)) fun _ => ?_
      · show F (.bl (!decide (sm = sm)))
        rw [decide_eq_true rfl]; exact k
      refine evb_or (b := false) (c := false) (evb_of (evp_op (x := .bl sm) (evp_op (evp_var rfl) (evp_var rfl) fun F k => cmp_ok kQ T oC (.inr rfl) hzs.fx hys.fx (by omega) (by omega) (by rw [es, hS, Bool.bne_false]; exact k)) (evp_var rfl) fun F k => ?_)) fun _ => ?_
      · show F (.bl (!decide (sm = sm)))
        rw [decide_eq_true rfl]; exact k
      refine evb_of (evp_op (x := .bl (!sm)) (evp_op (evp_var rfl) (evp_var rfl) fun F k => cmp_ok kQ T (.inr rfl) oC hys.fx hzs.fx (by omega) (by omega) (by rw [ez, hS, Bool.bne_true]; exact k)) (evp_var rfl) fun F k => ?_)
      show F (.bl (decide ((!sm) = sm)))
      rw [decide_eq_false (by cases sm <;> decide)]; exact k
    refine .inl ?_
    -- and beside what is no paper
    refine seq_i (asg_R (pickR1 (l := [PV.non, .str z, tp R (.tup (fixTs ys)), .tup [.str z, tp R (.tup (fixTs ys))], .lst [.ins CP papN (papX R z (fixTs ys))], .dct [] [], .bl true, .int 0]) rfl ?_ (by simp) (by show 8 ≤ 1000; decide) (by omega)) fun x k7 ⟨m7, hk7⟩ => .inl ?_)
    · exact evp_lst (evps_cons evp_c (evps_cons (evp_var rfl) (evps_cons (evp_var rfl) (evps_cons (evp_tup (evps_cons (evp_var rfl) (evps_cons (evp_var rfl) evps_nil)) (by show 2 ≤ 1000000; decide)) (evps_cons (evp_lst (evps_cons (evp_var rfl) evps_nil) (by show 1 ≤ 1000000; decide)) (evps_cons evp_dict0 (evps_cons evp_c (evps_cons evp_c evps_nil)))))))) (by show 8 ≤ 1000000; decide)
    obtain ⟨ty, ht, hty⟩ := odds (K := K) rfl m7
    refine ifs_fx ?_ ?_
    · refine evb_or (b := false) (c := false) (evb_of (evp_op (evp_var rfl) (evp_var rfl) fun F k => cmp_odd kQ (.inl rfl) ht hty k)) fun _ => evb_or (b := false) (c := false) (evb_of (evp_op (evp_var rfl) (evp_var rfl) fun F k => cmp_odd kQ (.inr rfl) ht hty k)) fun _ => evb_not (b := true) (evb_of (evp_op (evp_var rfl) (evp_var rfl) fun F k => cmp_odd kQ (.inl rfl) ht hty k))
    exact ⟨z, nm, ys, zs, no, _, _, _, _, _, _, _, hys, hzs, hz.1, hnm, by omega, rfl⟩
  · obtain ⟨z, nm, ys, zs, no, x4, x9, x13, x14, x15, x16, x17, hys, hzs, hz, hnm, hs', eρ⟩ := hP
    subst eρ
    obtain ⟨v2, e2, r2⟩ := r'.sh 2 _ rfl
    obtain ⟨v5, e5, r5⟩ := r'.sh 5 _ rfl
    have r2 : Rd (fun a => H a ≠ none) H' _ _ := r2.less fun a z => .inl z
    have r2 := rd_thaw (Z := zAt H) r2
    have r5 : Rd (fun a => H a ≠ none) H' _ _ := r5.less fun a z => .inl z
    have r5 := rd_thaw (Z := zAt H) r5
    obtain ⟨a2, vs2, rfl, n2, h2, l2⟩ := r2
    obtain ⟨a5, vs5, rfl, n5, h5, l5⟩ := r5
    have len20 : σ'.length = 20 := r'.len.symm
    have ly2 : vs2.length = ys.length := by rw [← l2.len, tps_len]
    have ly5 : vs5.length = zs.length := by rw [← l5.len, tps_len]
    have hy4 := hys.len
    have hz4 := hzs.len
    have parts : ∀ y ∈ ys ++ zs, Part y := fun y m => (List.mem_append.mp m).elim (hys.each y) (hzs.each y)
    have bud : nls (ys ++ zs) ≤ 8 * 400 := by
      refine Nat.le_trans (nls_wts _) ?_
      rw [wts_sum]
      refine Nat.le_trans (sum_le (c := 400) fun q hq => ?_) (by rw [List.length_map, List.length_append]; exact Nat.mul_le_mul_right _ (by omega))
      obtain ⟨y, hy, rfl⟩ := List.mem_map.mp hq
      exact (parts y hy).wt
    have plain : ∀ (a : Addr) (o : Obj) (u : HO), ¬ H a ≠ none → thaw (zAt H) H' a ≠ some (.frz o u) := fun a o u na => thaw_plain (fun ⟨o1, u1, e1⟩ => na (by rw [e1]; exact fun z => nomatch z)) o u
    refine ⟨_, e2, _, e5, a2, a5, vs2, vs5, rfl, rfl, h2, h5, sz (by omega), fun P hP => ⟨P, rfl, ⟨_, sq_of upd_same⟩, ?_⟩⟩
    have exP : Ex (thaw (zAt H) H') (upd (thaw (zAt H) H') P (.lst (vs2 ++ vs5))) := Ex.new hP
    refine sp_loop2 (R := R) (A := fun a => H a ≠ none) (Hs := thaw (zAt H) H') (d := 8) (k := 0) (ys := ys ++ zs) L2.walk_list (by rw [tps_app]; exact l2.app l5) (fun H1 hc => sq_of (hc.new hP upd_same)) (fun y m => (parts y m).dep) (by decide) (by decide) (okFs_of fun y m => (parts y m).okF) plain (Chg.of exP) (by omega) (by omega) fun σ2 H2 hσ hl hc => ?_
    have rs := rs_after (R := R) (σ2 := σ2) (ρ2 := [.sh (.adr p), .sh (.str z), .no, .sh (tp R (.tup (fixTs ys))), .no, .no, .sh (.str nm), .sh (.bl no), .sh (tp R (.tup (fixTs zs))), .no, .sh (.ins CP papN (papX R z (fixTs ys))), .sh (.ins CD papN (papX R z (fixTs ys))), .sh (.ins (if no then CD else CP) papN (papX R nm (fixTs zs))), .no, .no, .no, .no, .no, .no, .no]) r' (fun a z => z) (fun a o u e => ⟨o, u, e⟩) (fun i a x e => ?_) ((Chg.of (j := 0) exP).trans hc) (by rw [hl, len20]; rfl) (fun i x e => ?_) (fun i a x e => ?_)
    · refine nx_mk ?_
      refine as_end (W := penW p q (zAt H)) (E := E0) (X := fun _ _ _ _ => False) (rt := F0) rs (fun _ _ _ _ _ _ _ _ _ _ _ _ q => q.elim) ?_ krt
      have kp : ∀ (r : En) (a b c' d : FE Nat) (no : Bool) (u : Str) (as : List Vt), Held as → okT (.str u) = true → EvPs r (fCons a (fCons b (fCons c' (fCons d fNil)))) [.ins (if no then CD else CP) papN (papX R u (fixTs as)), .bl no, .str u, tp R (.tup (fixTs as))] → EvP r (fCall 4 (preKept R CP CD 20) (List.map toPV []) (fCons a (fCons b (fCons c' (fCons d fNil))))) (.bl true) := fun r a b c' d no u as ha hu hv => evp_call hv rfl fun s F X k => ⟨no, u, fixTs as, rfl, ha.fx, by have := ha.fdep; omega, ha.fokF, ha.fok, hu, ha.fwt, k⟩
      refine ret_ok (x := .bl (true && (true && true))) (evp_andV (kp _ _ _ _ _ false z ys hys hz (evps_cons (evp_var rfl) (evps_cons evp_c (evps_cons (evp_var rfl) (evps_cons (evp_var rfl) evps_nil))))) fun _ => evp_andV (kp _ _ _ _ _ true z ys hys hz (evps_cons (evp_var rfl) (evps_cons evp_c (evps_cons (evp_var rfl) (evps_cons (evp_var rfl) evps_nil))))) fun _ => kp _ _ _ _ _ no nm zs hzs hnm (evps_cons (evp_var rfl) (evps_cons (evp_var rfl) (evps_cons (evp_var rfl) (evps_cons (evp_var rfl) evps_nil))))) (hF s' hs')
    · match i with
      | 0 | 1 | 2 | 3 | 4 | 5 | 6 | 7 | 8 | 9 | 10 | 11 | 12 | 13 | 14 | 15 | 16 | 17 | 18 | 19 => cases e
      | i + 20 => cases e
    · have fxy : noLD (tp R (.tup (fixTs ys))) = true := noLD_tp (by unfold fxT; exact hys.fx)
      have fxz : noLD (tp R (.tup (fixTs zs))) = true := noLD_tp (by unfold fxT; exact hzs.fx)
      have pap : ∀ (C : Addr) (u : Str) (as : List Vt), noLD (tp R (.tup as)) = true → noLD (.ins C papN (papX R u as)) = true := fun C u as h => by
        show (noLD (.str u) && (noLD (tp R (.tup as)) && noLDs [])) = true
        rw [h]; rfl
      match i, e with
      | 0, e => cases e; exact ⟨rfl, hσ 0 (by decide), rfl⟩
      | 1, e => cases e; exact ⟨rfl, hσ 1 (by decide), rfl⟩
      | 3, e => cases e; exact ⟨rfl, hσ 3 (by decide), fxy⟩
      | 6, e => cases e; exact ⟨rfl, hσ 6 (by decide), rfl⟩
      | 7, e => cases e; exact ⟨rfl, hσ 7 (by decide), rfl⟩
      | 8, e => cases e; exact ⟨rfl, hσ 8 (by decide), fxz⟩
      | 10, e => cases e; exact ⟨rfl, hσ 10 (by decide), pap _ _ _ fxy⟩
      | 11, e => cases e; exact ⟨rfl, hσ 11 (by decide), pap _ _ _ fxy⟩
      | 12, e => cases e; exact ⟨rfl, hσ 12 (by decide), pap _ _ _ fxz⟩
      | 2, e | 4, e | 5, e | 9, e | 13, e | 14, e | 15, e | 16, e | 17, e | 18, e | 19, e => cases e
      | i + 20, e => cases e
    · match i with
      | 0 | 1 | 2 | 3 | 4 | 5 | 6 | 7 | 8 | 9 | 10 | 11 | 12 | 13 | 14 | 15 | 16 | 17 | 18 | 19 => cases e
      | i + 20 => cases e
end
end K03
end

section -- K03n
set_option linter.all false
set_option maxRecDepth 100000
set_option maxHeartbeats 4000000
set_option synthInstance.maxSize 10000
set_option synthInstance.maxHeartbeats 4000000
/-! the law -/
namespace K03
open PySem PySem.Spec L2 Pk Evl Pv Pw
open PyProof.Rows hiding St
instance ae_callX {p c : Addr} {Z : Addr → Prop} {E : XK} {n : Nat} {pre : Addr → FP Nat} {dvs : List V} {ta : TA} {fa : FA Nat} [ia : AA (penW p c Z) E ta fa] : AE (penW p c Z) E (tCS (fun _ vs H Q => spX n pre (vs ++ dvs) H Q E0) ta) (fCall0 n (pre p) (dvs.map toPV) fa) false := ⟨fun {A σ H ρ s F X Q} c0 r0 x h k =>
  ia.run c0 r0 x h fun vs H1 xs s1 rv f1 w1 h1 => by
    have ra : RdL A H1 (xs ++ dvs.map toPV) (vs ++ dvs) := rv.app (rdl_to dvs)
    exact ⟨p, c, Z, by rw [← ra.len]; exact h1.1, A, _, s1, F, _, c0.next f1 w1, ra, fun C d ns ys ws H2 s2 a b g f w q => q.elim, h1.2, fun v H2 z s2 rz f2 w2 h2 => k v H2 z s2 rz (fun z => nomatch z) (f1.trans f2) w2 h2⟩⟩
def spLaw (K : PySem.W.Frag) : Sp := fun vs H Q _ => ∃ (s : Addr) (ns : List Int), vs = [.ref s] ∧ SqL K H s (ns.map V.int) ∧ ∀ H1, Q (.bl true) H1
section
variable {P : Program} {w : World} {K : PySem.W.Frag} {mg : Str → Option Value} {base : Heap}
theorem sc_law : FnScope ["_law_script", "_law_pen_here", "_law_turn"] ["_law_script"] (defScope sLaw) := ⟨rfl, rfl, rfl, by decide +kernel, rfl, by decide +kernel, by decide +kernel⟩
theorem ok_law {f fP fR : Addr} {fd fdP fdR : FuncData} (F : Fun K "law" "law" sLaw f fd) (B : Bi mg) (G_pen : FnOk P w K mg base CX0 1 fP fdP ["_law_script"] (spPen K)) (b_pen : Binds K fdP ["_law_script"] []) (d_pen : Df K mg "_law_pen" fP)
    (G_pr : FnG P w K mg base CX0 30 fR fdR ["_law_pen_here"] (spX 1 prePR)) (b_pr : Binds K fdR ["_law_pen_here"] []) (d_pr : Df K mg "_law_papers_right" fR) : FnG P w K mg base CX0 32 f fd ["_law_script"] (spLaw K) := by
  refine fnG_of F sc_law (fun vs H Q E h => by
    obtain ⟨s, ns, rfl, _⟩ := h
    rfl) (fun cdv A outer s H vs Q E hr hg h => ?_)
  have nd := sc_law.nd
  refine ⟨_, PSs.nox (pss_cons (ps_set (i := 1) nd rfl (Or.inl rfl) (pe_cs (calls_fn G_pen (hr.mono (by decide)) b_pen .nil pass0) d_pen.1 d_pen.2 (pa_cons (pv 0) pa_nil)))
(pss_cons (ps_for PassesOwn.never rfl (pi_range1 (by rfl) B.n_range (pa_cons pe_int pa_nil)) (pg_name (i := 2) nd rfl (Or.inl rfl))
(pss_one (ps_if (pt_not (pt_val (pe_cs (callsG G_pr (hr.mono (by decide)) hg b_pr .nil pass0) d_pr.1 d_pr.2 (pa_cons (pv 1) pa_nil))))
(pss_one (ps_ret pe_bl))
pss_nil)))
(pss_one (ps_ret pe_bl)))), ?_⟩
  obtain ⟨s0, ns, rfl, hs, kq⟩ := h
  refine seq_run ?_
  refine ⟨_, rfl, s0, ns, rfl, hs, fun p c H1 np ex hp1 => ?_⟩
  have rel : (penW p c (fun _ => False)).rel H1 100000 := ⟨hp1.less (by decide), fun _ z => z.elim⟩
  have ct : Ct (penW p c (fun _ => False)) (fun a => a = p ∨ a = c) H1 100000 := ⟨fun _ h => h.elim id fun z => z.elim, fun a h => (penW p c (fun _ => False)).lives rel (.inl h), rel⟩
  have ao : AO_ (fun a => a = p ∨ a = c) ((L2.start ["_law_script", "_law_pen_here", "_law_turn"] [.ref s0]).set 1 (some (.ref p))) [.no, .sh (.adr p), .no] = fun a => a = p ∨ a = c := by
    funext a
    refine propext ⟨fun z => z.elim id fun ⟨i, x, e, _⟩ => ?_, .inl⟩
    match i, e with
    | 0, e | 1, e | 2, e => cases e
    | i + 3, e => cases e
  have r1 : RS (penW p c (fun _ => False)) (fun a => a = p ∨ a = c) H1 [] H1 ((L2.start ["_law_script", "_law_pen_here", "_law_turn"] [.ref s0]).set 1 (some (.ref p))) [.no, .sh (.adr p), .no] 100000 := by
    refine ⟨ct.sa, ct.lv, Fr.refl, ct.rel, rfl, fun i x e => ?_, fun i a x e => ?_, fun i j x y a e => ?_, fun _ m => nomatch m⟩
    · match i, e with
      | 1, e => cases e; exact ⟨_, rfl, rfl⟩
      | 0, e | 2, e => cases e
      | i + 3, e => cases e
    · match i, e with
      | 0, e | 1, e | 2, e => cases e
      | i + 3, e => cases e
    · match i, e with
      | 0, e | 1, e | 2, e => cases e
      | i + 3, e => cases e
  refine nx_mk ?_
  refine as_end (W := penW p c (fun _ => False)) (E := E0) (X := fun _ _ _ _ => False) (rt := fun x _ => x = .bl true) r1 (fun _ _ _ _ _ _ _ _ _ _ _ _ q => q.elim) ?_ (fun v H' x s' rx f w hx => by
    subst hx
    cases rx
    exact kq H')
  refine seq_i ?_
  refine ⟨⟨by decide, by decide⟩, ?_⟩
  have pr : ∀ (r : En) (k : Nat) (G : Bool → Nat → Prop) (X : XF Nat), r[1]? = some (.val (.adr p)) → 2000 ≤ k → (∀ k', k ≤ k' + 2000 → G false k') → fNot (Pv.fB (fCall0 1 (prePR p) (List.map toPV []) (fCons (fVar 1) fNil))) r k G X := fun r k G X e hk g => by
    show fCons (fVar 1) fNil r k (fun xs s1 => (xs ++ ([] : List PV)).length = 1 ∧ prePR p (xs ++ ([] : List PV)) s1 (fun x s2 => asB x fun b => G (!b) s2) fun _ _ _ _ => False) X
    exact (evps_cons (evp_var e) evps_nil) k _ X ⟨rfl, rfl, hk, fun k' hk' => g k' hk'⟩
  have lp : ∀ (items : List PV) (x2 : SL) (k : Nat) (G : DD Nat), items.length * 2000 ≤ k → (∀ x2 k', G.nx [.no, .sh (.adr p), x2] k') → forP (sName 2) (fIfS (fNot (Pv.fB (fCall0 1 (prePR p) (List.map toPV []) (fCons (fVar 1) fNil)))) (fRet (fC (V.bl false))) fNx) items [.no, .sh (.adr p), x2] k G := by
    intro items
    induction items with
    | nil => intro x2 k G _ h; exact h x2 k
    | cons x items ih =>
      intro x2 k G hk h
      rw [List.length_cons, Nat.add_mul, Nat.one_mul] at hk
      refine .inl (pr _ k _ _ rfl (by omega) fun k' hk' => ?_)
      show if false = true then _ else _
      exact iteF (ih _ k' G (by omega) h)
  exact lp (rngP 0 3) .no 100000 _ (by rw [rngP_len]; decide) fun x2 k' => .inl rfl
end
end K03
end

section -- PwX
set_option linter.all false
set_option maxRecDepth 100000
set_option maxHeartbeats 4000000
/-! PwX: what is looked at of a def that calls super() (SupI), beside what a law looks at. -/
namespace Pk
open PySem PySem.Spec L2 NdefX
open PyProof.Rows hiding St
/-- the record that such a def has, its cell at cc -/
def supVal (qual : Str) (st : Stmt) (cc : Addr) : He5.FnW := some (("__init__" : Str), qual, defArgs st, FuncBody.stmts (defBody st), defScope st, mainGlobals, [(("__class__" : Str), cc)], builtinsNs)
def fileIs (file : Str) (vs : Array Value) : Bool := match (vs[2]? : Option Value) with
  | some (.str fl _) => file == fl
  | _ => false
def isNone : Value → Bool
  | .none => true
  | _ => false
def codeOf (file qual : Str) (K : PySem.W.Frag) : Value → Bool
  | .ref c => PySem.W.codeIn K (.ref c) qual && (match K.lookup c with
    | some ⟨_, _, .fields vs, _⟩ => fileIs file vs
    | _ => false)
  | _ => false
def supFd (file qual : Str) (K : PySem.W.Frag) (f : Addr) : Bool := match K.lookup f with
  | some ⟨_, _, .func fd, _⟩ => isNone fd.defaults && codeOf file qual K fd.code
  | _ => false
def supCell (K : PySem.W.Frag) (cc D : Addr) : Bool := match K.lookup cc with
  | some ⟨_, _, .cell (some (.ref D')), _⟩ => decide (D' = D)
  | _ => false
def supB (file qual : Str) (K : PySem.W.Frag) (f cc D g : Addr) : Bool := supFd file qual K f && (supCell K cc D && ((PySem.W.clsIn K D).isSome && (decide (PySem.W.mroIn K D (.ref D) = some true) && (decide (PySem.W.nsIn K cStatics "thirdparty.any" = some none) && (decide (PySem.W.ks_superIn K D D "__init__" = some (some (.ref g))) && (decide (PySem.W.typeIn K (.ref g) = some (.type "function")) && PySem.W.fnIn K g))))))
theorem supI_of {P : Program} {K : PySem.W.Frag} {mg : Str → Option Value} {qual : Str} {st : Stmt} {f cc D g : Addr} (e : He5.fnA K f = supVal qual st cc) (b : supB P.main.file qual K f cc D g = true) (free : mg "super" = none) (top : (P.main.scope.names.lookup ("super" : Str)).isSome = false) : ∃ c, SupI P K mg qual st f cc c D g := by
  unfold supB at b
  simp only [Bool.and_eq_true] at b
  obtain ⟨b1, b2, b3, b4, b5, b6, b7, b8⟩ := b
  unfold supFd at b1
  unfold He5.fnA supVal at e
  cases q : K.lookup f with
  | none => rw [q] at b1; cases b1
  | some o =>
    obtain ⟨oc, od, dt, osl⟩ := o
    rw [q] at b1 e
    cases dt with
    | func fd =>
      obtain ⟨n1, n2, n3, n4, n5, n6, n7, n8, n9, n10, n11, n12, n13, n14, n15⟩ := fd
      have e2 : (some (n1, n2, n3, n4, n5, n6, n7, n15) : He5.FnW) = (some (("__init__" : Str), qual, defArgs st, FuncBody.stmts (defBody st), defScope st, mainGlobals, [(("__class__" : Str), cc)], builtinsNs) : He5.FnW) := e
      simp only [Option.some.injEq, Prod.mk.injEq] at e2
      obtain ⟨h1, h2, h3, h4, h5, h6, h7, h8⟩ := e2
      subst h1 h2 h3 h4 h5 h6 h7 h8
      have b1 : (isNone n8 && codeOf P.main.file n2 K n13) = true := b1
      obtain ⟨c1, c2⟩ := Bool.and_eq_true_iff.mp b1
      have hd : n8 = .none := by
        cases n8 <;> first | rfl | cases c1
      subst hd
      cases n13 with
      | ref c =>
        obtain ⟨d1, d2⟩ := Bool.and_eq_true_iff.mp c2
        refine ⟨c, ⟨oc, od, n9, n10, n11, n12, n14, osl, q⟩, d1, ?_, ?_, Option.isSome_iff_exists.mp b3, of_decide_eq_true b4, free, top, of_decide_eq_true b5, of_decide_eq_true b6, of_decide_eq_true b7, b8⟩
        · cases qc : K.lookup c with
          | none => rw [qc] at d2; cases d2
          | some o2 =>
            obtain ⟨ccl, cdd, dt2, ccs⟩ := o2
            rw [qc] at d2
            cases dt2 with
            | fields vs =>
              have d2 : fileIs P.main.file vs = true := d2
              unfold fileIs at d2
              split at d2
              · rename_i fl tf hv
                exact ⟨ccl, cdd, vs, ccs, fl, tf, rfl, hv, d2⟩
              · cases d2
            | _ => cases d2
        · unfold supCell at b2
          split at b2
          · rename_i cl cld D' csl hc
            rw [of_decide_eq_true b2] at hc
            exact ⟨_, _, _, hc⟩
          · cases b2
      | _ => cases c2
    | _ => cases b1
/-- what a law looks at, and such a def beside it, at told places -/
abbrev Seen2 : Type := Seen × He5.FnW
def seen2 (B : List (PySem.W.Frag → Bool)) (fn : List He5.DefA) (at_ : PySem.W.Frag → Addr) (K : PySem.W.Frag) : Seen2 := (seenOf B fn K, He5.fnA K (at_ K))
def told2 (fn : List He5.DefA) (qual : Str) (st : Stmt) (cc : Addr) : Seen2 := (toldOf fn, supVal qual st cc)
def hookS (as : List Addr) (B : List (PySem.W.Frag → Bool)) (fn : List He5.DefA) (at_ : PySem.W.Frag → Addr) (qual : Str) (st : Stmt) (cc : Addr) : PySem.W.Hook where
  α := Seen2
  obs := fun t => seen2 B fn at_ (He.frG t.heap.get? as)
  val := fun _ => told2 fn qual st cc
  says := fun _ h => ∃ K : PySem.W.Frag, K.In h ∧ Told B fn K ∧ He5.fnA K (at_ K) = supVal qual st cc
  of := fun _ _ e => ⟨_, He.frG_in, congrArg Prod.fst e, congrArg Prod.snd e⟩
  keeps := fun _ _ _ t k => t.elim fun K c => ⟨K, PySem.W.Frag.In.keeps c.1 k, c.2⟩
end Pk
end

section -- K03t
set_option linter.all false
set_option maxRecDepth 100000
set_option maxHeartbeats 4000000
namespace K03
open PySem PySem.Spec L2 Pk Pv Pw
open PyProof.Rows hiding St
open He (ga ma)
/-! ### what is looked at behind the top -/
abbrev cR (K : PySem.W.Frag) : Addr := ga K "Ratio"
abbrev cP (K : PySem.W.Frag) : Addr := ga K "Paper"
abbrev cD (K : PySem.W.Frag) : Addr := ga K "Denial"
abbrev ccD : Addr := 151
abbrev PP : Program := (PySem.Challenge.rw_peekproof_k03_papers_keep_what_they_tell).prog
abbrev mT : Value := .type "type"
def fns : List He5.DefA := [⟨fun K => ga K "is_integer", "is_integer", "is_integer", defArgs sIsInt, defBody sIsInt, defScope sIsInt, [], []⟩,
  ⟨fun K => ga K "fixed", "fixed", "fixed", defArgs sFixed, defBody sFixed, defScope sFixed, [], []⟩,
  ⟨fun K => ma K (cP K) "__init__", "__init__", "Paper.__init__", defArgs sPInit, defBody sPInit, defScope sPInit, [], []⟩,
  ⟨fun K => ma K (cP K) "__eq__", "__eq__", "Paper.__eq__", defArgs sPEq, defBody sPEq, defScope sPEq, [], []⟩,
  ⟨fun K => ma K (cP K) "__bool__", "__bool__", "Paper.__bool__", defArgs sPBool, defBody sPBool, defScope sPBool, [], []⟩,
  ⟨fun K => ma K (cD K) "__bool__", "__bool__", "Denial.__bool__", defArgs sDBool, defBody sDBool, defScope sDBool, [], []⟩,
  ⟨fun K => ma K (cR K) "__init__", "__init__", "Ratio.__init__", defArgs sRInit, defBody sRInit, defScope sRInit, [.int 1], []⟩,
  ⟨fun K => ma K (cR K) "__eq__", "__eq__", "Ratio.__eq__", defArgs sREq, defBody sREq, defScope sREq, [], []⟩,
  ⟨fun K => ma K (cR K) "__str__", "__str__", "Ratio.__str__", defArgs sRStr, defBody sRStr, defScope sRStr, [], []⟩,
  ⟨fun K => ma K (cR K) "__repr__", "__repr__", "Ratio.__repr__", defArgs sRRepr, defBody sRRepr, defScope sRRepr, [], []⟩,
  ⟨fun K => ga K "_law_pen", "_law_pen", "_law_pen", defArgs sPen, defBody sPen, defScope sPen, [], []⟩,
  ⟨fun K => ga K "_law_draw", "_law_draw", "_law_draw", defArgs sDraw, defBody sDraw, defScope sDraw, [], []⟩,
  ⟨fun K => ga K "_law_pick", "_law_pick", "_law_pick", defArgs sPick, defBody sPick, defScope sPick, [], []⟩,
  ⟨fun K => ga K "_law_value", "_law_value", "_law_value", defArgs sValue, defBody sValue, defScope sValue, [], []⟩,
  ⟨fun K => ga K "_law_fixed", "_law_fixed", "_law_fixed", defArgs sFix2, defBody sFix2, defScope sFix2, [], []⟩,
  ⟨fun K => ga K "_law_spoiled", "_law_spoiled", "_law_spoiled", defArgs sSpoil, defBody sSpoil, defScope sSpoil, [], []⟩,
  ⟨fun K => ga K "_law_same", "_law_same", "_law_same", defArgs sSame, defBody sSame, defScope sSame, [], []⟩,
  ⟨fun K => ga K "_law_other_kind", "_law_other_kind", "_law_other_kind", defArgs sOther, defBody sOther, defScope sOther, [], []⟩,
  ⟨fun K => ga K "_law_made", "_law_made", "_law_made", defArgs sMade, defBody sMade, defScope sMade, [], []⟩,
  ⟨fun K => ga K "_law_kept", "_law_kept", "_law_kept", defArgs sKept, defBody sKept, defScope sKept, [], []⟩,
  ⟨fun K => ga K "_law_fixed_right", "_law_fixed_right", "_law_fixed_right", defArgs sFRight, defBody sFRight, defScope sFRight, [], []⟩,
  ⟨fun K => ga K "_law_papers_right", "_law_papers_right", "_law_papers_right", defArgs sPRight, defBody sPRight, defScope sPRight, [], []⟩,
  ⟨fun K => ga K "law", "law", "law", defArgs sLaw, defBody sLaw, defScope sLaw, [], []⟩]
def frees : List Str := ["isinstance", "int", "bool", "str", "list", "tuple", "dict", "len", "all", "abs", "range", "repr", "zip", "sorted", "min", "super"]
def globs : List Str := [("Ratio" : Str), ("Paper" : Str), ("Denial" : Str), ("is_integer" : Str), ("fixed" : Str), ("_law_pen" : Str), ("_law_draw" : Str), ("_law_pick" : Str), ("_law_value" : Str), ("_law_fixed" : Str), ("_law_spoiled" : Str), ("_law_same" : Str), ("_law_other_kind" : Str), ("_law_made" : Str), ("_law_kept" : Str), ("_law_fixed_right" : Str), ("_law_papers_right" : Str), ("law" : Str)]
abbrev eqB (a b : Option (Option Value)) : Bool := decide (a = b)
theorem eqB_ok {a b : Option (Option Value)} (h : eqB a b = true) : a = b := of_decide_eq_true h
def looks : List (PySem.W.Frag → Bool) := [
  fun K => frees.all fun x => eqB (PySem.W.nsIn K mainGlobals x) (some none),
  fun K => globs.all fun x => eqB (PySem.W.nsIn K mainGlobals x) (some (some (.ref (ga K x)))),
  fun K => eqB (PySem.W.specialIn K (.builtin "object.__class__") "__get__") (some (some (.builtin "getset_descriptor.__get__"))),
  fun K => decide (PySem.W.takesIn K (.builtin "object.__class__") = some true),
  fun K => eqB (PySem.W.findIn K (.ref (cR K)) "top") (some none),
  fun K => eqB (PySem.W.findIn K (.ref (cR K)) "bottom") (some none),
  fun K => decide (PySem.W.kitOne K (.ref (cR K)) (.ref (cR K)) = some true),
  fun K => decide (PySem.W.kitOne K (.ref (cR K)) (.type "int") = some false),
  fun K => decide (PySem.W.kitOne K (.ref (cR K)) (.type "bool") = some false),
  fun K => decide (PySem.W.kitOne K (.ref (cR K)) (.type "str") = some false),
  fun K => decide (PySem.W.kitOne K (.ref (cR K)) (.type "dict") = some false),
  fun K => decide (PySem.W.kitOne K (.ref (cR K)) (.type "list") = some false),
  fun K => decide (PySem.W.kitOne K (.ref (cR K)) (.type "tuple") = some false),
  fun K => decide (PySem.W.kitOne K (.type "NoneType") (.ref (cR K)) = some false),
  fun K => decide (PySem.W.kitOne K (.type "bool") (.ref (cR K)) = some false),
  fun K => decide (PySem.W.kitOne K (.type "int") (.ref (cR K)) = some false),
  fun K => decide (PySem.W.kitOne K (.type "str") (.ref (cR K)) = some false),
  fun K => decide (PySem.W.kitOne K (.type "list") (.ref (cR K)) = some false),
  fun K => decide (PySem.W.kitOne K (.type "tuple") (.ref (cR K)) = some false),
  fun K => decide (PySem.W.kitOne K (.type "dict") (.ref (cR K)) = some false),
  fun K => eqB (PySem.W.findIn K (.ref (cP K)) "word") (some none),
  fun K => eqB (PySem.W.findIn K (.ref (cD K)) "word") (some none),
  fun K => eqB (PySem.W.findIn K (.ref (cP K)) "parts") (some none),
  fun K => eqB (PySem.W.findIn K (.ref (cD K)) "parts") (some none),
  fun K => decide (PySem.W.kitOne K (.ref (cP K)) (.ref (cP K)) = some true),
  fun K => decide (PySem.W.kitOne K (.ref (cD K)) (.ref (cP K)) = some true),
  fun K => decide (PySem.W.kitOne K (.ref (cP K)) (.ref (cD K)) = some false),
  fun K => decide (PySem.W.kitOne K (.ref (cD K)) (.ref (cD K)) = some true),
  fun K => kinds5.all fun T => PySem.W.notFirst K (cR K) (.type T),
  fun K => kinds5.all fun T => decide (PySem.W.subIn K (.ref (cR K)) (.type T) = some false),
  fun K => eqB (PySem.W.findIn K (.ref (cR K)) "__eq__") (some (some (.ref (ma K (cR K) "__eq__")))),
  fun K => PySem.W.isFn K (.ref (ma K (cR K) "__eq__")),
  fun K => eqB (PySem.W.findIn K (.ref (cR K)) "__repr__") (some (some (.ref (ma K (cR K) "__repr__")))),
  fun K => PySem.W.isFn K (.ref (ma K (cR K) "__repr__")),
  fun K => eqB (PySem.W.findIn K (.ref (cR K)) "__str__") (some (some (.ref (ma K (cR K) "__str__")))),
  fun K => PySem.W.isFn K (.ref (ma K (cR K) "__str__")),
  fun K => (["NoneType", "bool", "int", "str", "tuple", "list", "dict"] : List String).all fun T => decide (PySem.W.kitOne K (.type T) (.ref (cP K)) = some false) && (PySem.W.notFirst K (cP K) (.type T) && PySem.W.notFirst K (cD K) (.type T)),
  fun K => eqB (PySem.W.findIn K (.ref (cP K)) "__eq__") (some (some (.ref (ma K (cP K) "__eq__")))),
  fun K => eqB (PySem.W.findIn K (.ref (cD K)) "__eq__") (some (some (.ref (ma K (cP K) "__eq__")))),
  fun K => eqB (PySem.W.findIn K (.ref (cP K)) "__ne__") (some (some (.builtin "object.__ne__"))),
  fun K => eqB (PySem.W.findIn K (.ref (cD K)) "__ne__") (some (some (.builtin "object.__ne__"))),
  fun K => decide (PySem.W.mroIn K (cP K) (.type "object") = some true),
  fun K => decide (PySem.W.mroIn K (cD K) (.type "object") = some true),
  fun K => PySem.W.isFn K (.ref (ma K (cP K) "__eq__")),
  fun K => decide ((cD K) ≠ (cP K)),
  fun K => decide (PySem.W.subIn K (.ref (cD K)) (.ref (cP K)) = some true),
  fun K => decide (PySem.W.subIn K (.ref (cP K)) (.ref (cD K)) = some false),
  fun K => eqB (PySem.W.nsIn K mainGlobals "gcd") (some (some (.builtin "math.gcd"))),
  fun K => supB PySem.Challenge.pw_peekproof_k03_papers_keep_what_they_tell.main.file "Denial.__init__" K (ma K (cD K) "__init__") ccD (cD K) (ma K (cP K) "__init__"),
  fun K => PySem.W.plainGet K (cR K) Str.empty,
  fun K => PySem.W.hasDictIn K (cR K),
  fun K => PySem.W.plainOver K (cR K),
  fun K => eqB (PySem.W.findIn K (.ref (cR K)) "__setattr__") (some (some (.builtin "object.__setattr__"))),
  fun K => PySem.W.plainGet K (cP K) Str.empty,
  fun K => PySem.W.hasDictIn K (cP K),
  fun K => PySem.W.plainOver K (cP K),
  fun K => eqB (PySem.W.findIn K (.ref (cP K)) "__setattr__") (some (some (.builtin "object.__setattr__"))),
  fun K => PySem.W.plainGet K (cD K) Str.empty,
  fun K => PySem.W.hasDictIn K (cD K),
  fun K => PySem.W.plainOver K (cD K),
  fun K => eqB (PySem.W.findIn K (.ref (cD K)) "__setattr__") (some (some (.builtin "object.__setattr__"))),
  fun K => eqB (PySem.W.findIn K (.ref (cR K)) "__class__") (some (some (.builtin "object.__class__"))),
  fun K => decide (PySem.W.mroIn K (cR K) (.type "object") = some true),
  fun K => eqB (PySem.W.findIn K (.ref (cP K)) "__class__") (some (some (.builtin "object.__class__"))),
  fun K => eqB (PySem.W.findIn K (.ref (cD K)) "__class__") (some (some (.builtin "object.__class__"))),
  fun K => PySem.W.makesIn K (cR K),
  fun K => eqB (PySem.W.findIn K (.ref (cR K)) "__init__") (some (some (.ref (ma K (cR K) "__init__")))),
  fun K => PySem.W.isFn K (.ref (ma K (cR K) "__init__")),
  fun K => PySem.W.keepIn K (.ref (cR K)),
  fun K => PySem.W.makesIn K (cP K),
  fun K => eqB (PySem.W.findIn K (.ref (cP K)) "__init__") (some (some (.ref (ma K (cP K) "__init__")))),
  fun K => PySem.W.isFn K (.ref (ma K (cP K) "__init__")),
  fun K => PySem.W.keepIn K (.ref (cP K)),
  fun K => PySem.W.makesIn K (cD K),
  fun K => eqB (PySem.W.findIn K (.ref (cD K)) "__init__") (some (some (.ref (ma K (cD K) "__init__")))),
  fun K => PySem.W.isFn K (.ref (ma K (cD K) "__init__")),
  fun K => PySem.W.keepIn K (.ref (cD K)),
  fun K => eqB (PySem.W.findIn K (.ref (cP K)) "__bool__") (some (some (.ref (ma K (cP K) "__bool__")))),
  fun K => PySem.W.isFn K (.ref (ma K (cP K) "__bool__")),
  fun K => eqB (PySem.W.findIn K (.ref (cD K)) "__bool__") (some (some (.ref (ma K (cD K) "__bool__")))),
  fun K => PySem.W.isFn K (.ref (ma K (cD K) "__bool__"))]
end K03
end

section -- K03x
set_option linter.all false
set_option maxRecDepth 100000
set_option maxHeartbeats 0
namespace K03
open PySem PySem.Spec L2 Pk
open He (ga ma)
abbrev oRow : PySem.W.OpenRow := PySem.W.OpenLaw.row PySem.Challenge.rw_peekproof_k03_papers_keep_what_they_tell
abbrev vw : Program := PySem.W.view oRow.prog [0, 32]
def loose : List Str := [("_wall" : Str), ("__name__" : Str), ("is_integer" : Str), ("PeekError" : Str), ("BadRatio" : Str), ("BadText" : Str), ("fixed" : Str), ("Paper" : Str), ("Denial" : Str), ("_DIGITS" : Str), ("Ratio" : Str), ("as_ratio" : Str), ("ratio_of_word" : Str), ("_is_whole_number" : Str), ("_other_ratio" : Str), ("_law_pen" : Str), ("_law_draw" : Str), ("_law_pick" : Str), ("_law_value" : Str), ("_law_fixed" : Str), ("_law_spoiled" : Str), ("_law_same" : Str), ("_law_other_kind" : Str), ("_law_made" : Str), ("_law_kept" : Str), ("_law_fixed_right" : Str), ("_law_papers_right" : Str), ("gcd" : Str)]
def places : List Addr := [3, 56, 112, 143, 173, 313, 346, 353, 360, 365, 370, 377, 382, 387, 394, 401, 408, 413, 420, 55, 111, 142, 172, 312, 345, 352, 359, 364, 369, 376, 381, 386, 393, 400, 407, 412, 419, 126, 133, 140, 163, 170, 190, 276, 283, 290, 125, 132, 139, 162, 151, 169, 189, 183, 275, 282, 289, 2]
def at3 (K : PySem.W.Frag) : Addr := ma K (cD K) "__init__"
abbrev hz : PySem.W.Hook := hookS places looks fns at3 "Denial.__init__" sDInit ccD
def oz (s : PySem.W.SharedT) : Seen2 := seen2 looks fns at3 (He.frG (HandSHeadRun.getT s) places)
theorem oz_eq (s : PySem.W.SharedT) : oz s = hz.obs s.abs := by
  have e : HandSHeadRun.getT s = s.abs.heap.get? := funext (HandSHeadRun.getT_eq s)
  show seen2 looks fns at3 (He.frG (HandSHeadRun.getT s) places) = seen2 looks fns at3 (He.frG s.abs.heap.get? places)
  rw [e]
theorem run (w : World) : HandSHeadRun.RunEqI oRow vw hz oz 12000 loose w := by
  unfold HandSHeadRun.RunEqI
  kernel_rfl
end K03
end

section -- K03u
set_option linter.all false
set_option maxRecDepth 100000
set_option maxHeartbeats 16000000
namespace K03
open PySem PySem.Spec L2 Pk Pv Pw
open PyProof.Rows hiding St
open He (ga ma)
theorem told {w : World} {K : PySem.W.Frag} {h : Heap} {mg : Str → Option Value} {f : Addr} (X : K.In h) (G : h.Ns mainGlobals mg) (hf : mg ("law" : Str) = some (.ref f)) (c : Told looks fns K) (hD : He5.fnA K (ma K (cD K) "__init__") = supVal "Denial.__init__" sDInit ccD) :
    ∃ fd : FuncData, (∀ (s : Shared) (u : Value), BindsTo s fd ⟨[u], []⟩ [("_law_script", u)]) ∧ ∀ base : Heap, K.In base → FnG PP w K mg base CX0 32 f fd ["_law_script"] (spLaw K) := by
  have fr : ∀ x ∈ frees, mg x = none := fun x hx => PySem.W.mg_none_of X G (eqB_ok (List.all_eq_true.mp (c.fact 0) x hx))
  have gl : ∀ x ∈ globs, mg x = some (.ref (ga K x)) := fun x hx => PySem.W.mg_of X G (eqB_ok (List.all_eq_true.mp (c.fact 1) x hx))
  have e := hf.symm.trans (gl "law" (by decide +kernel))
  cases e
  have B : Bi mg := ⟨fr _ (by decide +kernel), fr _ (by decide +kernel), fr _ (by decide +kernel), fr _ (by decide +kernel), fr _ (by decide +kernel), fr _ (by decide +kernel), fr _ (by decide +kernel), fr _ (by decide +kernel), fr _ (by decide +kernel), fr _ (by decide +kernel), fr _ (by decide +kernel), fr _ (by decide +kernel), fr _ (by decide +kernel), fr _ (by decide +kernel), fr _ (by decide +kernel), fr _ (by decide +kernel)⟩
  obtain ⟨fd_isi, F_isi⟩ := c.dd 0
  have F_isi := He5.fun_of (st := sIsInt) F_isi
  have b_isi := F_isi.binds (ps := ["value"]) fun _ _ _ _ _ _ us hl => match us, hl with | [_], _ => rfl
  have d_isi : Df K mg "is_integer" (ga K "is_integer") := ⟨gl "is_integer" (by decide +kernel), F_isi.kp⟩
  obtain ⟨fd_fx, F_fx⟩ := c.dd 1
  have F_fx := He5.fun_of (st := sFixed) F_fx
  have b_fx := F_fx.binds (ps := ["value"]) fun _ _ _ _ _ _ us hl => match us, hl with | [_], _ => rfl
  have d_fx : Df K mg "fixed" (ga K "fixed") := ⟨gl "fixed" (by decide +kernel), F_fx.kp⟩
  obtain ⟨fd_pi, F_pi⟩ := c.dd 2
  have F_pi := He5.fun_of (st := sPInit) F_pi
  obtain ⟨fd_pe, F_pe⟩ := c.dd 3
  have F_pe := He5.fun_of (st := sPEq) F_pe
  have b_pe := F_pe.binds (ps := ["self", "other"]) fun _ _ _ _ _ _ us hl => match us, hl with | [_, _], _ => rfl
  obtain ⟨fd_pb, F_pb⟩ := c.dd 4
  have F_pb := He5.fun_of (st := sPBool) F_pb
  have b_pb := F_pb.binds (ps := ["self"]) fun _ _ _ _ _ _ us hl => match us, hl with | [_], _ => rfl
  obtain ⟨fd_db, F_db⟩ := c.dd 5
  have F_db := He5.fun_of (st := sDBool) F_db
  have b_db := F_db.binds (ps := ["self"]) fun _ _ _ _ _ _ us hl => match us, hl with | [_], _ => rfl
  obtain ⟨fd_ri, F_ri⟩ := c.dd 6
  obtain ⟨fd_re, F_re⟩ := c.dd 7
  have F_re := He5.fun_of (st := sREq) F_re
  have b_re := F_re.binds (ps := ["self", "other"]) fun _ _ _ _ _ _ us hl => match us, hl with | [_, _], _ => rfl
  obtain ⟨fd_rs, F_rs⟩ := c.dd 8
  have F_rs := He5.fun_of (st := sRStr) F_rs
  have b_rs := F_rs.binds (ps := ["self"]) fun _ _ _ _ _ _ us hl => match us, hl with | [_], _ => rfl
  obtain ⟨fd_rr, F_rr⟩ := c.dd 9
  have F_rr := He5.fun_of (st := sRRepr) F_rr
  have b_rr := F_rr.binds (ps := ["self"]) fun _ _ _ _ _ _ us hl => match us, hl with | [_], _ => rfl
  obtain ⟨fd_pen, F_pen⟩ := c.dd 10
  have F_pen := He5.fun_of (st := sPen) F_pen
  have b_pen := F_pen.binds (ps := ["_law_script"]) fun _ _ _ _ _ _ us hl => match us, hl with | [_], _ => rfl
  have d_pen : Df K mg "_law_pen" (ga K "_law_pen") := ⟨gl "_law_pen" (by decide +kernel), F_pen.kp⟩
  obtain ⟨fd_draw, F_draw⟩ := c.dd 11
  have F_draw := He5.fun_of (st := sDraw) F_draw
  have b_draw := F_draw.binds (ps := ["_law_pen_here", "_law_many"]) fun _ _ _ _ _ _ us hl => match us, hl with | [_, _], _ => rfl
  have d_draw : Df K mg "_law_draw" (ga K "_law_draw") := ⟨gl "_law_draw" (by decide +kernel), F_draw.kp⟩
  obtain ⟨fd_pick, F_pick⟩ := c.dd 12
  have F_pick := He5.fun_of (st := sPick) F_pick
  have b_pick := F_pick.binds (ps := ["_law_pen_here", "_law_some"]) fun _ _ _ _ _ _ us hl => match us, hl with | [_, _], _ => rfl
  have d_pick : Df K mg "_law_pick" (ga K "_law_pick") := ⟨gl "_law_pick" (by decide +kernel), F_pick.kp⟩
  obtain ⟨fd_val, F_val⟩ := c.dd 13
  have F_val := He5.fun_of (st := sValue) F_val
  have b_val := F_val.binds (ps := ["_law_pen_here", "_law_deep"]) fun _ _ _ _ _ _ us hl => match us, hl with | [_, _], _ => rfl
  have d_val : Df K mg "_law_value" (ga K "_law_value") := ⟨gl "_law_value" (by decide +kernel), F_val.kp⟩
  obtain ⟨fd_f2, F_f2⟩ := c.dd 14
  have F_f2 := He5.fun_of (st := sFix2) F_f2
  have b_f2 := F_f2.binds (ps := ["_law_value_here"]) fun _ _ _ _ _ _ us hl => match us, hl with | [_], _ => rfl
  have d_f2 : Df K mg "_law_fixed" (ga K "_law_fixed") := ⟨gl "_law_fixed" (by decide +kernel), F_f2.kp⟩
  obtain ⟨fd_sp, F_sp⟩ := c.dd 15
  have F_sp := He5.fun_of (st := sSpoil) F_sp
  have b_sp := F_sp.binds (ps := ["_law_value_here"]) fun _ _ _ _ _ _ us hl => match us, hl with | [_], _ => rfl
  have d_sp : Df K mg "_law_spoiled" (ga K "_law_spoiled") := ⟨gl "_law_spoiled" (by decide +kernel), F_sp.kp⟩
  obtain ⟨fd_same, F_same⟩ := c.dd 16
  have F_same := He5.fun_of (st := sSame) F_same
  have b_same := F_same.binds (ps := ["_law_one", "_law_other"]) fun _ _ _ _ _ _ us hl => match us, hl with | [_, _], _ => rfl
  have d_same : Df K mg "_law_same" (ga K "_law_same") := ⟨gl "_law_same" (by decide +kernel), F_same.kp⟩
  obtain ⟨fd_ok, F_ok⟩ := c.dd 17
  have F_ok := He5.fun_of (st := sOther) F_ok
  have b_ok := F_ok.binds (ps := ["_law_value_here"]) fun _ _ _ _ _ _ us hl => match us, hl with | [_], _ => rfl
  have d_ok : Df K mg "_law_other_kind" (ga K "_law_other_kind") := ⟨gl "_law_other_kind" (by decide +kernel), F_ok.kp⟩
  obtain ⟨fd_mk, F_mk⟩ := c.dd 18
  have F_mk := He5.fun_of (st := sMade) F_mk
  have b_mk := F_mk.binds (ps := ["_law_says_no", "_law_word", "_law_parts"]) fun _ _ _ _ _ _ us hl => match us, hl with | [_, _, _], _ => rfl
  have d_mk : Df K mg "_law_made" (ga K "_law_made") := ⟨gl "_law_made" (by decide +kernel), F_mk.kp⟩
  obtain ⟨fd_kp, F_kp⟩ := c.dd 19
  have F_kp := He5.fun_of (st := sKept) F_kp
  have b_kp := F_kp.binds (ps := ["_law_paper", "_law_says_no", "_law_word", "_law_due"]) fun _ _ _ _ _ _ us hl => match us, hl with | [_, _, _, _], _ => rfl
  have d_kp : Df K mg "_law_kept" (ga K "_law_kept") := ⟨gl "_law_kept" (by decide +kernel), F_kp.kp⟩
  obtain ⟨fd_fr, F_fr⟩ := c.dd 20
  have F_fr := He5.fun_of (st := sFRight) F_fr
  have b_fr := F_fr.binds (ps := ["_law_value_here"]) fun _ _ _ _ _ _ us hl => match us, hl with | [_], _ => rfl
  have d_fr : Df K mg "_law_fixed_right" (ga K "_law_fixed_right") := ⟨gl "_law_fixed_right" (by decide +kernel), F_fr.kp⟩
  obtain ⟨fd_pr, F_pr⟩ := c.dd 21
  have F_pr := He5.fun_of (st := sPRight) F_pr
  have b_pr := F_pr.binds (ps := ["_law_pen_here"]) fun _ _ _ _ _ _ us hl => match us, hl with | [_], _ => rfl
  have d_pr : Df K mg "_law_papers_right" (ga K "_law_papers_right") := ⟨gl "_law_papers_right" (by decide +kernel), F_pr.kp⟩
  obtain ⟨fd_law, F_law⟩ := c.dd 22
  have F_law := He5.fun_of (st := sLaw) F_law
  have b_law := F_law.binds (ps := ["_law_script"]) fun _ _ _ _ _ _ us hl => match us, hl with | [_], _ => rfl
  have d_law : Df K mg "law" (ga K "law") := ⟨gl "law" (by decide +kernel), F_law.kp⟩
  have clR : Cls K (cR K) := ⟨((c.fact 49)), ((c.fact 50)), ((c.fact 51)), (eqB_ok (c.fact 52))⟩
  have clP : Cls K (cP K) := ⟨((c.fact 53)), ((c.fact 54)), ((c.fact 55)), (eqB_ok (c.fact 56))⟩
  have clD : Cls K (cD K) := ⟨((c.fact 57)), ((c.fact 58)), ((c.fact 59)), (eqB_ok (c.fact 60))⟩
  have tyR : TyC K (cR K) := ⟨clR, (eqB_ok (c.fact 61)), (eqB_ok (c.fact 2)), (of_decide_eq_true (c.fact 3)), (of_decide_eq_true (c.fact 62))⟩
  have tyP : TyC K (cP K) := ⟨clP, (eqB_ok (c.fact 63)), (eqB_ok (c.fact 2)), (of_decide_eq_true (c.fact 3)), (of_decide_eq_true (c.fact 41))⟩
  have tyD : TyC K (cD K) := ⟨clD, (eqB_ok (c.fact 64)), (eqB_ok (c.fact 2)), (of_decide_eq_true (c.fact 3)), (of_decide_eq_true (c.fact 42))⟩
  have cc : K03.RC K mg (cR K) := { cl := clR, nT := (eqB_ok (c.fact 4)), nB := (eqB_ok (c.fact 5)), ty := tyR, me := (of_decide_eq_true (c.fact 6)), kI := (of_decide_eq_true (c.fact 7)), kB := (of_decide_eq_true (c.fact 8)), kS := (of_decide_eq_true (c.fact 9)), kD := (of_decide_eq_true (c.fact 10)), kL := (of_decide_eq_true (c.fact 11)), kT := (of_decide_eq_true (c.fact 12)), iN := (of_decide_eq_true (c.fact 13)), iB := (of_decide_eq_true (c.fact 14)), iI := (of_decide_eq_true (c.fact 15)), iS := (of_decide_eq_true (c.fact 16)), iL := (of_decide_eq_true (c.fact 17)), iT := (of_decide_eq_true (c.fact 18)), iD := (of_decide_eq_true (c.fact 19)), gl := (gl "Ratio" (by decide +kernel)) }
  have T : PC K mg (cR K) (cP K) (cD K) := { clP := clP, clD := clD, wP := (eqB_ok (c.fact 20)), wD := (eqB_ok (c.fact 21)), pP := (eqB_ok (c.fact 22)), pD := (eqB_ok (c.fact 23)), tyP := tyP, tyD := tyD, kPP := (of_decide_eq_true (c.fact 24)), kDP := (of_decide_eq_true (c.fact 25)), kPD := (of_decide_eq_true (c.fact 26)), kDD := (of_decide_eq_true (c.fact 27)), gP := (gl "Paper" (by decide +kernel)), gD := (gl "Denial" (by decide +kernel)) }
  have M_ri : Mk K (cR K) _ := ⟨((c.fact 65)), (eqB_ok (c.fact 66)), ((c.fact 67)), ((c.fact 68))⟩
  have M_pi : Mk K (cP K) _ := ⟨((c.fact 69)), (eqB_ok (c.fact 70)), ((c.fact 71)), ((c.fact 72))⟩
  have M_di : Mk K (cD K) _ := ⟨((c.fact 73)), (eqB_ok (c.fact 74)), ((c.fact 75)), ((c.fact 76))⟩
  have d_ri : Df K mg "Ratio" (cR K) := ⟨(gl "Ratio" (by decide +kernel)), M_ri.kp⟩
  have gcdF := (PySem.W.mg_of X G (eqB_ok (c.fact 47)))
  obtain ⟨ds, hds, b_ri⟩ := F_ri.binds1 (ps := ["self", "top", "bottom"]) 3 1 (List.cons_ne_nil _ _) rfl fun _ _ _ _ _ _ _ us its h1 h2 => match us, its, h1, h2 with | [_, _, _], [_], _, _ => ⟨_, rfl, rfl⟩
  cases hds
  obtain ⟨ds1, v_ri1, b_ri1⟩ := F_ri.binds1 (ps := ["self", "top", "bottom"]) 2 0 (List.cons_ne_nil _ _) rfl fun _ _ _ _ _ _ _ us its h1 h2 => match us, its, h1, h2 with | [_, _], [_], _, _ => ⟨_, rfl, rfl⟩
  have bk_fx : KBinds K fd_fx ["value"] ["value"] (fun us ws => us ++ ws) (fun vs zs => vs ++ zs) := by
    obtain ⟨oc, od, kV, doc, pm, an, cdv, ct, osl, rfl, lk, hcd⟩ := F_fx.ex
    exact ⟨fun s us ws _ h => match us, ws, h with | [_], [], _ => .of_eq rfl | [], [_], _ => .of_eq rfl, fun r1 r2 => r1.append r2⟩
  obtain ⟨cD0, SUP⟩ := supI_of (P := PP) (mg := mg) (g := (ma K (cP K) "__init__")) hD ((c.fact 48)) (fr "super" (by decide +kernel)) (by decide +kernel)
  refine ⟨fd_law, ?_, fun base _ => ?_⟩
  · obtain ⟨oc, od, kV, doc, pm, an, cdv, ct, osl, rfl, lk, hcd⟩ := F_law.ex
    exact fun s u => .of_eq rfl
  · have G_isi0 := ok_isi (P := PP) (w := w) (base := base) (W := W0) F_isi B cc
    have G_re := ok_re (P := PP) (w := w) (base := base) F_re cc B G_isi0 b_isi d_isi
    have G_rs := ok_rs (P := PP) (w := w) (base := base) F_rs cc B
    have G_rr := ok_rr (P := PP) (w := w) (base := base) F_rr B G_rs b_rs (eqB_ok (c.fact 34)) ((c.fact 35))
    have kE : REq PP w K mg base (cR K) _ fd_re := ⟨(eqB_ok (c.fact 30)), ((c.fact 31)), (fun T hT => List.all_eq_true.mp (c.fact 28) T hT), (fun T hT => of_decide_eq_true (List.all_eq_true.mp (c.fact 29) T hT)), G_re, b_re⟩
    have kR : RRp PP w K mg base (cR K) _ fd_rr := ⟨(eqB_ok (c.fact 32)), ((c.fact 33)), G_rr, b_rr⟩
    have G_pe := ok_pe (P := PP) (w := w) (base := base) (d := 20) F_pe B cc T kE
    have kQ : PEq PP w K mg base (cR K) (cP K) (cD K) _ fd_pe := { sP := (eqB_ok (c.fact 37)), sD := (eqB_ok (c.fact 38)), nP := (eqB_ok (c.fact 39)), nD := (eqB_ok (c.fact 40)), mP := (of_decide_eq_true (c.fact 41)), mD := (of_decide_eq_true (c.fact 42)), hf := ((c.fact 43)), ne := (of_decide_eq_true (c.fact 44)), sub := (of_decide_eq_true (c.fact 45)), pd := (of_decide_eq_true (c.fact 46)), G := G_pe, b := b_pe, out := (fun T hT => by
      have h := List.all_eq_true.mp (c.fact 36) T hT
      simp only [Bool.and_eq_true] at h
      exact ⟨of_decide_eq_true h.1, h.2.1, h.2.2⟩) }
    have G_pb := ok_pb (P := PP) (w := w) (mg := mg) (base := base) (W := W0) F_pb
    have G_db := ok_db (P := PP) (w := w) (mg := mg) (base := base) (W := W0) F_db
    have G_pen := ok_pen (P := PP) (w := w) (base := base) F_pen B
    have G_draw0 := ok_draw (P := PP) (w := w) (base := base) F_draw B
    have G_draw := fun (p q : Addr) (Z : Addr → Prop) => ok_drawP (p := p) (c := q) (Z := Z) G_draw0
    have G_pick := fun (p q : Addr) (Z : Addr → Prop) => ok_pick F_pick B (G_draw p q Z) b_draw d_draw
    have G_isi := fun (p q : Addr) (Z : Addr → Prop) => ok_isi (P := PP) (w := w) (base := base) (W := penW p q Z) F_isi B cc
    have G_ri := fun (p q : Addr) (Z : Addr → Prop) => ok_ri (P := PP) (w := w) (base := base) (W := penW p q Z) F_ri cc gcdF (G_isi p q Z) b_isi d_isi
    have G_val := fun (p q : Addr) (Z : Addr → Prop) => ok_val F_val B cc (G_draw p q Z) b_draw d_draw (G_pick p q Z) b_pick d_pick M_ri (G_ri p q Z) b_ri d_ri b_val d_val 4
    have G_fx := fun (p q : Addr) (Z : Addr → Prop) => ok_fx (P := PP) (w := w) (base := base) (W := penW p q Z) F_fx B cc b_fx d_fx 20
    have G_f2 := fun (p q : Addr) (Z : Addr → Prop) => ok_f2 (P := PP) (w := w) (base := base) (W := penW p q Z) F_f2 B cc b_f2 d_f2 20
    have G_same := fun (p q : Addr) (Z : Addr → Prop) => ok_same (P := PP) (w := w) (base := base) (W := penW p q Z) F_same B cc kE b_same d_same 20
    have G_ok := fun (p q : Addr) (Z : Addr → Prop) => ok_oth (W := penW p q Z) F_ok B cc b_ok d_ok M_ri (G_ri p q Z) b_ri1 v_ri1 d_ri 20
    have G_piP := fun (p q : Addr) (Z : Addr → Prop) => ok_pi (P := PP) (w := w) (base := base) (W := penW p q Z) (C := cP K) F_pi clP T.wP T.pP (G_fx p q Z) b_fx d_fx
    have G_piD := fun (p q : Addr) (Z : Addr → Prop) => ok_pi (P := PP) (w := w) (base := base) (W := penW p q Z) (C := cD K) F_pi clD T.wD T.pD (G_fx p q Z) b_fx d_fx
    have G_di := fun (p q : Addr) (Z : Addr → Prop) => ok_di (W := penW p q Z) SUP (G_piD p q Z)
    have G_mk := fun (p q : Addr) (Z : Addr → Prop) => ok_mk F_mk B M_pi (G_piP p q Z) (gl "Paper" (by decide +kernel)) M_di (G_di p q Z) (gl "Denial" (by decide +kernel))
    have G_kp := fun (p q : Addr) (Z : Addr → Prop) => ok_kp (W := penW p q Z) F_kp B cc T kR (G_same p q Z) b_same d_same (eqB_ok (c.fact 77)) ((c.fact 78)) G_pb b_pb (eqB_ok (c.fact 79)) ((c.fact 80)) G_db b_db
    have G_fr := fun (p q : Addr) (Z : Addr → Prop) => ok_fr (W := penW p q Z) F_fr B cc kR (G_same p q Z) b_same d_same (G_fx p q Z) b_fx bk_fx d_fx (G_f2 p q Z) b_f2 d_f2
    have G_sp := ok_sp (P := PP) (w := w) (base := base) F_sp B cc b_sp d_sp 20
    have G_pr := ok_pr F_pr B cc T kQ G_draw b_draw d_draw G_pick b_pick d_pick G_val b_val d_val G_fr b_fr d_fr G_f2 b_f2 d_f2 G_ok b_ok d_ok G_same b_same d_same G_mk b_mk d_mk G_kp b_kp d_kp G_sp b_sp d_sp
    exact ok_law F_law B G_pen b_pen d_pen G_pr b_pr d_pr
end K03
end

section -- K03y
set_option linter.all false
set_option maxRecDepth 100000
set_option maxHeartbeats 0
open PySem PySem.W PySem.Calls PyProof.Rows
theorem PySem.Challenge.cw_peekproof_k03_papers_keep_what_they_tell_holds : PySem.Challenge.rw_peekproof_k03_papers_keep_what_they_tell.Holds := by
  w_on; o_law
  refine HandSHeadRun.head_imp (r := K03.oRow) (q := K03.vw) (H := K03.hz) (ob := K03.oz) (M := 12000) (loose := K03.loose) (d := HandSHeadRun.topDef K03.oRow.prog 32) (kwd := []) K03.oz_eq K03.run
    (by kernel_rfl) (by kernel_rfl) (by kernel_rfl) (by rfl) (by first | assumption | decide +kernel) (by decide +kernel) ⟨rfl, rfl, rfl, rfl, rfl, by decide +kernel⟩ ?hw ?hc
  case hw => exact ⟨[.list []], by decide +kernel, by decide +kernel⟩
  case hc =>
    refine Pk.walkG (l := PySem.Challenge.rw_peekproof_k03_papers_keep_what_they_tell) (n := 63) (k := 32) (x := "_law_script") rfl (by decide) (by kernel_rfl) ⟨rfl, by decide, by decide⟩ ?F
    intro w mg fa h Y G hmg0
    obtain ⟨K, KX, c, hD⟩ := Y
    have hmg : mg ("law" : PySem.Str) = some (.ref fa) := by
      have e : (HandSHeadRun.topDef K03.oRow.prog 32).name = ("law" : PySem.Str) := by kernel_rfl
      rw [← e]
      exact hmg0
    obtain ⟨fd, hb, hF⟩ := K03.told (w := w) KX G hmg c hD
    exact ⟨K, fd, K03.spLaw K, KX, hb, fun H a ns hS => ⟨a, ns, rfl, hS, fun _ => rfl⟩, hF⟩
end
