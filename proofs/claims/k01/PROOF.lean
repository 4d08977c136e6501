import PyProof.Rows.All
import Wide.All
import OpenK.AllK
import Wide.FinOn
import HandS.ForMost
import HandS.Exc
import HandS.TryOnly
import HandS.ExcOwn
import HandS.ExcInit
import HandS.ExcField
import HandS.ExcIs
import HandS.IsInst
import HandS.OwnEq
import HandS.FStr
import HandS.Wide
import HandS.Gcd
import HandS.ClsMeth
import HandS.WordsExc
import HandS.Defaults
import HandS.CallSlots
import HandS.RaiseMore
import HandS.Walk
import HandS.Codes
import HandS.Evl
import HandS.Steps
import HandS.Head0
import HandS.Head1
import HandS.Head2
import HandS.Head3
import HandS.HeadHook1
import HandS.HeadHook2
import HandS.HeadNt
import KE.KOpsOwn
import HandS.Property
import HandS.MakeKw
import HandS.MakeKwOnly
import KE.KRevSl
import PySem.Challenge.RW_peekproof_k01_ratios_by_an_own_walk
set_option Elab.async false
section -- PkA
set_option linter.all false
set_option maxRecDepth 100000
set_option maxHeartbeats 2000000
/-! PkA: rules of our own for the laws of Peekproof: calls by one form, static methods, the exception that is kept, repr of data. -/
namespace Pk
open PySem PySem.Spec L2
open PyProof.Rows hiding St

/-! ### calls: what is asked may hang on the caller's slots -/
def CallS (X : Cx) (f : Value) (r : St → List V → Hp → VK → Prop) : Prop :=
  ∀ (pins : List (Addr × Obj)) (s : Shared) (σ : St) (H : Hp) (vs : List V) (us : List Value) (Q : VK), Inv X pins σ H s → Vals vs us → r σ vs H Q →
    wpAny (model X.prog X.w) X.A (call f us) (EP X pins σ Q) X.xe s
theorem calls_of {X : Cx} {f : Value} {r : List V → Hp → VK → Prop} (c : CallR X f r) : CallS X f (fun _ => r) :=
  fun pins s σ H vs us Q I rv q => c pins s σ H vs us Q I rv q
section
variable {X : Cx} {CX : CXT} {k : Nat} {f C : Addr} {fd : FuncData} {ps : List Str} {sp : Sp} {dvs : List V} {ds : List Value}
theorem calls_fn {E : XK} (F : FnOk X.prog X.w X.K X.mg X.base CX k f fd ps sp) (hr : Room k X.A) (hb : Binds X.K fd ps ds) (hd : Vals dvs ds) (hx : Passes CX X E) :
    CallS X (.ref f) (fun _ vs H Q => sp (vs ++ dvs) H Q E) :=
  fun _ _ _ _ _ _ _ I rv q => run_fn F hr hb hd hx I rv q
theorem calls_fnS {E : St → XK} (F : FnOk X.prog X.w X.K X.mg X.base CX k f fd ps sp) (hr : Room k X.A) (hb : Binds X.K fd ps ds) (hd : Vals dvs ds) (hx : ∀ σ, PassesAt CX X σ (E σ)) :
    CallS X (.ref f) (fun σ vs H Q => sp (vs ++ dvs) H Q (E σ)) :=
  fun _ _ σ _ _ _ _ I rv q => run_fnSD F hr hb hd (hx σ) I rv q
theorem calls_make {E : XK} (M : Mk X.K C f) (F : FnOk X.prog X.w X.K X.mg X.base CX k f fd ps sp) (hr : Room (k + 1) X.A) (hb : Binds X.K fd ps ds) (hd : Vals dvs ds) (hx : Passes CX X E) :
    CallS X (.ref C) (fun _ vs H Q => ∀ x dx, H x = none → H dx = none → dx ≠ x → sp (.ref x :: (vs ++ dvs)) (upd (upd H dx (.own x)) x (.ins C dx [])) (fun v H2 => v = .non ∧ Q (.ref x) H2) E) :=
  fun _ _ _ _ _ _ _ I rv q => run_make M F hr hb hd hx I rv q
end
/-- f(e, ..), f a name of the module -/
def tCS (r : St → List V → Hp → VK → Prop) (t : TA) : TE := fun σ H Q => t σ H fun vs H1 => r σ vs H1 Q
section
variable {X : Cx} {f : Addr} {r : St → List V → Hp → VK → Prop} {x : Str} {p pos apos : Pos} {e o : Expr} {es : List Expr} {t : TA} {ta : TE}
theorem pe_cs (c : CallS X (.ref f) r) (hm : X.mg x = some (.ref f)) (hk : PySem.W.keepIn X.K (.ref f) = true) (ha : PA X (e :: es) t) (hg : Gl X x := by rfl)
    (hdb : (x == ("__debug__" : Str)) = false := by decide) (he : starEach (e :: es) X.env = (false, eval e X.env) :: starEach es X.env := by rfl) (hpl : (backTo pos (starEach es X.env)).any (·.1) = false := by rfl) :
    PE X (.Call (.Name x p) (e :: es) [] pos) (tCS r t) := by
  refine ⟨fun pins s σ H Q I q => ?_⟩
  refine wpAny_Call_Name_kw (ld_glob I hg hm ?_ hdb)
  exact PySem.W.callWith_K (h₀ := X.base) I.ok.mod.kin hk (thn (ha.run pos pins s σ H _ I q) fun us s1 ⟨vs, H1, I1, rv, q1⟩ => ⟨I1.kIn, c pins s1 σ H1 vs us Q I1 rv q1⟩) he hpl
/-- what the text tells of a static method m of the class at C: its record at p, its def at g -/
structure StM (K : PySem.W.Frag) (C : Addr) (mc : Value) (m : Str) (p g : Addr) : Prop where
  look : PySem.W.findCls K (.ref C) mc m = some (.get (.builtin "staticmethod.__get__") (.ref p) .none (.ref C))
  rcd : ∃ more, PySem.W.recIn K p "staticmethod" = some (.ref g :: more)
  keep : PySem.W.keepIn K (.ref g) = true
theorem getstat_ok {C q g : Addr} {mc : Value} {m : Str} {pins : List (Addr × Obj)} {σ : St} {H : Hp} {s : Shared} {A : Around} {E : Value → Shared → Prop} {pl : Sem Bool} {Q : Value × List Value → Shared → Prop}
    (I : Inv X pins σ H s) (rd : ClX.CRead X.K C mc) (k : StM X.K C mc m q g) (h : ∀ s', Inv X pins σ H s' → Q (.ref g, []) s') : wpAny (model X.prog X.w) A (getMethod (.ref C) m pl) Q E s := by
  obtain ⟨more, hp⟩ := k.rcd
  refine PySem.W.method_cls I.kIn rd.ga (PySem.W.cls_bind I.kIn rd.rd k.look ?_)
  refine wpAny_call (PySem.W.sm_get (s := { s with toks := s.toks + 1 }) I.kIn hp (PySem.W.handed_on rfl ?_))
  exact h _ (I.tok _)
/-- C.m(e, ..), m a static method -/
def tSt (C : Addr) (r : St → List V → Hp → VK → Prop) (ta : TE) (t : TA) : TE := fun σ H Q => ta σ H fun x H1 => x = .ref C ∧ t σ H1 fun vs H2 => r σ vs H2 Q
theorem pe_stat {C q g : Addr} {mc : Value} {m : Str} {pl : Sem Bool} (ho : PE X o ta) (rd : ClX.CRead X.K C mc) (k : StM X.K C mc m q g) (c : CallS X (.ref g) r) (ha : PA X (e :: es) t)
    (he : starEach (e :: es) X.env = (false, eval e X.env) :: starEach es X.env := by rfl) (hpl : (backTo pos (starEach es X.env)).any (·.1) = false := by rfl)
    (ht : eval (.Call (.Attribute o m apos) (e :: es) [] pos) X.env = (do let z ← eval o X.env; standAt apos.atName; let (fn, fs) ← holding [z] (getMethod z m pl); callWith pos fn fs (backTo pos (starEach (e :: es) X.env)) (backToKw pos (keywordEach [] X.env))) := by rfl) :
    PE X (.Call (.Attribute o m apos) (e :: es) [] pos) (tSt C r ta t) := by
  refine ⟨fun pins s σ H Q I w => ?_⟩
  refine PySem.W.methodCall_KW (pl := pl) (thn (ho.run pins s σ H _ I w) fun u s1 ⟨x, H1, I1, rx, ex, w1⟩ => ?_) ht
  subst ex
  obtain rfl : u = Value.ref C := rx
  refine getstat_ok I1 rd k fun s2 I2 => ?_
  exact PySem.W.callWith_K (first := []) (h₀ := X.base) I2.ok.mod.kin k.keep (thn (ha.run pos pins s2 σ H1 _ I2 w1) fun us s3 ⟨vs, H2, I3, rv, w2⟩ => ⟨I3.kIn, c pins s3 σ H2 vs us Q I3 rv w2⟩) he hpl
end

/-! ### a callee, run where a built-in calls it -/
def RunAt (X : Cx) (A : Around) (f : Addr) (r : List V → Hp → VK → Prop) : Prop :=
  ∀ (pins : List (Addr × Obj)) (s : Shared) (σ : St) (H : Hp) (vs : List V) (us : List Value) (Q : VK), Inv X pins σ H s → Vals vs us → r vs H Q → wpAny (model X.prog X.w) A (call (.ref f) us) (EP X pins σ Q) X.xe s
theorem env0_at {X : Cx} {A : Around} {pins : List (Addr × Obj)} {σ : St} {H : Hp} {s : Shared} (I : Inv X pins σ H s) (hA : A.frames = X.A.frames) : Env0 X.prog X.w X.K X.mg X.base A X.stack s H := by
  have e := I.env0
  exact ⟨hA.trans e.frames, e.mod, e.bs, e.bsz, e.funs, e.frf, e.hok, e.bare⟩
section
variable {X : Cx} {CX : CXT} {k : Nat} {f C : Addr} {fd : FuncData} {ps : List Str} {sp : Sp} {E : XK} {A : Around}
theorem endOf {pins : List (Addr × Obj)} {σ : St} {H : Hp} {s : Shared} {Q : VK} (hx : Passes CX X E) (I : Inv X pins σ H s) {r : Result} {s' : Shared} (q : CR CX X.stack X.prog X.w H s Q E r s') :
    (∃ u, r = .ok (.ret u) ∧ EP X pins σ Q u s') ∨ ∃ e, r = .error e ∧ X.xe e s' := by
  cases r with
  | error e => exact .inr ⟨e, rfl, hx pins σ H s e s' I q⟩
  | ok fl =>
    cases fl with
    | ret u => exact .inl ⟨u, rfl, I.after q⟩
    | next => exact (show False from q).elim
    | brk => exact (show False from q).elim
    | cont => exact (show False from q).elim
theorem runAt_fn (F : FnOk X.prog X.w X.K X.mg X.base CX k f fd ps sp) (hr : Room k A) (hA : A.frames = X.A.frames) (hb : Binds X.K fd ps []) (hx : Passes CX X E) : RunAt X A f (fun vs H Q => sp vs H Q E) := by
  intro pins s σ H vs us Q I rv q
  have hl : us.length = ps.length := rv.length.symm.trans (F.len _ _ _ _ q)
  have b := hb s us I.kIn (by rw [List.append_nil]; exact hl)
  rw [List.append_nil] at b
  refine wpAny_call (codeAny_mono (F.run A X.stack s H ⟨us, []⟩ us vs Q E hr (env0_at I hA) b rv q) fun r s' w => ?_)
  rcases endOf hx I w with ⟨u, rfl, z⟩ | ⟨e, rfl, z⟩
  · exact z
  · exact z
end
/-! ### defs that are known where nothing is being shown: repr -/
/-- as FnOk, where no repr is under way -/
structure FnG (P : Program) (w : World) (K : PySem.W.Frag) (mg : Str → Option Value) (base : Heap) (CX : CXT) (k : Nat) (f : Addr) (fd : FuncData) (ps : List Str) (sp : Sp) : Prop where
  len : ∀ vs H Q E, sp vs H Q E → vs.length = ps.length
  go : ∀ (A : Around) (l : List Env) (s : Shared) (H : Hp) (args : Args) (us : List Value) (vs : List V) (Q : VK) (E : XK), Room k A → A.guards = some [] → Env0 P w K mg base A l s H → BindsTo s fd args (ps.zip us) → Vals vs us →
    sp vs H Q E → codeAny (model P w) A (.call (.ref f) args) (CR CX l P w H s Q E) s
section
variable {P : Program} {w : World} {K : PySem.W.Frag} {mg : Str → Option Value} {base : Heap} {CX : CXT} {k j : Nat} {f : Addr} {fd : FuncData} {ps : List Str} {sp : Sp}
theorem FnG.of (F : FnOk P w K mg base CX k f fd ps sp) : FnG P w K mg base CX k f fd ps sp := ⟨F.len, fun A l s H args us vs Q E hr _ e0 hb rv q => F.run A l s H args us vs Q E hr e0 hb rv q⟩
theorem FnG.mono (F : FnG P w K mg base CX j f fd ps sp) (h : j ≤ k) : FnG P w K mg base CX k f fd ps sp := ⟨F.len, fun A l s H args us vs Q E hr => F.go A l s H args us vs Q E (hr.mono h)⟩
/-- the rule for such a def -/
theorem fnG_of {x qual : Str} {st : Stmt} {N : List Str} (F : Fun K x qual st f fd) (S : FnScope N ps (defScope st)) (len : ∀ vs H Q E, sp vs H Q E → vs.length = ps.length)
    (body : ∀ (cdv : Value) (A : Around) (l : List Env) (s : Shared) (H : Hp) (vs : List V) (Q : VK) (E : XK), Room k (A.deeper (envOfC qual (defScope st) s.heap.objs.size f cdv)) → A.guards = some [] → sp vs H Q E →
      ∃ t, PSs (cxOf CX P w K mg base N qual (defScope st) f cdv A l s H E) (defBody st) t ∧ t { nx := fun _ G => Q .non G, rt := Q } (start N vs) H) : FnG P w K mg base CX (k + 1) f fd ps sp := by
  obtain ⟨oc, od, kV, doc, pm, an, cdv, ct, osl, rfl, lk, hcd⟩ := F.ex
  refine ⟨len, fun A l s H args us vs Q E hr hg e0 hb rv q => ?_⟩
  have old : ∀ b o, base.get? b = some o → s.heap.get? b = some o := fun b o e => (e0.bs b o e).1
  refine codeAny_call_function hr.depth (e0.mod.kin.keeps old _ _ lk) rfl S.co S.gen rfl (PySem.W.codeRec_of (e0.mod.kin.keeps old) hcd) (hb _ _ _ _ ?_)
  refine wpAny_newFunctionEnv_cells S.kind (fun ⟨n, v⟩ hy => ?_) fun env he s1 x => ?_
  · rcases S.par n (List.of_mem_zip hy).1 with z | z
    · exact .inl z
    · exact .inr ⟨z, PySem.W.cellsFrom_some _ _ _ (.inl z)⟩
  subst he
  refine ⟨(e0.mod.nolimit.keeps old).keeps x.toInCall.keep, codeAny_func ?_⟩
  obtain ⟨t, ht, hq⟩ := body cdv A l s H vs Q E (hr.deeper _) hg q
  refine wpAny_mono (ht.run [] s1 (start N vs) H _ (inv_start S hr.hd e0 (len _ _ _ _ q) rv x) hq) (fun fl s' z => ?_) fun e s' z => z
  cases fl with
  | ret u =>
    obtain ⟨v, σ1, G, J, ru, y⟩ := z
    exact ⟨v, G, J.os, J.bare, J.base, J.hok, ru, y⟩
  | next =>
    obtain ⟨σ1, G, J, y⟩ := z
    exact ⟨.non, G, J.os, J.bare, J.base, J.hok, rfl, y⟩
  | brk =>
    obtain ⟨_, _, _, y⟩ := z
    exact (show False from y).elim
  | cont =>
    obtain ⟨_, _, _, y⟩ := z
    exact (show False from y).elim
end
section
variable {X : Cx} {CX : CXT} {k : Nat} {f C : Addr} {fd : FuncData} {ps : List Str} {sp : Sp} {A : Around}
theorem callsG {E : XK} {dvs : List V} {ds : List Value} (F : FnG X.prog X.w X.K X.mg X.base CX k f fd ps sp) (hr : Room k X.A) (hg : X.A.guards = some []) (hb : Binds X.K fd ps ds) (hd : Vals dvs ds) (hx : Passes CX X E) :
    CallS X (.ref f) (fun _ vs H Q => sp (vs ++ dvs) H Q E) := by
  intro pins s σ H vs us Q I rv q
  have r2 := rv.append hd
  have hl : (us ++ ds).length = ps.length := r2.length.symm.trans (F.len _ _ _ _ q)
  refine wpAny_call (codeAny_mono (F.go X.A X.stack s H ⟨us, []⟩ (us ++ ds) (vs ++ dvs) Q E hr hg I.env0 (hb s us I.kIn hl) r2 q) fun r s' w => ?_)
  rcases endOf hx I w with ⟨u, rfl, z⟩ | ⟨e, rfl, z⟩
  · exact z
  · exact z
/-- repr(x), x data: None, a bool, an int, a text in lists and tuples -/
def rReprD (K : PySem.W.Frag) : List V → Hp → VK → Prop := fun vs H Q => ∃ (a : Addr) (d : PyData), vs = [.ref a] ∧ Dp K H (.ref a) d ∧ d.showable = true ∧ d.hasDict = false ∧ d.depth ≤ 40 ∧ d.shown.length ≤ sizeLine ∧ Q (.str d.shown) H
theorem call_reprD (hg : X.A.guards = some []) (hu : X.A.units + 64 < cLine) : CallR X (.builtin "repr") (rReprD X.K) := by
  intro pins s σ H vs us Q I rv q
  obtain ⟨a, d, rfl, hd, h1, h2, h3, h4, q⟩ := q
  cases rv with
  | cons ra rn =>
    cases rn
    obtain ⟨as, rd⟩ := Dp.reads I d _ _ hd ra
    cases ra
    refine PySem.repr_of_reads' rd h1 (PyData.noDict_hsm h2) hg (by omega) (fun _ _ e => e) (fun h' u tk kp => ?_) h4
    exact ⟨.str d.shown, H, I.kept (t' := tk) kp, ⟨u, rfl⟩, q⟩
/-- repr(o), str(o) by o's own method: what it promises, a text -/
def rOwnT (C : Addr) (r : List V → Hp → VK → Prop) : List V → Hp → VK → Prop := fun vs H Q => ∃ (a dx : Addr) (fs : List (Str × V)), vs = [.ref a] ∧ H a = some (.ins C dx fs) ∧ r [.ref a] H fun v G => ∃ y, v = .str y ∧ Q (.str y) G
theorem backT {pins : List (Addr × Obj)} {σ : St} {Q : VK} {u : Value} {s' : Shared} (z : EP X pins σ (fun v G => ∃ y, v = V.str y ∧ Q (.str y) G) u s') : PySem.W.StrBack (EP X pins σ Q) u s' := by
  obtain ⟨v, G, J, ru, y, rfl, q⟩ := z
  obtain ⟨t, rfl⟩ := ru
  exact ⟨.str y, G, J, ⟨t, rfl⟩, q⟩
theorem call_reprO {r : List V → Hp → VK → Prop} (hu : X.A.in1.units < cLine) (hs : PySem.W.findIn X.K (.ref C) "__repr__" = some (some (.ref f))) (hf : PySem.W.isFn X.K (.ref f) = true) (c : RunAt X X.A.in1 f r) : CallR X (.builtin "repr") (rOwnT C r) := by
  intro pins s σ H vs us Q I rv q
  obtain ⟨a, dx, fs, rfl, ha, q⟩ := q
  cases rv with
  | cons ra rn =>
    cases rn
    obtain ⟨mA, O, _⟩ := ins_get I.hok ha
    obtain ⟨od, J, _⟩ := O.look
    obtain ⟨m, hF⟩ := I.fr
    cases (show _ = Value.ref a from ra)
    exact PySem.W.repr_K hu hF I.ok.mod.kin J hs hf (thn (c pins s σ H [.ref a] [.ref a] _ I (.cons rfl .nil) q) fun u s1 z => backT z)
theorem call_strO {r : List V → Hp → VK → Prop} (hu : X.A.in1.in1.units < cLine) (hs : PySem.W.findIn X.K (.ref C) "__str__" = some (some (.ref f))) (hf : PySem.W.isFn X.K (.ref f) = true) (c : RunAt X X.A.in1.in1 f r) : CallR X (.type "str") (rOwnT C r) := by
  intro pins s σ H vs us Q I rv q
  obtain ⟨a, dx, fs, rfl, ha, q⟩ := q
  cases rv with
  | cons ra rn =>
    cases rn
    obtain ⟨mA, O, _⟩ := ins_get I.hok ha
    obtain ⟨od, J, _⟩ := O.look
    cases (show _ = Value.ref a from ra)
    exact PySem.W.kso_call hu I.kIn J hs hf (thn (c pins s σ H [.ref a] [.ref a] _ I (.cons rfl .nil) q) fun u s1 z => backT z)
/-- x == y by x's own __eq__, which answers True or False -/
def rOwnEq (C : Addr) (r : List V → Hp → VK → Prop) : R2 := fun x y H Q => ∃ (a dx b dy : Addr) (fs gs : List (Str × V)), x = .ref a ∧ H a = some (.ins C dx fs) ∧ y = .ref b ∧ H b = some (.ins C dy gs) ∧ r [.ref a, .ref b] H fun v G => ∃ c, v = .bl c ∧ Q (.bl c) G
theorem op_eqO {r : List V → Hp → VK → Prop} (hu : X.A.units < cLine) (hs : PySem.W.findIn X.K (.ref C) "__eq__" = some (some (.ref f))) (hf : PySem.W.isFn X.K (.ref f) = true) (c : RunAt X X.A f r) : OpR X (compareOp .Eq) (rOwnEq C r) := by
  intro pins s σ H x y v u Q I rx ry q
  obtain ⟨a, dx, b, dy, fs, gs, rfl, ha, rfl, hb, q⟩ := q
  obtain ⟨mA, O, _⟩ := ins_get I.hok ha
  obtain ⟨od, J, _⟩ := O.look
  obtain ⟨mB, O2, _⟩ := ins_get I.hok hb
  obtain ⟨od2, J2, _⟩ := O2.look
  obtain ⟨m, hF⟩ := I.fr
  cases (show v = Value.ref a from rx)
  cases (show u = Value.ref b from ry)
  show wpAny _ X.A (richCompare .Eq (.ref a) (.ref b)) _ _ _
  refine PySem.W.cmp_K (op := .Eq) (tb := .ref C) hu hF I.ok.mod.kin J J2.type (by simp [PySem.W.notFirst]) hs hf (thn (c pins s σ H [.ref a, .ref b] [.ref a, .ref b] _ I (.cons rfl (.cons rfl .nil)) q) fun z s1 hz => ?_)
  obtain ⟨v, G, I1, rz, c, rfl, q1⟩ := hz
  cases rz
  exact ⟨.bl c, G, I1, rfl, q1⟩
end
end Pk
end

section -- PkB
set_option linter.all false
set_option maxRecDepth 100000
set_option maxHeartbeats 2000000
/-! PkB: an exception that is caught and kept in a local name. -/
namespace Pk
open PySem PySem.Spec L2
open PyProof.Rows hiding St

/-- at a: an exception of this class, with this dict, that is done with -/
def exq (cls : Value) (d : Option Addr) (a : Addr) : HO := .ext fun h => ∃ (oe : Obj) (vs : Array Value), h.get? a = some oe ∧ oe.cls = cls ∧ oe.dict = d ∧ oe.data = .fields vs
theorem exq_ok {P : Program} {w : World} {H : Hp} {h : Heap} {a : Addr} {cls : Value} {d : Option Addr} {oe : Obj} {vs : Array Value} (e : h.get? a = some oe) (z : Zc cls d oe) (hd : oe.data = .fields vs) : ObjOk P w H h a (exq cls d a) :=
  ⟨⟨oe, vs, e, z.1, z.2, hd⟩, ⟨oe, e⟩, fun h1 h2 p k => by
    obtain ⟨o, us, q, r⟩ := p
    exact ⟨o, us, k _ q, r⟩⟩
theorem exq_at {P : Program} {w : World} {H : Hp} {h : Heap} {a : Addr} {cls : Value} {d : Option Addr} (hok : HOk P w H h) (q : H a = some (exq cls d a)) : ∃ (oe : Obj) (vs : Array Value), h.get? a = some oe ∧ oe.cls = cls ∧ oe.dict = d ∧ oe.data = .fields vs := by
  have x : ObjOk P w H h a (.ext fun h => ∃ (oe : Obj) (vs : Array Value), h.get? a = some oe ∧ oe.cls = cls ∧ oe.dict = d ∧ oe.data = .fields vs) := hok a _ q
  exact x.1
section
variable {X : Cx} {pins : List (Addr × Obj)} {σ : L2.St} {H : Hp} {s : Shared} {a : Addr} {o : HO}
/-- an object of ours that was not tracked is tracked from here on -/
theorem inv_hold (I : L2.Inv X pins σ H s) (na : H a = none) (n0 : X.s_0.heap.get? a = none) (nL : a ≠ X.env.locals) (nC : ∀ x c, X.env.cells.lookup x = some c → c ≠ a) (nP : ∀ p ∈ X.pn ++ pins, p.1 ≠ a)
    (new : ObjOk X.prog X.w (upd H a o) s.heap a o) : L2.Inv X pins σ (upd H a o) s := by
  have ne : ∀ {b : Addr} {u : HO}, H b = some u → b ≠ a := fun q => ne_of_none q na
  have ne0 : ∀ {b : Addr} {u : Obj}, X.s_0.heap.get? b = some u → b ≠ a := fun {b u} q z => by
    rw [z, n0] at q
    cases q
  refine ⟨I.ok, I.os, I.bare, ⟨I.base.keep, I.base.slot, fun b u q n hx => ?_, I.base.there, fun b xs q => ?_, fun b u xs q => ?_, fun b q ps => ?_⟩, I.loc, I.cell, ?_, fun x c q => ?_, fun p hp => ?_, fun b u q => ?_, I.len⟩
  · rw [upd_ne (ne0 q)]
    exact I.base.free b u q n hx
  · have z := I.base.tups b xs q
    rw [upd_ne (ne z)]
    exact z
  · have z := I.base.frzs b u xs q
    rw [upd_ne (ne z)]
    exact z
  · obtain ⟨m, z⟩ := I.base.tbls b q ps
    exact ⟨m, by rw [upd_ne (ne z)]; exact z⟩
  · rw [upd_ne (Ne.symm nL)]
    exact I.free
  · rw [upd_ne (nC x c q)]
    exact I.freeC x c q
  · obtain ⟨e, n, r⟩ := I.pin p hp
    exact ⟨e, by rw [upd_ne (nP p hp)]; exact n, r⟩
  · by_cases hb : b = a
    · subst hb
      rw [upd_same] at q
      cases q
      exact new
    · rw [upd_ne hb] at q
      exact (I.hok b u q).stay (fun _ _ _ z => z) (fun c z => by rw [upd_ne (ne z)]; exact z) fun c xs z => by rw [upd_ne (ne z)]; exact z
theorem inv_suite0 (I : L2.Inv X pins σ H s) (a : Addr) : L2.Inv (X.suite a (X.pn ++ pins)) [] σ H s :=
  ⟨I.ok.suite a (X.pn ++ pins), I.os, I.bare, I.base, I.loc, I.cell, I.free, I.freeC, fun p hp => I.pin p (by rw [List.append_nil] at hp; exact hp), I.hok, I.len⟩
theorem inv_unsuite0 {more : List (Addr × Obj)} (I : L2.Inv (X.suite a (X.pn ++ pins)) more σ H s) (ok : X.Ok) : L2.Inv X pins σ H s :=
  ⟨ok, I.os, I.bare, I.base, I.loc, I.cell, I.free, I.freeC, fun p hp => I.pin p (List.mem_append_left more hp), I.hok, I.len⟩
end
/-- what the clause wishes of an exception of the body; slot i is its name's -/
def wKeep (K : PySem.W.Frag) (c : Value) (i : Nat) (ts : Addr → Value → Option Addr → TS) (D : Ends) : WX := fun cls d σ H => PySem.W.exmOne K cls c = some true ∧
  ∀ a, H a = none → ts a cls d { nx := fun σ1 H1 => D.nx (σ1.set i none) H1, rt := D.rt, bk := fun σ1 H1 => D.bk (σ1.set i none) H1, ct := fun σ1 H1 => D.ct (σ1.set i none) H1 } (σ.set i (some (.ref a))) (upd H a (exq cls d a))
section
variable {X : Cx} {x n : Str} {c : Value} {i : Nat} {body suite : List Stmt} {b₀ : Stmt} {np pos pos1 : Pos} {tb : WX → TS} {ts : Addr → Value → Option Addr → TS}
/-- try: body / except x as n: suite, every exception of the body being an x; it stays tracked -/
theorem ps_try_keep (hs : X.stack = X.env :: X.outer) (hf : X.env.frame = some X.env.locals) (hex : X.ex = []) (hN : X.N.Nodup) (hi : X.N[i]? = some n) (hln : X.env.kindOf n = some .local) (hc : Gl X x) (hm : X.mg x = some c)
    (hb : ∀ (W : WX) (pn : List (Addr × Obj)) (xe : Value → Shared → Prop), Takes (X.tr pn xe) W → PassesOwn (model X.prog X.w) X.A X.env xe → PSs (X.tr pn xe) body (tb W))
    (hsu : ∀ (a : Addr) (cls : Value) (d : Option Addr) (pn : List (Addr × Obj)), PSs (X.suite a pn) (b₀ :: suite) (ts a cls d)) (hdb : (x == ("__debug__" : Str)) = false := by decide) :
    PS X (.Try body [.ExceptHandler (some (.Name x np)) (some n) (b₀ :: suite) pos1] [] [] pos) (fun D σ H => tb (wKeep X.K c i ts D) D σ H) := by
  refine ⟨fun pins s σ H D I h => ?_⟩
  have ok := I.ok
  have hfr : X.A.frames = some (X.env :: X.outer) := by rw [ok.frames, hs]
  refine wpAny_Try_except ?_
  refine wpAny_mono ((hb (wKeep X.K c i ts D) (X.pn ++ pins) (fun e s₁ => wpAny (model X.prog X.w) X.A (noteFrame e X.env) (fun _ s₂ => wpAny (model X.prog X.w) X.A (setFlight e none) (fun _ s₃ =>
    wpAny (model X.prog X.w) X.A (handleBy e X.env [.ExceptHandler (some (.Name x np)) (some n) (b₀ :: suite) pos1]) (SP X pins D) X.xe s₃) X.xe s₂) X.xe s₁) (fun u s' xx => ?_) PassesOwn.looking).run [] s σ H D (I.toTry _) h) (fun f s1 hsp => ?_) (fun e s1 he => he)
  · obtain ⟨a, B, sI, pins', σ', H', cls, d, rfl, J', nb, up, sky, na, os, ag, hb1, hyes⟩ := xx
    have J : L2.Inv X pins σ' H' sI := J'.ofTry ok
    rw [show (X.tr (X.pn ++ pins) _).stack = X.env :: X.outer from hs] at sky
    show wpAny (model X.prog X.w) X.A (noteFrame (.ref a) X.env) _ _ _
    refine Sky.land Zc.steady hfr hf sky fun h3 fl3 up3 => ?_
    have J3 := J.landed nb fl3.1 (s' := { s' with heap := h3 }) (up.trans up3) os ag
    obtain ⟨oe3, vs3, he3, hz3, hd3⟩ := fl3.there
    have nfr : a ∉ frs X.stack := fun hm1 => by
      rw [hs] at hm1
      obtain ⟨_, o1, e1, z⟩ := fl3.2.2.1.mem hm1
      rw [he3] at e1
      cases e1
      exact z _ hd3
    have nL : a ≠ X.env.locals := fun z => nfr (by rw [hs]; exact List.mem_filterMap.mpr ⟨X.env, List.mem_cons_self, by rw [hf, z]⟩)
    have nI : sI.heap.get? a = none := by
      cases q : sI.heap.get? a with
      | none => rfl
      | some o1 =>
        have z := nb a o1 q nfr
        rw [fl3.2.1] at z
        cases z
    have n0 : X.s_0.heap.get? a = none := by
      cases q : X.s_0.heap.get? a with
      | none => rfl
      | some o1 =>
        obtain ⟨o2, z⟩ := J.base.there a o1 q (by rw [hex]; exact List.not_mem_nil)
        rw [nI] at z
        cases z
    have nC : ∀ y v, X.env.cells.lookup y = some v → v ≠ a := fun y v q z => by
      obtain ⟨_, o1, e1, _⟩ := J.cell y v q
      rw [z, nI] at e1
      cases e1
    have nP : ∀ p ∈ X.pn ++ pins, p.1 ≠ a := fun p hp z => by
      have e1 := (J.pin p hp).1
      rw [z, nI] at e1
      cases e1
    refine wpAny_handleBy_cons (codeAny_handlers_test ?_) (by intro q; cases q)
    have LT : PySem.W.Looks (model X.prog X.w) h3 (typeOf (.ref a)) cls := fun A Q E s k q => wpAny_typeOf_ref (k _ _ he3) (by rw [hz3.1]; exact q)
    have S3 := inv_suite0 J3 a
    refine ld_glob (X := X.suite a (X.pn ++ pins)) S3 hc hm ((PySem.W.exm_one (M := model X.prog X.w) J3.kIn LT hb1).here ?_) hdb
    refine codeAny_handlers_suite_as ?_
    refine HandSPX.lands_againZ fl3 fun h4 fl4 up4 => ?_
    have J4 := J.landed nb fl4.1 (s' := { s' with heap := h4 }) ((up.trans up3).trans up4) os ag
    obtain ⟨oe4, vs4, he4, hz4, hd4⟩ := fl4.there
    have S4 := inv_suite0 (inv_hold J4 na n0 nL nC nP (exq_ok he4 hz4 hd4)) a
    refine store_ok (X := X.suite a (X.pn ++ pins)) (v := .ref a) S4 hN hi (.inl hln) rfl (fun s5 S5 => ?_) (.inr hln)
    refine wpAny_mono ((hsu a cls d (X.pn ++ pins)).run [] s5 _ _ _ S5 (hyes a na)) (fun f s6 hsp => ?_) (fun _ _ z => False.elim z)
    have fin : ∀ {σ6 : L2.St} {H6 : Hp} {Q : Shared → Prop}, L2.Inv (X.suite a (X.pn ++ pins)) [] σ6 H6 s6 → (∀ s7, L2.Inv X pins (σ6.set i none) H6 s7 → Q s7) →
        wpAny (model X.prog X.w) X.A (do bindName X.env n .none; unbindBehindTheSuite X.env n pos1) (fun _ s7 => Q s7) X.xe s6 := fun S6 hq => gone_ok (inv_unsuite0 S6 ok) hN hi hln hq
    cases f with
    | next =>
      obtain ⟨σ6, H6, S6, q6⟩ := hsp
      exact fin S6 fun s7 J7 => ⟨_, _, J7, q6⟩
    | brk =>
      obtain ⟨σ6, H6, S6, q6⟩ := hsp
      exact fin S6 fun s7 J7 => ⟨_, _, J7, q6⟩
    | cont =>
      obtain ⟨σ6, H6, S6, q6⟩ := hsp
      exact fin S6 fun s7 J7 => ⟨_, _, J7, q6⟩
    | ret u =>
      obtain ⟨v6, σ6, H6, S6, r6, q6⟩ := hsp
      exact fin S6 fun s7 J7 => ⟨_, _, _, J7, r6, q6⟩
  · cases f with
    | next =>
      obtain ⟨σ1, H1, J1, q⟩ := hsp
      exact wpAny_execs_nil ⟨σ1, H1, J1.ofTry ok, q⟩
    | brk =>
      obtain ⟨σ1, H1, J1, q⟩ := hsp
      exact ⟨σ1, H1, J1.ofTry ok, q⟩
    | cont =>
      obtain ⟨σ1, H1, J1, q⟩ := hsp
      exact ⟨σ1, H1, J1.ofTry ok, q⟩
    | ret u =>
      obtain ⟨v, σ1, H1, J1, r, q⟩ := hsp
      exact ⟨v, σ1, H1, J1.ofTry ok, r, q⟩
end
end Pk
end

section -- PkC
set_option linter.all false
set_option maxRecDepth 100000
set_option maxHeartbeats 4000000
/-! PkC: what is asked of a kept exception: its fields, its class. -/
namespace Pk
open PySem PySem.Spec L2
open PyProof.Rows hiding St
section
variable {X : Cx} {e : Expr} {te : TE} {pos : Pos} {n : Str}
/-- e.n, e a kept exception of the class at C -/
def tXq (K : PySem.W.Frag) (C : Addr) (n : Str) (te : TE) : TE := fun σ H Q => te σ H fun x H1 => ∃ (a dd : Addr) (fs : List (Str × V)) (v : V), x = .ref a ∧ H1 a = some (exq (.ref C) (some dd) a) ∧ H1 dd = some (.xd fs) ∧ fs.lookup n = some v ∧ Q v H1
theorem pe_xq {C : Addr} (T : XfC X.K C) (hno : PySem.W.findIn X.K (.ref C) n = some none) (he : PE X e te) (hb : attributeBase e n X.env (eval e X.env) = eval e X.env := by rfl) : PE X (.Attribute e n pos) (tXq X.K C n te) := by
  refine ⟨fun pins s σ H Q I h => attr_of hb (thn (he.run pins s σ H _ I h) fun u s1 ⟨x, H1, I1, rx, a, dd, fs, v, ex, ea, ed, l, q⟩ => ?_)⟩
  subst ex
  obtain rfl : u = Value.ref a := rx
  obtain ⟨oe, vs, ho, hcl, hdc, hda⟩ := exq_at I1.hok ea
  have hx : ObjOk X.prog X.w H1 s1.heap dd (.xd fs) := I1.hok dd _ ed
  obtain ⟨mA, hns, hr⟩ := hx
  obtain ⟨od, hod, hl⟩ := lookIn_ns hns
  obtain ⟨y, hy, ry⟩ := RelO.some_of (v := v) (o := mA n) (by rw [← l]; exact hr n)
  have J : PySem.W.InstAt s1.heap a oe C (some od) := ⟨ho, hcl, (by unfold PySem.W.notCls; rw [hda] <;> rfl), (by rw [hdc]; exact hod)⟩
  exact HandSPX.exc_get I1.kIn J T.ga T.gg T.exC (PySem.W.findObj_own T.hdC hno rfl (by rw [hl, hy])) (handed_of ry) ⟨v, H1, I1.tok _, ry, q⟩
end
end Pk
namespace PySem.W
open PySem PySem.Spec PySem.Calls PyProof.Rows
section
variable {prog : Program} {w : World} {A : Around} {E : Value → Shared → Prop} {s : Shared} {K : Frag} {x D : Addr} {ox : Obj} {od : Option Obj}
theorem pk_find_data {name : Str} {a g : Value} (hc : (clsIn K D).isSome = true) (ha : findIn K (.ref D) name = some (some a)) (hg : specialIn K a "__get__" = some (some g)) (ht : takesIn K a = some true) : findObj K D od name = some (.bind g a) := by
  obtain ⟨cd, hcd⟩ := Option.isSome_iff_exists.mp hc
  unfold findObj
  rw [hcd, Option.bind_some, ha, Option.bind_some]
  simp only [hg, ht, Option.bind_some]
theorem pk_class (C : L2.ExcC K D) {Q : Option Value → Shared → Prop} (X : K.In s.heap) (I : InstAt s.heap x ox D od) (h : Q (some (.ref D)) { s with toks := s.toks + 1 }) : wpAny (model prog w) A (getAttr? (.ref x) "__class__") Q E s := by
  have hf : findObj K D od "__class__" = some (.bind (.builtin "getset_descriptor.__get__") (.builtin "object.__class__")) := pk_find_data (by obtain ⟨cd, hc, _⟩ := any_some C.hd; rw [hc] <;> rfl) C.ha C.hn C.ht
  obtain ⟨hp, g, d, t, os⟩ := s
  have T0 := I.type (M := model prog w)
  have T1 := looks_findIn (M := model prog w) X C.hg
  have T2 := looks_findIn (M := model prog w) X C.hk
  have T3 := looks_find (M := model prog w) X I hf
  have sub : Looks (model prog w) hp (isInstance (.ref x) (.type "BaseException")) true := T0.andThen (looks_subIn X C.hs)
  have b2 : (Value.builtin "BaseException.__getattribute__" == Value.builtin "object.__getattribute__") = false := by decide +kernel
  have b1 : (onTheHeap (Value.ref D) && Value.builtin "BaseException.__getattribute__" == Value.builtin "object.__getattribute__") = false := by rw [b2]; rfl
  have b0 : (false && onTheHeap (Value.builtin "BaseException.__getattribute__")) = false := rfl
  unfold getAttr? getAttrBy? getAttrBy
  refine wpAny_bind (wpAny_mkText (wpAny_bind (wpAny_attempt (wpAny_holding (wpAny_bind (T0.at (wpAny_bind (T1.at ?_))))))))
  show wpAny _ _ (if (onTheHeap (Value.ref D) && Value.builtin "BaseException.__getattribute__" == Value.builtin "object.__getattribute__") = true then _ else _) _ _ _
  rw [b1, if_neg Bool.false_ne_true]
  unfold getAttrByItsOwn hookBefore
  refine wpAny_bind ?_
  rw [if_pos (show onTheHeap (Value.ref D) = true from rfl)]
  refine T2.at (wpAny_bind (wpAny_attempt (wpAny_holding ?_)))
  unfold callGetattribute
  rw [b0, if_neg Bool.false_ne_true]
  unfold boundAndCalled
  rw [PySem.F.excAttr_ValueError.ga.bind (.ref x)]
  refine wpAny_bind (wpAny_pure ?_)
  show wpAny _ _ (call (.builtin "BaseException.__getattribute__") [.ref x, .str "__class__" t]) _ _ _
  refine wpAny_call (codeAny_call_builtin PySem.F.excAttr_ValueError.ga.plain PySem.F.entry_bexc_ga ?_)
  refine @check_slot (model prog w) _ _ ⟨hp, g, d, t + 1, os⟩ "BaseException.__getattribute__" "BaseException" "__getattribute__" (.ref x) [.str "__class__" t] [] _ (by decide +kernel) (by decide +kernel) sub (PySem.F.args_bexc_ga (.ref x) (.str "__class__" t)) ?_
  unfold Builtin.«object.__getattribute__»
  refine wpAny_bind (wpAny_of_eq (a := ((Value.ref x : Value), [Value.str "__class__" t])) (by first | rfl | (simp only [slotArgs]; rfl)) (wpAny_bind (wpAny_pure (wpAny_bind (T0.at (wpAny_bind (T3.at ?_)))))))
  show wpAny _ _ (holding [Value.builtin "object.__class__"] (call (.builtin "getset_descriptor.__get__") [.builtin "object.__class__", .ref x, .ref D]) >>= ret) _ _ _
  refine wpAny_bind (wpAny_holding (wpAny_call (class_get (s := ⟨hp, g, d, t + 1, os⟩) (ox := ox) (od := od) X I C.hm (wpAny_pure ?_))))
  show wpAny _ _ (handedOut (.ref D)) _ _ _
  rw [handedOut_of (v := .ref D) rfl]
  first
    | exact wpAny_pure (wpAny_pure h)
    | exact wpAny_pure h
    | exact wpAny_pure (wpAny_bind (wpAny_pure (wpAny_pure h)))
theorem pk_kit (C : L2.ExcC K D) : KitX K (.ref x) (.ref D) (fun h => InstAt h x ox D od) where
  ty := fun _ _ _ I => I.type
  it := fun M h X I => by
    obtain ⟨cd, hcd, _⟩ := any_some C.hd
    unfold clsIn at hcd
    split at hcd
    · rename_i c1 d1 cd1 sl1 ho
      exact fun A1 Q1 E1 s1 k q => by unfold isType loadHead; exact wpAny_bind (wpAny_loadPart (k _ _ (X _ _ ho)) (wpAny_pure q))
    · cases hcd
  ne := fun h tp dd its n sl X htp => by
    obtain ⟨cd, hcd, _⟩ := any_some C.hd
    refine Bool.eq_false_iff.mpr fun q => ?_
    have e : D = tp := Value.ref.inj (beq_iff_eq.mp q)
    subst e
    unfold clsIn at hcd
    split at hcd
    · rename_i c1 d1 cd1 sl1 ho
      have z := (X _ _ ho).symm.trans htp
      cases z
    · cases hcd
  ca := fun X I k => pk_class C X I k
end
end PySem.W

namespace Pk
open PySem PySem.Spec L2
open PyProof.Rows hiding St
/-- isinstance(e, c), e a kept exception -/
def rIsQ (K : PySem.W.Frag) : List V → Hp → VK → Prop := fun xs H Q => ∃ (a C : Addr) (d : Option Addr) (c : V) (cv : Value) (b : Bool), xs = [.ref a, c] ∧ (∀ o, d = some o → ∃ fs, H o = some (.xd fs)) ∧ H a = some (exq (.ref C) d a) ∧ ClsV c cv ∧ ExcC K C ∧
  PySem.W.kitOne K (.ref C) cv = some b ∧ Q (.bl b) H
theorem call_isQ {X : Cx} : CallR X (.builtin "isinstance") (rIsQ X.K) := by
  intro pins s σ H xs us Q I r h
  obtain ⟨a, C, d, c, cv, b, rfl, hdd, ha, hc, T, e, q⟩ := h
  cases r with
  | cons rx rr =>
    cases rr with
    | cons rt rr =>
      cases rr
      cases rx
      have ec := hc.eq rt
      subst ec
      obtain ⟨oe, vs, ho, hcl, hdc, hda⟩ := exq_at I.hok ha
      have no : PySem.W.notCls oe = true := by unfold PySem.W.notCls; rw [hda] <;> rfl
      cases d with
      | none =>
        have J : PySem.W.InstAt s.heap a oe C none := ⟨ho, hcl, no, by rw [hdc]; trivial⟩
        exact PySem.W.kia_one (PySem.W.pk_kit T) I.kIn J e (fun z => nomatch z) fun tk => ⟨.bl b, H, I.tok tk, rfl, q⟩
      | some dd =>
        obtain ⟨fs, hf⟩ := hdd dd rfl
        have hx : ObjOk X.prog X.w H s.heap dd (.xd fs) := I.hok dd _ hf
        obtain ⟨mA, hns, _⟩ := hx
        obtain ⟨od, hod, _⟩ := lookIn_ns hns
        have J : PySem.W.InstAt s.heap a oe C (some od) := ⟨ho, hcl, no, by rw [hdc]; exact hod⟩
        exact PySem.W.kia_one (PySem.W.pk_kit T) I.kIn J e (fun z => nomatch z) fun tk => ⟨.bl b, H, I.tok tk, rfl, q⟩
end Pk
end

section -- PkD
set_option linter.all false
set_option maxRecDepth 100000
set_option maxHeartbeats 2000000
/-! PkD: numbers of any size; short words for readings; what a def of the module is. -/
namespace Pk
open PySem PySem.Spec L2
open PyProof.Rows hiding St

/-! ### numbers -/
/-- a divisor that is not 0, below 2 ^ 9000 -/
def CDivZ (_ j : Int) : Prop := j ≠ 0 ∧ j.natAbs.log2 < 9000
/-- a power that stays small enough -/
def CPowW (i j : Int) : Prop := 0 ≤ j ∧ j ≤ 1000 ∧ i.natAbs < 2 ^ 200
section
variable {X : Cx}
theorem op_fdivZ : OpR X (binaryOp .FloorDiv) (rI CDivZ fun i j => .int (i.fdiv j)) := opI fun _ _ _ _ _ _ _ hc q => floordiv_int hc.1 q (.inl (PyProof.noPylong_of_log2 hc.2))
theorem bits_small {i : Int} (h : i.natAbs < 2 ^ 200) : Builtin.Int.intBits i ≤ 200 := by
  have l := PySem.Flt.log2_lt_of (by decide : 0 < 200) h
  unfold Builtin.Int.intBits
  split
  · exact Nat.zero_le _
  · exact l
theorem op_powW : OpR X (binaryOp .Pow) (rI CPowW fun i j => .int (i ^ j.toNat)) := opI fun i j _ _ _ _ _ hc q => by
  obtain ⟨h0, h1, h2⟩ := hc
  have hb := bits_small h2
  refine pow_int h0 ?_ q
  have a1 : (Builtin.Int.intBits i : Int) ≤ 200 := by omega
  have a2 : (Builtin.Int.intBits i : Int) * j ≤ 200 * 1000 := Int.mul_le_mul a1 h1 h0 (by decide)
  exact Int.le_trans a2 (by decide)
end
theorem log2_lt {n a b : Nat} (h : n < 2 ^ a) (h0 : 0 < a) (hb : a ≤ b) : n.log2 < b := Nat.lt_of_lt_of_le (PySem.Flt.log2_lt_of h0 h) hb
theorem divZ {i j : Int} {a : Nat} (hj : j ≠ 0) (h : j.natAbs < 2 ^ a) (h0 : 0 < a) (hb : a ≤ 9000) : CDivZ i j := ⟨hj, log2_lt h h0 hb⟩
theorem fdiv_pos {i j : Int} (h : 0 < j) : i.fdiv j = i / j := Int.fdiv_eq_ediv_of_nonneg i (by omega)

/-! ### readings: an if whose test is known -/
theorem if_t {c : Bool} {A B : Prop} (hc : c = true) (h : A) : if c = true then A else B := by rw [if_pos hc]; exact h
theorem if_f {c : Bool} {A B : Prop} (hc : c = false) (h : B) : if c = true then A else B := by rw [hc]; exact iteF h
theorem if_b {c : Bool} {A B : Prop} (h1 : c = true → A) (h2 : c = false → B) : if c = true then A else B := by
  cases c with
  | true => exact iteT (h1 rfl)
  | false => exact iteF (h2 rfl)
/-- .. whose negation is tested -/
theorem if_nt {c : Bool} {A B : Prop} (hc : c = true) (h : B) : if (!c) = true then A else B := by subst hc; exact iteF h
theorem if_nf {c : Bool} {A B : Prop} (hc : c = false) (h : A) : if (!c) = true then A else B := by subst hc; exact iteT h

/-- a built-in class by its name -/
theorem pe_tyname {X : Cx} {x : Str} {pos : Pos} (n : String) (hm : X.mg x = none) (hv : bootBuiltins x = some (.type n)) (hg : Gl X x := by rfl) (hn : x ≠ "__name__" := by decide) (hdb : (x == ("__debug__" : Str)) = false := by decide) : PE X (.Name x pos) (tC (.ty n)) :=
  pe_bltn (v := .ty n) (u := .type n) hg hm hv rfl hn hdb

/-- a name of the module, by its value -/
theorem pe_gv {X : Cx} {x : Str} {pos : Pos} {v : V} (h : ∃ u, X.mg x = some u ∧ RelV v u) (hg : Gl X x := by rfl) (hdb : (x == ("__debug__" : Str)) = false := by decide) : PE X (.Name x pos) (tC v) := by
  obtain ⟨u, hm, r⟩ := h
  exact pe_glob hg hm r hdb

/-! ### heaps -/
theorem same_new {H : Hp} {p : Addr} {o : HO} (h : H p = none) : Same H (upd H p o) := fun a u e => by rw [upd_ne (ne_of_none e h)]; exact e
/-- a def of the module -/
structure Df (K : PySem.W.Frag) (mg : Str → Option Value) (x : Str) (f : Addr) : Prop where
  gl : mg x = some (.ref f)
  kp : PySem.W.keepIn K (.ref f) = true
theorem same_mut {H H2 : Hp} {p : Addr} {o : HO} (e : Same H H2) (h : H p = none) : Same H (upd H2 p o) := fun a u ha => by rw [upd_ne (ne_of_none ha h)]; exact e a u ha
theorem take_succ' {α : Type} {xs : List α} {i : Nat} {y : α} (h : xs[i]? = some y) : xs.take (i + 1) = xs.take i ++ [y] := by
  rw [List.take_succ, h] <;> rfl
/-- [e for x in ..] whose element is known turn by turn, and changes nothing -/
theorem lc_map {J : It} {n : Nat} {G : Hp → Prop} {Y : Nat → Hp → V → Hp → Prop} (w : Walk J n G Y) (hYH : ∀ i H x H2, Y i H x H2 → H2 = H) (xs : List V) (hn : xs.length = n) (hz : n < sizeLine)
    {σ : L2.St} {vs : List Nat} {j : Nat} {te : TE} {H1 : Hp} {D : Addr} {Qd : Hp → Prop} (hG : ∀ H, Same H1 H → G H) (hD : H1 D = none) (hw : ∀ x, wipe ((wipe σ vs).set j (some x)) vs = wipe σ vs)
    (he : ∀ i x y H, Same H1 H → Y i H x H → xs[i]? = some y → ∀ Qe : VK, (∀ H4, Same H H4 → Qe y H4) → te ((wipe σ vs).set j (some x)) H Qe) (hd : ∀ H, Same H1 H → H D = some (.lst xs) → Qd H) :
    ∃ W : Nat → Nat → Hp → Prop, (∃ m, W 0 m (upd H1 D (.lst []))) ∧ ∀ i m H, W i m H →
      (J.stop i H ∧ Qd H) ∨ (J.go i H ∧ ∃ Nx : Hp → Prop, (∀ H', Nx H' → ∃ m', m' < m ∧ W (i + 1) m' H') ∧ ∀ x H', J.yld i H x H' → gName j x (wipe σ vs) H' fun σ2 H2 => wipe σ2 vs = wipe σ vs ∧ tYes σ2 H2 fun b H3 =>
        if b = true then te σ2 H3 fun y H4 => ∃ acc, H4 D = some (.lst acc) ∧ acc.length < sizeLine ∧ Nx (upd H4 D (.lst (acc ++ [y]))) else Nx H3) := by
  refine lc_it w (fun i H => Same H1 H ∧ H D = some (.lst (xs.take i))) ⟨same_new hD, upd_same⟩ (fun i H _ p => hG H p.1) (fun i x H H2 hi p y => ?_) (fun H p => hd H p.1 (by rw [p.2, List.take_of_length_le (Nat.le_of_eq hn)]))
  have e := hYH i H x H2 y
  subst e
  obtain ⟨z, hz1⟩ : ∃ z, xs[i]? = some z := ⟨xs[i]'(by omega), List.getElem?_eq_getElem (by omega)⟩
  refine ⟨hw x, ?_⟩
  refine iteT (B := Same H1 H2 ∧ H2 D = some (HO.lst (xs.take (i + 1)))) ?_
  refine he i x z H2 p.1 y hz1 _ fun H4 e4 => ⟨xs.take i, e4 _ _ p.2, ?_, same_mut (p.1.trans e4) hD, ?_⟩
  · rw [List.length_take]
    omega
  · rw [take_succ' hz1]
    exact upd_same
end Pk
end

section -- PkM
set_option linter.all false
set_option maxRecDepth 100000
set_option maxHeartbeats 2000000
/-! PkM: texts of numbers, as lists of signs. -/
namespace Pk
open PySem PySem.Spec L2
open PyProof.Rows hiding St
open TL (tl numL)

def numI (n : Int) : List Nat := if n < 0 then 45 :: numL n.natAbs else numL n.toNat
theorem tl_neg (m : Nat) : tl (Str.ofString (toString (Int.negSucc m))) = 45 :: numL (m + 1) := by
  rw [TL.tl_ofString]
  show (("-" ++ Nat.repr (m + 1) : String).toList).map Char.toNat = _
  rw [String.toList_append, List.map_append]
  have h := TL.tl_num (m + 1)
  rw [TL.tl_ofString] at h
  have h2 : (Nat.repr (m + 1)).toList.map Char.toNat = numL (m + 1) := h
  rw [h2]
  rfl
theorem tl_numI (n : Int) : tl (Str.ofString (toString n)) = numI n := by
  unfold numI
  cases n with
  | ofNat m =>
    have h0 : ¬ Int.ofNat m < 0 := fun z => absurd z (Int.not_lt.mpr (Int.natCast_nonneg m))
    rw [if_neg h0]
    exact TL.tl_num m
  | negSucc m =>
    rw [if_pos (Int.negSucc_lt_zero m), tl_neg]
    rfl
theorem numI_len {n : Int} {k : Nat} (hk : 0 < k) (h : n.natAbs < 10 ^ k) : (numI n).length ≤ k + 1 := by
  unfold numI
  split
  · rw [List.length_cons]
    exact Nat.succ_le_succ (TL.numL_len hk h)
  · have e : n.toNat = n.natAbs := by omega
    rw [e]
    exact Nat.le_succ_of_le (TL.numL_len hk h)
theorem two10 : 2 ^ 1000 ≤ 10 ^ 400 := by decide +kernel
theorem lt10 {n : Nat} (h : n.log2 < 1000) : n < 10 ^ 400 := by
  by_cases h0 : n = 0
  · subst h0
    exact Nat.pow_pos (by decide)
  · exact Nat.lt_of_lt_of_le ((Nat.log2_lt h0).mp h) two10
theorem numLen {n : Int} (h : n.natAbs.log2 < 1000) : (Str.ofString (toString n)).length ≤ 401 := by
  rw [TL.len_tl, tl_numI]
  exact numI_len (by decide) (lt10 h)
/-! ### digits -/
def isDig (c : Nat) : Bool := decide (48 ≤ c) && decide (c ≤ 57)
theorem tl_digits : tl (Str.ofString "0123456789") = [48, 49, 50, 51, 52, 53, 54, 55, 56, 57] := by decide +kernel
theorem mem_digits (c : Nat) : decide (c ∈ (Str.ofString "0123456789").cps.toList) = isDig c := by
  have e : (Str.ofString "0123456789").cps.toList = [48, 49, 50, 51, 52, 53, 54, 55, 56, 57] := tl_digits
  rw [e]
  unfold isDig
  rw [Bool.eq_iff_iff]
  simp only [decide_eq_true_eq, Bool.and_eq_true, List.mem_cons, List.not_mem_nil, or_false]
  omega
/-- the text of a whole number from 0 on, of at most 60 digits -/
def isWh (l : List Nat) : Bool := (decide (1 ≤ l.length) && decide (l.length ≤ 60)) && (l.all isDig && (decide (l = [48]) || !decide (l.head? = some 48)))
theorem all_map {l : List Nat} : (l.map isDig).all id = l.all isDig := by rw [List.all_map]; rfl
theorem wh_of (z : Str) (b : Bool) (hb : (!(decide ((1 : Int) ≤ (z.length : Int)) && decide ((z.length : Int) ≤ 60)) || !(((tl z).map isDig).all id)) = b) :
    isWh (tl z) = (!b && (decide (tl z = [48]) || !decide ((tl z).head? = some 48))) := by
  have e1 : decide ((1 : Int) ≤ (z.length : Int)) = decide (1 ≤ (tl z).length) := by rw [TL.len_tl]; rw [Bool.eq_iff_iff]; simp only [decide_eq_true_eq]; omega
  have e2 : decide ((z.length : Int) ≤ 60) = decide ((tl z).length ≤ 60) := by rw [TL.len_tl]; rw [Bool.eq_iff_iff]; simp only [decide_eq_true_eq]; omega
  rw [e1, e2, all_map] at hb
  unfold isWh
  cases h1 : decide (1 ≤ (tl z).length) <;> cases h2 : decide ((tl z).length ≤ 60) <;> cases h3 : (tl z).all isDig <;> rw [h1, h2, h3] at hb <;> subst hb <;> rfl
theorem wh_ne {z : Str} (hb : (!(decide ((1 : Int) ≤ (z.length : Int)) && decide ((z.length : Int) ≤ 60)) || !(((tl z).map isDig).all id)) = false) : 1 ≤ (tl z).length := by
  have h : decide ((1 : Int) ≤ (z.length : Int)) = true := by
    cases e : decide ((1 : Int) ≤ (z.length : Int)) with
    | true => rfl
    | false => rw [e] at hb; simp at hb
  have := of_decide_eq_true h
  rw [TL.len_tl] at this
  omega
theorem str_eq_iff {x y : Str} : x = y ↔ tl x = tl y := ⟨fun h => by rw [h], TL.ext_tl⟩
theorem dec_strT (x y : Str) : decide (V.str x = V.str y) = decide (tl x = tl y) := by
  rw [Bool.eq_iff_iff]
  simp only [decide_eq_true_eq, V.str.injEq]
  exact str_eq_iff
theorem tl_one (c : Nat) : tl ⟨#[c]⟩ = [c] := rfl
theorem tl_lit {s : String} {l : List Nat} (h : tl (Str.ofString s) = l := by decide +kernel) : tl (Str.ofString s) = l := h
theorem sz {n : Nat} (h : n ≤ 1000000) : n ≤ sizeLine := Nat.le_trans h (by decide)
theorem szl {n : Nat} (h : n < 1000000) : n < sizeLine := Nat.lt_of_lt_of_le h (by decide)
theorem len_empty : Str.empty.length = 0 := rfl
end Pk
end

section -- PkE
set_option linter.all false
set_option maxRecDepth 100000
set_option maxHeartbeats 2000000
/-! PkE: what evaluates to what, further; and what draws from the pen. -/
namespace Pk
open PySem PySem.Spec L2 Evl
open PyProof.Rows hiding St
open TL (tl numL)

/-! ### named readings -/
def rAddT : R2 := fun x y H Q => ∃ i j : Str, x = .str i ∧ y = .str j ∧ i.length + j.length ≤ sizeLine ∧ Q (.str (i ++ j)) H
def rIsN : R2 := fun x y H Q => y = .non ∧ Q (.bl (decide (x = .non))) H
def rNotN : R2 := fun x y H Q => y = .non ∧ Q (.bl (!decide (x = .non))) H
def rLenT : List V → Hp → VK → Prop := fun xs H Q => ∃ z : Str, xs = [.str z] ∧ z.length ≤ sizeLine ∧ Q (.int z.length) H
def rAbs : List V → Hp → VK → Prop := fun xs H Q => ∃ i : Int, xs = [.int i] ∧ Q (.int (if i < 0 then -i else i)) H
def rInt1 : List V → Hp → VK → Prop := fun xs H Q => (∃ i, xs = [.int i] ∧ Q (.int i) H) ∨ ∃ k, xs = [.bl k] ∧ Q (.int (if k then 1 else 0)) H
def rIntT : List V → Hp → VK → Prop := fun xs H Q => ∃ (a : Str) (n : Int), xs = [.str a] ∧ PySem.intText? a = some n ∧ a.length ≤ 640 ∧ Q (.int n) H
def rStrI : List V → Hp → VK → Prop := fun xs H Q => ∃ i : Int, xs = [.int i] ∧ i.natAbs.log2 < 1920 ∧ Q (.str (toString i)) H
section
variable {X : Cx}
theorem op_addT : OpR X (binaryOp .Add) rAddT := op_add_str
theorem op_isN' : OpR X (compareOp .Is) rIsN := op_isN
theorem op_notN' : OpR X (compareOp .IsNot) rNotN := op_notN
theorem call_lenT : CallR X (.builtin "len") rLenT := call_len_str
theorem call_lenL : CallR X (.builtin "len") (rLenS X.K) := call_len_seq
theorem call_absI : CallR X (.builtin "abs") rAbs := call_abs
theorem call_intI : CallR X (.type "int") rInt1 := call_int1
theorem call_intT : CallR X (.type "int") rIntT := call_int_str
theorem call_strI : CallR X (.type "str") rStrI := call_str_int
end
section
variable {K : PySem.W.Frag} {σ : L2.St} {H H' : Hp} {ta tb te tx : TE} {t u : TT} {x y z v : V} {r : R2}
theorem same_ex (e : Same H H') : Ex H H' := e
theorem rv_addT {a b : Str} (h : a.length + b.length ≤ 1000000) : RV rAddT (.str a) (.str b) H (.str (a ++ b)) := fun H1 _ _ q => ⟨a, b, rfl, rfl, sz h, q H1 (Ex.refl H1)⟩
theorem rv_isN : RV rIsN x .non H (.bl (decide (x = .non))) := fun H1 _ _ q => ⟨rfl, q H1 (Ex.refl H1)⟩
theorem rv_notN : RV rNotN x .non H (.bl (!decide (x = .non))) := fun H1 _ _ q => ⟨rfl, q H1 (Ex.refl H1)⟩
theorem rv_inS {c : Nat} {z : Str} : RV rInS (.str ⟨#[c]⟩) (.str z) H (.bl (decide (c ∈ z.cps.toList))) := fun H1 _ _ q => ⟨c, z, rfl, rfl, q H1 (Ex.refl H1)⟩
theorem rv_notInS {c : Nat} {z : Str} : RV rNotInS (.str ⟨#[c]⟩) (.str z) H (.bl (!decide (c ∈ z.cps.toList))) := fun H1 _ _ q => ⟨c, z, rfl, rfl, q H1 (Ex.refl H1)⟩
theorem rc_lenT {a : Str} (h : a.length ≤ 1000000) : RC rLenT [.str a] H (.int (a.length : Int)) := fun H1 _ _ q => ⟨a, rfl, sz h, q H1 (Ex.refl H1)⟩
theorem rc_abs {i : Int} : RC rAbs [.int i] H (.int (if i < 0 then -i else i)) := fun H1 _ _ q => ⟨i, rfl, q H1 (Ex.refl H1)⟩
theorem rc_int {i : Int} : RC rInt1 [.int i] H (.int i) := fun H1 _ _ q => .inl ⟨i, rfl, q H1 (Ex.refl H1)⟩
theorem rc_intT {a : Str} {n : Int} (h : PySem.intText? a = some n) (hl : a.length ≤ 640) : RC rIntT [.str a] H (.int n) := fun H1 _ _ q => ⟨a, n, rfl, h, hl, q H1 (Ex.refl H1)⟩
theorem rc_strI {i : Int} (h : i.natAbs.log2 < 1920) : RC rStrI [.int i] H (.str (Str.ofString (toString i))) := fun H1 _ _ q => ⟨i, rfl, h, q H1 (Ex.refl H1)⟩
theorem rc_gcd {a b : Int} : RC rGcd [.int a, .int b] H (.int ((Nat.gcd a.natAbs b.natAbs : Nat) : Int)) := fun H1 _ _ q => ⟨a, b, rfl, q H1 (Ex.refl H1)⟩
theorem ev_fld {a C dx : Addr} {fs : List (Str × V)} {f : Str} (h : Ev te σ H (.ref a)) (ha : H a = some (.ins C dx fs)) (c : Cls K C) (n : NoAttr K C f) (l : fs.lookup f = some v) : Ev (tFld K te f) σ H v := fun H1 e _ q =>
  h H1 e _ fun H2 e2 => ⟨a, C, dx, fs, v, rfl, e2 _ _ (e _ _ ha), c, n, l, q H2 e2⟩
theorem ev_cval {C : Addr} {mc w : Value} {f : Str} (h : Ev te σ H (.ref C)) (rd : ClX.CRead K C mc) (k : ClX.CVal K C mc f v w) : Ev (ClX.tCVal K te f) σ H v := fun H1 e _ q =>
  h H1 e _ fun H2 e2 => ⟨C, mc, v, w, rfl, rd, k, q H2 e2⟩
theorem et_chain {r r' : R2} {tc : TE} {a b : Bool} {w : V} (ha : Ev ta σ H x) (hb : Ev tb σ H y) (hr : RV r x y H (.bl a)) (hc : Ev tc σ H w) (hr' : RV r' y w H (.bl b)) : EvT (tTest (tChain r r' ta tb tc)) σ H (a && b) := fun H1 e Q q =>
  ha H1 e _ fun H2 e2 => hb H2 (e.trans e2) _ fun H3 e3 => hr H3 ((e.trans e2).trans e3) _ fun H4 e4 => ⟨a, rfl, by
    cases a with
    | false => exact iteF ⟨false, rfl, q H4 ((e2.trans e3).trans e4)⟩
    | true =>
      refine iteT (hc H4 (((e.trans e2).trans e3).trans e4) _ fun H5 e5 => hr' H5 ((((e.trans e2).trans e3).trans e4).trans e5) _ fun H6 e6 => ⟨b, rfl, ?_⟩)
      exact q H6 ((((e2.trans e3).trans e4).trans e5).trans e6)⟩
/-- a call of a def that promises a value -/
theorem ev_cs {r : L2.St → List V → Hp → VK → Prop} {ta : TA} {vs : List V} (h : EvA ta σ H vs) (hr : ∀ H1, Ex H H1 → ∀ Q : VK, (∀ H2, Ex H1 H2 → Q z H2) → r σ vs H1 Q) : Ev (tCS r ta) σ H z := fun H1 e Q q =>
  h H1 e _ fun H2 e2 => hr H2 (e.trans e2) Q fun H3 e3 => q H3 (e2.trans e3)
/-- all(..), any(..) of a list of truth values -/
theorem ev_all {ta : TE} {bs : List Bool} (h : EvL ta σ H (bs.map V.bl)) : Ev (tCB (rAll K) (tCons ta tNil)) σ H (.bl (bs.all id)) := fun H1 e Q q =>
  h H1 e _ fun p H2 _ e2 h2 => ⟨p, bs, rfl, sq_of h2, q H2 e2⟩
/-- a comprehension over a text -/
theorem el_lcS {z : Str} {tl : TE} {j : Nat} {vs : List Nat} (xs : List V) (h : Ev tl σ H (.str z)) (hn : xs.length = z.cps.size) (hz : z.cps.size < 1000000) (hw : ∀ x, wipe ((wipe σ vs).set j (some x)) vs = wipe σ vs)
    (he : ∀ (i c : Nat) (y : V), z.cps[i]? = some c → xs[i]? = some y → ∀ H1, Ex H H1 → Ev te ((wipe σ vs).set j (some (.str ⟨#[c]⟩))) H1 y) : EvL (tLc (iStr tl) (gName j) tYes te vs) σ H xs := fun H0 e Q q => h H0 e _ fun H1 e1 => ⟨z, rfl, fun Dl hD =>
  lc_map walk_str (fun _ _ _ _ y => y.1) xs hn (szl hz) (fun _ _ => trivial) hD hw (fun i x y H2 e2 yy hy Qe qe => by
    obtain ⟨_, c, hc, rfl⟩ := yy
    exact he i c y hc hy H2 ((e.trans e1).trans e2) H2 (Ex.refl H2) Qe qe) fun H2 e2 h2 => q Dl H2 (fresh_back e1 hD) (e1.trans e2) h2⟩
/-- a comprehension over a list -/
theorem el_lcM {a : Addr} {ys : List V} {tl : TE} {j : Nat} {vs : List Nat} (xs : List V) (h : Ev tl σ H (.ref a)) (ha : SqL K H a ys) (hn : xs.length = ys.length) (hz : ys.length < 1000000) (hw : ∀ x, wipe ((wipe σ vs).set j (some x)) vs = wipe σ vs)
    (he : ∀ (i : Nat) (x y : V), ys[i]? = some x → xs[i]? = some y → ∀ H1, Ex H H1 → Ev te ((wipe σ vs).set j (some x)) H1 y) : EvL (tLc (iList K tl) (gName j) tYes te vs) σ H xs := fun H0 e Q q => h H0 e _ fun H1 e1 => ⟨a, rfl, ⟨ys, ex_l (e.trans e1) ha⟩, fun Dl hD =>
  lc_map walk_list (fun _ _ _ _ y => y.1) xs hn (szl hz) (fun H2 e2 => ex_l ((e.trans e1).trans e2) ha) hD hw (fun i x y H2 e2 yy hy Qe qe => he i x y yy.2 hy H2 ((e.trans e1).trans e2) H2 (Ex.refl H2) Qe qe)
    fun H2 e2 h2 => q Dl H2 (fresh_back e1 hD) (e1.trans e2) h2⟩
/-- .. over a list that is made on the way -/
theorem el_lcN {ys : List V} {tl : TE} {j : Nat} {vs : List Nat} (xs : List V) (h : EvL tl σ H ys) (hn : xs.length = ys.length) (hz : ys.length < 1000000) (hw : ∀ x, wipe ((wipe σ vs).set j (some x)) vs = wipe σ vs)
    (he : ∀ (i : Nat) (x y : V), ys[i]? = some x → xs[i]? = some y → ∀ H1, Ex H H1 → Ev te ((wipe σ vs).set j (some x)) H1 y) : EvL (tLc (iList K tl) (gName j) tYes te vs) σ H xs := fun H0 e Q q => h H0 e _ fun a H1 _ e1 ha => ⟨a, rfl, ⟨ys, sq_of ha⟩, fun Dl hD =>
  lc_map walk_list (fun _ _ _ _ y => y.1) xs hn (szl hz) (fun H2 e2 => ex_l e2 (sq_of ha)) hD hw (fun i x y H2 e2 yy hy Qe qe => he i x y yy.2 hy H2 ((e.trans e1).trans e2) H2 (Ex.refl H2) Qe qe)
    fun H2 e2 h2 => q Dl H2 (fresh_back e1 hD) (e1.trans e2) h2⟩
/-- a split text: a new list of texts -/
def tSplit (ta tb : TE) : TE := tM1 (fun x xs H Q => ∃ a b, x = .str a ∧ xs = [.str b] ∧ (b.length == 0) = false ∧ a.length + 2 ≤ sizeLine ∧ rNewStrs (Txt.split a b) H Q) ta tb
theorem el_split {a b : Str} (ha : Ev ta σ H (.str a)) (hb : Ev tb σ H (.str b)) (h0 : (b.length == 0) = false) (hl : a.length ≤ 900000) : EvL (tSplit ta tb) σ H ((Txt.split a b).map V.str) := fun H1 e Q q =>
  ha H1 e _ fun H2 e2 => ⟨⟨a, rfl⟩, hb H2 (e.trans e2) _ fun H3 e3 => ⟨a, b, rfl, rfl, h0, sz (by omega), fun p hp => q p _ (fresh_back (e2.trans e3) hp) ((e2.trans e3).trans (Ex.new hp)) upd_same⟩⟩
theorem pe_splitN {X : Cx} {o e : Expr} {to te : TE} {apos pos : Pos} (ho : PE X o to) (he : PE X e te) (hs : starEach [e] X.env = [(false, eval e X.env)] := by rfl) (hb : attributeBase o "split" X.env (eval o X.env) = eval o X.env := by rfl) (hl : (apos.endLine == pos.line) = true := by rfl) :
    PE X (.Call (.Attribute o "split" apos) [e] [] pos) (tSplit to te) := pe_split ho he hs hb hl
/-- a text's method of one argument -/
theorem ev_starts {a b : Str} (ha : Ev ta σ H (.str a)) (hb : Ev tb σ H (.str b)) : Ev (tM1 (fun x xs H Q => ∃ a b, x = .str a ∧ xs = [.str b] ∧ Q (.bl (Txt.startswith a b)) H) ta tb) σ H (.bl (Txt.startswith a b)) := fun H1 e Q q =>
  ha H1 e _ fun H2 e2 => ⟨⟨a, rfl⟩, hb H2 (e.trans e2) _ fun H3 e3 => ⟨a, b, rfl, rfl, q H3 (e2.trans e3)⟩⟩
/-- a slice of a text -/
theorem ev_slS {a : Str} {lo hi : Option Int} {t1 t2 : TO} (ha : Ev ta σ H (.str a)) (h1 : EvO t1 σ H lo) (h2 : EvO t2 σ H hi) (hl : a.length ≤ 1000000) : Ev (tSl rSlS ta t1 t2) σ H (.str (cutS a lo hi)) := fun H1 e Q q =>
  ha H1 e _ fun H2 e2 => h1 H2 (e.trans e2) _ fun H3 e3 => h2 H3 ((e.trans e2).trans e3) _ fun H4 e4 => ⟨a, rfl, sz hl, q H4 ((e2.trans e3).trans e4)⟩
theorem el_catLL {xs ys : List V} (ha : EvL ta σ H xs) (hb : EvL tb σ H ys) (hl : xs.length + ys.length ≤ 1000000) : EvL (tOp rCat ta tb) σ H (xs ++ ys) := fun H1 e Q k =>
  ha H1 e _ fun p H2 n2 e2 hp => hb H2 (e.trans e2) _ fun q H3 _ e3 hq => ⟨p, q, xs, ys, rfl, rfl, e3 p _ hp, hq, sz hl, fun l hl => k l _ (fresh_back (e2.trans e3) hl) ((e2.trans e3).trans (Ex.new hl)) upd_same⟩
end
end Pk
end

section -- PkN
set_option linter.all false
set_option maxRecDepth 100000
set_option maxHeartbeats 2000000
/-! PkN: texts cut at a sign; the text of a ratio, read in two ways. -/
namespace Pk
open PySem PySem.Spec L2
open PyProof.Rows hiding St
open TL (tl numL)

/-! ### cut at one sign -/
abbrev cutAt (c : Nat) (l : List Nat) : List (List Nat) := TL.spl [c] 0 [] l
theorem spl_cons (c x : Nat) (acc r : List Nat) : TL.spl [c] 0 acc (x :: r) = if x = c then acc :: TL.spl [c] 0 [] r else TL.spl [c] 0 (acc ++ [x]) r := by
  have h : TL.pre [c] (x :: r) = decide (x = c) := by
    show ((x :: r).take 1 == [c]) = decide (x = c)
    rw [Bool.eq_iff_iff]
    simp
  by_cases e : x = c
  · rw [if_pos e, TL.spl_hit (by rw [h, decide_eq_true e])]
    rfl
  · rw [if_neg e, TL.spl_miss (by rw [h, decide_eq_false e])]
theorem spl_end (c : Nat) (acc : List Nat) : TL.spl [c] 0 acc [] = [acc] := TL.spl_nil _ _ _
/-- an own walk that cuts -/
def cutStep (c : Nat) (st : List (List Nat) × List Nat) (x : Nat) : List (List Nat) × List Nat := if x = c then (st.1 ++ [st.2], []) else (st.1, st.2 ++ [x])
theorem cut_walk (c : Nat) : ∀ (l : List Nat) (ws : List (List Nat)) (acc : List Nat), (l.foldl (cutStep c) (ws, acc)).1 ++ [(l.foldl (cutStep c) (ws, acc)).2] = ws ++ TL.spl [c] 0 acc l
  | [], ws, acc => by rw [spl_end]; rfl
  | x :: r, ws, acc => by
    rw [List.foldl_cons, spl_cons]
    by_cases e : x = c
    · have h : cutStep c (ws, acc) x = (ws ++ [acc], []) := if_pos e
      rw [h, cut_walk c r, if_pos e, List.append_assoc]
      rfl
    · have h : cutStep c (ws, acc) x = (ws, acc ++ [x]) := if_neg e
      rw [h, cut_walk c r, if_neg e]
theorem spl_len (c : Nat) : ∀ (l acc p : List Nat), p ∈ TL.spl [c] 0 acc l → p.length ≤ acc.length + l.length
  | [], acc, p, h => by
    rw [spl_end] at h
    have e := List.mem_singleton.mp h
    subst e
    exact Nat.le_add_right _ _
  | x :: r, acc, p, h => by
    rw [spl_cons] at h
    rw [List.length_cons]
    split at h
    · rcases List.mem_cons.mp h with e | h
      · subst e
        omega
      · have := spl_len c r [] p h
        rw [List.length_nil] at this
        omega
    · have := spl_len c r (acc ++ [x]) p h
      rw [List.length_append, List.length_cons, List.length_nil] at this
      omega
theorem spl_pos (c : Nat) : ∀ (l acc : List Nat), 1 ≤ (TL.spl [c] 0 acc l).length
  | [], acc => by rw [spl_end]; exact Nat.le_refl 1
  | x :: r, acc => by
    rw [spl_cons]
    split
    · rw [List.length_cons]
      omega
    · exact spl_pos c r _
theorem cut_none {c : Nat} {l : List Nat} (h : c ∉ l) : cutAt c l = [l] := by
  have := TL.spl_last1 (s := c) (S := []) (p := l) (acc := []) h
  rw [List.nil_append] at this
  exact this
theorem cut_some {c : Nat} {p q : List Nat} (h : c ∉ p) : cutAt c (p ++ c :: q) = p :: cutAt c q := by
  have := TL.spl_part1 (s := c) (S := []) (p := p) (rest := q) (acc := []) h
  rw [List.nil_append] at this
  exact this
theorem cut_at {c : Nat} : ∀ {l : List Nat}, c ∈ l → ∃ p q, l = p ++ c :: q ∧ c ∉ p
  | x :: r, h => by
    by_cases e : x = c
    · subst e
      exact ⟨[], r, rfl, List.not_mem_nil⟩
    · have h2 : c ∈ r := by
        rcases List.mem_cons.mp h with z | z
        · exact absurd z.symm e
        · exact z
      obtain ⟨p, q, h3, h4⟩ := cut_at h2
      refine ⟨x :: p, q, by rw [h3]; rfl, fun z => ?_⟩
      rcases List.mem_cons.mp z with z | z
      · exact e z.symm
      · exact h4 z
theorem cut_two {c : Nat} {l : List Nat} (h : c ∈ l) : 2 ≤ (cutAt c l).length := by
  obtain ⟨p, q, e, hp⟩ := cut_at h
  rw [e, cut_some hp, List.length_cons]
  exact Nat.succ_le_succ (spl_pos c q [])

/-! ### numbers -/
abbrev val (l : List Nat) : Nat := NumText.digitsVal l
theorem val_snoc (l : List Nat) (d : Nat) : val (l ++ [d]) = val l * 10 + (d - 48) := by
  show (l ++ [d]).foldl (fun acc c => acc * 10 + (c - 48)) 0 = l.foldl (fun acc c => acc * 10 + (c - 48)) 0 * 10 + (d - 48)
  rw [List.foldl_append]
  rfl
theorem isDig_iff {c : Nat} : isDig c = true ↔ 48 ≤ c ∧ c ≤ 57 := by
  unfold isDig
  rw [Bool.and_eq_true, decide_eq_true_eq, decide_eq_true_eq]
theorem fold_le : ∀ (l : List Nat) (a : Nat), a ≤ l.foldl (fun acc c => acc * 10 + (c - 48)) a
  | [], a => Nat.le_refl _
  | c :: r, a => by
    rw [List.foldl_cons]
    have := fold_le r (a * 10 + (c - 48))
    omega
theorem val_pos {c : Nat} {r : List Nat} (h : isDig c = true) (h0 : c ≠ 48) : 0 < val (c :: r) := by
  have := isDig_iff.mp h
  have := fold_le r (0 * 10 + (c - 48))
  show 0 < (c :: r).foldl (fun acc c => acc * 10 + (c - 48)) 0
  rw [List.foldl_cons]
  omega
/-- digits that do not begin with 0 are the text of their number -/
theorem numL_val : ∀ (n : Nat) (l : List Nat), l.length = n → l.all isDig = true → l.head? ≠ some 48 → l ≠ [] → numL (val l) = l
  | 0, l, hn, _, _, h0 => absurd (List.length_eq_zero_iff.mp hn) h0
  | n + 1, l, hn, hd, h48, h0 => by
    obtain ⟨a, d, rfl⟩ : ∃ a d, l = a ++ [d] := ⟨l.dropLast, l.getLast h0, (List.dropLast_concat_getLast h0).symm⟩
    rw [List.all_append, Bool.and_eq_true] at hd
    have hd2 : isDig d = true := by
      have := hd.2
      rw [List.all_cons, Bool.and_eq_true] at this
      exact this.1
    have dd := isDig_iff.mp hd2
    rw [val_snoc]
    cases a with
    | nil =>
      have e : val [] = 0 := rfl
      rw [e, TL.numL_lt (by omega)]
      show [48 + (0 * 10 + (d - 48))] = [d]
      have : 48 + (0 * 10 + (d - 48)) = d := by omega
      rw [this]
    | cons c r =>
      have hc : isDig c = true := by
        have := hd.1
        rw [List.all_cons, Bool.and_eq_true] at this
        exact this.1
      have h48' : c ≠ 48 := fun z => h48 (by rw [z]; rfl)
      have ih := numL_val n (c :: r) (by rw [List.length_append] at hn; simpa using hn) hd.1 (by simpa using h48') (List.cons_ne_nil _ _)
      have p := val_pos (r := r) hc h48'
      rw [TL.numL_step (by omega)]
      have e1 : (val (c :: r) * 10 + (d - 48)) / 10 = val (c :: r) := by omega
      have e2 : 48 + (val (c :: r) * 10 + (d - 48)) % 10 = d := by omega
      rw [e1, e2, ih]
theorem isWh_parts {l : List Nat} (h : isWh l = true) : 1 ≤ l.length ∧ l.length ≤ 60 ∧ l.all isDig = true ∧ (l = [48] ∨ l.head? ≠ some 48) := by
  unfold isWh at h
  simp only [Bool.and_eq_true, Bool.or_eq_true, decide_eq_true_eq, Bool.not_eq_true', decide_eq_false_iff_not] at h
  obtain ⟨⟨h1, h2⟩, h3, h4⟩ := h
  exact ⟨h1, h2, h3, h4⟩
theorem isWh_of {l : List Nat} (h1 : 1 ≤ l.length) (h2 : l.length ≤ 60) (h3 : l.all isDig = true) (h4 : l = [48] ∨ l.head? ≠ some 48) : isWh l = true := by
  unfold isWh
  simp only [Bool.and_eq_true, Bool.or_eq_true, decide_eq_true_eq, Bool.not_eq_true', decide_eq_false_iff_not]
  exact ⟨⟨h1, h2⟩, h3, h4⟩
theorem numL_wh {l : List Nat} (h : isWh l = true) : numL (val l) = l := by
  obtain ⟨h1, _, h3, h4⟩ := isWh_parts h
  rcases h4 with h4 | h4
  · subst h4
    decide +kernel
  · exact numL_val l.length l rfl h3 h4 (fun z => by rw [z] at h1; exact absurd h1 (by decide))
theorem wh_zero {l : List Nat} (h : isWh l = true) : val l = 0 ↔ l.head? = some 48 := by
  obtain ⟨h1, _, h3, h4⟩ := isWh_parts h
  constructor
  · intro z
    cases l with
    | nil => exact absurd h1 (by decide)
    | cons c r =>
      by_cases e : c = 48
      · rw [e]; rfl
      · have hc : isDig c = true := by
          rw [List.all_cons, Bool.and_eq_true] at h3
          exact h3.1
        have := val_pos (r := r) hc e
        omega
  · intro z
    rcases h4 with h4 | h4
    · subst h4
      rfl
    · exact absurd z h4
theorem val_lt : ∀ (n : Nat) (l : List Nat), l.length = n → l.all isDig = true → val l < 10 ^ n
  | 0, l, hn, _ => by
    have := List.length_eq_zero_iff.mp hn
    subst this
    decide
  | n + 1, l, hn, hd => by
    have h0 : l ≠ [] := fun z => by rw [z] at hn; exact absurd hn (by simp)
    obtain ⟨a, d, rfl⟩ : ∃ a d, l = a ++ [d] := ⟨l.dropLast, l.getLast h0, (List.dropLast_concat_getLast h0).symm⟩
    rw [List.all_append, Bool.and_eq_true] at hd
    have hd2 : isDig d = true := by
      have := hd.2
      rw [List.all_cons, Bool.and_eq_true] at this
      exact this.1
    have dd := isDig_iff.mp hd2
    have ih := val_lt n a (by rw [List.length_append] at hn; simpa using hn) hd.1
    rw [val_snoc, Nat.pow_succ]
    omega
theorem intT {s : Str} (h : isWh (tl s) = true) : PySem.intText? s = some ((val (tl s) : Nat) : Int) := by
  obtain ⟨h1, h2, h3, _⟩ := isWh_parts h
  have e : (⟨(tl s).toArray⟩ : Str) = s := TL.mk_tl s
  have := SX.int_S (a := tl s) h3 (fun z => by rw [z] at h1; exact absurd h1 (by decide)) (by omega)
  rw [show SX.S (tl s) = s from e] at this
  exact this
end Pk
end

section -- PkO
set_option linter.all false
set_option maxRecDepth 100000
set_option maxHeartbeats 2000000
/-! PkO: the text of a ratio, read in two ways; what it says is its text again. -/
namespace Pk
open PySem PySem.Spec L2
open PyProof.Rows hiding St
open TL (tl numL)

def isNeg (w : List Nat) : Bool := decide (w.head? = some 45)
def bare (w : List Nat) : List Nat := if isNeg w = true then w.tail else w
def sgn (neg : Bool) (n : Nat) : Int := if neg = true then -(n : Int) else (n : Int)
theorem sgn_abs (neg : Bool) (n : Nat) : (sgn neg n).natAbs = n := by
  unfold sgn
  split <;> omega
/-- one whole number, a sign ahead of it or none -/
def sgnd (neg : Bool) (a : List Nat) : Option Int := if (isWh a && !(neg && decide (a.head? = some 48))) = true then some (sgn neg (val a)) else none
def wholeOf (w : List Nat) : Option Int := sgnd (isNeg w) (bare w)
/-- the pair, by the first stroke -/
def pairOf (w : List Nat) : Option (Int × Int) := match TL.par [47] [] w with
  | none => (wholeOf w).map fun n => (n, 1)
  | some (p, q) => match wholeOf p, wholeOf q with
    | some t, some b => if (decide (b < 2) || !(Nat.gcd t.natAbs b.natAbs == 1)) = true then none else some (t, b)
    | _, _ => none
/-- the pair, by all strokes at once -/
def progOf (w : List Nat) : Option (Int × Int) := match cutAt 47 (bare w) with
  | [a] => if (isWh a && !(isNeg w && decide (val a = 0))) = true then some (sgn (isNeg w) (val a), 1) else none
  | [a, b] => if ((isWh a && isWh b) && !(isNeg w && decide (val a = 0)) && !(decide (val b < 2) || !(Nat.gcd (val a) (val b) == 1))) = true then some (sgn (isNeg w) (val a), (val b : Int)) else none
  | _ => none
theorem sgnd_eq (neg : Bool) (a : List Nat) : sgnd neg a = if (isWh a && !(neg && decide (val a = 0))) = true then some (sgn neg (val a)) else none := by
  unfold sgnd
  cases h : isWh a with
  | false => rfl
  | true =>
    have e : decide (a.head? = some 48) = decide (val a = 0) := by
      rw [Bool.eq_iff_iff, decide_eq_true_eq, decide_eq_true_eq]
      exact (wh_zero h).symm
    rw [e]
theorem not_wh {a : List Nat} {c : Nat} (h : c ∈ a) (hc : isDig c = false) : isWh a = false := by
  cases e : isWh a with
  | false => rfl
  | true =>
    obtain ⟨_, _, h3, _⟩ := isWh_parts e
    have := List.all_eq_true.mp h3 c h
    rw [hc] at this
    cases this
theorem mem_bare {w : List Nat} {c : Nat} (h : c ∈ w) (h0 : c ≠ 45) : c ∈ bare w := by
  unfold bare
  split
  · rename_i e
    cases w with
    | nil => cases h
    | cons x r =>
      have ex : x = 45 := by
        have := of_decide_eq_true e
        simpa using this
      rcases List.mem_cons.mp h with z | z
      · exact absurd (z.trans ex) h0
      · exact z
  · exact h
theorem bare_mem {w : List Nat} {c : Nat} (h : c ∈ bare w) : c ∈ w := by
  unfold bare at h
  split at h
  · exact List.mem_of_mem_tail h
  · exact h
theorem neg_app {p q : List Nat} : isNeg (p ++ 47 :: q) = isNeg p := by
  cases p with
  | nil => rfl
  | cons x r => rfl
theorem bare_app {p q : List Nat} : bare (p ++ 47 :: q) = bare p ++ 47 :: q := by
  unfold bare
  rw [neg_app]
  split
  · rename_i e
    cases p with
    | nil => cases e
    | cons x r => rfl
  · rfl
theorem wh_neg {q : List Nat} (h : isNeg q = true) : isWh q = false := by
  cases q with
  | nil => cases h
  | cons x r =>
    have ex : x = 45 := by
      have := of_decide_eq_true h
      simpa using this
    subst ex
    exact not_wh (c := 45) List.mem_cons_self (by decide)
theorem gcd_sgn {neg : Bool} {n m : Nat} : Nat.gcd (sgn neg n).natAbs ((m : Int)).natAbs = Nat.gcd n m := by rw [sgn_abs, Int.natAbs_natCast]
theorem pair_eq (w : List Nat) : pairOf w = progOf w := by
  by_cases h : 47 ∈ w
  · obtain ⟨p, q, rfl, hp⟩ := cut_at h
    have e1 : TL.par [47] [] (p ++ 47 :: q) = some (p, q) := by
      have := TL.par_part1 (s := 47) (S := []) (p := p) (rest := q) (acc := []) hp
      rw [List.nil_append] at this
      exact this
    have hb : 47 ∉ bare p := fun z => hp (bare_mem z)
    unfold pairOf progOf
    rw [e1, bare_app, cut_some hb, neg_app]
    by_cases hq : 47 ∈ q
    · have hw : wholeOf q = none := by
        unfold wholeOf
        rw [sgnd_eq, not_wh (mem_bare hq (by decide)) (by decide)]
        rfl
      dsimp only
      rw [hw]
      have h2 := cut_two hq
      obtain ⟨x, y, r, e⟩ : ∃ x y r, cutAt 47 q = x :: y :: r := by
        match hx : cutAt 47 q with
        | [] => rw [hx] at h2; exact absurd h2 (by decide)
        | [x] => rw [hx, List.length_cons, List.length_nil] at h2; exact absurd h2 (by decide)
        | x :: y :: r => exact ⟨x, y, r, rfl⟩
      rw [e]
      cases wholeOf p <;> rfl
    · rw [cut_none hq]
      dsimp only
      cases hn : isNeg q with
      | true =>
        rw [wh_neg hn, Bool.and_false, Bool.false_and, Bool.false_and, if_neg Bool.false_ne_true]
        have hw : wholeOf q = none ∨ ∃ n : Nat, wholeOf q = some (-(n : Int)) := by
          unfold wholeOf
          rw [hn]
          unfold sgnd
          split
          · exact .inr ⟨_, rfl⟩
          · exact .inl rfl
        rcases hw with hw | ⟨n, hw⟩
        · rw [hw]
          cases wholeOf p <;> rfl
        · rw [hw]
          cases wholeOf p with
          | none => rfl
          | some t =>
            dsimp only
            have : decide (-(n : Int) < 2) = true := decide_eq_true (by omega)
            rw [this, Bool.true_or, if_pos rfl]
      | false =>
        have hw : wholeOf q = if isWh q = true then some ((val q : Nat) : Int) else none := by
          unfold wholeOf bare
          rw [hn, if_neg Bool.false_ne_true, sgnd_eq, Bool.false_and, Bool.not_false, Bool.and_true]
          rfl
        rw [hw]
        unfold wholeOf
        rw [sgnd_eq]
        cases h1 : isWh q with
        | false =>
          rw [if_neg Bool.false_ne_true, Bool.and_false, Bool.false_and, Bool.false_and, if_neg Bool.false_ne_true]
          generalize (if (isWh (bare p) && !(isNeg p && decide (val (bare p) = 0))) = true then some (sgn (isNeg p) (val (bare p))) else none) = o
          cases o <;> rfl
        | true =>
          rw [if_pos rfl, Bool.and_true]
          cases h2 : (isWh (bare p) && !(isNeg p && decide (val (bare p) = 0))) with
          | false =>
            rw [if_neg Bool.false_ne_true, Bool.false_and, if_neg Bool.false_ne_true]
          | true =>
            rw [if_pos rfl, Bool.true_and]
            dsimp only
            rw [gcd_sgn]
            have e3 : decide (((val q : Nat) : Int) < 2) = decide (val q < 2) := by rw [Bool.eq_iff_iff, decide_eq_true_eq, decide_eq_true_eq]; omega
            rw [e3]
            cases (decide (val q < 2) || !((val (bare p)).gcd (val q) == 1)) <;> rfl
  · have e1 : TL.par [47] [] w = none := TL.par_none1 h
    unfold pairOf progOf
    rw [e1, cut_none fun z => h (bare_mem z)]
    dsimp only
    unfold wholeOf
    rw [sgnd_eq]
    split <;> rfl
/-- a ratio's text -/
def ratText (t b : Int) : Str := if b = 1 then Str.ofString (toString t) else ((Str.empty ++ Str.ofString (toString t)) ++ Str.ofString "/") ++ Str.ofString (toString b)
theorem tl_ratText (t b : Int) : tl (ratText t b) = if b = 1 then numI t else numI t ++ 47 :: numI b := by
  unfold ratText
  split
  · exact tl_numI t
  · have e : tl (Str.ofString "/") = [47] := by decide +kernel
    have e0 : tl Str.empty = [] := rfl
    rw [TL.tl_append, TL.tl_append, TL.tl_append, e, e0, tl_numI, tl_numI, List.nil_append, List.append_assoc]
    rfl
theorem numI_sgn {neg : Bool} {a : List Nat} (h : isWh a = true) (h0 : (neg && decide (val a = 0)) = false) : numI (sgn neg (val a)) = if neg = true then 45 :: a else a := by
  unfold sgn numI
  cases neg with
  | false =>
    rw [if_neg Bool.false_ne_true, if_neg (by omega), if_neg Bool.false_ne_true, Int.toNat_natCast, numL_wh h]
  | true =>
    rw [Bool.true_and] at h0
    have := of_decide_eq_false h0
    rw [if_pos rfl, if_pos (by omega), if_pos rfl, Int.natAbs_neg, Int.natAbs_natCast, numL_wh h]
theorem bare_back (w : List Nat) : (if isNeg w = true then 45 :: bare w else bare w) = w := by
  unfold bare
  split
  · rename_i e
    cases w with
    | nil => cases e
    | cons x r =>
      have ex : x = 45 := by
        have := of_decide_eq_true e
        simpa using this
      rw [ex]
      rfl
  · rfl
/-- what a text says, and that it is its text -/
theorem prog_text {w : List Nat} {t b : Int} (h : progOf w = some (t, b)) : tl (ratText t b) = w ∧ t.natAbs < 10 ^ 60 ∧ 1 ≤ b ∧ b.natAbs < 10 ^ 60 ∧ Nat.gcd t.natAbs b.natAbs = 1 := by
  have small : ∀ {a : List Nat}, isWh a = true → val a < 10 ^ 60 := fun {a} ha => by
    obtain ⟨_, h2, h3, _⟩ := isWh_parts ha
    exact Nat.lt_of_lt_of_le (val_lt a.length a rfl h3) (Nat.pow_le_pow_right (by decide) h2)
  unfold progOf at h
  split at h
  · rename_i a e
    split at h
    · rename_i c
      rw [Bool.and_eq_true] at c
      obtain ⟨c1, c2⟩ := c
      have c3 : (isNeg w && decide (val a = 0)) = false := Bool.not_eq_true' _ |>.mp c2
      cases h
      have hw : 47 ∉ bare w := fun z => by
        have := cut_two z
        rw [e, List.length_cons, List.length_nil] at this
        exact absurd this (by decide)
      have ea : bare w = a := by
        rw [cut_none hw] at e
        exact (List.cons.inj e).1
      refine ⟨?_, by rw [sgn_abs]; exact small c1, by decide, by decide, by rw [show (1 : Int).natAbs = 1 from rfl]; exact Nat.gcd_one_right _⟩
      rw [tl_ratText, if_pos rfl, numI_sgn c1 c3, ← ea]
      exact bare_back w
    · cases h
  · rename_i a b' e
    split at h
    · rename_i c
      rw [Bool.and_eq_true, Bool.and_eq_true, Bool.and_eq_true] at c
      obtain ⟨⟨⟨c1, c2⟩, c3⟩, c4⟩ := c
      have c3' : (isNeg w && decide (val a = 0)) = false := Bool.not_eq_true' _ |>.mp c3
      have c4' : (decide (val b' < 2) || !((val a).gcd (val b') == 1)) = false := by simpa using c4
      rw [Bool.or_eq_false_iff] at c4'
      have g1 := of_decide_eq_false c4'.1
      have g2 : (val a).gcd (val b') = 1 := by
        have := c4'.2
        rw [Bool.not_eq_false', beq_iff_eq] at this
        exact this
      cases h
      refine ⟨?_, by rw [sgn_abs]; exact small c1, by omega, by rw [Int.natAbs_natCast]; exact small c2, by rw [gcd_sgn]; exact g2⟩
      have hw : 47 ∈ bare w := by
        by_cases z : 47 ∈ bare w
        · exact z
        · rw [cut_none z] at e
          exact absurd (List.cons.inj e).2 (by simp)
      obtain ⟨p, q, e2, hp⟩ := cut_at hw
      rw [e2, cut_some hp] at e
      obtain ⟨e3, e4⟩ := List.cons.inj e
      have hq : 47 ∉ q := fun z => by
        have := cut_two z
        rw [e4, List.length_cons, List.length_nil] at this
        exact absurd this (by decide)
      rw [cut_none hq] at e4
      have e5 := (List.cons.inj e4).1
      subst e3
      subst e5
      have nb : numI ((val q : Nat) : Int) = q := by
        have := numI_sgn (neg := false) c2 rfl
        simpa [sgn] using this
      rw [tl_ratText, if_neg (by omega), numI_sgn c1 c3', nb]
      have := bare_back w
      rw [e2] at this
      cases hn : isNeg w with
      | true =>
        rw [hn, if_pos rfl] at this
        rw [if_pos rfl]
        exact this
      | false =>
        rw [hn, if_neg Bool.false_ne_true] at this
        rw [if_neg Bool.false_ne_true]
        exact this
    · cases h
  · cases h
end Pk
end

section -- PkP
set_option linter.all false
set_option maxRecDepth 100000
set_option maxHeartbeats 2000000
/-! PkP: slices, beginnings and cuts of texts, as lists; an instance that is made. -/
namespace Pk
open PySem PySem.Spec L2 Evl
open PyProof.Rows hiding St
open TL (tl numL)
theorem tl_from (z : Str) (k : Nat) : tl (cutS z (some (k : Int)) none) = (tl z).drop k := by
  show ((z.cps.toList.drop (HT.sIx z.length 0 (some (k : Int)))).take (HT.sIx z.length z.length none - HT.sIx z.length 0 (some (k : Int)))) = z.cps.toList.drop k
  rw [HT.sIx_nat, HT.sIx_none]
  have e : z.length = z.cps.toList.length := TL.len_tl z
  rw [e]
  rcases Nat.le_total k z.cps.toList.length with h | h
  · rw [Nat.min_eq_left h]
    exact List.take_of_length_le (by rw [List.length_drop]; exact Nat.le_refl _)
  · rw [Nat.min_eq_right h, List.drop_of_length_le (Nat.le_refl _), List.drop_of_length_le h, List.take_nil]
theorem tl_to (z : Str) (k : Nat) : tl (cutS z none (some (k : Int))) = (tl z).take k := by
  show ((z.cps.toList.drop (HT.sIx z.length 0 none)).take (HT.sIx z.length z.length (some (k : Int)) - HT.sIx z.length 0 none)) = z.cps.toList.take k
  rw [HT.sIx_nat, HT.sIx_none, List.drop_zero, Nat.sub_zero]
  have e : z.length = z.cps.toList.length := TL.len_tl z
  rw [e]
  rcases Nat.le_total k z.cps.toList.length with h | h
  · rw [Nat.min_eq_left h]
  · rw [Nat.min_eq_right h, List.take_of_length_le (Nat.le_refl _), List.take_of_length_le h]
theorem lit_one {s : String} {c : Nat} (h : Str.ofString s = ⟨#[c]⟩) (z : Str) : Txt.startswith z (Str.ofString s) = decide ((tl z).head? = some c) := by
  rw [h]
  have e := PySem.StrLaws.subAt_one z c 0
  unfold Txt.startswith
  rw [Bool.eq_iff_iff, Bool.and_eq_true, decide_eq_true_eq, decide_eq_true_eq]
  rw [List.head?_eq_getElem?]
  exact e
theorem split_tl {s : String} {c : Nat} (h : Str.ofString s = ⟨#[c]⟩) (hc : c < 256) (z : Str) : (Txt.split z (Str.ofString s)).map tl = cutAt c (tl z) := by
  rw [h]
  exact TL.split_spl z ⟨#[c]⟩ (by show ([c] : List Nat) ≠ []; simp) (TL.kind_ok (by simpa using hc))
theorem spl_count (c : Nat) : ∀ (l acc : List Nat), (TL.spl [c] 0 acc l).length ≤ l.length + 1
  | [], acc => by rw [spl_end]; exact Nat.le_refl 1
  | x :: r, acc => by
    rw [spl_cons, List.length_cons]
    split
    · rw [List.length_cons]
      have := spl_count c r []
      omega
    · have := spl_count c r (acc ++ [x])
      omega
theorem wh_small {a : List Nat} (h : isWh a = true) : val a < 10 ^ 60 := by
  obtain ⟨_, h2, h3, _⟩ := isWh_parts h
  exact Nat.lt_of_lt_of_le (val_lt a.length a rfl h3) (Nat.pow_le_pow_right (by decide) h2)
/-- what the parts of a word tell of its pair -/
theorem prog_none {w : List Nat} {P : List (List Nat)} (hP : P = cutAt 47 (bare w)) (h : (decide (2 < P.length) || !((P.map isWh).all id)) = true) : progOf w = none := by
  unfold progOf
  rw [← hP]
  match P, h with
  | [], _ => rfl
  | [a], h =>
    have h1 : isWh a = false := by simpa using h
    dsimp only
    rw [h1, Bool.false_and, if_neg Bool.false_ne_true]
  | [a, b], h =>
    have h1 : (isWh a && isWh b) = false := by
      cases ea : isWh a <;> cases eb : isWh b <;> simp [ea, eb] at h ⊢
    dsimp only
    rw [h1, Bool.false_and, Bool.false_and, if_neg Bool.false_ne_true]
  | a :: b :: c :: r, _ => rfl
theorem prog_some {w : List Nat} {P : List (List Nat)} (hP : P = cutAt 47 (bare w)) (h : (decide (2 < P.length) || !((P.map isWh).all id)) = false) :
    ∃ (a : List Nat) (b : Nat), P[0]? = some a ∧ isWh a = true ∧ (P.length = 2 → ∃ q, P[1]? = some q ∧ isWh q = true ∧ b = val q) ∧ (P.length ≠ 2 → b = 1) ∧ b < 10 ^ 60 ∧
      progOf w = if (isNeg w && decide (val a = 0)) = true then none else if (decide (P.length = 2) && (decide (b < 2) || !(Nat.gcd (val a) b == 1))) = true then none else some (sgn (isNeg w) (val a), (b : Int)) := by
  have h0 : 1 ≤ P.length := by rw [hP]; exact spl_pos 47 _ _
  unfold progOf
  rw [← hP]
  match P, h, h0 with
  | [], _, h0 => exact absurd h0 (by decide)
  | [a], h, _ =>
    have h1 : isWh a = true := by simpa using h
    refine ⟨a, 1, rfl, h1, fun z => absurd z (by simp), fun _ => rfl, by decide, ?_⟩
    dsimp only
    rw [h1, Bool.true_and]
    cases (isNeg w && decide (val a = 0)) <;> rfl
  | [a, q], h, _ =>
    have h1 : isWh a = true ∧ isWh q = true := by simpa using h
    refine ⟨a, val q, rfl, h1.1, fun _ => ⟨q, rfl, h1.2, rfl⟩, fun z => absurd rfl z, wh_small h1.2, ?_⟩
    dsimp only
    rw [h1.1, h1.2, Bool.true_and, Bool.true_and]
    cases (isNeg w && decide (val a = 0)) with
    | true => rfl
    | false =>
      show (if (true && !(decide (val q < 2) || !((val a).gcd (val q) == 1))) = true then some (sgn (isNeg w) (val a), ((val q : Nat) : Int)) else none) = if (true && (decide (val q < 2) || !((val a).gcd (val q) == 1))) = true then none else some (sgn (isNeg w) (val a), ((val q : Nat) : Int))
      cases (decide (val q < 2) || !((val a).gcd (val q) == 1)) <;> rfl
  | a :: b :: c :: r, h, _ => exact absurd h (by simp)
/-- a value that is a new instance of the class at C, with these fields -/
def EvI (C : Addr) (fs : List (Str × V)) (te : TE) (σ : L2.St) (H : Hp) : Prop := ∀ H1, Ex H H1 → ∀ Q : VK, (∀ x dx H2, H1 x = none → Ex H1 H2 → H2 x = some (.ins C dx fs) → Q (.ref x) H2) → te σ H1 Q
theorem s_retI {C : Addr} {fs : List (Str × V)} {te : TE} {σ : L2.St} {H : Hp} {D : Ends} (h : EvI C fs te σ H) (k : ∀ x dx H1, H x = none → Ex H H1 → H1 x = some (.ins C dx fs) → D.rt (.ref x) H1) : tRet te D σ H := h H (Ex.refl H) _ k
end Pk
end

section -- PkQ
set_option linter.all false
set_option maxRecDepth 100000
set_option maxHeartbeats 2000000
/-! PkQ: C.m(k = e), m a static method; repr of pairs; assignments of two. -/
namespace Pk
open PySem PySem.Spec L2 Evl
open PyProof.Rows hiding St
section
variable {X : Cx} {CX : CXT} {k : Nat} {C q g : Addr} {mc : Value} {m : Str} {fd : FuncData} {ps ks : List Str} {sp : Sp} {E : XK} {pl : Sem Bool} {o : Expr} {kws : List Keyword} {ta : TE} {tk : TA} {pos apos : Pos}
def tStK (C : Addr) (sp : Sp) (E : XK) (ta : TE) (tk : TA) : TE := fun σ H Q => ta σ H fun x H1 => x = .ref C ∧ tk σ H1 fun zs H2 => sp zs H2 Q E
/-- C.m(k = e, ..), m a static method, nothing by position -/
theorem pe_statK (ho : PE X o ta) (rd : ClX.CRead X.K C mc) (st : StM X.K C mc m q g) (F : FnOk X.prog X.w X.K X.mg X.base CX k g fd ps sp) (hr : Room k X.A) (hb : KBinds X.K fd ps ks (fun us ws => us ++ ws) (fun vs zs => vs ++ zs)) (hx : Passes CX X E) (hkw : PK X kws tk)
    (hall : (backToKw pos (keywordEach kws X.env)).all (·.1.isSome) = true := by rfl) (hks : (backToKw pos (keywordEach kws X.env)).filterMap (·.1) = ks := by rfl)
    (hpl : ((backTo pos (starEach [] X.env)).any (·.1) || (backToKw pos (keywordEach kws X.env)).any (·.1.isNone)) = false := by rfl)
    (ht : eval (.Call (.Attribute o m apos) [] kws pos) X.env = (do let z ← eval o X.env; standAt apos.atName; let (fn, fs) ← holding [z] (getMethod z m pl); callWith pos fn fs (backTo pos (starEach [] X.env)) (backToKw pos (keywordEach kws X.env))) := by rfl) :
    PE X (.Call (.Attribute o m apos) [] kws pos) (tStK C sp E ta tk) := by
  refine ⟨fun pins s σ H Q I w => ?_⟩
  refine PySem.W.methodCall_KW (pl := pl) (thn (ho.run pins s σ H _ I w) fun u s1 ⟨x, H1, I1, rx, ex, w1⟩ => ?_) ht
  subst ex
  obtain rfl : u = Value.ref C := rx
  refine getstat_ok I1 rd st fun s2 I2 => ?_
  refine PySem.W.callWith_KW0 (h₀ := X.base) (first := []) I2.ok.mod.kin st.keep hall (thn (hkw.run pos pins s2 σ H1 _ I2 w1) fun ws s3 ⟨zs, H2, I3, rz, w2⟩ => ⟨I3.kIn, ?_⟩) hpl
  rw [hks]
  exact run_fnk (us := []) (vs := []) F hr hb hx I3 .nil rz w2
end
/-! ### assignments of two -/
section
variable {K : PySem.W.Frag} {σ : L2.St} {H : Hp} {ta tb te : TE} {D : Ends} {tz : TS} {i j : Nat} {u : V} {xs : List V}
theorem s_parL (h : EvL ta σ H xs) (hb : Ev tb σ H u) (k : ∀ p H1, H p = none → Ex H H1 → H1 p = some (.lst xs) → D.nx ((σ.set i (some (.ref p))).set j (some u)) H1) : tPar i j (tCons ta (tCons tb tNil)) D σ H := h H (Ex.refl H) _ fun p H1 hp e h1 =>
  hb H1 e _ fun H2 e2 => ⟨_, _, rfl, k p H2 hp (e.trans e2) (e2 _ _ h1)⟩
theorem q_parL (h : EvL ta σ H xs) (hb : Ev tb σ H u) (k : ∀ p H1, H p = none → Ex H H1 → H1 p = some (.lst xs) → tz D ((σ.set i (some (.ref p))).set j (some u)) H1) : tSeq (tPar i j (tCons ta (tCons tb tNil))) tz D σ H := s_parL (D := { D with nx := tz D }) h hb k
/-- a list and a new one, together -/
theorem el_catVL {p : Addr} {ys : List V} (ha : Ev ta σ H (.ref p)) (hp : H p = some (.lst xs)) (hb : EvL tb σ H ys) (hl : xs.length + ys.length ≤ 1000000) : EvL (tOp rCat ta tb) σ H (xs ++ ys) := fun H1 e Q k =>
  ha H1 e _ fun H2 e2 => hb H2 (e.trans e2) _ fun q H3 _ e3 hq => ⟨p, q, xs, ys, rfl, rfl, ((e.trans e2).trans e3) _ _ hp, hq, sz hl, fun l hl => k l _ (fresh_back (e2.trans e3) hl) ((e2.trans e3).trans (Ex.new hl)) upd_same⟩
/-! ### the text of a pair of ints -/
def pd (t b : Int) : PyData := .tuple [.int t, .int b]
theorem pd_dp {a : Addr} {t b : Int} (h : SqT K H a [.int t, .int b]) : Dp K H (.ref a) (pd t b) := .tup h (.cons (.int t) (.cons (.int b) .nil))
theorem pd_ok {t b : Int} (ht : t.natAbs.log2 < 1000) (hb : b.natAbs.log2 < 1000) : (pd t b).showable = true ∧ (pd t b).hasDict = false ∧ (pd t b).depth ≤ 40 ∧ (pd t b).shown.length ≤ sizeLine := by
  have h1 : decide (t.natAbs.log2 < 1920) = true := decide_eq_true (by omega)
  have h2 : decide (b.natAbs.log2 < 1920) = true := decide_eq_true (by omega)
  refine ⟨?_, ?_, ?_, ?_⟩
  · simp only [pd, PyData.showable, PyData.showableAll, h1, h2, Bool.and_true]
  · simp only [pd, PyData.hasDict, PyData.hasDictAll, Bool.or_false]
  · simp only [pd, PyData.depth, PyData.depthAll]
    decide
  · have l1 := numLen ht
    have l2 := numLen hb
    have h := PySem.tupleText_len_le (PyData.shownAll [.int t, .int b])
    simp only [pd, PyData.shown]
    simp only [PyData.shownAll, PyData.shown, List.map_cons, List.map_nil, List.sum_cons, List.sum_nil, List.length_cons, List.length_nil] at h ⊢
    exact sz (by omega)
theorem rc_repr {a : Addr} {t b : Int} (ht : t.natAbs.log2 < 1000) (hb : b.natAbs.log2 < 1000) (h : SqT K H a [.int t, .int b]) : RC (rReprD K) [.ref a] H (.str (pd t b).shown) := fun H1 e _ q =>
  have o := pd_ok ht hb
  ⟨a, pd t b, rfl, pd_dp (ex_t e h), o.1, o.2.1, o.2.2.1, o.2.2.2, q H1 (Ex.refl H1)⟩
theorem ev_reprU {t b : Int} (ht : t.natAbs.log2 < 1000) (hb : b.natAbs.log2 < 1000) (h : EvU ta σ H [.int t, .int b]) : Ev (tCB (rReprD K) (tCons ta tNil)) σ H (.str (pd t b).shown) := fun H1 e Q q =>
  h H1 e _ fun p H2 _ e2 hp => rc_repr ht hb (st_of hp) H2 (Ex.refl H2) _ fun H3 e3 => q H3 (e2.trans e3)
end
end Pk
end

section -- PkR
set_option linter.all false
set_option maxRecDepth 100000
set_option maxHeartbeats 2000000
/-! PkR: a text, many times. -/
namespace Pk
open PySem PySem.Spec L2 Evl
open PyProof.Rows hiding St
open TL (tl numL)
def repS (a : Str) (n : Int) : Str := ⟨(List.replicate n.toNat a.cps).foldl (· ++ ·) #[]⟩
theorem rep_size (a : Array Nat) : ∀ (n : Nat) (acc : Array Nat), ((List.replicate n a).foldl (· ++ ·) acc).size = acc.size + n * a.size
  | 0, acc => by simp
  | n + 1, acc => by
    rw [List.replicate_succ, List.foldl_cons, rep_size a n, Array.size_append, Nat.succ_mul]
    omega
theorem repS_length (a : Str) (n : Int) : (repS a n).length = n.toNat * a.length := by
  show ((List.replicate n.toNat a.cps).foldl (· ++ ·) #[]).size = _
  rw [rep_size]
  show 0 + n.toNat * a.cps.size = n.toNat * a.cps.size
  omega
def rMulS : R2 := fun x y H Q => ∃ (a : Str) (n : Int), x = .str a ∧ y = .int n ∧ a.length = 1 ∧ 1 < n ∧ n ≤ 10000 ∧ Q (.str (repS a n)) H
theorem op_mulS {X : Cx} : OpR X (binaryOp .Mult) rMulS := by
  intro pins s σ H x y v u Q I rx ry h
  obtain ⟨a, n, rfl, rfl, ha, n1, n2, q⟩ := h
  obtain ⟨t, rfl⟩ := rx
  obtain ⟨t2, rfl⟩ := ry
  refine P.mul_str ?_ (fun _ _ => ?_) (fun _ _ => ?_) ?_
  · rw [decide_eq_false (by omega), decide_eq_false (by omega)]; rfl
  · rw [ha]
    have : (1 : Int) ≤ (2 ^ 63 - 1) / n := (Int.le_ediv_iff_mul_le (by omega)).mpr (by omega)
    show ¬ (((1 : Nat) : Int) > (2 ^ 63 - 1) / n)
    omega
  · rw [ha]
    unfold Builtin.Str.tooLong
    exact decide_eq_false (Nat.not_lt.mpr (sz (by omega)))
  · rw [if_neg (by omega), if_neg]
    · exact ⟨sz (by rw [show (⟨List.foldl (fun x1 x2 => x1 ++ x2) #[] (List.replicate n.toNat a.cps)⟩ : Str) = repS a n from rfl, repS_length, ha]; omega), .str (repS a n), H, I.tok _, ⟨_, rfl⟩, q⟩
    · rw [ha]
      have : ¬ n = 1 := by omega
      simp [this]
end Pk
end

section -- PkS
set_option linter.all false
set_option maxRecDepth 100000
set_option maxHeartbeats 2000000
/-! PkS: the end of a law whose def is known where no repr is under way; what is looked at behind the top. -/
namespace Pk
open PySem PySem.Spec PyProof.Rows L2
/-! ### the law, called -/
section
variable {P : Program} {w : World} {K : PySem.W.Frag} {mg mb : Str → Option Value} {k : Nat} {fa a : Addr} {fd : FuncData} {x : Str} {sp : Sp} {s : Shared} {vs : List Value} {ns : List Int} {H : Hp}
/-- what an answer leaves -/
def LeftG (s : Shared) (r : Result) (z : Shared) : Prop := r = .ok (.ret (.bool true)) ∧ OldK s.heap z.heap ∧ z.os = s.os ∧ AllBare z.gens
/-- from a heap in which at most the script stands, as it was written -/
theorem lawG_from (KX : K.In s.heap) (g1 : s.heap.Ns mainGlobals mg) (g2 : s.heap.Ns builtinsNs mb) (g3 : ∀ y : Str, y ≠ "__name__" → mb y = bootBuiltins y) (g4 : s.heap.NoLimit) (g5 : s.gens = #[]) (hr : Room k callerA)
    (F : ∀ base : Heap, K.In base → FnG P w K mg base CX0 k fa fd [x] sp) (bind : ∀ (s : Shared) (u : Value), BindsTo s fd ⟨[u], []⟩ [(x, u)]) (hsp : sp [.ref a] H (fun v _ => v = .bl true) E0)
    (hok : HOk P w H s.heap) (only : ∀ b u, H b = some u → K.lookup b = none ∧ (∀ o es ep, s.heap.get? b = some o → o.data ≠ .dict es ep) ∧ ∃ o ys, u = .frz o (.lst ys)) : codeAny (model P w) callerA (.call (.ref fa) ⟨[.ref a], []⟩) (LeftG s) s := by
  have inB : K.In (hidT s.heap H) := fun b o e => hidT_get (KX b o e) (by
    cases z : H b with
    | none => rfl
    | some u => rw [(only b u z).1] at e; cases e)
  have nsB : ∀ {b : Addr} {m : Str → Option Value}, s.heap.Ns b m → (hidT s.heap H).Ns b m := fun {b m} t => by
    obtain ⟨o, es, ep, h1, h2, h3⟩ := t
    refine ⟨o, es, ep, hidT_get h1 ?_, h2, h3⟩
    cases z : H b with
    | none => rfl
    | some u => exact absurd h2 ((only b u z).2.1 o es ep h1)
  have mod : Mod K mg (hidT s.heap H) := by
    obtain ⟨mc, h1, h2⟩ := g4
    exact ⟨inB, nsB g1, ⟨mb, nsB g2, g3⟩, ⟨mc, nsB h1, h2⟩⟩
  have env : Env0 P w K mg (hidT s.heap H) callerA [] s H := { frames := rfl, mod := mod, bs := fun _ _ e => of_hidT e, bsz := Nat.le_of_eq (hidT_size _ _), funs := trivial, frf := fun _ hb => absurd hb List.not_mem_nil, hok := hok, bare := .of_eq g5 }
  have call := (F _ inB).go callerA [] s H ⟨[.ref a], []⟩ [.ref a] [.ref a] _ _ hr rfl env (bind s (.ref a)) (.cons rfl .nil) hsp
  refine codeAny_mono call fun r z h => ?_
  match r, h with
  | .ok (.ret u), h =>
    obtain ⟨v, H2, os, bare, un, hok2, rel, rfl⟩ := h
    cases (show u = Value.bool true from rel)
    refine ⟨rfl, OldK.of_keep fun b o e => ?_, os, bare⟩
    cases q : H b with
    | none => exact un.keep b o e q List.not_mem_nil List.not_mem_nil
    | some u =>
      obtain ⟨_, _, ob, ys, rfl⟩ := only b u q
      have e1 := (hok b _ q).1
      have e2 := (hok2 b _ (un.frzs b ob _ q)).1
      rw [e] at e1
      rw [Option.some.inj e1]
      exact e2
theorem lawG_call (KX : K.In s.heap) (g1 : s.heap.Ns mainGlobals mg) (g2 : s.heap.Ns builtinsNs mb) (g3 : ∀ y : Str, y ≠ "__name__" → mb y = bootBuiltins y) (g4 : s.heap.NoLimit) (g5 : s.gens = #[]) (hr : Room k callerA)
    (F : ∀ base : Heap, K.In base → FnG P w K mg base CX0 k fa fd [x] sp) (bind : ∀ (s : Shared) (u : Value), BindsTo s fd ⟨[u], []⟩ [(x, u)]) (hsp : ∀ H : Hp, SqL K H a (ns.map V.int) → sp [.ref a] H (fun v _ => v = .bl true) E0)
    (ha : s.heap.get? a = some { cls := .type "list", data := .seq vs.toArray }) (hi : IntsAre vs ns) (hl : ns.length ≤ sizeLine) : codeAny (model P w) callerA (.call (.ref fa) ⟨[.ref a], []⟩) (LeftG s) s := by
  have rv := vals_ints hi
  have lv := hi.length
  have lz : (ns.map V.int).length ≤ sizeLine := by rw [List.length_map]; exact hl
  cases hk : K.lookup a with
  | some o =>
    obtain rfl : o = { cls := .type "list", data := .seq vs.toArray } := Option.some.inj ((KX a o hk).symm.trans ha)
    refine lawG_from (H := fun _ => none) KX g1 g2 g3 g4 g5 hr F bind (hsp _ (.inr ⟨_, vs.toArray, _, hk, rfl, rfl, rfl, by rw [List.size_toArray, lv]; exact hl, by simpa using rv⟩)) (fun b u z => nomatch z) fun b u z => nomatch z
  | none =>
    obtain ⟨T, hT⟩ : ∃ T : Hp, T = fun b => if b = a then some (.frz { cls := .type "list", data := .seq vs.toArray } (.lst (ns.map V.int))) else none := ⟨_, rfl⟩
    have at_ : T a = some (.frz { cls := .type "list", data := .seq vs.toArray } (.lst (ns.map V.int))) := by rw [hT]; exact if_pos rfl
    have off : ∀ b u, T b = some u → b = a ∧ u = .frz { cls := .type "list", data := .seq vs.toArray } (.lst (ns.map V.int)) := fun b u z => by
      by_cases q : b = a
      · subst q
        exact ⟨rfl, Option.some.inj (z.symm.trans at_)⟩
      · rw [hT] at z
        have z' : (none : Option HO) = some u := (if_neg q).symm.trans z
        cases z'
    refine lawG_from (H := T) KX g1 g2 g3 g4 g5 hr F bind (hsp T (.inl (.inr ⟨_, at_⟩))) (fun b u z => ?_) fun b u z => ?_
    · obtain ⟨rfl, rfl⟩ := off b u z
      exact ⟨ha, lz, vs, _, rv, ha⟩
    · obtain ⟨rfl, rfl⟩ := off b u z
      refine ⟨hk, fun o es ep e d => ?_, _, _, rfl⟩
      rw [ha] at e
      rw [← Option.some.inj e] at d
      cases d
end
theorem walkG {l : PySem.W.OpenLaw} {n k : Nat} {q : Program} {loose : List Str} {XP : (Str → Option Value) → Heap → Prop} {YP : World → Heap → Prop} {d : DefRec} {x : Str} (hn : l.most = some n) (hn2 : n ≤ sizeLine) (hdf : d.params.defaults = []) (hr : Room k callerA)
    (F : ∀ (w : World) (mg : Str → Option Value) (fa : Addr) (h : Heap), YP w h → h.Ns mainGlobals mg → mg d.name = some (.ref fa) → ∃ (K : PySem.W.Frag) (fd : FuncData) (sp : Sp), K.In h ∧ (∀ (s : Shared) (u : Value), BindsTo s fd ⟨[u], []⟩ [(x, u)]) ∧
      (∀ (H : Hp) (a : Addr) (ns : List Int), SqL K H a (ns.map V.int) → sp [.ref a] H (fun v _ => v = .bl true) E0) ∧ ∀ base : Heap, K.In base → FnG l.prog w K mg base CX0 k fa fd [x] sp) : PySem.W.WalkO q loose XP YP l.row.toRowW d [] (fun f vs => PySem.call f vs) := by
  refine Att.attach_call hn hdf fun w s₀ s₁ mg mb fa o pm cd doc a vs ns G Y _ _ _ hmg hobj hints hlen hg => ?_
  obtain ⟨K, fd, sp, KX, hb, hsp, hF⟩ := F w mg fa _ Y G.T.g hmg
  exact lawG_call KX G.T.g G.T.b G.T.builtins G.T.nolimit hg hr hF hb (fun H hS => hsp H a ns hS) hobj hints (Nat.le_trans hlen hn2)
/-! ### what is looked at -/
abbrev Seen : Type := Bool × List He5.FnW
def seenOf (B : List (PySem.W.Frag → Bool)) (fn : List He5.DefA) (K : PySem.W.Frag) : Seen := (B.all (fun b => b K) && fn.all (fun d => d.ok K), fn.map fun d => He5.fnA K (d.at_ K))
def toldOf (fn : List He5.DefA) : Seen := (true, fn.map He5.DefA.val)
def Told (B : List (PySem.W.Frag → Bool)) (fn : List He5.DefA) (K : PySem.W.Frag) : Prop := seenOf B fn K = toldOf fn
def seenG (n : Nat) (B : List (PySem.W.Frag → Bool)) (fn : List He5.DefA) (g : Addr → Option Obj) : Seen := seenOf B fn (He.frG g (He5.asA g n))
def hookB (n : Nat) (B : List (PySem.W.Frag → Bool)) (fn : List He5.DefA) : PySem.W.Hook where
  α := Seen
  obs := fun t => seenG n B fn t.heap.get?
  val := fun _ => toldOf fn
  says := fun _ h => ∃ K : PySem.W.Frag, K.In h ∧ Told B fn K
  of := fun _ _ e => ⟨_, He.frG_in, e⟩
  keeps := fun _ _ _ t k => t.elim fun K c => ⟨K, PySem.W.Frag.In.keeps c.1 k, c.2⟩
section
variable {B : List (PySem.W.Frag → Bool)} {fn : List He5.DefA} {K : PySem.W.Frag}
theorem Told.fact (c : Told B fn K) (i : Nat) {b : PySem.W.Frag → Bool} (h : B[i]? = some b := by rfl) : b K = true := by
  have c1 : (B.all (fun b => b K) && fn.all (fun d => d.ok K)) = true := congrArg Prod.fst c
  exact List.all_eq_true.mp (Bool.and_eq_true_iff.mp c1).1 b (List.mem_of_getElem? h)
theorem Told.dd (c : Told B fn K) (i : Nat) {d : He5.DefA} (h : fn[i]? = some d := by rfl) : ∃ fd, FunD K d.name d.qual d.params d.body d.scope (d.dvs K) (d.kws K) (d.at_ K) fd := by
  have c1 : (B.all (fun b => b K) && fn.all (fun d => d.ok K)) = true := congrArg Prod.fst c
  have e : fn.map (fun d => He5.fnA K (d.at_ K)) = fn.map He5.DefA.val := congrArg Prod.snd c
  have e2 := congrArg (fun l : List He5.FnW => l[i]?) e
  simp only [List.getElem?_map, h, Option.map_some] at e2
  exact He5.DefA.funD (Option.some.inj e2) (List.all_eq_true.mp (Bool.and_eq_true_iff.mp c1).2 d (List.mem_of_getElem? h))
end
end Pk
end

section -- PkT
set_option linter.all false
set_option maxRecDepth 100000
set_option maxHeartbeats 2000000
/-! PkT: operators that an own class defines, and that may raise: + - *, == and != beside any value, -x, abs, the truth of an instance. -/
namespace PySem.W
open PySem PySem.Calls PyProof.Rows Builtin
section
variable {prog : Program} {w : World} {A : Around} {E : Value → Shared → Prop} {s : Shared} {K : Frag} {x C L f : Addr} {h₀ : Heap} {m : Str → Option Value} {ox : Obj} {od : Option Obj} {T : String}
/-- x op b, the class of x defines it, b of a built-in type, wherever b's type is found -/
theorem pk_binT {op : Operator} {b : Value} {fo ro rc : Option Value} {Q : Value → Shared → Prop} (F : Fr h₀ L s.heap m) (X₀ : K.In h₀) (I : InstAt s.heap x ox C od) (hb : Looks (model prog w) s.heap (typeOf b) (.type T)) (hc : selfFirst K C = true)
    (hs : findIn K (.ref C) (PySem.dunder op.info.2) = some (some (.ref f))) (hf : isFn K (.ref f) = true) (hr : findIn K (.ref C) (dunderR op.info.2) = some rc) (hp : rc = none ∨ ∃ g : Addr, rc = some (.ref g))
    (h1 : findIn K (.type T) (PySem.dunder op.info.2) = some fo) (h2 : findIn K (.type T) (dunderR op.info.2) = some ro) (hsub : subIn K (.type T) (.ref C) = some false)
    (h : wpAny (model prog w) A (call (.ref f) [.ref x, b]) (CmpBack Q) E s) : wpAny (model prog w) A (binaryOp op (.ref x) b) Q E s := by
  have X := X₀.keeps F.keep
  obtain ⟨cd, rest, hcd, hm⟩ := ksp_first hc
  obtain ⟨nm, ei⟩ : ∃ nm, nm = op.info.2 := ⟨_, rfl⟩
  rcases hi : op.info with ⟨sym, q⟩
  rw [hi] at hs hr h1 h2 ei
  have eq : nm = q := ei
  subst eq
  replace hs : findIn K (.ref C) (PySem.dunder nm) = some (some (.ref f)) := hs
  replace hr : findIn K (.ref C) (dunderR nm) = some rc := hr
  replace h1 : findIn K (.type T) (PySem.dunder nm) = some fo := h1
  replace h2 : findIn K (.type T) (dunderR nm) = some ro := h2
  have done := ksp_try X I hs hf h
  obtain ⟨hh, g, d, tt, os⟩ := s
  have t1 : Looks (model prog w) hh (typeOf (.ref x)) (.ref C) := I.type
  have t2 : Looks (model prog w) hh (typeOf b) (.type T) := hb
  have t3 : Looks (model prog w) hh (fillsNumberSlot (.ref C) nm) true := fills_K X hcd hm hs
  obtain ⟨right, t4⟩ : ∃ right, Looks (model prog w) hh (fillsNumberSlot (.type T) nm) right := ⟨_, ksp_fillsT X h1 h2⟩
  have t5 : Looks (model prog w) hh (isSubtype (.type T) (.ref C)) false := looks_subIn X hsub
  have t6 : Looks (model prog w) hh (numberSlotInPython (.ref C) nm) true := ksp_inPy X hs hr hp
  have t7 : Looks (model prog w) hh (numberSlotInPython (.type T) nm) false := Looks.of_pure rfl
  have t8 : Looks (model prog w) hh (typeLookup (.type T) (dunderR nm)) ro := looks_findIn X h2
  have off : (Value.ref C == Value.type T) = false := by
    cases z : (Value.ref C == Value.type T) with
    | false => rfl
    | true => cases beq_iff_eq.mp z
  simp only [binaryOp, hi]
  refine wpAny_holding (wpAny_bind ?_)
  unfold binaryOp1
  refine wpAny_bind (t1.at (wpAny_bind (t2.at (wpAny_bind (t3.at ?_)))))
  simp only [off, Bool.false_eq_true, if_false]
  cases right <;>
    (ksp_lk
     refine wpAny_mono done (fun r s' hz => ?_) fun _ _ e => e
     obtain ⟨v, rfl, hq⟩ := hz
     ksp_lk
     exact hq)
/-- bool(x), by what tells whether x is true -/
theorem pk_bool {v : Value} {Q : Value → Shared → Prop} (h : wpAny (model prog w) A.in1.in1 (truthy v) (fun b z => Q (.bool b) z) E s) : wpAny (model prog w) A (call (.type "bool") [v]) Q E s := by
  refine callType_newIn (S := fun A R s => wpAny (model prog w) A.in1 (truthy v) (fun b z => R (.ok (.ret (.bool b))) z) (fun e z => R (.error e) z) s) PySem.F.called_bool PySem.F.newNe_bool (PySem.F.typeCall_bool_1 v) (PySem.F.newCall_bool_1 v) (fun obj => PySem.F.args_object_init_2 obj v) PySem.F.entry_bool_new (fun A R s hs => ?_) (wpAny_mono h (fun b z q => ⟨rfl, q⟩) fun _ _ e => e)
  have f1 := PySem.F.conv_sub_bool
  unfold Builtin.«bool.__new__»
  repeat (first
    | (with_reducible refine wpAny_bind (m := truthy v) (wpAny_mono hs (fun b z q => ?_) fun _ _ e => e))
    | wp_step)
  all_goals first | exact q | assumption | trace_state
/-- .. what the default __ne__ asks of the own __eq__ -/
theorem pk_objNe {b : Value} {Q : Fin → Shared → Prop} (hu : A.units < cLine) (X : K.In s.heap) (I : InstAt s.heap x ox C od) (hs : findIn K (.ref C) "__eq__" = some (some (.ref f))) (hf : isFn K (.ref f) = true)
    (h : wpAny (model prog w) A (call (.ref f) [.ref x, b]) (fun v z => ∃ c, v = .bool c ∧ Q (.done (.ret (.bool (!c)))) z) E s) : wpAny (model prog w) A (Builtin.«object.__ne__» ⟨[.ref x, b], []⟩) Q E s := by
  have mid := ifBound_K (M := model prog w) (A := A) (E := E) (args := [b]) (Q := fun r z => ∃ c, r = some (.bool c) ∧ Q (.done (.ret (.bool (!c)))) z) X I hs hf (wpAny_mono h (fun v z hz => by
    obtain ⟨c, rfl, q⟩ := hz
    exact ⟨c, rfl, q⟩) fun _ _ e => e)
  unfold Builtin.«object.__ne__»
  refine wpAny_bind (wpAny_of_eq (a := ((Value.ref x : Value), [b])) (by first | rfl | (simp only [slotArgs]; rfl)) ?_)
  refine wpAny_bind (wpAny_cRoomFor hu ?_)
  refine wpAny_bind (m := callSpecialIfBound? (.ref x) (Str.ofString "__eq__") [b]) (wpAny_mono mid (fun r z hz => ?_) fun _ _ e => e)
  obtain ⟨c, rfl, q⟩ := hz
  exact wpAny_bind (wpAny_truthy_bool (wpAny_pure q))
theorem pk_ifNe {M : Model} {args : List Value} {Q : Option Value → Shared → Prop} (X : K.In s.heap) (I : InstAt s.heap x ox C od) (hne : findIn K (.ref C) "__ne__" = some (some (.builtin "object.__ne__")))
    (h : wpAny M A (call (.builtin "object.__ne__") (.ref x :: args)) (fun v => Q (some v)) E s) : wpAny M A (callSpecialIfBound? (.ref x) "__ne__" args) Q E s := by
  have last : wpAny M A (call (.builtin "object.__ne__") ([.ref x] ++ args) >>= fun v => pure (some v)) Q E s := wpAny_bind (wpAny_mono h (fun v z q => wpAny_pure q) fun _ _ e => e)
  have bound := PySem.F.cmp_object.ne.bind (.ref x)
  simp only [callSpecialIfBound?, bindSpecialIfBound?]
  refine wpAny_holding (wpAny_bind (wpAny_bind (wpAny_bind (I.type.here ((looks_findIn X hne).here (wpAny_bind (wpAny_askSetting (wpAny_ite ?_))))))))
  split
  · exact wpAny_bind (wpAny_of_eq bound (wpAny_pure (by exact last)))
  · exact wpAny_tryCatch (wpAny_bind (wpAny_of_eq bound (wpAny_pure (by exact last))))
/-- x != b, by the class's own __eq__ -/
theorem pk_ne {b tb : Value} {Q : Value → Shared → Prop} (hu : A.units + 1 < cLine) (F : Fr h₀ L s.heap m) (X₀ : K.In h₀) (I : InstAt s.heap x ox C od) (hb : Looks (model prog w) s.heap (typeOf b) tb) (hn : notFirst K C tb = true) (hm : mroIn K C (.type "object") = some true)
    (hne : findIn K (.ref C) "__ne__" = some (some (.builtin "object.__ne__"))) (hs : findIn K (.ref C) "__eq__" = some (some (.ref f))) (hf : isFn K (.ref f) = true)
    (h : wpAny (model prog w) A.in1 (call (.ref f) [.ref x, b]) (fun v z => ∃ c, v = .bool c ∧ Q (.bool (!c)) z) E s) : wpAny (model prog w) A (richCompare .NotEq (.ref x) b) Q E s := by
  have X := X₀.keeps F.keep
  have ask : wpAny (model prog w) A (call (.builtin "object.__ne__") [.ref x, b]) (fun v z => ∃ c, v = .bool c ∧ Q (.bool c) z) E s :=
    wpAny_call (codeAny_call_builtin PySem.F.cmp_object.ne.plain PySem.F.cmpEntry_ne (check_slot PySem.F.cmpKind_ne PySem.F.cmpSplit_ne (I.type.andThen (looks_mroIn X hm)) (PySem.F.cmpArgs_ne _ _) (pk_objNe (by show A.units + 1 < cLine; exact hu) X I hs hf (wpAny_mono h (fun v z hz => by
      obtain ⟨c, rfl, q⟩ := hz
      exact ⟨c, rfl, ⟨!c, rfl, q⟩⟩) fun _ _ e => e))))
  have one : wpAny (model prog w) A (tryCompare (.ref x) (cmpInfo .NotEq).2.1 b) (fun r z => ∃ c, r = some (.bool c) ∧ Q (.bool c) z) E s := by
    unfold tryCompare
    refine wpAny_bind (pk_ifNe X I hne (wpAny_mono ask (fun v z hz => ?_) fun _ _ e => e))
    obtain ⟨c, rfl, q⟩ := hz
    exact wpAny_pure ⟨c, rfl, q⟩
  unfold richCompare
  simp only [oneThing_ref]
  refine wpAny_holding (wpAny_bind (wpAny_cRoomFor (Nat.lt_of_succ_lt hu) (wpAny_bind (I.type.here (wpAny_bind (hb.here ?_))))))
  split
  · next q =>
    have e : subIn K tb (.ref C) = some false := by
      rcases Bool.or_eq_true_iff.mp hn with z | z
      · rw [beq_iff_eq.mp z] at q
        simp at q
      · exact beq_iff_eq.mp z
    refine wpAny_bind ((looks_subIn X e).here ?_)
    simp only [Bool.false_eq_true, if_false]
    exact wpAny_bind (wpAny_mono one (fun r z hz => by
      obtain ⟨c, rfl, k⟩ := hz
      exact wpAny_pure k) fun _ _ e => e)
  · refine wpAny_bind (wpAny_pure ?_)
    simp only [Bool.false_eq_true, if_false]
    exact wpAny_bind (wpAny_mono one (fun r z hz => by
      obtain ⟨c, rfl, k⟩ := hz
      exact wpAny_pure k) fun _ _ e => e)
end
end PySem.W
namespace Pk
open PySem PySem.Spec L2
open PyProof.Rows hiding St
/-! ### operators whose asking may hang on the slots -/
def OpS (X : Cx) (op : Value → Value → Sem Value) (r : St → V → V → Hp → VK → Prop) : Prop := ∀ (pins : List (Addr × Obj)) (s : Shared) (σ : St) (H : Hp) (x y : V) (v u : Value) (Q : VK), Inv X pins σ H s → RelV x v → RelV y u → r σ x y H Q →
  wpAny (model X.prog X.w) X.A (op v u) (EP X pins σ Q) X.xe s
def tOpS (r : St → V → V → Hp → VK → Prop) (ta tb : TE) : TE := fun σ H Q => ta σ H fun x H1 => tb σ H1 fun y H2 => r σ x y H2 Q
section
variable {X : Cx} {a b : Expr} {ta tb : TE} {pos : Pos} {r : St → V → V → Hp → VK → Prop}
theorem pe_opS {op : Operator} (ho : OpS X (binaryOp op) r) (ha : PE X a ta) (hb : PE X b tb) : PE X (.BinOp a op b pos) (tOpS r ta tb) := ⟨fun pins s σ H Q I h =>
  wpAny_BinOp (binT ha hb I h fun v u s2 x y H2 I2 rx ry q => ho pins s2 σ H2 x y v u Q I2 rx ry q)⟩
theorem pe_cmpS {op : CmpOp} (ho : OpS X (compareOp op) r) (ha : PE X a ta) (hb : PE X b tb) (hm : behindInMarks op b = false) : PE X (.Compare a [op] [b] pos) (tOpS r ta tb) := ⟨fun pins s σ H Q I h =>
  wpAny_Compare1 (binT ha hb I h fun v u s2 x y H2 I2 rx ry q => ho pins s2 σ H2 x y v u Q I2 rx ry q) hm⟩
end
/-- a callee, run where an operator calls it; what it lets out is asked at the slots -/
def RunS (X : Cx) (A : Around) (f : Addr) (r : St → List V → Hp → VK → Prop) : Prop :=
  ∀ (pins : List (Addr × Obj)) (s : Shared) (σ : St) (H : Hp) (vs : List V) (us : List Value) (Q : VK), Inv X pins σ H s → Vals vs us → r σ vs H Q → wpAny (model X.prog X.w) A (call (.ref f) us) (EP X pins σ Q) X.xe s
section
variable {X : Cx} {CX : CXT} {k : Nat} {f C : Addr} {fd : FuncData} {ps : List Str} {sp : Sp} {E : St → XK}
theorem runS_fn (F : FnOk X.prog X.w X.K X.mg X.base CX k f fd ps sp) (hr : Room k X.A) (hb : Binds X.K fd ps []) (hx : ∀ σ, PassesAt CX X σ (E σ)) : RunS X X.A f (fun σ vs H Q => sp vs H Q (E σ)) :=
  fun _ _ σ _ _ _ _ I rv q => run_fnS F hr hb (hx σ) I rv q
/-- x op y, x an instance of the class at C, y one of the same class -/
def rBinI (C : Addr) (r : St → List V → Hp → VK → Prop) : St → V → V → Hp → VK → Prop := fun σ x y H Q => ∃ (a dx b dy : Addr) (fs gs : List (Str × V)), x = .ref a ∧ H a = some (.ins C dx fs) ∧ y = .ref b ∧ H b = some (.ins C dy gs) ∧ r σ [.ref a, .ref b] H fun v G => (∃ c, v = .ref c) ∧ Q v G
theorem ret_cmp {pins : List (Addr × Obj)} {σ : St} {Q : VK} {u : Value} {s : Shared} (z : EP X pins σ (fun v G => (∃ c, v = V.ref c) ∧ Q v G) u s) : PySem.W.CmpBack (EP X pins σ Q) u s := by
  obtain ⟨v, G, J, ru, ⟨c, rfl⟩, q⟩ := z
  obtain rfl : u = Value.ref c := ru
  exact ⟨.ref c, G, J, rfl, q⟩
theorem op_binI {op : Operator} {r : St → List V → Hp → VK → Prop} (hc : PySem.W.selfFirst X.K C = true) (hs : PySem.W.findIn X.K (.ref C) (PySem.dunder op.info.2) = some (some (.ref f))) (hf : PySem.W.isFn X.K (.ref f) = true) (c : RunS X X.A f r) :
    OpS X (binaryOp op) (rBinI C r) := by
  intro pins s σ H x y v u Q I rx ry q
  obtain ⟨a, dx, b, dy, fs, gs, rfl, ha, rfl, hb, q⟩ := q
  obtain ⟨mA, O, _⟩ := ins_get I.hok ha
  obtain ⟨od, J, _⟩ := O.look
  obtain ⟨mB, O2, _⟩ := ins_get I.hok hb
  obtain ⟨od2, J2, _⟩ := O2.look
  obtain ⟨m, hF⟩ := I.fr
  cases (show v = Value.ref a from rx)
  cases (show u = Value.ref b from ry)
  exact PySem.W.binop_K hF I.ok.mod.kin J J2.type hc hs hf (thn (c pins s σ H [.ref a, .ref b] [.ref a, .ref b] _ I (.cons rfl (.cons rfl .nil)) q) fun z s1 hz => ret_cmp hz)
/-- the type of a value, where it is looked up -/
theorem ty_looks {pins : List (Addr × Obj)} {σ : St} {H : Hp} {s : Shared} {y : V} {u T : Value} (I : Inv X pins σ H s) (ry : RelV y u) (ty : TyX X.K H y T) : PySem.W.Looks (model X.prog X.w) s.heap (typeOf u) T := by
  obtain ⟨P, Z, p, _⟩ := kit_of I ry ty
  exact Z.ty _ _ I.kIn p
/-- what is told of a built-in type beside an operator of the class -/
structure BinT (K : PySem.W.Frag) (C : Addr) (nm T : String) : Prop where
  fo : ∃ fo, PySem.W.findIn K (.type T) (PySem.dunder nm) = some fo
  ro : ∃ ro, PySem.W.findIn K (.type T) (dunderR nm) = some ro
  sub : PySem.W.subIn K (.type T) (.ref C) = some false
def rBinT (K : PySem.W.Frag) (C : Addr) (nm : String) (r : St → List V → Hp → VK → Prop) : St → V → V → Hp → VK → Prop := fun σ x y H Q => ∃ (a dx : Addr) (fs : List (Str × V)) (T : String), x = .ref a ∧ H a = some (.ins C dx fs) ∧ TyX K H y (.type T) ∧ BinT K C nm T ∧ r σ [.ref a, y] H fun v G => (∃ c, v = .ref c) ∧ Q v G
theorem op_binT {op : Operator} {r : St → List V → Hp → VK → Prop} {rc : Option Value} (hc : PySem.W.selfFirst X.K C = true) (hs : PySem.W.findIn X.K (.ref C) (PySem.dunder op.info.2) = some (some (.ref f))) (hf : PySem.W.isFn X.K (.ref f) = true)
    (hr : PySem.W.findIn X.K (.ref C) (dunderR op.info.2) = some rc) (hp : rc = none ∨ ∃ g : Addr, rc = some (.ref g)) (c : RunS X X.A f r) : OpS X (binaryOp op) (rBinT X.K C op.info.2 r) := by
  intro pins s σ H x y v u Q I rx ry q
  obtain ⟨a, dx, fs, T, rfl, ha, ty, ⟨⟨fo, h1⟩, ⟨ro, h2⟩, h3⟩, q⟩ := q
  obtain ⟨mA, O, _⟩ := ins_get I.hok ha
  obtain ⟨od, J, _⟩ := O.look
  obtain ⟨m, hF⟩ := I.fr
  cases (show v = Value.ref a from rx)
  exact PySem.W.pk_binT hF I.ok.mod.kin J (ty_looks I ry ty) hc hs hf hr hp h1 h2 h3 (thn (c pins s σ H [.ref a, y] [.ref a, u] _ I (.cons rfl (.cons ry .nil)) q) fun z s1 hz => ret_cmp hz)
/-- both: y an instance of the class, or of a built-in type -/
theorem OpS.or {op : Value → Value → Sem Value} {r r2 : St → V → V → Hp → VK → Prop} (h1 : OpS X op r) (h2 : OpS X op r2) : OpS X op (fun σ x y H Q => r σ x y H Q ∨ r2 σ x y H Q) := fun pins s σ H x y v u Q I rx ry q => q.elim (h1 pins s σ H x y v u Q I rx ry) (h2 pins s σ H x y v u Q I rx ry)
/-- x == y, x != y by the class's own __eq__, which answers True or False; y any value whose type is told -/
def rEqV (neg : Bool) (K : PySem.W.Frag) (C : Addr) (r : List V → Hp → VK → Prop) : R2 := fun x y H Q => ∃ (a dx : Addr) (fs : List (Str × V)) (T : Value), x = .ref a ∧ H a = some (.ins C dx fs) ∧ TyX K H y T ∧ PySem.W.notFirst K C T = true ∧ r [.ref a, y] H fun v G => ∃ c, v = .bl c ∧ Q (.bl (c != neg)) G
theorem op_eqV {r : List V → Hp → VK → Prop} (hu : X.A.units < cLine) (hs : PySem.W.findIn X.K (.ref C) "__eq__" = some (some (.ref f))) (hf : PySem.W.isFn X.K (.ref f) = true) (c : RunAt X X.A f r) : OpR X (compareOp .Eq) (rEqV false X.K C r) := by
  intro pins s σ H x y v u Q I rx ry q
  obtain ⟨a, dx, fs, T, rfl, ha, ty, hn, q⟩ := q
  obtain ⟨mA, O, _⟩ := ins_get I.hok ha
  obtain ⟨od, J, _⟩ := O.look
  obtain ⟨m, hF⟩ := I.fr
  cases (show v = Value.ref a from rx)
  show wpAny _ X.A (richCompare .Eq (.ref a) u) _ _ _
  refine PySem.W.cmp_K (op := .Eq) hu hF I.ok.mod.kin J (ty_looks I ry ty) hn hs hf (thn (c pins s σ H [.ref a, y] [.ref a, u] _ I (.cons rfl (.cons ry .nil)) q) fun z s1 hz => ?_)
  obtain ⟨v, G, I1, rz, k, rfl, q1⟩ := hz
  cases rz
  rw [Bool.bne_false] at q1
  exact ⟨.bl k, G, I1, rfl, q1⟩
theorem op_neV {r : List V → Hp → VK → Prop} (hu : X.A.units + 1 < cLine) (hm : PySem.W.mroIn X.K C (.type "object") = some true) (hne : PySem.W.findIn X.K (.ref C) "__ne__" = some (some (.builtin "object.__ne__"))) (hs : PySem.W.findIn X.K (.ref C) "__eq__" = some (some (.ref f))) (hf : PySem.W.isFn X.K (.ref f) = true)
    (c : RunAt X X.A.in1 f r) : OpR X (compareOp .NotEq) (rEqV true X.K C r) := by
  intro pins s σ H x y v u Q I rx ry q
  obtain ⟨a, dx, fs, T, rfl, ha, ty, hn, q⟩ := q
  obtain ⟨mA, O, _⟩ := ins_get I.hok ha
  obtain ⟨od, J, _⟩ := O.look
  obtain ⟨m, hF⟩ := I.fr
  cases (show v = Value.ref a from rx)
  show wpAny _ X.A (richCompare .NotEq (.ref a) u) _ _ _
  refine PySem.W.pk_ne hu hF I.ok.mod.kin J (ty_looks I ry ty) hn hm hne hs hf (thn (c pins s σ H [.ref a, y] [.ref a, u] _ I (.cons rfl (.cons ry .nil)) q) fun z s1 hz => ?_)
  obtain ⟨v, G, I1, rz, k, rfl, q1⟩ := hz
  cases rz
  rw [Bool.bne_true] at q1
  exact ⟨k, rfl, .bl (!k), G, I1, rfl, q1⟩
/-- -x, abs(x) of an instance by its own methods -/
def rOwn1 (C : Addr) (r : List V → Hp → VK → Prop) : V → Hp → VK → Prop := fun x H Q => ∃ (a dx : Addr) (fs : List (Str × V)), x = .ref a ∧ H a = some (.ins C dx fs) ∧ r [.ref a] H Q
theorem un_negO {r : List V → Hp → VK → Prop} (hs : PySem.W.findIn X.K (.ref C) "__neg__" = some (some (.ref f))) (hf : PySem.W.isFn X.K (.ref f) = true) (c : RunAt X X.A f r) : UnR X (unaryOp .USub) (rOwn1 C r) := by
  intro pins s σ H x v Q I rx q
  obtain ⟨a, dx, fs, rfl, ha, q⟩ := q
  obtain ⟨mA, O, _⟩ := ins_get I.hok ha
  obtain ⟨od, J, _⟩ := O.look
  obtain ⟨m, hF⟩ := I.fr
  cases (show v = Value.ref a from rx)
  exact PySem.W.ksp_neg hF I.ok.mod.kin J hs hf (c pins s σ H [.ref a] [.ref a] _ I (.cons rfl .nil) q)
theorem call_absO {r : List V → Hp → VK → Prop} (hs : PySem.W.findIn X.K (.ref C) "__abs__" = some (some (.ref f))) (hf : PySem.W.isFn X.K (.ref f) = true) (c : RunAt X X.A.in1 f r) : CallR X (.builtin "abs") (fun xs H Q => ∃ x, xs = [x] ∧ rOwn1 C r x H Q) := by
  intro pins s σ H xs us Q I rv q
  obtain ⟨x, rfl, a, dx, fs, rfl, ha, q⟩ := q
  obtain ⟨mA, O, _⟩ := ins_get I.hok ha
  obtain ⟨od, J, _⟩ := O.look
  cases rv with
  | cons rx rn =>
    cases rn
    cases (show _ = Value.ref a from rx)
    refine Calls.call_function_entry kind_abs plain_abs entry_abs (args_abs _) ?_
    unfold Builtin.«abs»
    refine wpAny_bind (m := oneArg "abs" _) (wpAny_pure ?_)
    refine wpAny_bind (m := callSpecial? (.ref a) (Str.ofString "__abs__")) (PySem.W.special_fn I.kIn J hs (beq_iff_eq.mp hf) (thn (c pins s σ H [.ref a] [.ref a] _ I (.cons rfl .nil) q) fun z s1 hz => ?_))
    exact wpAny_pure ⟨_, rfl, hz⟩
/-- C(e, ..) that may raise -/
theorem calls_makeS {dvs : List V} {ds : List Value} (M : Mk X.K C f) (F : FnOk X.prog X.w X.K X.mg X.base CX k f fd ps sp) (hr : Room (k + 1) X.A) (hb : Binds X.K fd ps ds) (hd : Vals dvs ds) (hx : ∀ σ, PassesAt CX X σ (E σ)) :
    CallS X (.ref C) (fun σ vs H Q => ∀ x dx, H x = none → H dx = none → dx ≠ x → sp (.ref x :: (vs ++ dvs)) (upd (upd H dx (.own x)) x (.ins C dx [])) (fun v H2 => v = .non ∧ Q (.ref x) H2) (E σ)) := by
  intro pins s σ H vs us Q I rv q
  obtain ⟨n, hn⟩ : ∃ n, n = s.heap.objs.size := ⟨_, rfl⟩
  have J := Inv.made (C := C) I
  have told := q (s.heap.objs.size + 1) s.heap.objs.size (I.hok.fresh (Nat.le_succ _)) (I.hok.fresh (Nat.le_refl _)) (Nat.ne_of_lt (Nat.lt_succ_self _))
  have all : Vals (V.ref (s.heap.objs.size + 1) :: (vs ++ dvs)) (Value.ref (s.heap.objs.size + 1) :: (us ++ ds)) := .cons rfl (rv.append hd)
  have many : (Value.ref (s.heap.objs.size + 1) :: us ++ ds).length = ps.length := all.length.symm.trans (F.len _ _ _ _ told)
  have inner := F.run _ X.stack _ _ ⟨Value.ref (s.heap.objs.size + 1) :: us, []⟩ (Value.ref (s.heap.objs.size + 1) :: (us ++ ds)) _ _ (E σ) (hr.make C us []) (J.env0.make C us []) (hb _ (Value.ref (s.heap.objs.size + 1) :: us) J.kIn many) all told
  refine wpAny_call (make_map (f := f) I.kIn M.makes M.init (beq_iff_eq.mp M.fn) (codeAny_mono inner fun r z w => ?_))
  match r, w with
  | .error e, w => exact hx σ pins _ _ e z J w
  | .ok (.ret u), w =>
    obtain ⟨v, G, J2, ru, rfl, q2⟩ := J.after w
    exact ⟨ru, V.ref (s.heap.objs.size + 1), G, J2, rfl, q2⟩
/-- bool(x), x an instance with its own __bool__ -/
theorem call_boolO {r : List V → Hp → VK → Prop} (hs : PySem.W.findIn X.K (.ref C) "__bool__" = some (some (.ref f))) (hf : PySem.W.isFn X.K (.ref f) = true) (c : RunAt X X.A.in1.in1 f r) :
    CallR X (.type "bool") (fun xs H Q => ∃ (a dx : Addr) (fs : List (Str × V)), xs = [.ref a] ∧ H a = some (.ins C dx fs) ∧ r [.ref a] H fun v G => ∃ k, v = .bl k ∧ Q (.bl k) G) := by
  intro pins s σ H xs us Q I rv q
  obtain ⟨a, dx, fs, rfl, ha, q⟩ := q
  obtain ⟨mA, O, _⟩ := ins_get I.hok ha
  obtain ⟨od, J, _⟩ := O.look
  obtain ⟨m, hF⟩ := I.fr
  cases rv with
  | cons rx rn =>
    cases rn
    cases (show _ = Value.ref a from rx)
    refine PySem.W.pk_bool (PySem.W.truthy_K (Q := fun b z => EP X pins σ Q (.bool b) z) hF I.ok.mod.kin J hs hf (thn (c pins s σ H [.ref a] [.ref a] _ I (.cons rfl .nil) q) fun z s1 hz => by
      obtain ⟨v, G, I1, rz, k, rfl, q1⟩ := hz
      cases rz
      exact ⟨.bl k, G, I1, rfl, q1⟩))
/-- o.m(e, ..), what is asked may hang on the slots -/
def tMC (C : Addr) (m : Str) (r : St → List V → Hp → VK → Prop) (ta : TE) (t : TA) : TE := fun σ H Q => ta σ H fun x H1 => ∃ (a dx : Addr) (fs : List (Str × V)), x = .ref a ∧ H1 a = some (.ins C dx fs) ∧ fs.lookup m = none ∧ t σ H1 fun vs H2 => r σ (.ref a :: vs) H2 Q
theorem pe_methC {r : St → List V → Hp → VK → Prop} {pl : Sem Bool} {o e : Expr} {es : List Expr} {ta : TE} {t : TA} {m : Str} {apos pos : Pos} (he : PE X o ta) (c : Cls X.K C) (hm : Meth X.K C m f) (cs : CallS X (.ref f) r) (ha : PA X (e :: es) t)
    (hst : starEach (e :: es) X.env = (false, eval e X.env) :: starEach es X.env := by rfl) (hpl : (backTo pos (starEach es X.env)).any (·.1) = false := by rfl)
    (ht : eval (.Call (.Attribute o m apos) (e :: es) [] pos) X.env = (do let z ← eval o X.env; standAt apos.atName; let (fn, fs) ← holding [z] (getMethod z m pl); callWith pos fn fs (backTo pos (starEach (e :: es) X.env)) (backToKw pos (keywordEach [] X.env))) := by rfl) :
    PE X (.Call (.Attribute o m apos) (e :: es) [] pos) (tMC C m r ta t) := by
  refine ⟨fun pins s σ H Q I w => PySem.W.methodCall_KW (pl := pl) (thn (he.run pins s σ H _ I w) fun u s1 hz => ?_) ht⟩
  obtain ⟨x, H1, I1, rx, a, dx, fs, rfl, ea, l, q⟩ := hz
  obtain rfl : u = Value.ref a := rx
  refine getmeth_ok I1 ea c hm l (PySem.W.callWith_K (first := [.ref a]) (h₀ := X.base) I.ok.mod.kin hm.kp (thn (ha.run pos pins s1 σ H1 _ I1 q) fun us s2 hv => ?_) hst hpl)
  obtain ⟨vs, H2, I2, rv, q2⟩ := hv
  exact ⟨I2.kIn, cs pins s2 σ H2 (.ref a :: vs) (.ref a :: us) Q I2 (.cons rfl rv) q2⟩
/-- truth values, taken from one another -/
def rSubB : R2 := fun x y H Q => ∃ p q : Bool, x = .bl p ∧ y = .bl q ∧ Q (.int (PyProof.Rows.b2i p - PyProof.Rows.b2i q)) H
theorem op_subB : OpR X (binaryOp .Sub) rSubB := by
  intro pins s σ H x y v u Q I rx ry h
  obtain ⟨p, q, rfl, rfl, k⟩ := h
  cases rx
  cases ry
  exact PyProof.Rows.sub_bool ⟨.int (PyProof.Rows.b2i p - PyProof.Rows.b2i q), H, I.tok _, ⟨_, rfl⟩, k⟩
end
end Pk
end

section -- K01a
set_option linter.all false
set_option maxRecDepth 100000
set_option maxHeartbeats 4000000
namespace K01
open PySem PySem.Spec L2 Pk
open PyProof.Rows hiding St
/-! ### the text by places -/
def top (i : Nat) : Stmt := PySem.Challenge.pw_peekproof_k01_ratios_by_an_own_walk.main.body.getD i (.Pass ⟨0, 0, 0, 0⟩)
abbrev sIsInt : Stmt := top 2
abbrev sListed : Stmt := top 3
abbrev sBRi : Stmt := inClass (top 6) 0
abbrev sRi : Stmt := inClass (top 10) 1
abbrev sRSign : Stmt := inClass (top 10) 2
abbrev sRWhole : Stmt := inClass (top 10) 3
abbrev sRAdd : Stmt := inClass (top 10) 4
abbrev sRSub : Stmt := inClass (top 10) 5
abbrev sRMul : Stmt := inClass (top 10) 6
abbrev sROver : Stmt := inClass (top 10) 7
abbrev sRCmp : Stmt := inClass (top 10) 8
abbrev sRBelow : Stmt := inClass (top 10) 9
abbrev sRNeg : Stmt := inClass (top 10) 10
abbrev sRAbs : Stmt := inClass (top 10) 11
abbrev sRBool : Stmt := inClass (top 10) 12
abbrev sREq : Stmt := inClass (top 10) 13
abbrev sRStr : Stmt := inClass (top 10) 14
abbrev sRRepr : Stmt := inClass (top 10) 15
abbrev sROf : Stmt := inClass (top 10) 17
abbrev sAdded : Stmt := top 11
abbrev sLeast : Stmt := top 12
abbrev sGreatest : Stmt := top 13
abbrev sAsRatio : Stmt := top 14
abbrev sAsRatios : Stmt := top 15
abbrev sOther : Stmt := top 18
abbrev sFurthest : Stmt := top 19
abbrev sListedR : Stmt := top 20
/-- the built-in names are free -/
structure Bi (mg : Str → Option Value) : Prop where
  n_isinstance : mg "isinstance" = none
  n_int : mg "int" = none
  n_bool : mg "bool" = none
  n_str : mg "str" = none
  n_list : mg "list" = none
  n_len : mg "len" = none
  n_all : mg "all" = none
  n_abs : mg "abs" = none
  n_range : mg "range" = none
  n_repr : mg "repr" = none
  n_tuple : mg "tuple" = none
  n_any : mg "any" = none
/-! ### ratios -/
/-- the divisor that both are divided by -/
def sg (t b : Int) : Int := if b < 0 then -((Nat.gcd t.natAbs b.natAbs : Nat) : Int) else ((Nat.gcd t.natAbs b.natAbs : Nat) : Int)
theorem sg_ne {t b : Int} (h : b ≠ 0) : sg t b ≠ 0 := by
  have h1 : 0 < Nat.gcd t.natAbs b.natAbs := Nat.gcd_pos_of_pos_right _ (by omega)
  unfold sg
  split <;> omega
theorem sg_abs (t b : Int) : (sg t b).natAbs = Nat.gcd t.natAbs b.natAbs := by
  unfold sg
  split <;> omega
theorem sg_log {t b : Int} (h : b ≠ 0) (hb : b.natAbs < 2 ^ 8000) : CDivZ t (sg t b) := by
  refine divZ (a := 8000) (sg_ne h) ?_ (by decide) (by decide)
  rw [sg_abs]
  exact Nat.lt_of_le_of_lt (Nat.gcd_le_right _ (by omega)) hb
/-- a ratio's fields, as __init__ stores them -/
def rf (t b : Int) : List (Str × V) := putF "bottom" (.int b) (putF "top" (.int t) [])
theorem tb_ne : ¬ (("top" : Str) = "bottom") := by decide +kernel
theorem rf_eq (t b : Int) : rf t b = ([("top", V.int t), ("bottom", V.int b)] : List (Str × V)) := by
  show (if ("top" : Str) = "bottom" then [(("top" : Str), V.int b)] else (("top" : Str), V.int t) :: putF "bottom" (V.int b) []) = ([("top", V.int t), ("bottom", V.int b)] : List (Str × V))
  rw [if_neg tb_ne] <;> rfl
theorem rf_top (t b : Int) : (rf t b).lookup ("top" : Str) = some (.int t) := by
  unfold rf
  rw [lookup_putF, if_neg tb_ne, lookup_putF, if_pos rfl]
theorem rf_bot (t b : Int) : (rf t b).lookup ("bottom" : Str) = some (.int b) := by
  unfold rf
  rw [lookup_putF, if_pos rfl]
/-- a ratio of this top and bottom stands at x -/
def RatAt (C : Addr) (H : Hp) (x : Addr) (t b : Int) : Prop := ∃ dx, H x = some (.ins C dx (rf t b))
/-- what the text tells of the class Ratio -/
structure RCl (K : PySem.W.Frag) (mg : Str → Option Value) (C : Addr) : Prop where
  cl : Cls K C
  nT : NoAttr K C "top"
  nB : NoAttr K C "bottom"
  v_Ratio : ∃ u, mg "Ratio" = some u ∧ RelV (.ref C) u
  ha : PySem.W.findIn K (.ref C) "__class__" = some (some (.builtin "object.__class__"))
  hn : PySem.W.specialIn K (.builtin "object.__class__") "__get__" = some (some (.builtin "getset_descriptor.__get__"))
  ht : PySem.W.takesIn K (.builtin "object.__class__") = some true
  hm : PySem.W.mroIn K C (.type "object") = some true
  me : PySem.W.kitOne K (.ref C) (.ref C) = some true
  gcd : mg "gcd" = some (.builtin "math.gcd")
/-! ### a value of any kind -/
/-- no integer: of a type told, which is no int or is bool -/
def NotI (K : PySem.W.Frag) (H : Hp) (v : V) : Prop := ∃ T, TyX K H v T ∧ (PySem.W.kitOne K T (.type "int") = some false ∨ (PySem.W.kitOne K T (.type "int") = some true ∧ PySem.W.kitOne K T (.type "bool") = some true))
/-- what is left of a raised BadRatio -/
def RzR (D : Addr) (H : Hp) (E : XK) (part : Str) : Prop := ∀ d H2, H d = none → Same H H2 → H2 d = some (.xd [("part", .str part)]) → E (.ref D) (some d) H2
theorem RzR.ext {D : Addr} {H H2 : Hp} {E : XK} {p : Str} (h : RzR D H E p) (e : Same H H2) : RzR D H2 E p := fun d H3 n e2 hd => h d H3 (Evl.fresh_back e n) (e.trans e2) hd
/-! ### promises -/
def spInt (K : PySem.W.Frag) : Sp := fun vs H Q _ => ∃ v : V, vs = [v] ∧ ((∃ i : Int, v = .int i ∧ Q (.bl true) H) ∨ (NotI K H v ∧ Q (.bl false) H))
/-- BadRatio(part) -/
def spBR (D : Addr) : Sp := fun vs H Q _ => ∃ (a : Addr) (x : V), vs = [.ref a, x] ∧ H a = some (exo a D none) ∧ ∀ d, H d = none → d ≠ a → Q .non (upd (upd H d (exd d [("part", x)])) a (exo a D (some d)))
/-- what the text tells of BadRatio, at D, its __init__ at fI -/
structure BRC (K : PySem.W.Frag) (mg : Str → Option Value) (D fI : Addr) : Prop where
  ox : OexC K D
  nP : PySem.W.findIn K (.ref D) "part" = some none
  gl : mg "BadRatio" = some (.ref D)
  iC : PySem.W.findIn K (.ref D) "__init__" = some (some (.ref fI))
  tI : PySem.W.typeIn K (.ref fI) = some (.type "function")
/-- Ratio(top, bottom), any values -/
def spRi (K : PySem.W.Frag) (C D : Addr) : Sp := fun vs H Q E => ∃ (x dx : Addr) (v1 v2 : V), vs = [.ref x, v1, v2] ∧ H x = some (.ins C dx []) ∧ ((NotI K H v1 ∧ RzR D H E "top") ∨ ∃ t : Int, v1 = .int t ∧ (((NotI K H v2 ∨ v2 = .int 0) ∧ RzR D H E "bottom") ∨
  ∃ b : Int, v2 = .int b ∧ b ≠ 0 ∧ b.natAbs < 2 ^ 8000 ∧ Q .non (upd (upd H x (.ins C dx (putF "top" (.int (t.fdiv (sg t b))) []))) x (.ins C dx (rf (t.fdiv (sg t b)) (b.fdiv (sg t b)))))))
section
variable {P : Program} {w : World} {K : PySem.W.Frag} {mg : Str → Option Value} {base : Heap}
theorem scInt : FnScope ["value"] ["value"] (defScope sIsInt) := ⟨rfl, rfl, rfl, by decide +kernel, rfl, by decide +kernel, by decide +kernel⟩
theorem ok_int {f : Addr} {fd : FuncData} (F : Fun K "is_integer" "is_integer" sIsInt f fd) (T : Bi mg) : FnOk P w K mg base CX0 1 f fd ["value"] (spInt K) := by
  refine F.ok scInt (fun vs H Q E h => ?_) (fun cdv A outer s H vs Q E hr h => ?_)
  · obtain ⟨i, rfl, _⟩ := h
    rfl
  · obtain ⟨v, rfl, h⟩ := h
    have nd := scInt.nd
    refine ⟨_, (pss_one (ps_ret (pe_and (pe_callB call_isi (by rfl) T.n_isinstance (by decide +kernel) (pa_cons (pv 0) (pa_cons (pe_tyname "int" T.n_int (by decide +kernel)) pa_nil))) (pe_one (pe_not (pe_callB call_isi (by rfl) T.n_isinstance (by decide +kernel) (pa_cons (pv 0) (pa_cons (pe_tyname "bool" T.n_bool (by decide +kernel)) pa_nil)))))))), ?_⟩
    rcases h with ⟨i, rfl, k⟩ | ⟨⟨ty, t1, t2⟩, k⟩
    · refine ⟨_, rfl, _, _, _, _, true, rfl, ClsV.ty "int", .base (.int i), kit_ty (by decide +kernel), true, rfl, iteT ?_⟩
      exact ⟨_, rfl, _, _, _, _, false, rfl, ClsV.ty "bool", .base (.int i), kit_ty (by decide +kernel), false, rfl, k⟩
    · rcases t2 with t2 | ⟨t2, t3⟩
      · exact ⟨_, rfl, _, _, _, _, false, rfl, ClsV.ty "int", t1, t2, false, rfl, iteF k⟩
      · refine ⟨_, rfl, _, _, _, _, true, rfl, ClsV.ty "int", t1, t2, true, rfl, iteT ?_⟩
        exact ⟨_, rfl, _, _, _, _, true, rfl, ClsV.ty "bool", t1, t3, true, rfl, k⟩
theorem scBR : FnScope ["self", "part"] ["self", "part"] (defScope sBRi) := ⟨rfl, rfl, rfl, by decide +kernel, rfl, by decide +kernel, by decide +kernel⟩
theorem ok_br {f D : Addr} {fd : FuncData} (F : Fun K "__init__" "BadRatio.__init__" sBRi f fd) (T : BRC K mg D f) : FnOk P w K mg base CX0 1 f fd ["self", "part"] (spBR D) := by
  refine F.ok scBR (fun vs H Q E h => ?_) (fun cdv A outer s H vs Q E hr h => ?_)
  · obtain ⟨a, x, rfl, _⟩ := h
    rfl
  · obtain ⟨a, x, rfl, ha, k⟩ := h
    refine ⟨_, pss_one (ps_ost (pv 0) (pv 1)), ?_⟩
    exact ⟨_, rfl, _, rfl, a, D, rfl, T.ox, T.nP, .inl ⟨ha, fun d nd ne => k d nd ne⟩⟩
theorem rzr_mk {D : Addr} {H : Hp} {E : XK} {p : Str} (h : RzR D H E p) {ta : TA} {σ : L2.St} (ha : Evl.EvA ta σ H [.str p]) : tMkO D (spBR D) [] ta σ H E := ha H (Evl.Ex.refl H) _ fun H1 e1 => by
  refine ⟨by show 1 ≤ 1000; decide, fun a na => ⟨a, .str p, rfl, upd_same, fun d nd ne => ⟨rfl, d, [("part", .str p)], upd_same, ?_, ?_, ?_⟩⟩⟩
  · rw [upd_ne ne, upd_same]
  · rw [upd_ne ne] at nd
    exact nd
  · rw [upd_ne ne] at nd
    refine h d _ (Evl.fresh_back e1 nd) (fun b o hb => ?_) upd_same
    have hb1 := e1 b o hb
    rw [upd_ne (ne_of_none hb1 nd), del_ne (ne_of_none hb1 na), upd_ne (ne_of_none hb1 na), upd_ne (ne_of_none hb1 nd), upd_ne (ne_of_none hb1 na)]
    exact hb1
theorem scRi : FnScope ["self", "top", "bottom", "shared"] ["self", "top", "bottom"] (defScope sRi) := ⟨rfl, rfl, rfl, by decide +kernel, rfl, by decide +kernel, by decide +kernel⟩
theorem ok_rinit {f fI fB C D : Addr} {fd fdI fdB : FuncData} (F : FunD K "__init__" "Ratio.__init__" (defArgs sRi) (defBody sRi) (defScope sRi) [.int 1] [] f fd) (T : RCl K mg C) (Tb : BRC K mg D fB) (G_br : FnOk P w K mg base CX0 1 fB fdB ["self", "part"] (spBR D)) (b_br : Binds K fdB ["self", "part"] [])
    (GI : FnOk P w K mg base CX0 1 fI fdI ["value"] (spInt K)) (bI : Binds K fdI ["value"] []) (dI : Df K mg "is_integer" fI) : FnOk P w K mg base (L2.CX P w) 3 f fd ["self", "top", "bottom"] (spRi K C D) := by
  refine F.ok scRi (fun vs H Q E h => ?_) (fun cdv A outer s H vs Q E hr h => ?_)
  · obtain ⟨x, dx, t, b, rfl, _⟩ := h
    rfl
  · obtain ⟨x, dx, v1, v2, rfl, hx, h⟩ := h
    have nd := scRi.nd
    refine ⟨_, (pss_cons (ps_if (pt_not (pt_val (pe_cs (calls_fn GI (hr.mono (by decide)) bI .nil pass0) dI.1 dI.2 (pa_cons (pv 1) pa_nil))))
(pss_one (ps_raise rfl (takes_of rfl rfl rfl rfl) (pmk_oex Tb.ox Tb.iC Tb.tI G_br (hr.mono (by decide)) b_br .nil pass0 rfl Tb.gl (pa_cons pe_str pa_nil))))
pss_nil)
(pss_cons (ps_if (PW.pt (pw_or (pt_not (pt_val (pe_cs (calls_fn GI (hr.mono (by decide)) bI .nil pass0) dI.1 dI.2 (pa_cons (pv 2) pa_nil)))) (pw_or1 (pt_cmpR op_eq (pv 2) pe_int (nomark _)))))
(pss_one (ps_raise rfl (takes_of rfl rfl rfl rfl) (pmk_oex Tb.ox Tb.iC Tb.tI G_br (hr.mono (by decide)) b_br .nil pass0 rfl Tb.gl (pa_cons pe_str pa_nil))))
pss_nil)
(pss_cons (ps_set (i := 3) nd rfl (Or.inl rfl) (pe_callBfun cr_gcd (by rfl) T.gcd (pa_cons (pv 1) (pa_cons (pv 2) pa_nil))))
(pss_cons (ps_if (pt_cmpR op_lt (pv 2) pe_int (nomark _))
(pss_one (ps_set (i := 3) nd rfl (Or.inl rfl) (pe_un un_neg (pv 3))))
pss_nil)
(pss_cons (ps_fld (pv 0) (pe_op op_fdivZ (pv 1) (pv 3)) rfl)
(pss_one (ps_fld (pv 0) (pe_op op_fdivZ (pv 2) (pv 3)) rfl))))))), ?_⟩
    rcases h with ⟨n1, z⟩ | ⟨t, rfl, ⟨n2, z⟩ | ⟨b, rfl, hb, hl, k⟩⟩
    · refine ⟨_, rfl, v1, rfl, .inr ⟨n1, false, rfl, iteT ?_⟩⟩
      exact rzr_mk z (Evl.ea_cons Evl.ev_c Evl.ea_nil)
    · refine ⟨_, rfl, _, rfl, .inl ⟨t, rfl, true, rfl, iteF ?_⟩⟩
      rcases n2 with n2 | rfl
      · refine ⟨_, rfl, v2, rfl, .inr ⟨n2, false, rfl, iteT (iteT ?_)⟩⟩
        exact rzr_mk z (Evl.ea_cons Evl.ev_c Evl.ea_nil)
      · refine ⟨_, rfl, _, rfl, .inl ⟨0, rfl, true, rfl, iteF ⟨_, rfl, rfl, true, rfl, iteT ?_⟩⟩⟩
        exact rzr_mk z (Evl.ea_cons Evl.ev_c Evl.ea_nil)
    · refine ⟨_, rfl, _, rfl, .inl ⟨t, rfl, true, rfl, iteF ?_⟩⟩
      refine ⟨_, rfl, _, rfl, .inl ⟨b, rfl, true, rfl, iteF ?_⟩⟩
      refine ⟨_, rfl, rfl, _, rfl, if_f (decide_eq_false fun z => hb (V.int.inj z)) ?_⟩
      refine ⟨_, rfl, _, rfl, t, b, rfl, ?_⟩
      refine ⟨_, rfl, _, _, rfl, rfl, _, rfl, ?_⟩
      have go : ∀ g : Int, g = sg t b → tSeq (sFld K (tVar 0) (tOp (rI CDivZ fun i j => V.int (i.fdiv j)) (tVar 1) (tVar 3)) "top") (sFld K (tVar 0) (tOp (rI CDivZ fun i j => V.int (i.fdiv j)) (tVar 2) (tVar 3)) "bottom")
          { nx := fun _ G => Q .non G, rt := Q } [some (.ref x), some (.int t), some (.int b), some (.int g)] H := fun g hg => by
        subst hg
        refine ⟨_, rfl, _, rfl, _, _, rfl, rfl, sg_log hb hl, _, rfl, x, C, dx, _, rfl, hx, T.cl, T.nT, (by show 0 < 1000; decide), ?_⟩
        refine ⟨_, rfl, _, rfl, _, _, rfl, rfl, ⟨sg_ne hb, (sg_log (t := t) hb hl).2⟩, _, rfl, x, C, dx, _, rfl, upd_same, T.cl, T.nB, (by show 1 < 1000; decide), ?_⟩
        exact k
      refine if_b (fun c => ?_) (fun c => ?_)
      · have c' : b < 0 := of_decide_eq_true c
        exact ⟨_, rfl, _, rfl, go _ (by unfold sg; rw [if_pos c'])⟩
      · have c' : ¬ b < 0 := of_decide_eq_false c
        exact go _ (by unfold sg; rw [if_neg c'])
end
end K01
end

section -- K01b
set_option linter.all false
set_option maxRecDepth 100000
set_option maxHeartbeats 4000000
namespace K01
open PySem PySem.Spec L2 Pk Evl
open PyProof.Rows hiding St
/-! ### a ratio out of a value -/
theorem tyRat {K : PySem.W.Frag} {mg : Str → Option Value} {C : Addr} (T : RCl K mg C) {H : Hp} {x : Addr} {t b : Int} (h : RatAt C H x t b) : TyX K H (.ref x) (.ref C) := by
  obtain ⟨dx, h⟩ := h
  exact .base (TyOf.ins h T.cl T.ha T.hn T.ht T.hm)
/-- neither an integer nor a ratio -/
def OddV (K : PySem.W.Frag) (C : Addr) (H : Hp) (v : V) : Prop := ∃ T, TyX K H v T ∧ PySem.W.kitOne K T (.ref C) = some false ∧ (PySem.W.kitOne K T (.type "int") = some false ∨ (PySem.W.kitOne K T (.type "int") = some true ∧ PySem.W.kitOne K T (.type "bool") = some true))
theorem OddV.not {K : PySem.W.Frag} {C : Addr} {H : Hp} {v : V} (h : OddV K C H v) : NotI K H v := by
  obtain ⟨T, a, _, b⟩ := h
  exact ⟨T, a, b⟩
def spAs (K : PySem.W.Frag) (C : Addr) : Sp := fun vs H Q _ => ∃ v : V, vs = [v] ∧ ((∃ (x : Addr) (t b : Int), v = .ref x ∧ RatAt C H x t b ∧ Q (.ref x) H) ∨ (∃ i : Int, v = .int i ∧ ∀ x H2, H x = none → Same H H2 → RatAt C H2 x i 1 → Q (.ref x) H2) ∨ (OddV K C H v ∧ Q .non H))
def spOt (K : PySem.W.Frag) (C D : Addr) : Sp := fun vs H Q E => ∃ v : V, vs = [v] ∧ ((∃ (x : Addr) (t b : Int), v = .ref x ∧ RatAt C H x t b ∧ Q (.ref x) H) ∨ (∃ i : Int, v = .int i ∧ ∀ x H2, H x = none → Same H H2 → RatAt C H2 x i 1 → Q (.ref x) H2) ∨ (OddV K C H v ∧ RzR D H E "other"))
/-- Ratio(n, d), made; d not 0 -/
def rMk (K : PySem.W.Frag) (C D : Addr) (dvs : List V) : L2.St → List V → Hp → VK → Prop := fun _ vs H Q => ∀ x dx, H x = none → H dx = none → dx ≠ x → spRi K C D (.ref x :: (vs ++ dvs)) (upd (upd H dx (.own x)) x (.ins C dx [])) (fun v H2 => v = .non ∧ Q (.ref x) H2) E0
theorem ei_mk {K : PySem.W.Frag} {C D : Addr} {σ : L2.St} {H : Hp} {ta : TA} {vs dvs : List V} {t b : Int} (h : EvA ta σ H vs) (ev : vs ++ dvs = [.int t, .int b]) (h0 : b ≠ 0) (hb : b.natAbs < 2 ^ 8000) : EvI C (rf (t.fdiv (sg t b)) (b.fdiv (sg t b))) (tCS (rMk K C D dvs) ta) σ H := fun H1 e Q q =>
  h H1 e _ fun H2 e2 x dx nx nd ne => by
    refine ⟨x, dx, .int t, .int b, by rw [ev], upd_same, .inr ⟨t, rfl, .inr ⟨b, rfl, h0, hb, rfl, q x dx _ (fresh_back e2 nx) (e2.trans ?_) upd_same⟩⟩⟩
    intro a o ha
    rw [upd_ne (ne_of_none ha nx), upd_ne (ne_of_none ha nx), upd_ne (ne_of_none ha nx), upd_ne (ne_of_none ha nd)]
    exact ha
theorem sg_unit (t : Int) : sg t 1 = 1 := by
  unfold sg
  rw [if_neg (by decide)]
  show ((Nat.gcd t.natAbs 1 : Nat) : Int) = 1
  rw [Nat.gcd_one_right]
  rfl
theorem fdiv_one (t : Int) : t.fdiv 1 = t := by rw [Int.fdiv_eq_ediv_of_nonneg t (by decide)]; exact Int.ediv_one t
section
variable {P : Program} {w : World} {K : PySem.W.Frag} {mg : Str → Option Value} {base : Heap}
theorem scAs : FnScope ["value"] ["value"] (defScope sAsRatio) := ⟨rfl, rfl, rfl, by decide +kernel, rfl, by decide +kernel, by decide +kernel⟩
theorem ok_as {f fI fR C D : Addr} {fd fdI fdR : FuncData} {ds : List Value} (F : Fun K "as_ratio" "as_ratio" sAsRatio f fd) (B : Bi mg) (T : RCl K mg C) (kI : PySem.W.kitOne K (.type "int") (.ref C) = some false)
    (G_int : FnOk P w K mg base CX0 1 fI fdI ["value"] (spInt K)) (b_int : Binds K fdI ["value"] []) (d_int : Df K mg "is_integer" fI)
    (M_R : Mk K C fR) (G_R : FnOk P w K mg base (L2.CX P w) 3 fR fdR ["self", "top", "bottom"] (spRi K C D)) (b_R1 : Binds K fdR ["self", "top", "bottom"] ds) (v_R1 : Vals [.int 1] ds) (d_R : Df K mg "Ratio" C) : FnOk P w K mg base CX0 5 f fd ["value"] (spAs K C) := by
  refine F.ok scAs (fun vs H Q E h => ?_) (fun cdv A outer s H vs Q E hr h => ?_)
  · obtain ⟨v, rfl, _⟩ := h
    rfl
  · obtain ⟨v, rfl, h⟩ := h
    have nd := scAs.nd
    refine ⟨_, (pss_cons (ps_if (pt_val (pe_callB call_isi (by rfl) B.n_isinstance (by decide +kernel) (pa_cons (pv 0) (pa_cons (pe_gv T.v_Ratio) pa_nil))))
(pss_one (ps_ret (pv 0)))
pss_nil)
(pss_one (ps_ret (pe_ifExp (pt_val (pe_cs (calls_fn G_int (hr.mono (by decide)) b_int .nil pass0) d_int.1 d_int.2 (pa_cons (pv 0) pa_nil))) (pe_cs (calls_make M_R G_R (hr.mono (by decide)) b_R1 v_R1 passL) d_R.1 d_R.2 (pa_cons (pv 0) pa_nil)) pe_non)))), ?_⟩
    rcases h with ⟨x, t, b, rfl, hx, k⟩ | ⟨i, rfl, k⟩ | ⟨⟨ty, t1, t2, t3⟩, k⟩
    · exact ⟨_, rfl, _, _, _, _, true, rfl, ClsV.own C, tyRat T hx, T.me, true, rfl, iteT ⟨_, rfl, k⟩⟩
    · refine ⟨_, rfl, _, _, _, _, false, rfl, ClsV.own C, .base (.int i), kI, false, rfl, iteF ?_⟩
      refine ⟨_, rfl, _, rfl, .inl ⟨i, rfl, true, rfl, iteT ?_⟩⟩
      refine ei_mk (K := K) (C := C) (D := D) (dvs := [.int 1]) (t := i) (b := 1) (ea_cons (ev_var rfl) ea_nil) rfl (by decide) (by decide) H (Ex.refl H) _ fun x dx H2 nx e hx => ?_
      rw [sg_unit, fdiv_one] at hx
      exact k x H2 nx e ⟨dx, hx⟩
    · refine ⟨_, rfl, _, _, _, _, false, rfl, ClsV.own C, t1, t2, false, rfl, iteF ?_⟩
      exact ⟨_, rfl, v, rfl, .inr ⟨⟨ty, t1, t3⟩, false, rfl, iteF k⟩⟩
theorem scOt : FnScope ["other", "told"] ["other"] (defScope sOther) := ⟨rfl, rfl, rfl, by decide +kernel, rfl, by decide +kernel, by decide +kernel⟩
theorem ok_ot {f fA fB C D : Addr} {fd fdA fdB : FuncData} (F : Fun K "_other_ratio" "_other_ratio" sOther f fd) (Tb : BRC K mg D fB) (G_br : FnOk P w K mg base CX0 1 fB fdB ["self", "part"] (spBR D)) (b_br : Binds K fdB ["self", "part"] [])
    (G_as : FnOk P w K mg base CX0 5 fA fdA ["value"] (spAs K C)) (b_as : Binds K fdA ["value"] []) (d_as : Df K mg "as_ratio" fA) : FnOk P w K mg base (L2.CX P w) 6 f fd ["other"] (spOt K C D) := by
  refine F.okX scOt (fun vs H Q E h => ?_) (fun cdv A outer s H vs Q E hr h => ?_)
  · obtain ⟨v, rfl, _⟩ := h
    rfl
  · obtain ⟨v, rfl, h⟩ := h
    have nd := scOt.nd
    refine ⟨_, (pss_cons (ps_set (i := 1) nd rfl (Or.inl rfl) (pe_cs (calls_fn G_as (hr.mono (by decide)) b_as .nil pass0) d_as.1 d_as.2 (pa_cons (pv 0) pa_nil)))
(pss_cons (ps_if (pt_cmpR op_isN' (pv 1) pe_non (nomark _))
(pss_one (ps_raise rfl (takes_of rfl rfl rfl rfl) (pmk_oex Tb.ox Tb.iC Tb.tI G_br (hr.mono (by decide)) b_br .nil pass0 rfl Tb.gl (pa_cons pe_str pa_nil))))
pss_nil)
(pss_one (ps_ret (pv 1))))), ?_⟩
    rcases h with ⟨x, t, b, rfl, hx, k⟩ | ⟨i, rfl, k⟩ | ⟨o, z⟩
    · refine ⟨_, rfl, _, rfl, .inl ⟨x, t, b, rfl, hx, ?_⟩⟩
      exact ⟨_, rfl, rfl, false, rfl, iteF ⟨_, rfl, k⟩⟩
    · refine ⟨_, rfl, _, rfl, .inr (.inl ⟨i, rfl, fun x H2 nx e hx => ?_⟩)⟩
      exact ⟨_, rfl, rfl, false, rfl, iteF ⟨_, rfl, k x H2 nx e hx⟩⟩
    · refine ⟨_, rfl, _, rfl, .inr (.inr ⟨o, ?_⟩)⟩
      refine ⟨_, rfl, rfl, true, rfl, iteT ?_⟩
      exact rzr_mk z (ea_cons ev_c ea_nil)
end
end K01
end

section -- K01c
set_option linter.all false
set_option exponentiation.threshold 9000
set_option maxRecDepth 100000
set_option maxHeartbeats 4000000
namespace K01
open PySem PySem.Spec L2 Pk Evl
open PyProof.Rows hiding St
/-! ### sums, products -/
def Sm (i : Int) : Prop := i.natAbs < 2 ^ 4000
theorem mulSm {i j : Int} (h1 : Sm i) (h2 : Sm j) : CMulW i j := wide_mul h1 h2 (by decide) (by decide) (by decide)
theorem mul8 {i j : Int} (h1 : Sm i) (h2 : Sm j) : (i * j).natAbs < 2 ^ 8000 := wide_lt h1 h2
/-- an integer, a ratio -/
def Num (C : Addr) (H : Hp) (v : V) (u c : Int) : Prop := (∃ y, v = .ref y ∧ RatAt C H y u c) ∨ (v = .int u ∧ c = 1)
/-- the ratio n / d in its lowest form stands at z -/
def Low (C : Addr) (H : Hp) (z : Addr) (n d : Int) : Prop := RatAt C H z (n.fdiv (sg n d)) (d.fdiv (sg n d))
def spBin (K : PySem.W.Frag) (C D : Addr) (f : Int → Int → Int → Int → Int × Int) : Sp := fun vs H Q E => ∃ (x : Addr) (v : V) (t b : Int), vs = [.ref x, v] ∧ RatAt C H x t b ∧ ((∃ u c : Int, Num C H v u c ∧ Sm t ∧ Sm b ∧ Sm u ∧ Sm c ∧ (f t b u c).2 ≠ 0 ∧ ∀ z H3, H z = none → Same H H3 → Low C H3 z (f t b u c).1 (f t b u c).2 → Q (.ref z) H3) ∨
  (OddV K C H v ∧ RzR D H E "other"))
def fAdd (t b u c : Int) : Int × Int := (t * c + u * b, b * c)
def fSub (t b u c : Int) : Int × Int := (t * c - u * b, b * c)
def fMul (t b u c : Int) : Int × Int := (t * u, b * c)
def fOver (t b u c : Int) : Int × Int := (t * c, b * u)
theorem arith {K : PySem.W.Frag} {C D : Addr} {H : Hp} {x : Addr} {v : V} {t b u c n d : Int} {E : XK} {Q : VK} {te1 te2 : TE} (hx : RatAt C H x t b) (hv : Num C H v u c)
    (h1 : ∀ y H2, RatAt C H2 x t b → RatAt C H2 y u c → EvA (tCons te1 (tCons te2 tNil)) [some (.ref x), some v, some (.ref y)] H2 [.int n, .int d]) (d0 : d ≠ 0) (db : d.natAbs < 2 ^ 8000) (k : ∀ z H3, H z = none → Same H H3 → Low C H3 z n d → Q (.ref z) H3) :
    tSeq (tAsg (tCS (fun σ vs H Q => spOt K C D (vs ++ []) H Q (WE (fun cls d _ H => E cls d H) σ)) (tCons (tVar 1) tNil)) (gName 2)) (tRet (tCS (rMk K C D []) (tCons te1 (tCons te2 tNil)))) { nx := fun _ G => Q .non G, rt := Q } [some (.ref x), some v, none] H := by
  have fin : ∀ y H2, Same H H2 → RatAt C H2 x t b → RatAt C H2 y u c → tRet (tCS (rMk K C D []) (tCons te1 (tCons te2 tNil))) { nx := fun _ G => Q .non G, rt := Q } [some (.ref x), some v, some (.ref y)] H2 := fun y H2 e a1 a2 =>
    ei_mk (K := K) (C := C) (D := D) (dvs := []) (h1 y H2 a1 a2) rfl d0 db H2 (Ex.refl H2) _ fun z dz H3 nz e3 hz => k z H3 (fresh_back e nz) (e.trans e3) ⟨dz, hz⟩
  rcases hv with ⟨y, rfl, hy⟩ | ⟨rfl, rfl⟩
  · exact ⟨_, rfl, _, rfl, .inl ⟨y, u, c, rfl, hy, fin y H (Ex.refl H) hx hy⟩⟩
  · refine ⟨_, rfl, _, rfl, .inr (.inl ⟨u, rfl, fun y H2 ny e hy => fin y H2 e ?_ hy⟩)⟩
    obtain ⟨dx, ex⟩ := hx
    exact ⟨dx, e _ _ ex⟩
section
variable {P : Program} {w : World} {K : PySem.W.Frag} {mg : Str → Option Value} {base : Heap}
theorem sc_add : FnScope ["self", "other", "told"] ["self", "other"] (defScope sRAdd) := ⟨rfl, rfl, rfl, by decide +kernel, rfl, by decide +kernel, by decide +kernel⟩
theorem ok_add {f fO fR C D : Addr} {fd fdO fdR : FuncData} (F : Fun K "__add__" "Ratio.__add__" sRAdd f fd) (T : RCl K mg C) (G_ot : FnOk P w K mg base (L2.CX P w) 6 fO fdO ["other"] (spOt K C D)) (b_ot : Binds K fdO ["other"] []) (d_ot : Df K mg "_other_ratio" fO) (M_R : Mk K C fR) (G_R : FnOk P w K mg base (L2.CX P w) 3 fR fdR ["self", "top", "bottom"] (spRi K C D)) (b_R : Binds K fdR ["self", "top", "bottom"] []) (d_R : Df K mg "Ratio" C) : FnOk P w K mg base (L2.CX P w) 7 f fd ["self", "other"] (spBin K C D fAdd) := by
  refine F.okX sc_add (fun vs H Q E h => ?_) (fun cdv A outer s H vs Q E hr h => ?_)
  · obtain ⟨x, v, t, b, rfl, _⟩ := h
    rfl
  · obtain ⟨x, v, t, b, rfl, hx, h⟩ := h
    have nd := sc_add.nd
    refine ⟨_, (pss_cons (ps_set (i := 2) nd rfl (Or.inl rfl) (pe_cs (calls_fnS G_ot (hr.mono (by decide)) b_ot .nil (fun σ => passAt (takes_of rfl rfl rfl rfl) σ)) d_ot.1 d_ot.2 (pa_cons (pv 1) pa_nil)))
(pss_one (ps_ret (pe_cs (calls_make M_R G_R (hr.mono (by decide)) b_R .nil passL) d_R.1 d_R.2 (pa_cons (pe_op op_add (pe_op op_mulW (pe_fld (pv 0) rfl) (pe_fld (pv 2) rfl)) (pe_op op_mulW (pe_fld (pv 2) rfl) (pe_fld (pv 0) rfl))) (pa_cons (pe_op op_mulW (pe_fld (pv 0) rfl) (pe_fld (pv 2) rfl)) pa_nil)))))), ?_⟩
    rcases h with ⟨u, c, hv, s1, s2, s3, s4, d0, k⟩ | ⟨o, z⟩
    · refine arith (n := (fAdd t b u c).1) (d := (fAdd t b u c).2) hx hv (fun y H2 hx2 hy2 => ?_) d0 (mul8 s2 s4) k
      obtain ⟨dx, ex⟩ := hx2
      obtain ⟨dy, ey⟩ := hy2
      exact ea_cons (ev_op (ev_op (ev_fld (ev_var rfl) ex T.cl T.nT (rf_top _ _)) (ev_fld (ev_var rfl) ey T.cl T.nB (rf_bot _ _)) (rv_I (mulSm s1 s4))) (ev_op (ev_fld (ev_var rfl) ey T.cl T.nT (rf_top _ _)) (ev_fld (ev_var rfl) ex T.cl T.nB (rf_bot _ _)) (rv_I (mulSm s3 s2))) rv_I0) (ea_cons (ev_op (ev_fld (ev_var rfl) ex T.cl T.nB (rf_bot _ _)) (ev_fld (ev_var rfl) ey T.cl T.nB (rf_bot _ _)) (rv_I (mulSm s2 s4))) ea_nil)
    · exact ⟨_, rfl, v, rfl, .inr (.inr ⟨o, z⟩)⟩
theorem sc_sub : FnScope ["self", "other", "told"] ["self", "other"] (defScope sRSub) := ⟨rfl, rfl, rfl, by decide +kernel, rfl, by decide +kernel, by decide +kernel⟩
theorem ok_sub {f fO fR C D : Addr} {fd fdO fdR : FuncData} (F : Fun K "__sub__" "Ratio.__sub__" sRSub f fd) (T : RCl K mg C) (G_ot : FnOk P w K mg base (L2.CX P w) 6 fO fdO ["other"] (spOt K C D)) (b_ot : Binds K fdO ["other"] []) (d_ot : Df K mg "_other_ratio" fO) (M_R : Mk K C fR) (G_R : FnOk P w K mg base (L2.CX P w) 3 fR fdR ["self", "top", "bottom"] (spRi K C D)) (b_R : Binds K fdR ["self", "top", "bottom"] []) (d_R : Df K mg "Ratio" C) : FnOk P w K mg base (L2.CX P w) 7 f fd ["self", "other"] (spBin K C D fSub) := by
  refine F.okX sc_sub (fun vs H Q E h => ?_) (fun cdv A outer s H vs Q E hr h => ?_)
  · obtain ⟨x, v, t, b, rfl, _⟩ := h
    rfl
  · obtain ⟨x, v, t, b, rfl, hx, h⟩ := h
    have nd := sc_sub.nd
    refine ⟨_, (pss_cons (ps_set (i := 2) nd rfl (Or.inl rfl) (pe_cs (calls_fnS G_ot (hr.mono (by decide)) b_ot .nil (fun σ => passAt (takes_of rfl rfl rfl rfl) σ)) d_ot.1 d_ot.2 (pa_cons (pv 1) pa_nil)))
(pss_one (ps_ret (pe_cs (calls_make M_R G_R (hr.mono (by decide)) b_R .nil passL) d_R.1 d_R.2 (pa_cons (pe_op op_sub (pe_op op_mulW (pe_fld (pv 0) rfl) (pe_fld (pv 2) rfl)) (pe_op op_mulW (pe_fld (pv 2) rfl) (pe_fld (pv 0) rfl))) (pa_cons (pe_op op_mulW (pe_fld (pv 0) rfl) (pe_fld (pv 2) rfl)) pa_nil)))))), ?_⟩
    rcases h with ⟨u, c, hv, s1, s2, s3, s4, d0, k⟩ | ⟨o, z⟩
    · refine arith (n := (fSub t b u c).1) (d := (fSub t b u c).2) hx hv (fun y H2 hx2 hy2 => ?_) d0 (mul8 s2 s4) k
      obtain ⟨dx, ex⟩ := hx2
      obtain ⟨dy, ey⟩ := hy2
      exact ea_cons (ev_op (ev_op (ev_fld (ev_var rfl) ex T.cl T.nT (rf_top _ _)) (ev_fld (ev_var rfl) ey T.cl T.nB (rf_bot _ _)) (rv_I (mulSm s1 s4))) (ev_op (ev_fld (ev_var rfl) ey T.cl T.nT (rf_top _ _)) (ev_fld (ev_var rfl) ex T.cl T.nB (rf_bot _ _)) (rv_I (mulSm s3 s2))) rv_I0) (ea_cons (ev_op (ev_fld (ev_var rfl) ex T.cl T.nB (rf_bot _ _)) (ev_fld (ev_var rfl) ey T.cl T.nB (rf_bot _ _)) (rv_I (mulSm s2 s4))) ea_nil)
    · exact ⟨_, rfl, v, rfl, .inr (.inr ⟨o, z⟩)⟩
theorem sc_mul : FnScope ["self", "other", "told"] ["self", "other"] (defScope sRMul) := ⟨rfl, rfl, rfl, by decide +kernel, rfl, by decide +kernel, by decide +kernel⟩
theorem ok_mul {f fO fR C D : Addr} {fd fdO fdR : FuncData} (F : Fun K "__mul__" "Ratio.__mul__" sRMul f fd) (T : RCl K mg C) (G_ot : FnOk P w K mg base (L2.CX P w) 6 fO fdO ["other"] (spOt K C D)) (b_ot : Binds K fdO ["other"] []) (d_ot : Df K mg "_other_ratio" fO) (M_R : Mk K C fR) (G_R : FnOk P w K mg base (L2.CX P w) 3 fR fdR ["self", "top", "bottom"] (spRi K C D)) (b_R : Binds K fdR ["self", "top", "bottom"] []) (d_R : Df K mg "Ratio" C) : FnOk P w K mg base (L2.CX P w) 7 f fd ["self", "other"] (spBin K C D fMul) := by
  refine F.okX sc_mul (fun vs H Q E h => ?_) (fun cdv A outer s H vs Q E hr h => ?_)
  · obtain ⟨x, v, t, b, rfl, _⟩ := h
    rfl
  · obtain ⟨x, v, t, b, rfl, hx, h⟩ := h
    have nd := sc_mul.nd
    refine ⟨_, (pss_cons (ps_set (i := 2) nd rfl (Or.inl rfl) (pe_cs (calls_fnS G_ot (hr.mono (by decide)) b_ot .nil (fun σ => passAt (takes_of rfl rfl rfl rfl) σ)) d_ot.1 d_ot.2 (pa_cons (pv 1) pa_nil)))
(pss_one (ps_ret (pe_cs (calls_make M_R G_R (hr.mono (by decide)) b_R .nil passL) d_R.1 d_R.2 (pa_cons (pe_op op_mulW (pe_fld (pv 0) rfl) (pe_fld (pv 2) rfl)) (pa_cons (pe_op op_mulW (pe_fld (pv 0) rfl) (pe_fld (pv 2) rfl)) pa_nil)))))), ?_⟩
    rcases h with ⟨u, c, hv, s1, s2, s3, s4, d0, k⟩ | ⟨o, z⟩
    · refine arith (n := (fMul t b u c).1) (d := (fMul t b u c).2) hx hv (fun y H2 hx2 hy2 => ?_) d0 (mul8 s2 s4) k
      obtain ⟨dx, ex⟩ := hx2
      obtain ⟨dy, ey⟩ := hy2
      exact ea_cons (ev_op (ev_fld (ev_var rfl) ex T.cl T.nT (rf_top _ _)) (ev_fld (ev_var rfl) ey T.cl T.nT (rf_top _ _)) (rv_I (mulSm s1 s3))) (ea_cons (ev_op (ev_fld (ev_var rfl) ex T.cl T.nB (rf_bot _ _)) (ev_fld (ev_var rfl) ey T.cl T.nB (rf_bot _ _)) (rv_I (mulSm s2 s4))) ea_nil)
    · exact ⟨_, rfl, v, rfl, .inr (.inr ⟨o, z⟩)⟩
end
end K01
end

section -- K01d
set_option linter.all false
set_option exponentiation.threshold 9000
set_option maxRecDepth 100000
set_option maxHeartbeats 4000000
namespace K01
open PySem PySem.Spec L2 Pk Evl
open PyProof.Rows hiding St
/-! ### quotients, orders, signs, texts -/
def cmpI (a b : Int) : Int := b2i (decide (a > b)) - b2i (decide (a < b))
def spOver (K : PySem.W.Frag) (C D : Addr) : Sp := fun vs H Q E => ∃ (x : Addr) (v : V) (t b : Int), vs = [.ref x, v] ∧ RatAt C H x t b ∧ ((∃ u c : Int, Num C H v u c ∧ Sm t ∧ Sm b ∧ Sm u ∧ Sm c ∧ ((u = 0 ∧ RzR D H E "zero") ∨ (u ≠ 0 ∧ b ≠ 0 ∧ ∀ z H3, H z = none → Same H H3 → Low C H3 z (t * c) (b * u) → Q (.ref z) H3))) ∨
  (OddV K C H v ∧ RzR D H E "other"))
def spCmp (K : PySem.W.Frag) (C D : Addr) : Sp := fun vs H Q E => ∃ (x : Addr) (v : V) (t b : Int), vs = [.ref x, v] ∧ RatAt C H x t b ∧ ((∃ u c : Int, Num C H v u c ∧ Sm t ∧ Sm b ∧ Sm u ∧ Sm c ∧ ∀ H3, Same H H3 → Q (.int (cmpI (t * c) (u * b))) H3) ∨ (OddV K C H v ∧ RzR D H E "other"))
def spBelow (K : PySem.W.Frag) (C D : Addr) : Sp := fun vs H Q E => ∃ (x : Addr) (v : V) (t b : Int), vs = [.ref x, v] ∧ RatAt C H x t b ∧ ((∃ u c : Int, Num C H v u c ∧ Sm t ∧ Sm b ∧ Sm u ∧ Sm c ∧ ∀ H3, Same H H3 → Q (.bl (decide (cmpI (t * c) (u * b) < 0))) H3) ∨ (OddV K C H v ∧ RzR D H E "other"))
def spUn (C : Addr) (g : Int → Int) : Sp := fun vs H Q _ => ∃ (x : Addr) (t b : Int), vs = [.ref x] ∧ RatAt C H x t b ∧ b ≠ 0 ∧ Sm b ∧ ∀ z H3, H z = none → Same H H3 → Low C H3 z (g t) b → Q (.ref z) H3
def spTell (C : Addr) (g : Int → Int → V) : Sp := fun vs H Q _ => ∃ (x : Addr) (t b : Int), vs = [.ref x] ∧ RatAt C H x t b ∧ Q (g t b) H
theorem q_par {i j : Nat} {ta : TA} {σ : L2.St} {H : Hp} {v u : V} {tz : TS} {D : Ends} (h : EvA ta σ H [v, u]) (k : ∀ H1, Ex H H1 → tz D ((σ.set i (some v)).set j (some u)) H1) : tSeq (tPar i j ta) tz D σ H := h H (Ex.refl H) _ fun H1 e => ⟨v, u, rfl, k H1 e⟩
def absI (t : Int) : Int := if t < 0 then -t else t
/-- told for any value: x at slot 2 after _other_ratio -/
theorem other_run {K : PySem.W.Frag} {C D : Addr} {H : Hp} {x : Addr} {v : V} {t b u c : Int} {D0 : Ends} {tz : TS} {σ : L2.St} {E : XK} (s1 : σ[1]? = some (some v)) (hx : RatAt C H x t b) (hv : Num C H v u c) (k : ∀ y H2, Same H H2 → RatAt C H2 x t b → RatAt C H2 y u c → tz D0 (σ.set 2 (some (.ref y))) H2) :
    tSeq (tAsg (tCS (fun σ vs H Q => spOt K C D (vs ++ []) H Q (WE (fun cls d _ H => E cls d H) σ)) (tCons (tVar 1) tNil)) (gName 2)) tz D0 σ H := by
  rcases hv with ⟨y, rfl, hy⟩ | ⟨rfl, rfl⟩
  · exact ⟨_, s1, _, rfl, .inl ⟨y, u, c, rfl, hy, k y H (Ex.refl H) hx hy⟩⟩
  · refine ⟨_, s1, _, rfl, .inr (.inl ⟨u, rfl, fun y H2 ny e hy => k y H2 e ?_ hy⟩)⟩
    obtain ⟨dx, ex⟩ := hx
    exact ⟨dx, e _ _ ex⟩
section
variable {P : Program} {w : World} {K : PySem.W.Frag} {mg : Str → Option Value} {base : Heap}
theorem sc_over : FnScope ["self", "other", "told"] ["self", "other"] (defScope sROver) := ⟨rfl, rfl, rfl, by decide +kernel, rfl, by decide +kernel, by decide +kernel⟩
theorem ok_over {f fO fR fB C D : Addr} {fd fdO fdR fdB : FuncData} (F : Fun K "over" "Ratio.over" sROver f fd) (T : RCl K mg C) (Tb : BRC K mg D fB) (G_br : FnOk P w K mg base CX0 1 fB fdB ["self", "part"] (spBR D)) (b_br : Binds K fdB ["self", "part"] []) (G_ot : FnOk P w K mg base (L2.CX P w) 6 fO fdO ["other"] (spOt K C D)) (b_ot : Binds K fdO ["other"] []) (d_ot : Df K mg "_other_ratio" fO) (M_R : Mk K C fR) (G_R : FnOk P w K mg base (L2.CX P w) 3 fR fdR ["self", "top", "bottom"] (spRi K C D)) (b_R : Binds K fdR ["self", "top", "bottom"] []) (d_R : Df K mg "Ratio" C) : FnOk P w K mg base (L2.CX P w) 7 f fd ["self", "other"] (spOver K C D) := by
  refine F.okX sc_over (fun vs H Q E h => ?_) (fun cdv A outer s H vs Q E hr h => ?_)
  · obtain ⟨x, v, t, b, rfl, _⟩ := h
    rfl
  · obtain ⟨x, v, t, b, rfl, hx, h⟩ := h
    have nd := sc_over.nd
    refine ⟨_, (pss_cons (ps_set (i := 2) nd rfl (Or.inl rfl) (pe_cs (calls_fnS G_ot (hr.mono (by decide)) b_ot .nil (fun σ => passAt (takes_of rfl rfl rfl rfl) σ)) d_ot.1 d_ot.2 (pa_cons (pv 1) pa_nil)))
(pss_cons (ps_if (pt_cmpR op_eq (pe_fld (pv 2) rfl) pe_int (nomark _))
(pss_one (ps_raise rfl (takes_of rfl rfl rfl rfl) (pmk_oex Tb.ox Tb.iC Tb.tI G_br (hr.mono (by decide)) b_br .nil pass0 rfl Tb.gl (pa_cons pe_str pa_nil))))
pss_nil)
(pss_one (ps_ret (pe_cs (calls_make M_R G_R (hr.mono (by decide)) b_R .nil passL) d_R.1 d_R.2 (pa_cons (pe_op op_mulW (pe_fld (pv 0) rfl) (pe_fld (pv 2) rfl)) (pa_cons (pe_op op_mulW (pe_fld (pv 0) rfl) (pe_fld (pv 2) rfl)) pa_nil))))))), ?_⟩
    rcases h with ⟨u, c, hv, s1, s2, s3, s4, h⟩ | ⟨o, z⟩
    · refine other_run rfl hx hv fun y H2 e hx2 hy2 => ?_
      obtain ⟨dx, ex⟩ := hx2
      obtain ⟨dy, ey⟩ := hy2
      refine q_when (b := decide (u = 0)) (et_is (et_test (ev_op (ev_fld (ev_var rfl) ey T.cl T.nT (rf_top _ _)) ev_c (rv_eq rfl))) (by simp)) (fun c0 H3 e3 => ?_) (fun c0 H3 e3 => ?_)
      · have u0 := of_decide_eq_true c0
        rcases h with ⟨_, z⟩ | ⟨u1, _⟩
        · exact rzr_mk (z.ext (Same.trans e e3)) (ea_cons ev_c ea_nil)
        · exact absurd u0 u1
      · have u0 := of_decide_eq_false c0
        rcases h with ⟨u1, _⟩ | ⟨_, b0, k⟩
        · exact absurd u1 u0
        · have ex3 := e3 _ _ ex
          have ey3 := e3 _ _ ey
          exact ei_mk (K := K) (C := C) (D := D) (dvs := []) (t := t * c) (b := b * u) (ea_cons (ev_op (ev_fld (ev_var rfl) ex3 T.cl T.nT (rf_top _ _)) (ev_fld (ev_var rfl) ey3 T.cl T.nB (rf_bot _ _)) (rv_I (mulSm s1 s4))) (ea_cons (ev_op (ev_fld (ev_var rfl) ex3 T.cl T.nB (rf_bot _ _)) (ev_fld (ev_var rfl) ey3 T.cl T.nT (rf_top _ _)) (rv_I (mulSm s2 s3))) ea_nil)) rfl (Int.mul_ne_zero b0 u0) (mul8 s2 s3) H3 (Ex.refl H3) _
            fun z dz H4 nz e4 hz => k z H4 (fresh_back (Same.trans e e3) nz) ((Same.trans e e3).trans e4) ⟨dz, hz⟩
    · exact ⟨_, rfl, v, rfl, .inr (.inr ⟨o, z⟩)⟩
theorem sc_cmp : FnScope ["self", "other", "told", "here", "there"] ["self", "other"] (defScope sRCmp) := ⟨rfl, rfl, rfl, by decide +kernel, rfl, by decide +kernel, by decide +kernel⟩
theorem ok_cmp {f fO C D : Addr} {fd fdO : FuncData} (F : Fun K "compared" "Ratio.compared" sRCmp f fd) (T : RCl K mg C) (G_ot : FnOk P w K mg base (L2.CX P w) 6 fO fdO ["other"] (spOt K C D)) (b_ot : Binds K fdO ["other"] []) (d_ot : Df K mg "_other_ratio" fO) : FnOk P w K mg base (L2.CX P w) 7 f fd ["self", "other"] (spCmp K C D) := by
  refine F.okX sc_cmp (fun vs H Q E h => ?_) (fun cdv A outer s H vs Q E hr h => ?_)
  · obtain ⟨x, v, t, b, rfl, _⟩ := h
    rfl
  · obtain ⟨x, v, t, b, rfl, hx, h⟩ := h
    have nd := sc_cmp.nd
    refine ⟨_, (pss_cons (ps_set (i := 2) nd rfl (Or.inl rfl) (pe_cs (calls_fnS G_ot (hr.mono (by decide)) b_ot .nil (fun σ => passAt (takes_of rfl rfl rfl rfl) σ)) d_ot.1 d_ot.2 (pa_cons (pv 1) pa_nil)))
(pss_cons (ps_par (i := 3) (j := 4) (by rfl) nd rfl rfl (by decide) rfl rfl (pa_cons (pe_op op_mulW (pe_fld (pv 0) rfl) (pe_fld (pv 2) rfl)) (pa_cons (pe_op op_mulW (pe_fld (pv 2) rfl) (pe_fld (pv 0) rfl)) pa_nil)) (by rfl))
(pss_one (ps_ret (pe_op op_subB (pe_cmpR op_gt (pv 3) (pv 4) (nomark _)) (pe_cmpR op_lt (pv 3) (pv 4) (nomark _))))))), ?_⟩
    rcases h with ⟨u, c, hv, s1, s2, s3, s4, k⟩ | ⟨o, z⟩
    · refine other_run rfl hx hv fun y H2 e hx2 hy2 => ?_
      obtain ⟨dx, ex⟩ := hx2
      obtain ⟨dy, ey⟩ := hy2
      refine q_par (ea_cons (ev_op (ev_fld (ev_var rfl) ex T.cl T.nT (rf_top _ _)) (ev_fld (ev_var rfl) ey T.cl T.nB (rf_bot _ _)) (rv_I (mulSm s1 s4))) (ea_cons (ev_op (ev_fld (ev_var rfl) ey T.cl T.nT (rf_top _ _)) (ev_fld (ev_var rfl) ex T.cl T.nB (rf_bot _ _)) (rv_I (mulSm s3 s2))) ea_nil)) fun H3 e3 => ?_
      exact ⟨_, rfl, _, rfl, _, _, rfl, rfl, _, rfl, _, rfl, _, _, rfl, rfl, _, _, rfl, rfl, k H3 (Same.trans e e3)⟩
    · exact ⟨_, rfl, v, rfl, .inr (.inr ⟨o, z⟩)⟩
theorem sc_neg : FnScope ["self"] ["self"] (defScope sRNeg) := ⟨rfl, rfl, rfl, by decide +kernel, rfl, by decide +kernel, by decide +kernel⟩
theorem ok_neg {f fR C D : Addr} {fd fdR : FuncData} (F : Fun K "__neg__" "Ratio.__neg__" sRNeg f fd) (T : RCl K mg C) (M_R : Mk K C fR) (G_R : FnOk P w K mg base (L2.CX P w) 3 fR fdR ["self", "top", "bottom"] (spRi K C D)) (b_R : Binds K fdR ["self", "top", "bottom"] []) (d_R : Df K mg "Ratio" C) : FnOk P w K mg base CX0 5 f fd ["self"] (spUn C fun t => -t) := by
  refine F.ok sc_neg (fun vs H Q E h => ?_) (fun cdv A outer s H vs Q E hr h => ?_)
  · obtain ⟨x, t, b, rfl, _⟩ := h
    rfl
  · obtain ⟨x, t, b, rfl, ⟨dx, ex⟩, b0, sb, k⟩ := h
    have nd := sc_neg.nd
    refine ⟨_, (pss_one (ps_ret (pe_cs (calls_make M_R G_R (hr.mono (by decide)) b_R .nil passL) d_R.1 d_R.2 (pa_cons (pe_un un_neg (pe_fld (pv 0) rfl)) (pa_cons (pe_fld (pv 0) rfl) pa_nil))))), ?_⟩
    exact ei_mk (K := K) (C := C) (D := D) (dvs := []) (t := -t) (b := b) (ea_cons (ev_un (ev_fld (ev_var rfl) ex T.cl T.nT (rf_top _ _)) ru_neg) (ea_cons (ev_fld (ev_var rfl) ex T.cl T.nB (rf_bot _ _)) ea_nil)) rfl b0 (Nat.lt_of_lt_of_le sb (Nat.pow_le_pow_right (by decide) (by decide))) H (Ex.refl H) _ fun z dz H4 nz e4 hz => k z H4 nz e4 ⟨dz, hz⟩
theorem sc_abs : FnScope ["self"] ["self"] (defScope sRAbs) := ⟨rfl, rfl, rfl, by decide +kernel, rfl, by decide +kernel, by decide +kernel⟩
theorem ok_abs {f fR C D : Addr} {fd fdR : FuncData} (F : Fun K "__abs__" "Ratio.__abs__" sRAbs f fd) (B : Bi mg) (T : RCl K mg C) (M_R : Mk K C fR) (G_R : FnOk P w K mg base (L2.CX P w) 3 fR fdR ["self", "top", "bottom"] (spRi K C D)) (b_R : Binds K fdR ["self", "top", "bottom"] []) (d_R : Df K mg "Ratio" C) : FnOk P w K mg base CX0 5 f fd ["self"] (spUn C absI) := by
  refine F.ok sc_abs (fun vs H Q E h => ?_) (fun cdv A outer s H vs Q E hr h => ?_)
  · obtain ⟨x, t, b, rfl, _⟩ := h
    rfl
  · obtain ⟨x, t, b, rfl, ⟨dx, ex⟩, b0, sb, k⟩ := h
    have nd := sc_abs.nd
    refine ⟨_, (pss_one (ps_ret (pe_cs (calls_make M_R G_R (hr.mono (by decide)) b_R .nil passL) d_R.1 d_R.2 (pa_cons (pe_callB call_absI (by rfl) B.n_abs (by decide +kernel) (pa_cons (pe_fld (pv 0) rfl) pa_nil)) (pa_cons (pe_fld (pv 0) rfl) pa_nil))))), ?_⟩
    exact ei_mk (K := K) (C := C) (D := D) (dvs := []) (t := absI t) (b := b) (ea_cons (ev_cb (ea_cons (ev_fld (ev_var rfl) ex T.cl T.nT (rf_top _ _)) ea_nil) rc_abs) (ea_cons (ev_fld (ev_var rfl) ex T.cl T.nB (rf_bot _ _)) ea_nil)) rfl b0 (Nat.lt_of_lt_of_le sb (Nat.pow_le_pow_right (by decide) (by decide))) H (Ex.refl H) _ fun z dz H4 nz e4 hz => k z H4 nz e4 ⟨dz, hz⟩
theorem sc_sign : FnScope ["self"] ["self"] (defScope sRSign) := ⟨rfl, rfl, rfl, by decide +kernel, rfl, by decide +kernel, by decide +kernel⟩
theorem ok_sign {f C : Addr} {fd : FuncData} (F : Fun K "sign" "Ratio.sign" sRSign f fd) (T : RCl K mg C) : FnOk P w K mg base CX0 1 f fd ["self"] (spTell C fun t _ => .int (cmpI t 0)) := by
  refine F.ok sc_sign (fun vs H Q E h => ?_) (fun cdv A outer s H vs Q E hr h => ?_)
  · obtain ⟨x, t, b, rfl, _⟩ := h
    rfl
  · obtain ⟨x, t, b, rfl, ⟨dx, ex⟩, k⟩ := h
    refine ⟨_, (pss_one (ps_ret (pe_op op_subB (pe_cmpR op_gt (pe_fld (pv 0) rfl) pe_int (nomark _)) (pe_cmpR op_lt (pe_fld (pv 0) rfl) pe_int (nomark _))))), ?_⟩
    exact ⟨_, rfl, x, C, dx, _, _, rfl, ex, T.cl, T.nT, rf_top _ _, _, _, rfl, rfl, _, rfl, x, C, dx, _, _, rfl, ex, T.cl, T.nT, rf_top _ _, _, _, rfl, rfl, _, _, rfl, rfl, k⟩
theorem sc_iswhole : FnScope ["self"] ["self"] (defScope sRWhole) := ⟨rfl, rfl, rfl, by decide +kernel, rfl, by decide +kernel, by decide +kernel⟩
theorem ok_iswhole {f C : Addr} {fd : FuncData} (F : Fun K "is_whole" "Ratio.is_whole" sRWhole f fd) (T : RCl K mg C) : FnOk P w K mg base CX0 1 f fd ["self"] (spTell C fun _ b => .bl (decide (V.int b = V.int 1))) := by
  refine F.ok sc_iswhole (fun vs H Q E h => ?_) (fun cdv A outer s H vs Q E hr h => ?_)
  · obtain ⟨x, t, b, rfl, _⟩ := h
    rfl
  · obtain ⟨x, t, b, rfl, ⟨dx, ex⟩, k⟩ := h
    refine ⟨_, (pss_one (ps_ret (pe_cmpR op_eq (pe_fld (pv 0) rfl) pe_int (nomark _)))), ?_⟩
    exact ⟨_, rfl, x, C, dx, _, _, rfl, ex, T.cl, T.nB, rf_bot _ _, rfl, k⟩
theorem sc_bool : FnScope ["self"] ["self"] (defScope sRBool) := ⟨rfl, rfl, rfl, by decide +kernel, rfl, by decide +kernel, by decide +kernel⟩
theorem ok_bool {f C : Addr} {fd : FuncData} (F : Fun K "__bool__" "Ratio.__bool__" sRBool f fd) (B : Bi mg) (T : RCl K mg C) : FnOk P w K mg base CX0 1 f fd ["self"] (spTell C fun t _ => .bl (!decide (V.int t = V.int 0))) := by
  refine F.ok sc_bool (fun vs H Q E h => ?_) (fun cdv A outer s H vs Q E hr h => ?_)
  · obtain ⟨x, t, b, rfl, _⟩ := h
    rfl
  · obtain ⟨x, t, b, rfl, ⟨dx, ex⟩, k⟩ := h
    refine ⟨_, (pss_one (ps_ret (pe_callTy call_bool1 (by rfl) B.n_bool (by decide +kernel) (pa_cons (pe_cmpR op_ne (pe_fld (pv 0) rfl) pe_int (nomark _)) pa_nil)))), ?_⟩
    exact ⟨_, rfl, x, C, dx, _, _, rfl, ex, T.cl, T.nT, rf_top _ _, rfl, .inr ⟨_, rfl, k⟩⟩
end
end K01
end

section -- K01e
set_option linter.all false
set_option exponentiation.threshold 9000
set_option maxRecDepth 100000
set_option maxHeartbeats 4000000
namespace K01
open PySem PySem.Spec L2 Pk Evl
open PyProof.Rows hiding St
/-! ### orders told, likeness, texts, ratios of any value -/
theorem rf_no {t b : Int} {m : Str} (h1 : ¬ m = ("top" : Str)) (h2 : ¬ m = ("bottom" : Str)) : (rf t b).lookup m = none := by
  unfold rf
  rw [lookup_putF, if_neg h2, lookup_putF, if_neg h1]
  rfl
def ratEq (t b u c : Int) : Bool := decide (t = u) && decide (b = c)
/-- == of a ratio and any value -/
def spEqV (K : PySem.W.Frag) (C : Addr) : Sp := fun vs H Q _ => ∃ (x : Addr) (v : V) (t b : Int), vs = [.ref x, v] ∧ RatAt C H x t b ∧ ((∃ (y : Addr) (u c : Int), v = .ref y ∧ RatAt C H y u c ∧ ∀ H2, Same H H2 → Q (.bl (ratEq t b u c)) H2) ∨ (∃ i : Int, v = .int i ∧ ∀ H2, Same H H2 → Q (.bl (ratEq t b i 1)) H2) ∨ (OddV K C H v ∧ ∀ H2, Same H H2 → Q (.bl false) H2))
def spStr (C : Addr) : Sp := fun vs H Q _ => ∃ (x : Addr) (t b : Int), vs = [.ref x] ∧ RatAt C H x t b ∧ t.natAbs.log2 < 1000 ∧ b.natAbs.log2 < 1000 ∧ Q (.str (ratText t b)) H
def spOf (K : PySem.W.Frag) (C D : Addr) : Sp := fun vs H Q E => ∃ v : V, vs = [v] ∧ ((∃ (x : Addr) (t b : Int), v = .ref x ∧ RatAt C H x t b ∧ Q (.ref x) H) ∨ (∃ i : Int, v = .int i ∧ ∀ x H2, H x = none → Same H H2 → RatAt C H2 x i 1 → Q (.ref x) H2) ∨ (OddV K C H v ∧ RzR D H E "value"))
section
variable {P : Program} {w : World} {K : PySem.W.Frag} {mg : Str → Option Value} {base : Heap}
theorem sc_below : FnScope ["self", "other"] ["self", "other"] (defScope sRBelow) := ⟨rfl, rfl, rfl, by decide +kernel, rfl, by decide +kernel, by decide +kernel⟩
theorem ok_below {f fC C D : Addr} {fd fdC : FuncData} (F : Fun K "is_below" "Ratio.is_below" sRBelow f fd) (T : RCl K mg C) (Mc : Meth K C "compared" fC) (G_cmp : FnOk P w K mg base (L2.CX P w) 7 fC fdC ["self", "other"] (spCmp K C D)) (b_cmp : Binds K fdC ["self", "other"] []) : FnOk P w K mg base (L2.CX P w) 8 f fd ["self", "other"] (spBelow K C D) := by
  refine F.okX sc_below (fun vs H Q E h => ?_) (fun cdv A outer s H vs Q E hr h => ?_)
  · obtain ⟨x, v, t, b, rfl, _⟩ := h
    rfl
  · obtain ⟨x, v, t, b, rfl, hx, h⟩ := h
    have nd := sc_below.nd
    refine ⟨_, (pss_one (ps_ret (pe_cmpR op_lt (pe_methC (pv 0) T.cl Mc (calls_fnS G_cmp (hr.mono (by decide)) b_cmp .nil (fun σ => passAt (takes_of rfl rfl rfl rfl) σ)) (pa_cons (pv 1) pa_nil)) pe_int (nomark _)))), ?_⟩
    obtain ⟨dx, ex⟩ := id hx
    refine ⟨_, rfl, x, dx, _, rfl, ex, rf_no (by decide +kernel) (by decide +kernel), _, rfl, x, v, t, b, rfl, hx, ?_⟩
    rcases h with ⟨u, c, hv, s1, s2, s3, s4, k⟩ | ⟨o, z⟩
    · exact .inl ⟨u, c, hv, s1, s2, s3, s4, fun H3 e3 => ⟨_, _, rfl, rfl, k H3 e3⟩⟩
    · exact .inr ⟨o, z⟩
theorem sc_eq : FnScope ["self", "other"] ["self", "other"] (defScope sREq) := ⟨rfl, rfl, rfl, by decide +kernel, rfl, by decide +kernel, by decide +kernel⟩
theorem ok_eq {f fI C : Addr} {fd fdI : FuncData} (F : Fun K "__eq__" "Ratio.__eq__" sREq f fd) (T : RCl K mg C) (B : Bi mg) (kI : PySem.W.kitOne K (.type "int") (.ref C) = some false) (G_int : FnOk P w K mg base CX0 1 fI fdI ["value"] (spInt K)) (b_int : Binds K fdI ["value"] []) (d_int : Df K mg "is_integer" fI) :
    FnOk P w K mg base CX0 2 f fd ["self", "other"] (spEqV K C) := by
  refine F.ok sc_eq (fun vs H Q E h => ?_) (fun cdv A outer s H vs Q E hr h => ?_)
  · obtain ⟨x, v, t, b, rfl, _⟩ := h
    rfl
  · obtain ⟨x, v, t, b, rfl, hx, h⟩ := h
    have nd := sc_eq.nd
    refine ⟨_, (pss_cons (ps_if (pt_val (pe_callB call_isi (by rfl) B.n_isinstance (by decide +kernel) (pa_cons (pv 1) (pa_cons (pe_gv T.v_Ratio) pa_nil))))
(pss_one (ps_ret (pe_and (pe_cmpR op_eq (pe_fld (pv 0) rfl) (pe_fld (pv 1) rfl) (nomark _)) (pe_one (pe_cmpR op_eq (pe_fld (pv 0) rfl) (pe_fld (pv 1) rfl) (nomark _))))))
pss_nil)
(pss_one (ps_ret (pe_and (pe_cs (calls_fn G_int (hr.mono (by decide)) b_int .nil pass0) d_int.1 d_int.2 (pa_cons (pv 1) pa_nil)) (pe_and (pe_cmpR op_eq (pe_fld (pv 0) rfl) pe_int (nomark _)) (pe_one (pe_cmpR op_eq (pe_fld (pv 0) rfl) (pv 1) (nomark _)))))))), ?_⟩
    obtain ⟨dx, ex⟩ := id hx
    rcases h with ⟨y, u, c, rfl, hy, k⟩ | ⟨i, rfl, k⟩ | ⟨⟨ty, t1, t2, t3⟩, k⟩
    · obtain ⟨dy, ey⟩ := id hy
      refine ⟨_, rfl, _, _, _, _, true, rfl, ClsV.own C, tyRat T hy, T.me, true, rfl, iteT ?_⟩
      refine s_ret (ev_is (ev_andV (a := decide (t = u)) (b := decide (b = c)) (ev_is (ev_op (ev_fld (ev_var rfl) ex T.cl T.nT (rf_top _ _)) (ev_fld (ev_var rfl) ey T.cl T.nT (rf_top _ _)) (rv_eq rfl)) (by simp)) fun _ => ev_is (ev_op (ev_fld (ev_var rfl) ex T.cl T.nB (rf_bot _ _)) (ev_fld (ev_var rfl) ey T.cl T.nB (rf_bot _ _)) (rv_eq rfl)) (by simp)) rfl) fun H2 e2 => k H2 e2
    · refine ⟨_, rfl, _, _, _, _, false, rfl, ClsV.own C, .base (.int i), kI, false, rfl, iteF ?_⟩
      have p1 : Ev (tCS (fun _ vs H Q => spInt K (vs ++ []) H Q E0) (tCons (tVar 1) tNil)) [some (.ref x), some (.int i)] H (.bl true) := ev_cs (ea_cons (ev_var rfl) ea_nil) fun H1 e Q q => ⟨_, rfl, .inl ⟨i, rfl, q H1 (Ex.refl H1)⟩⟩
      have p2 : Ev (tOp rEq (tFld K (tVar 0) "bottom") (tC (.int 1))) [some (.ref x), some (.int i)] H (.bl (decide (b = 1))) := ev_is (ev_op (ev_fld (ev_var rfl) ex T.cl T.nB (rf_bot _ _)) ev_c (rv_eq rfl)) (by simp)
      have p3 : Ev (tOp rEq (tFld K (tVar 0) "top") (tVar 1)) [some (.ref x), some (.int i)] H (.bl (decide (t = i))) := ev_is (ev_op (ev_fld (ev_var rfl) ex T.cl T.nT (rf_top _ _)) (ev_var rfl) (rv_eq rfl)) (by simp)
      exact s_ret (ev_is (ev_andV p1 fun _ => ev_andV p2 fun _ => p3) (w := .bl (ratEq t b i 1)) (by unfold ratEq; rw [Bool.true_and, Bool.and_comm])) fun H2 e2 => k H2 e2
    · refine ⟨_, rfl, _, _, _, _, false, rfl, ClsV.own C, t1, t2, false, rfl, iteF ?_⟩
      exact ⟨_, rfl, v, rfl, .inr ⟨⟨ty, t1, t3⟩, false, rfl, iteF (k H (Ex.refl H))⟩⟩
theorem scRStr : FnScope ["self"] ["self"] (defScope sRStr) := ⟨rfl, rfl, rfl, by decide +kernel, rfl, by decide +kernel, by decide +kernel⟩
theorem ok_rstr {f C : Addr} {fd : FuncData} (F : Fun K "__str__" "Ratio.__str__" sRStr f fd) (T : RCl K mg C) (B : Bi mg) : FnOk P w K mg base CX0 1 f fd ["self"] (spStr C) := by
  refine F.ok scRStr (fun vs H Q E h => ?_) (fun cdv A outer s H vs Q E hr h => ?_)
  · obtain ⟨x, t, b, rfl, _⟩ := h
    rfl
  · obtain ⟨x, t, b, rfl, hx, ht, hb, k⟩ := h
    have nd := scRStr.nd
    refine ⟨_, (pss_cons (ps_if (pt_cmpR op_eq (pe_fld (pv 0) rfl) pe_int (nomark _))
(pss_one (ps_ret (pe_callTy call_str_int (by rfl) B.n_str (by decide +kernel) (pa_cons (pe_fld (pv 0) rfl) pa_nil))))
pss_nil)
(pss_one (ps_ret (pe_joined (.cons (pe_fmt (pe_fld (pv 0) rfl)) (.cons pe_str (.cons (pe_fmt (pe_fld (pv 0) rfl)) .nil))))))), ?_⟩
    obtain ⟨dx, ex⟩ := id hx
    refine ⟨_, rfl, x, C, dx, _, _, rfl, ex, T.cl, T.nB, rf_bot _ _, rfl, _, rfl, ?_⟩
    have e1 : decide (V.int b = V.int 1) = decide (b = 1) := by simp
    rw [e1]
    refine if_b (fun z => ?_) (fun z => ?_)
    · refine ⟨_, rfl, x, C, dx, _, _, rfl, ex, T.cl, T.nT, rf_top _ _, t, rfl, by omega, ?_⟩
      unfold ratText at k
      rw [if_pos (of_decide_eq_true z)] at k
      exact k
    · unfold ratText at k
      rw [if_neg (of_decide_eq_false z)] at k
      have l1 := numLen ht
      have l2 := numLen hb
      refine ⟨_, rfl, x, C, dx, _, _, rfl, ex, T.cl, T.nT, rf_top _ _, .inr ⟨t, rfl, by omega, _, rfl, ?_, _, rfl, ?_, ?_⟩⟩
      · rw [Str.length_append, len_empty]
        exact sz (by omega)
      · have l0 : (Str.ofString "/").length = 1 := by decide +kernel
        rw [Str.length_append, Str.length_append, len_empty, l0]
        exact sz (by omega)
      · refine ⟨_, rfl, x, C, dx, _, _, rfl, ex, T.cl, T.nB, rf_bot _ _, .inr ⟨b, rfl, by omega, _, rfl, ?_, k⟩⟩
        have l0 : (Str.ofString "/").length = 1 := by decide +kernel
        rw [Str.length_append, Str.length_append, Str.length_append, len_empty, l0]
        exact sz (by omega)
theorem scRRepr : FnScope ["self"] ["self"] (defScope sRRepr) := ⟨rfl, rfl, rfl, by decide +kernel, rfl, by decide +kernel, by decide +kernel⟩
theorem ok_rrepr {f g C : Addr} {fd gd : FuncData} (F : Fun K "__repr__" "Ratio.__repr__" sRRepr f fd) (B : Bi mg) (G_str : FnOk P w K mg base CX0 1 g gd ["self"] (spStr C)) (b_str : Binds K gd ["self"] [])
    (fs : PySem.W.findIn K (.ref C) "__str__" = some (some (.ref g))) (is : PySem.W.isFn K (.ref g) = true) : FnOk P w K mg base CX0 5 f fd ["self"] (spStr C) := by
  refine F.ok scRRepr (fun vs H Q E h => ?_) (fun cdv A outer s H vs Q E hr h => ?_)
  · obtain ⟨x, t, b, rfl, _⟩ := h
    rfl
  · obtain ⟨x, t, b, rfl, hx, ht, hb, k⟩ := h
    have nd := scRRepr.nd
    have r3 := (hr.mono (by decide : 3 ≤ 4)).in1.in1
    refine ⟨_, (pss_one (ps_ret (pe_callTy (call_strO (C := C) r3.units0 fs is (runAt_fn G_str r3 rfl b_str pass0)) (by rfl) B.n_str (by decide +kernel) (pa_cons (pv 0) pa_nil)))), ?_⟩
    obtain ⟨dx, ex⟩ := id hx
    exact ⟨_, rfl, x, dx, _, rfl, ex, x, t, b, rfl, hx, ht, hb, _, rfl, k⟩
theorem sc_of : FnScope ["value", "ratio"] ["value"] (defScope sROf) := ⟨rfl, rfl, rfl, by decide +kernel, rfl, by decide +kernel, by decide +kernel⟩
theorem ok_of {f fA fB C D : Addr} {fd fdA fdB : FuncData} (F : Fun K "of" "Ratio.of" sROf f fd) (Tb : BRC K mg D fB) (G_br : FnOk P w K mg base CX0 1 fB fdB ["self", "part"] (spBR D)) (b_br : Binds K fdB ["self", "part"] [])
    (G_as : FnOk P w K mg base CX0 5 fA fdA ["value"] (spAs K C)) (b_as : Binds K fdA ["value"] []) (d_as : Df K mg "as_ratio" fA) : FnOk P w K mg base (L2.CX P w) 6 f fd ["value"] (spOf K C D) := by
  refine F.okX sc_of (fun vs H Q E h => ?_) (fun cdv A outer s H vs Q E hr h => ?_)
  · obtain ⟨v, rfl, _⟩ := h
    rfl
  · obtain ⟨v, rfl, h⟩ := h
    have nd := sc_of.nd
    refine ⟨_, (pss_cons (ps_set (i := 1) nd rfl (Or.inl rfl) (pe_cs (calls_fn G_as (hr.mono (by decide)) b_as .nil pass0) d_as.1 d_as.2 (pa_cons (pv 0) pa_nil)))
(pss_cons (ps_if (pt_cmpR op_isN' (pv 1) pe_non (nomark _))
(pss_one (ps_raise rfl (takes_of rfl rfl rfl rfl) (pmk_oex Tb.ox Tb.iC Tb.tI G_br (hr.mono (by decide)) b_br .nil pass0 rfl Tb.gl (pa_cons pe_str pa_nil))))
pss_nil)
(pss_one (ps_ret (pv 1))))), ?_⟩
    rcases h with ⟨x, t, b, rfl, hx, k⟩ | ⟨i, rfl, k⟩ | ⟨o, z⟩
    · refine ⟨_, rfl, _, rfl, .inl ⟨x, t, b, rfl, hx, ?_⟩⟩
      exact ⟨_, rfl, rfl, false, rfl, iteF ⟨_, rfl, k⟩⟩
    · refine ⟨_, rfl, _, rfl, .inr (.inl ⟨i, rfl, fun x H2 nx e hx => ?_⟩)⟩
      exact ⟨_, rfl, rfl, false, rfl, iteF ⟨_, rfl, k x H2 nx e hx⟩⟩
    · refine ⟨_, rfl, _, rfl, .inr (.inr ⟨o, ?_⟩)⟩
      refine ⟨_, rfl, rfl, true, rfl, iteT ?_⟩
      exact rzr_mk z (ea_cons ev_c ea_nil)
end
end K01
end

section -- PkU
set_option linter.all false
set_option maxRecDepth 100000
set_option maxHeartbeats 2000000
/-! PkU: types that stay; a comprehension whose elements are made on the way. -/
namespace Pk
open PySem PySem.Spec L2 Evl
open PyProof.Rows hiding St
theorem tyof_ext {K : PySem.W.Frag} {H H2 : Hp} {v : V} {T : Value} (h : TyOf K H v T) (e : Ex H H2) : TyOf K H2 v T := by
  cases h with
  | non => exact .non
  | bl x => exact .bl x
  | int i => exact .int i
  | str x => exact .str x
  | flt x => exact .flt x
  | lst q => exact .lst (e _ _ q)
  | frz q => exact .frz (e _ _ q)
  | tup q => exact .tup (e _ _ q)
  | dK q => exact .dK (e _ _ q)
  | dT q => exact .dT (e _ _ q)
  | ins q a b c d r => exact .ins (e _ _ q) a b c d r
theorem tyx_ext {K : PySem.W.Frag} {H H2 : Hp} {v : V} {T : Value} (h : TyX K H v T) (e : Ex H H2) : TyX K H2 v T := by
  cases h with
  | base q => exact .base (tyof_ext q e)
  | byt b => exact .byt b
  | set q => exact .set (e _ _ q)
  | kList q c => exact .kList q c
  | kTuple q c => exact .kTuple q c
  | kDict q c => exact .kDict q c
  | fTuple q => exact .fTuple (e _ _ q)
  | fDict q => exact .fDict (e _ _ q)
section
variable {K : PySem.W.Frag} {σ : L2.St} {H : Hp} {te : TE}
/-- [e for x in ..], the elements made turn by turn: Y i v tells of the i-th, stays told, and is of no list -/
theorem lc_made {J : It} {n : Nat} {G : Hp → Prop} {Z : Nat → Hp → V → Hp → Prop} (w : Walk J n G Z) (hZ : ∀ i H x H2, Z i H x H2 → H2 = H) {Y : Nat → V → Hp → Prop} (hY : ∀ i v H H2, Ex H H2 → Y i v H → Y i v H2) (hL : ∀ i v H D xs ys, H D = some (.lst xs) → Y i v H → Y i v (upd H D (.lst ys))) (hz : n < 1000000)
    {vs : List Nat} {j : Nat} {H1 : Hp} {D : Addr} {Qd : Hp → Prop} (hG : ∀ H, Ex H1 H → G H) (hD : H1 D = none) (hw : ∀ x, wipe ((wipe σ vs).set j (some x)) vs = wipe σ vs)
    (he : ∀ i x H, i < n → Ex H1 H → Z i H x H → ∀ Qe : VK, (∀ v H4, Ex H H4 → Y i v H4 → Qe v H4) → te ((wipe σ vs).set j (some x)) H Qe) (hd : ∀ H xs, Ex H1 H → H D = some (.lst xs) → xs.length = n → (∀ i v, xs[i]? = some v → Y i v H) → Qd H) :
    ∃ W : Nat → Nat → Hp → Prop, (∃ m, W 0 m (upd H1 D (.lst []))) ∧ ∀ i m H, W i m H →
      (J.stop i H ∧ Qd H) ∨ (J.go i H ∧ ∃ Nx : Hp → Prop, (∀ H', Nx H' → ∃ m', m' < m ∧ W (i + 1) m' H') ∧ ∀ x H', J.yld i H x H' → gName j x (wipe σ vs) H' fun σ2 H2 => wipe σ2 vs = wipe σ vs ∧ tYes σ2 H2 fun b H3 =>
        if b = true then te σ2 H3 fun y H4 => ∃ acc, H4 D = some (.lst acc) ∧ acc.length < sizeLine ∧ Nx (upd H4 D (.lst (acc ++ [y]))) else Nx H3) := by
  refine lc_it w (fun i H => Ex H1 H ∧ ∃ xs, H D = some (.lst xs) ∧ xs.length = i ∧ ∀ k v, xs[k]? = some v → Y k v H) ⟨Ex.new hD, [], upd_same, rfl, fun k v h => by simp at h⟩ (fun i H _ p => hG H p.1) (fun i x H H2 hi p y => ?_) (fun H p => ?_)
  · have e := hZ i H x H2 y
    subst e
    obtain ⟨p1, xs, p2, p3, p4⟩ := p
    refine ⟨hw x, ?_⟩
    refine iteT (B := Ex H1 H2 ∧ ∃ xs, H2 D = some (HO.lst xs) ∧ xs.length = i + 1 ∧ ∀ k v, xs[k]? = some v → Y k v H2) ?_
    refine he i x H2 hi p1 y _ fun v H4 e4 yv => ⟨xs, e4 _ _ p2, szl (by omega), (p1.trans e4).mut hD, xs ++ [v], upd_same, by rw [List.length_append, p3]; rfl, fun k u hk => ?_⟩
    have d4 := e4 _ _ p2
    by_cases c : k < xs.length
    · rw [List.getElem?_append_left c] at hk
      exact hL k u H4 D xs _ d4 (hY k u H2 H4 e4 (p4 k u hk))
    · rw [List.getElem?_append_right (by omega)] at hk
      have k0 : k - xs.length = 0 := by
        cases q : k - xs.length with
        | zero => rfl
        | succ m => rw [q] at hk; simp at hk
      rw [k0] at hk
      have eu : u = v := (Option.some.inj hk).symm
      have ek : k = i := by omega
      subst eu ek
      exact hL k u H4 D xs _ d4 yv
  · obtain ⟨p1, xs, p2, p3, p4⟩ := p
    exact hd H xs p1 p2 p3 p4
/-- .. over a list | a tuple -/
theorem el_made {a : Addr} {ys : List V} {tl : TE} {j : Nat} {vs : List Nat} {Y : Nat → V → Hp → Prop} (hY : ∀ i v H H2, Ex H H2 → Y i v H → Y i v H2) (hL : ∀ i v H D xs ys, H D = some (.lst xs) → Y i v H → Y i v (upd H D (.lst ys))) (h : Ev tl σ H (.ref a)) (ha : SqL K H a ys) (hz : ys.length < 1000000)
    (hw : ∀ x, wipe ((wipe σ vs).set j (some x)) vs = wipe σ vs) (he : ∀ i x H1, ys[i]? = some x → Ex H H1 → ∀ Qe : VK, (∀ v H4, Ex H1 H4 → Y i v H4 → Qe v H4) → te ((wipe σ vs).set j (some x)) H1 Qe)
    {Q : VK} (k : ∀ p xs H2, H p = none → Ex H H2 → H2 p = some (.lst xs) → xs.length = ys.length → (∀ i v, xs[i]? = some v → Y i v H2) → Q (.ref p) H2) : tLc (iList K tl) (gName j) tYes te vs σ H Q := h H (Ex.refl H) _ fun H1 e1 => ⟨a, rfl, ⟨ys, ex_l e1 ha⟩, fun D hD =>
  lc_made walk_list (fun _ _ _ _ y => y.1) hY hL hz (fun H2 e2 => ex_l (e1.trans e2) ha) hD hw (fun i x H2 hi e2 y Qe q => he i x H2 y.2 (e1.trans e2) Qe q) fun H2 xs e2 h2 l p => k D xs H2 (fresh_back e1 hD) (e1.trans e2) h2 l p⟩
theorem el_madeT {a : Addr} {ys : List V} {tl : TE} {j : Nat} {vs : List Nat} {Y : Nat → V → Hp → Prop} (hY : ∀ i v H H2, Ex H H2 → Y i v H → Y i v H2) (hL : ∀ i v H D xs ys, H D = some (.lst xs) → Y i v H → Y i v (upd H D (.lst ys))) (h : Ev tl σ H (.ref a)) (ha : SqT K H a ys) (hz : ys.length < 1000000)
    (hw : ∀ x, wipe ((wipe σ vs).set j (some x)) vs = wipe σ vs) (he : ∀ i x H1, ys[i]? = some x → Ex H H1 → ∀ Qe : VK, (∀ v H4, Ex H1 H4 → Y i v H4 → Qe v H4) → te ((wipe σ vs).set j (some x)) H1 Qe)
    {Q : VK} (k : ∀ p xs H2, H p = none → Ex H H2 → H2 p = some (.lst xs) → xs.length = ys.length → (∀ i v, xs[i]? = some v → Y i v H2) → Q (.ref p) H2) : tLc (iTup K tl) (gName j) tYes te vs σ H Q := h H (Ex.refl H) _ fun H1 e1 => ⟨a, rfl, ⟨ys, ex_t e1 ha⟩, fun D hD =>
  lc_made walk_tup (fun _ _ _ _ y => y.1) hY hL hz (fun H2 e2 => ex_t (e1.trans e2) ha) hD hw (fun i x H2 hi e2 y Qe q => he i x H2 y.2 (e1.trans e2) Qe q) fun H2 xs e2 h2 l p => k D xs H2 (fresh_back e1 hD) (e1.trans e2) h2 l p⟩
end
/-- a list or a tuple, walked -/
def iLT (K : PySem.W.Frag) (tl : TE) : TI := fun σ H R => iList K tl σ H R ∨ iTup K tl σ H R
theorem pi_LT {X : Cx} {tg l : Expr} {tl : TE} (hl : PE X l tl) : PI X tg l (iLT X.K tl) := ⟨fun pins s σ H R I h => h.elim ((pi_list hl).run pins s σ H R I) ((pi_tup hl).run pins s σ H R I)⟩
/-- a comprehension over either -/
theorem lt_made {K : PySem.W.Frag} {σ : L2.St} {H : Hp} {te : TE} {a : Addr} {ys : List V} {tl : TE} {j : Nat} {vs : List Nat} {Y : Nat → V → Hp → Prop} (hY : ∀ i v H H2, Ex H H2 → Y i v H → Y i v H2) (hL : ∀ i v H D xs ys, H D = some (.lst xs) → Y i v H → Y i v (upd H D (.lst ys))) (h : Ev tl σ H (.ref a)) (ha : SqL K H a ys ∨ SqT K H a ys) (hz : ys.length < 1000000)
    (hw : ∀ x, wipe ((wipe σ vs).set j (some x)) vs = wipe σ vs) (he : ∀ i x H1, ys[i]? = some x → Ex H H1 → ∀ Qe : VK, (∀ v H4, Ex H1 H4 → Y i v H4 → Qe v H4) → te ((wipe σ vs).set j (some x)) H1 Qe)
    {Q : VK} (k : ∀ p xs H2, H p = none → Ex H H2 → H2 p = some (.lst xs) → xs.length = ys.length → (∀ i v, xs[i]? = some v → Y i v H2) → Q (.ref p) H2) : tLc (iLT K tl) (gName j) tYes te vs σ H Q := ha.elim (fun ha => .inl (el_made hY hL h ha hz hw he k)) (fun ha => .inr (el_madeT hY hL h ha hz hw he k))
section
variable {K : PySem.W.Frag} {σ : L2.St} {H : Hp} {te : TE}
/-- a comprehension over a tuple whose elements are known -/
theorem el_lcMT {a : Addr} {ys : List V} {tl : TE} {j : Nat} {vs : List Nat} (xs : List V) (h : Ev tl σ H (.ref a)) (ha : SqT K H a ys) (hn : xs.length = ys.length) (hz : ys.length < 1000000) (hw : ∀ x, wipe ((wipe σ vs).set j (some x)) vs = wipe σ vs)
    (he : ∀ (i : Nat) (x y : V), ys[i]? = some x → xs[i]? = some y → ∀ H1, Ex H H1 → Ev te ((wipe σ vs).set j (some x)) H1 y) : EvL (tLc (iTup K tl) (gName j) tYes te vs) σ H xs := fun H0 e Q q => h H0 e _ fun H1 e1 => ⟨a, rfl, ⟨ys, ex_t (e.trans e1) ha⟩, fun Dl hD =>
  lc_map walk_tup (fun _ _ _ _ y => y.1) xs hn (szl hz) (fun H2 e2 => ex_t ((e.trans e1).trans e2) ha) hD hw (fun i x y H2 e2 yy hy Qe qe => he i x y yy.2 hy H2 ((e.trans e1).trans e2) H2 (Ex.refl H2) Qe qe)
    fun H2 e2 h2 => q Dl H2 (fresh_back e1 hD) (e1.trans e2) h2⟩
theorem ev_any {ta : TE} {bs : List Bool} (h : EvL ta σ H (bs.map V.bl)) : Ev (tCB (rAny K) (tCons ta tNil)) σ H (.bl (bs.any id)) := fun H1 e Q q => h H1 e _ fun p H2 _ e2 h2 => ⟨p, bs, rfl, sq_of h2, q H2 e2⟩
end
end Pk
end

section -- K01g
set_option linter.all false
set_option maxRecDepth 100000
set_option maxHeartbeats 4000000
namespace K01
open PySem PySem.Spec L2 Pk Evl
open PyProof.Rows hiding St
/-! ### lists of ratios -/
def spListed (K : PySem.W.Frag) : Sp := fun vs H Q _ => ∃ (v : V) (T : Value) (b : Bool), vs = [v] ∧ TyX K H v T ∧ PySem.W.kitAny K T [.type "list", .type "tuple"] = some b ∧ ∀ H2, Same H H2 → Q (.bl b) H2
/-- what as_ratio makes of the value y -/
def Made (K : PySem.W.Frag) (C : Addr) (y : V × Option (Int × Int)) (v : V) (H : Hp) : Prop := match y.2 with
  | none => v = .non
  | some (t, b) => ∃ x, v = .ref x ∧ RatAt C H x t b
/-- the values of a list, each with what it tells: nothing, or a ratio -/
def Told1 (K : PySem.W.Frag) (C : Addr) (H : Hp) (y : V × Option (Int × Int)) : Prop := match y.2 with
  | none => OddV K C H y.1
  | some (t, b) => Num C H y.1 t b
theorem made_ext {K : PySem.W.Frag} {C : Addr} {y : V × Option (Int × Int)} {v : V} {H H2 : Hp} (e : Ex H H2) (h : Made K C y v H) : Made K C y v H2 := by
  unfold Made at *
  split at h
  · exact h
  · obtain ⟨x, rfl, dx, hx⟩ := h
    exact ⟨x, rfl, dx, e _ _ hx⟩
theorem made_lst {K : PySem.W.Frag} {C : Addr} {y : V × Option (Int × Int)} {v : V} {H : Hp} {D : Addr} {xs ys : List V} (hD : H D = some (.lst xs)) (h : Made K C y v H) : Made K C y v (upd H D (.lst ys)) := by
  unfold Made at *
  split at h
  · exact h
  · obtain ⟨x, rfl, dx, hx⟩ := h
    refine ⟨x, rfl, dx, ?_⟩
    rw [upd_ne (fun z => by rw [z, hD] at hx; cases hx)]
    exact hx
theorem told1_ext {K : PySem.W.Frag} {C : Addr} {y : V × Option (Int × Int)} {H H2 : Hp} (e : Ex H H2) (h : Told1 K C H y) : Told1 K C H2 y := by
  unfold Told1 at *
  split at h
  · obtain ⟨T, a, b⟩ := h
    exact ⟨T, tyx_ext a e, b⟩
  · rcases h with ⟨x, ev, dx, hx⟩ | h
    · exact .inl ⟨x, ev, dx, e _ _ hx⟩
    · exact .inr h
section
variable {P : Program} {w : World} {K : PySem.W.Frag} {mg : Str → Option Value} {base : Heap}
theorem sc_listed : FnScope ["value"] ["value"] (defScope sListed) := ⟨rfl, rfl, rfl, by decide +kernel, rfl, by decide +kernel, by decide +kernel⟩
theorem ok_listed {f : Addr} {fd : FuncData} (F : Fun K "is_listed" "is_listed" sListed f fd) (B : Bi mg) : FnOk P w K mg base CX0 1 f fd ["value"] (spListed K) := by
  refine F.ok sc_listed (fun vs H Q E h => ?_) (fun cdv A outer s H vs Q E hr h => ?_)
  · obtain ⟨v, _, _, rfl, _⟩ := h
    rfl
  · obtain ⟨v, ty, b, rfl, t1, t2, k⟩ := h
    refine ⟨_, (pss_one (ps_ret (pe_callB call_isiT (by rfl) B.n_isinstance (by decide +kernel) (pa_cons (pv 0) (pa_cons (pe_tup (pa_cons (pe_tyname "list" B.n_list (by decide +kernel)) (pa_cons (pe_tyname "tuple" B.n_tuple (by decide +kernel)) pa_nil))) pa_nil))))), ?_⟩
    refine ⟨_, rfl, sz (by show 2 ≤ 1000000; decide), fun p np => ?_⟩
    have e : Ex H (upd H p (.tup [.ty "list", .ty "tuple"])) := Ex.new np
    exact ⟨v, p, [.ty "list", .ty "tuple"], ty, [.type "list", .type "tuple"], b, rfl, upd_same, .cons (.ty _) (.cons (.ty _) .nil), tyx_ext t1 e, t2, k _ e⟩
theorem nx_of {D : Ends} {σ : L2.St} {H : Hp} (h : D.nx σ H) : tNext D σ H := h
theorem asg_cb1 {r : List V → Hp → VK → Prop} {tx : TE} {i : Nat} {tz : TS} {D : Ends} {σ : L2.St} {H : Hp} (h : tx σ H fun x H1 => r [x] H1 fun v H2 => tz D (σ.set i (some v)) H2) : tSeq (tAsg (tCB r (tCons tx tNil)) (gName i)) tz D σ H := h
/-- as_ratios -/
def spAsr (K : PySem.W.Frag) (C : Addr) : Sp := fun vs H Q _ => ∃ v : V, vs = [v] ∧ ((∃ T, TyX K H v T ∧ PySem.W.kitAny K T [.type "list", .type "tuple"] = some false ∧ ∀ H2, Same H H2 → Q .non H2) ∨
  ∃ (a : Addr) (T : Value) (ys : List (V × Option (Int × Int))), v = .ref a ∧ TyX K H v T ∧ PySem.W.kitAny K T [.type "list", .type "tuple"] = some true ∧ (SqL K H a (ys.map Prod.fst) ∨ SqT K H a (ys.map Prod.fst)) ∧ ys.length ≤ 1000 ∧ (∀ y ∈ ys, Told1 K C H y) ∧
    ((∃ y ∈ ys, y.2 = none) → ∀ H2, Same H H2 → Q .non H2) ∧ ((∀ y ∈ ys, y.2 ≠ none) → ∀ q zs H2, H q = none → Same H H2 → H2 q = some (.tup zs) → zs.length = ys.length → (∀ (i : Nat) (y : V × Option (Int × Int)) (v : V), ys[i]? = some y → zs[i]? = some v → Made K C y v H2) → Q (.ref q) H2))
theorem sc_asr : FnScope ["value", "told", "item"] ["value"] (defScope sAsRatios) := ⟨rfl, rfl, rfl, by decide +kernel, rfl, by decide +kernel, by decide +kernel⟩
theorem ok_asr {f fL fA C : Addr} {fd fdL fdA : FuncData} (F : Fun K "as_ratios" "as_ratios" sAsRatios f fd) (B : Bi mg) (G_listed : FnOk P w K mg base CX0 1 fL fdL ["value"] (spListed K)) (b_listed : Binds K fdL ["value"] []) (d_listed : Df K mg "is_listed" fL)
    (G_as : FnOk P w K mg base CX0 5 fA fdA ["value"] (spAs K C)) (b_as : Binds K fdA ["value"] []) (d_as : Df K mg "as_ratio" fA) : FnOk P w K mg base CX0 6 f fd ["value"] (spAsr K C) := by
  refine F.ok sc_asr (fun vs H Q E h => ?_) (fun cdv A outer s H vs Q E hr h => ?_)
  · obtain ⟨v, rfl, _⟩ := h
    rfl
  · obtain ⟨v, rfl, h⟩ := h
    have nd := sc_asr.nd
    refine ⟨_, (pss_cons (ps_if (pt_not (pt_val (pe_cs (calls_fn G_listed (hr.mono (by decide)) b_listed .nil pass0) d_listed.1 d_listed.2 (pa_cons (pv 0) pa_nil))))
(pss_one (ps_ret pe_non))
pss_nil)
(pss_cons (ps_set (i := 1) nd rfl (Or.inl rfl) (pe_callTy call_tuple_of (by rfl) B.n_tuple (by decide +kernel) (pa_cons (pe_lc (own := [("item", 2)]) (g := gName 2) (by rfl) nd (pi_LT (pv 0)) (blkOk_by (own := [("item", 2)]) (N := ["value", "told", "item"]) (sc := defScope sAsRatios) (by decide +kernel)) (fun _ _ _ _ _ => pg_name (i := 2) nd rfl (Or.inl rfl)) (fun _ _ _ _ _ => pts_nil) (fun _ _ _ _ _ => (pe_cs (calls_fn G_as (hr.mono (by decide)) b_as .nil pass0) d_as.1 d_as.2 (pa_cons (pv 2) pa_nil)))) pa_nil)))
(pss_one (ps_ret (pe_ifExp (pt_val (pe_callB (cr_any rfl) (by rfl) B.n_any (by decide +kernel) (pa_cons (pe_lc (own := [("item", 2)]) (g := gName 2) (by rfl) nd (pi_tup (pv 1)) (blkOk_by (own := [("item", 2)]) (N := ["value", "told", "item"]) (sc := defScope sAsRatios) (by decide +kernel)) (fun _ _ _ _ _ => pg_name (i := 2) nd rfl (Or.inl rfl)) (fun _ _ _ _ _ => pts_nil) (fun _ _ _ _ _ => (pe_cmpR op_isN' (pv 2) pe_non (nomark _)))) pa_nil))) pe_non (pv 1)))))), ?_⟩
    rcases h with ⟨ty, t1, t2, k⟩ | ⟨a, ty, ys, rfl, t1, t2, hs, hz, hy, kn, ks⟩
    · refine ⟨_, rfl, v, ty, false, rfl, t1, t2, fun H1 e1 => ⟨false, rfl, iteT ?_⟩⟩
      exact k H1 e1
    · refine ⟨_, rfl, _, ty, true, rfl, t1, t2, fun H1 e1 => ⟨true, rfl, iteF (nx_of ?_)⟩⟩
      have hs1 : SqL K H1 a (ys.map Prod.fst) ∨ SqT K H1 a (ys.map Prod.fst) := hs.elim (fun h => .inl (ex_l e1 h)) (fun h => .inr (ex_t e1 h))
      dsimp only
      refine asg_cb1 ?_
      refine lt_made (K := K) (σ := [some (.ref a), none, none]) (j := 2) (vs := [2]) (tl := tVar 0) (Y := fun i v H => ∀ y, ys[i]? = some y → Made K C y v H) (fun i v Ha Hb e h y hi => made_ext e (h y hi)) (fun i v Ha D xs zs hD h y hi => made_lst hD (h y hi)) (ev_var rfl) hs1 (by rw [List.length_map]; omega) (fun x => rfl) (fun i x H2 hi e2 Qe qe => ?_) fun p xs H3 np e3 h3 lx hm => ?_
      · rw [List.getElem?_map] at hi
        obtain ⟨y, hy1, rfl⟩ : ∃ y, ys[i]? = some y ∧ y.1 = x := by
          cases q : ys[i]? with
          | none => rw [q] at hi; cases hi
          | some y => rw [q] at hi; exact ⟨y, rfl, Option.some.inj hi⟩
        have ht := told1_ext (Ex.trans e1 e2) (hy y (List.mem_of_getElem? hy1))
        obtain ⟨yv, yt⟩ := y
        refine ⟨_, rfl, yv, rfl, ?_⟩
        cases yt with
        | none => exact .inr (.inr ⟨ht, qe .non H2 (Ex.refl H2) fun y' h' => by rw [hy1] at h'; cases h'; rfl⟩)
        | some tb =>
          obtain ⟨t, b⟩ := tb
          rcases (show Num C H2 yv t b from ht) with ⟨x, rfl, hx⟩ | ⟨rfl, rfl⟩
          · exact .inl ⟨x, t, b, rfl, hx, qe _ H2 (Ex.refl H2) fun y' h' => by rw [hy1] at h'; cases h'; exact ⟨x, rfl, hx⟩⟩
          · exact .inr (.inl ⟨t, rfl, fun x H4 nx e4 hx => qe _ H4 e4 fun y' h' => by rw [hy1] at h'; cases h'; exact ⟨x, rfl, hx⟩⟩)
      · refine ⟨p, xs, rfl, .inl ⟨SqL.of h3, fun l nl => ?_⟩⟩
        obtain ⟨H4, hH4⟩ : ∃ H4, H4 = upd H3 l (.tup xs) := ⟨_, rfl⟩
        rw [← hH4]
        have e4 : Ex H3 H4 := by rw [hH4]; exact Ex.new nl
        have h4 : H4 l = some (.tup xs) := by rw [hH4]; exact upd_same
        rw [List.length_map] at lx
        have hb : EvL (tLc (iTup K (tVar 1)) (gName 2) tYes (tOp Pk.rIsN (tVar 2) (tC .non)) [2]) [some (.ref a), some (.ref l), none] H4 ((xs.map fun v => decide (v = V.non)).map V.bl) := by
          refine el_lcMT _ (ev_var rfl) (st_of h4) (by rw [List.length_map, List.length_map]) (by omega) (fun x => rfl) fun i x y hx hy H5 e5 => ?_
          rw [List.getElem?_map, List.getElem?_map, hx] at hy
          cases hy
          exact ev_op (ev_var rfl) ev_c rv_isN
        have e14 := (Ex.trans e1 e3).trans e4
        by_cases c : ∃ y ∈ ys, y.2 = none
        · have any : ((xs.map fun v => decide (v = V.non)).any id) = true := by
            obtain ⟨y, hy1, hy2⟩ := c
            obtain ⟨i, hi⟩ := List.mem_iff_getElem?.mp hy1
            have li := (List.getElem?_eq_some_iff.mp hi).1
            obtain ⟨v, hv⟩ : ∃ v, xs[i]? = some v := ⟨xs[i]'(by omega), List.getElem?_eq_getElem (by omega)⟩
            have m := hm i v hv y hi
            unfold Made at m
            rw [hy2] at m
            rw [List.any_eq_true]
            exact ⟨true, List.mem_map.mpr ⟨v, List.mem_of_getElem? hv, decide_eq_true m⟩, rfl⟩
          exact s_ret (ev_if (b := true) (et_is (et_B (ev_any hb)) any) (fun _ => ev_c) fun z => by cases z) fun H5 e5 => kn c H5 (e14.trans e5)
        · have none_ : ((xs.map fun v => decide (v = V.non)).any id) = false := by
            rw [List.any_eq_false]
            intro b hbm
            obtain ⟨v, hv1, rfl⟩ := List.mem_map.mp hbm
            obtain ⟨i, hi⟩ := List.mem_iff_getElem?.mp hv1
            have li := (List.getElem?_eq_some_iff.mp hi).1
            obtain ⟨y, hy1⟩ : ∃ y, ys[i]? = some y := ⟨ys[i]'(by omega), List.getElem?_eq_getElem (by omega)⟩
            have m := hm i v hi y hy1
            obtain ⟨yv, yt⟩ := y
            cases yt with
            | none => exact absurd ⟨_, List.mem_of_getElem? hy1, rfl⟩ c
            | some tb =>
              obtain ⟨x, rfl, _⟩ := (show ∃ x, v = .ref x ∧ RatAt C H3 x tb.1 tb.2 from m)
              show ¬ (decide (V.ref x = V.non) = true)
              rw [decide_eq_false (fun z => by cases z)]
              exact Bool.false_ne_true
          refine s_ret (ev_if (b := false) (et_is (et_B (ev_any hb)) none_) (fun z => by cases z) fun _ => ev_var rfl) fun H5 e5 => ks (fun y hy1 hy2 => c ⟨y, hy1, hy2⟩) l xs H5 (fresh_back (Ex.trans e1 e3) nl) (e14.trans e5) (e5 _ _ h4) lx fun i y v hi hv => made_ext (e4.trans e5) (hm i v hv y hi)
end
end K01
end

section -- K01h
set_option linter.all false
set_option exponentiation.threshold 9000
set_option maxRecDepth 100000
set_option maxHeartbeats 4000000
namespace K01
open PySem PySem.Spec L2 Pk Evl
open PyProof.Rows hiding St
/-! ### ratios of a list, or the refusal -/
/-- a list or a tuple of these values, each with what it tells -/
def LsAt (K : PySem.W.Frag) (C : Addr) (H : Hp) (v : V) (ys : List (V × Option (Int × Int))) : Prop := ∃ (a : Addr) (T : Value), v = .ref a ∧ TyX K H v T ∧ PySem.W.kitAny K T [.type "list", .type "tuple"] = some true ∧ (SqL K H a (ys.map Prod.fst) ∨ SqT K H a (ys.map Prod.fst)) ∧ ys.length ≤ 1000 ∧ ∀ y ∈ ys, Told1 K C H y
def NoLs (K : PySem.W.Frag) (H : Hp) (v : V) : Prop := ∃ T, TyX K H v T ∧ PySem.W.kitAny K T [.type "list", .type "tuple"] = some false
/-- the ratios of these numbers stand in the tuple -/
def RatsAt (C : Addr) (H : Hp) (xs : List V) (ps : List (Int × Int)) : Prop := xs.length = ps.length ∧ ∀ (i : Nat) (v : V) (p : Int × Int), xs[i]? = some v → ps[i]? = some p → ∃ x, v = .ref x ∧ RatAt C H x p.1 p.2
theorem RatsAt.ext {C : Addr} {H H2 : Hp} {xs : List V} {ps : List (Int × Int)} (h : RatsAt C H xs ps) (e : Ex H H2) : RatsAt C H2 xs ps := ⟨h.1, fun i v p h1 h2 => by
  obtain ⟨x, rfl, dx, hx⟩ := h.2 i v p h1 h2
  exact ⟨x, rfl, dx, e _ _ hx⟩⟩
def spLr (K : PySem.W.Frag) (C D : Addr) : Sp := fun vs H Q E => ∃ v : V, vs = [v] ∧ (((NoLs K H v ∨ ∃ ys, LsAt K C H v ys ∧ ∃ y ∈ ys, y.2 = none) ∧ RzR D H E "ratios") ∨
  ∃ (ys : List (V × Option (Int × Int))) (ps : List (Int × Int)), LsAt K C H v ys ∧ ys.map Prod.snd = ps.map some ∧ ∀ q xs H2, H q = none → Same H H2 → H2 q = some (.tup xs) → RatsAt C H2 xs ps → Q (.ref q) H2)
section
variable {P : Program} {w : World} {K : PySem.W.Frag} {mg : Str → Option Value} {base : Heap}
theorem sc_lr : FnScope ["ratios", "told"] ["ratios"] (defScope sListedR) := ⟨rfl, rfl, rfl, by decide +kernel, rfl, by decide +kernel, by decide +kernel⟩
theorem ok_lr {f fA fB C D : Addr} {fd fdA fdB : FuncData} (F : Fun K "_listed_ratios" "_listed_ratios" sListedR f fd) (Tb : BRC K mg D fB) (G_br : FnOk P w K mg base CX0 1 fB fdB ["self", "part"] (spBR D)) (b_br : Binds K fdB ["self", "part"] [])
    (G_asr : FnOk P w K mg base CX0 6 fA fdA ["value"] (spAsr K C)) (b_asr : Binds K fdA ["value"] []) (d_asr : Df K mg "as_ratios" fA) : FnOk P w K mg base (L2.CX P w) 7 f fd ["ratios"] (spLr K C D) := by
  refine F.okX sc_lr (fun vs H Q E h => ?_) (fun cdv A outer s H vs Q E hr h => ?_)
  · obtain ⟨v, rfl, _⟩ := h
    rfl
  · obtain ⟨v, rfl, h⟩ := h
    have nd := sc_lr.nd
    refine ⟨_, (pss_cons (ps_set (i := 1) nd rfl (Or.inl rfl) (pe_cs (calls_fn G_asr (hr.mono (by decide)) b_asr .nil pass0) d_asr.1 d_asr.2 (pa_cons (pv 0) pa_nil)))
(pss_cons (ps_if (pt_cmpR op_isN' (pv 1) pe_non (nomark _))
(pss_one (ps_raise rfl (takes_of rfl rfl rfl rfl) (pmk_oex Tb.ox Tb.iC Tb.tI G_br (hr.mono (by decide)) b_br .nil pass0 rfl Tb.gl (pa_cons pe_str pa_nil))))
pss_nil)
(pss_one (ps_ret (pv 1))))), ?_⟩
    have bad : RzR D H E "ratios" → ∀ H2, Same H H2 → _ := fun z H2 e => (⟨_, rfl, rfl, true, rfl, iteT (rzr_mk (z.ext e) (ea_cons ev_c ea_nil))⟩ : (tSeq (tIfS (tTest (tOp Pk.rIsN (tVar 1) (tC .non))) (fun _ σ H => tMkO D (spBR D) [] (tCons (tC (.str "ratios")) tNil) σ H fun cls d H' => E cls d H') tNext) (tRet (tVar 1))) { nx := fun _ G => Q .non G, rt := Q } [some v, some .non] H2)
    rcases h with ⟨n | ⟨ys, ⟨a, T, rfl, t1, t2, hs, hz, hy⟩, hn⟩, z⟩ | ⟨ys, ps, ⟨a, T, rfl, t1, t2, hs, hz, hy⟩, hp, k⟩
    · obtain ⟨T, t1, t2⟩ := n
      exact ⟨_, rfl, v, rfl, .inl ⟨T, t1, t2, bad z⟩⟩
    · refine ⟨_, rfl, _, rfl, .inr ⟨a, T, ys, rfl, t1, t2, hs, hz, hy, fun _ => bad z, fun all => ?_⟩⟩
      obtain ⟨y, h1, h2⟩ := hn
      exact absurd h2 (all y h1)
    · have len : ys.length = ps.length := by
        have := congrArg List.length hp
        rw [List.length_map, List.length_map] at this
        exact this
      have at_ : ∀ (i : Nat) (y : V × Option (Int × Int)), ys[i]? = some y → ∃ p, ps[i]? = some p ∧ y.2 = some p := fun i y hi => by
        have e := congrArg (fun l : List (Option (Int × Int)) => l[i]?) hp
        simp only [List.getElem?_map, hi, Option.map_some] at e
        cases q : ps[i]? with
        | none => rw [q] at e; cases e
        | some p => rw [q] at e; exact ⟨p, rfl, Option.some.inj e⟩
      refine ⟨_, rfl, _, rfl, .inr ⟨a, T, ys, rfl, t1, t2, hs, hz, hy, fun hn => ?_, fun _ q xs H2 nq e hq lx hm => ?_⟩⟩
      · obtain ⟨y, h1, h2⟩ := hn
        obtain ⟨i, hi⟩ := List.mem_iff_getElem?.mp h1
        obtain ⟨p, _, h4⟩ := at_ i y hi
        rw [h2] at h4
        cases h4
      · refine ⟨_, rfl, rfl, false, rfl, iteF ⟨_, rfl, k q xs H2 nq e hq ⟨lx.trans len, fun i v p h1 h2 => ?_⟩⟩⟩
        have li := (List.getElem?_eq_some_iff.mp h2).1
        obtain ⟨y, hi⟩ : ∃ y, ys[i]? = some y := ⟨ys[i]'(by omega), List.getElem?_eq_getElem (by omega)⟩
        obtain ⟨p', h3, h4⟩ := at_ i y hi
        rw [h2] at h3
        cases h3
        have m := hm i y v hi h1
        unfold Made at m
        rw [h4] at m
        exact m
end
end K01
end

section -- K01j
set_option linter.all false
set_option exponentiation.threshold 9000
set_option maxRecDepth 100000
set_option maxHeartbeats 4000000
namespace K01
open PySem PySem.Spec L2 Pk Evl
open PyProof.Rows hiding St
/-! ### sums of lists -/
def lowp (n d : Int) : Int × Int := (n.fdiv (sg n d), d.fdiv (sg n d))
theorem lowp_le {n d : Int} (hd : d ≠ 0) : (lowp n d).1.natAbs ≤ n.natAbs ∧ (lowp n d).2.natAbs ≤ d.natAbs ∧ 0 < (lowp n d).2 := by
  have s0 := sg_ne (t := n) hd
  have sa := sg_abs n d
  obtain ⟨n', hn⟩ : sg n d ∣ n := Int.natAbs_dvd_natAbs.mp (by rw [sa]; exact Nat.gcd_dvd_left _ _)
  obtain ⟨d', hd'⟩ : sg n d ∣ d := Int.natAbs_dvd_natAbs.mp (by rw [sa]; exact Nat.gcd_dvd_right _ _)
  have e1 : n.fdiv (sg n d) = n' := by
    have : (sg n d * n').fdiv (sg n d) = n' := Int.mul_fdiv_cancel_left _ s0
    rw [← hn] at this
    exact this
  have e2 : d.fdiv (sg n d) = d' := by
    have : (sg n d * d').fdiv (sg n d) = d' := Int.mul_fdiv_cancel_left _ s0
    rw [← hd'] at this
    exact this
  have g0 : 0 < (sg n d).natAbs := Int.natAbs_pos.mpr s0
  have m1 : n.natAbs = (sg n d).natAbs * n'.natAbs := by rw [← Int.natAbs_mul, ← hn]
  have m2 : d.natAbs = (sg n d).natAbs * d'.natAbs := by rw [← Int.natAbs_mul, ← hd']
  refine ⟨?_, ?_, ?_⟩
  · show (n.fdiv (sg n d)).natAbs ≤ n.natAbs
    rw [e1, m1]
    exact Nat.le_mul_of_pos_left _ g0
  · show (d.fdiv (sg n d)).natAbs ≤ d.natAbs
    rw [e2, m2]
    exact Nat.le_mul_of_pos_left _ g0
  · show 0 < d.fdiv (sg n d)
    rw [e2]
    by_cases c : d < 0
    · have sn : sg n d < 0 := by
        have : 0 < Nat.gcd n.natAbs d.natAbs := Nat.gcd_pos_of_pos_right _ (by omega)
        unfold sg
        rw [if_pos c]
        omega
      by_cases z : 0 < d'
      · exact z
      · have : 0 ≤ sg n d * d' := Int.mul_nonneg_of_nonpos_of_nonpos (by omega) (by omega)
        omega
    · have sp : 0 < sg n d := by
        have : 0 < Nat.gcd n.natAbs d.natAbs := Nat.gcd_pos_of_pos_right _ (by omega)
        unfold sg
        rw [if_neg c]
        omega
      by_cases z : 0 < d'
      · exact z
      · have : sg n d * d' ≤ 0 := Int.mul_nonpos_of_nonneg_of_nonpos (by omega) (by omega)
        omega
def addP (a : Int × Int) (p : Int × Int) : Int × Int := lowp (a.1 * p.2 + p.1 * a.2) (a.2 * p.2)
def sumR (ps : List (Int × Int)) : Int × Int := ps.foldl addP (0, 1)
/-- numbers that are small enough, below 0 never a bottom -/
def Nice (p : Int × Int) : Prop := p.1.natAbs < 2 ^ 290 ∧ p.2.natAbs < 2 ^ 290 ∧ 0 < p.2
theorem addP_le {a p : Int × Int} {m : Nat} (h1 : a.1.natAbs < 2 ^ m) (h2 : a.2.natAbs < 2 ^ m) (h3 : 0 < a.2) (hp : Nice p) : (addP a p).1.natAbs < 2 ^ (m + 300) ∧ (addP a p).2.natAbs < 2 ^ (m + 300) ∧ 0 < (addP a p).2 := by
  obtain ⟨p1, p2, p3⟩ := hp
  have d0 : a.2 * p.2 ≠ 0 := Int.ne_of_gt (Int.mul_pos h3 p3)
  obtain ⟨l1, l2, l3⟩ := lowp_le (n := a.1 * p.2 + p.1 * a.2) d0
  have b1 := wide_lt h1 p2
  have b2 := wide_lt h2 p1
  have b3 := wide_lt h2 p2
  have e : (2 : Nat) ^ (m + 290) + 2 ^ (m + 290) ≤ 2 ^ (m + 300) := by
    rw [show m + 300 = m + 290 + 10 by omega, Nat.pow_add 2 (m + 290) 10]
    have : 0 < 2 ^ (m + 290) := Nat.pow_pos (by decide)
    omega
  have c : p.1 * a.2 = a.2 * p.1 := Int.mul_comm _ _
  refine ⟨?_, ?_, l3⟩
  · refine Nat.lt_of_le_of_lt l1 ?_
    rw [c]
    have := Int.natAbs_add_le (a.1 * p.2) (a.2 * p.1)
    omega
  · refine Nat.lt_of_le_of_lt l2 ?_
    omega
def spAdded (K : PySem.W.Frag) (C D : Addr) : Sp := fun vs H Q E => ∃ v : V, vs = [v] ∧ (((NoLs K H v ∨ ∃ ys, LsAt K C H v ys ∧ ∃ y ∈ ys, y.2 = none) ∧ RzR D H E "ratios") ∨
  ∃ (ys : List (V × Option (Int × Int))) (ps : List (Int × Int)), LsAt K C H v ys ∧ ys.map Prod.snd = ps.map some ∧ ps.length ≤ 12 ∧ (∀ p ∈ ps, Nice p) ∧ ∀ z H3, H z = none → Same H H3 → RatAt C H3 z (sumR ps).1 (sumR ps).2 → Q (.ref z) H3)
section
variable {P : Program} {w : World} {K : PySem.W.Frag} {mg : Str → Option Value} {base : Heap}
theorem q_asgI {C : Addr} {fs : List (Str × V)} {te : TE} {i : Nat} {tz : TS} {D : Ends} {σ : L2.St} {H : Hp} (h : EvI C fs te σ H) (k : ∀ x dx H1, H x = none → Ex H H1 → H1 x = some (.ins C dx fs) → tz D (σ.set i (some (.ref x))) H1) : tSeq (tAsg te (gName i)) tz D σ H := h H (Ex.refl H) _ k
theorem sc_added : FnScope ["ratios", "total", "ratio"] ["ratios"] (defScope sAdded) := ⟨rfl, rfl, rfl, by decide +kernel, rfl, by decide +kernel, by decide +kernel⟩
theorem ok_added {f fL fR fA C D : Addr} {fd fdL fdR fdA : FuncData} {ds : List Value} (F : Fun K "added" "added" sAdded f fd) (M_R : Mk K C fR) (G_R : FnOk P w K mg base (L2.CX P w) 3 fR fdR ["self", "top", "bottom"] (spRi K C D)) (b_R1 : Binds K fdR ["self", "top", "bottom"] ds) (v_R1 : Vals [.int 1] ds) (d_R : Df K mg "Ratio" C)
    (G_lr : FnOk P w K mg base (L2.CX P w) 7 fL fdL ["ratios"] (spLr K C D)) (b_lr : Binds K fdL ["ratios"] []) (d_lr : Df K mg "_listed_ratios" fL)
    (sf : PySem.W.selfFirst K C = true) (aA : PySem.W.findIn K (.ref C) (PySem.dunder (Operator.info .Add).2) = some (some (.ref fA))) (aI : PySem.W.isFn K (.ref fA) = true) (G_add : FnOk P w K mg base (L2.CX P w) 7 fA fdA ["self", "other"] (spBin K C D fAdd)) (b_add : Binds K fdA ["self", "other"] []) :
    FnOk P w K mg base (L2.CX P w) 8 f fd ["ratios"] (spAdded K C D) := by
  refine F.okX sc_added (fun vs H Q E h => ?_) (fun cdv A outer s H vs Q E hr h => ?_)
  · obtain ⟨v, rfl, _⟩ := h
    rfl
  · obtain ⟨v, rfl, h⟩ := h
    have nd := sc_added.nd
    refine ⟨_, (pss_cons (ps_set (i := 1) nd rfl (Or.inl rfl) (pe_cs (calls_make M_R G_R (hr.mono (by decide)) b_R1 v_R1 passL) d_R.1 d_R.2 (pa_cons pe_int pa_nil)))
(pss_cons (ps_for (passes_of rfl) rfl (pi_tup (pe_cs (calls_fnS G_lr (hr.mono (by decide)) b_lr .nil (fun σ => passAt (takes_of rfl rfl rfl rfl) σ)) d_lr.1 d_lr.2 (pa_cons (pv 0) pa_nil))) (pg_name (i := 2) nd rfl (Or.inl rfl))
(pss_one (ps_set (i := 1) nd rfl (Or.inl rfl) (pe_opS (op_binI (op := .Add) sf aA aI (runS_fn G_add (hr.mono (by decide)) b_add (fun σ => passAt (takes_of rfl rfl rfl rfl) σ))) (pv 1) (pv 2)))))
(pss_one (ps_ret (pv 1))))), ?_⟩
    refine q_asgI (ei_mk (K := K) (C := C) (D := D) (dvs := [.int 1]) (t := 0) (b := 1) (ea_cons ev_c ea_nil) rfl (by decide) (by decide)) fun z dz H1 nz e1 hz => ?_
    rw [sg_unit, fdiv_one] at hz
    rcases h with ⟨n, zz⟩ | ⟨ys, ps, hL, hp, h12, hn, k⟩
    · refine ⟨_, rfl, v, rfl, .inl ⟨?_, zz.ext e1⟩⟩
      rcases n with ⟨T, t1, t2⟩ | ⟨ys, ⟨a, T, rfl, t1, t2, hs, hz2, hy⟩, hn⟩
      · exact .inl ⟨T, tyx_ext t1 e1, t2⟩
      · exact .inr ⟨ys, ⟨a, T, rfl, tyx_ext t1 e1, t2, hs.elim (fun h => .inl (ex_l e1 h)) (fun h => .inr (ex_t e1 h)), hz2, fun y h => told1_ext e1 (hy y h)⟩, hn⟩
    · obtain ⟨a, T, rfl, t1, t2, hs, hz2, hy⟩ := hL
      refine ⟨_, rfl, _, rfl, .inr ⟨ys, ps, ⟨a, T, rfl, tyx_ext t1 e1, t2, hs.elim (fun h => .inl (ex_l e1 h)) (fun h => .inr (ex_t e1 h)), hz2, fun y h => told1_ext e1 (hy y h)⟩, hp, fun q xs H2 nq e2 hq hr2 => ⟨q, rfl, ⟨xs, st_of hq⟩, ?_⟩⟩⟩
      have fin : ∀ (t b : Int) (tot : Addr) (o : Option V) (H3 : Hp), H tot = none → Same H H3 → RatAt C H3 tot t b → (t, b) = sumR ps → tRet (tVar 1) { nx := fun _ G => Q .non G, rt := Q } [some (.ref a), some (.ref tot), o] H3 := fun t b tot o H3 n3 e3 h3 eq => ⟨_, rfl, k tot H3 n3 e3 (by rw [← eq]; exact h3)⟩
      refine for_tup (xs := xs) (fun i σ H3 => ∃ (tot : Addr) (t b : Int) (o : Option V), σ = [some (.ref a), some (.ref tot), o] ∧ H tot = none ∧ Same H2 H3 ∧ RatAt C H3 tot t b ∧ (t, b) = sumR (ps.take i) ∧ t.natAbs < 2 ^ (1 + 300 * i) ∧ b.natAbs < 2 ^ (1 + 300 * i) ∧ 0 < b) ⟨z, 0, 1, none, rfl, nz, Ex.refl H2, ⟨dz, e2 _ _ hz⟩, rfl, by decide, by decide, by decide⟩ (fun i σ H3 _ pv => ?_) (fun i x σ H3 hx pv => ?_) fun σ H3 pv => ?_
      · obtain ⟨tot, t, b, o, rfl, _, e3, _⟩ := pv
        exact st_of (e3 _ _ hq)
      · obtain ⟨tot, t, b, o, rfl, n3, e3, h3, eq, s1, s2, s3⟩ := pv
        have li := (List.getElem?_eq_some_iff.mp hx).1
        obtain ⟨p, hpi⟩ : ∃ p, ps[i]? = some p := ⟨ps[i]'(by rw [← hr2.1]; exact li), List.getElem?_eq_getElem (by rw [← hr2.1]; exact li)⟩
        have i12 : i < 12 := by have := (List.getElem?_eq_some_iff.mp hpi).1; omega
        obtain ⟨y, rfl, hy2⟩ := (hr2.ext e3).2 i x p hx hpi
        have np := hn p (List.mem_of_getElem? hpi)
        obtain ⟨dt, ht⟩ := id h3
        obtain ⟨dy, hy3⟩ := id hy2
        have big : ∀ n : Nat, n < 2 ^ (1 + 300 * i) → n < 2 ^ 4000 := fun n h => Nat.lt_of_lt_of_le h (Nat.pow_le_pow_right (by decide) (by omega))
        have mid : ∀ n : Nat, n < 2 ^ 290 → n < 2 ^ 4000 := fun n h => Nat.lt_of_lt_of_le h (Nat.pow_le_pow_right (by decide) (by decide))
        have st := addP_le (a := (t, b)) (p := p) s1 s2 s3 np
        refine ⟨_, rfl, _, rfl, tot, dt, y, dy, _, _, rfl, ht, rfl, hy3, tot, .ref y, t, b, rfl, h3, .inl ⟨p.1, p.2, .inl ⟨y, rfl, hy2⟩, big _ s1, big _ s2, mid _ np.1, mid _ np.2.1, Int.ne_of_gt (Int.mul_pos s3 np.2.2), fun z4 H4 n4 e4 h4 => ⟨⟨z4, rfl⟩, ?_⟩⟩⟩
        refine ⟨z4, (addP (t, b) p).1, (addP (t, b) p).2, some (.ref y), rfl, fresh_back (e1.trans (e2.trans e3)) n4, e3.trans e4, h4, ?_, ?_, ?_, st.2.2⟩
        · unfold sumR at eq ⊢
          rw [Pk.take_succ' hpi, List.foldl_append, ← eq]
          rfl
        · have := st.1
          rw [show 1 + 300 * (i + 1) = 1 + 300 * i + 300 by omega]
          exact this
        · have := st.2.1
          rw [show 1 + 300 * (i + 1) = 1 + 300 * i + 300 by omega]
          exact this
      · obtain ⟨tot, t, b, o, rfl, n3, e3, h3, eq, _⟩ := pv
        rw [List.take_of_length_le (by rw [hr2.1]; exact Nat.le_refl _)] at eq
        exact fin t b tot o H3 n3 (e1.trans (e2.trans e3)) h3 eq
end
end K01
end

section -- K01k
set_option linter.all false
set_option exponentiation.threshold 9000
set_option maxRecDepth 100000
set_option maxHeartbeats 4000000
namespace K01
open PySem PySem.Spec L2 Pk Evl
open PyProof.Rows hiding St
/-! ### the least, the greatest -/
def furP (o : Int) (p x : Int × Int) : Int × Int := if decide (cmpI (x.1 * p.2) (p.1 * x.2) * o > 0) = true then x else p
def furR (o : Int) : List (Int × Int) → Int × Int
  | [] => (0, 1)
  | p :: r => (p :: r).foldl (furP o) p
theorem cmpI_small (a b : Int) : (cmpI a b).natAbs < 2 ^ 2 := by
  unfold cmpI PyProof.Rows.b2i
  split <;> split <;> decide
def spFur (K : PySem.W.Frag) (C D : Addr) : Sp := fun vs H Q E => ∃ (v : V) (o : Int), vs = [v, .int o] ∧ o.natAbs ≤ 1 ∧ (((NoLs K H v ∨ ∃ ys, LsAt K C H v ys ∧ ((∃ y ∈ ys, y.2 = none) ∨ ys = [])) ∧ RzR D H E "ratios") ∨
  ∃ (ys : List (V × Option (Int × Int))) (ps : List (Int × Int)), LsAt K C H v ys ∧ ys.map Prod.snd = ps.map some ∧ ps ≠ [] ∧ (∀ p ∈ ps, Sm p.1 ∧ Sm p.2) ∧ ∀ z H3, Same H H3 → RatAt C H3 z (furR o ps).1 (furR o ps).2 → Q (.ref z) H3)
section
variable {P : Program} {w : World} {K : PySem.W.Frag} {mg : Str → Option Value} {base : Heap}
theorem sc_fur : FnScope ["ratios", "order", "listed", "furthest", "ratio"] ["ratios", "order"] (defScope sFurthest) := ⟨rfl, rfl, rfl, by decide +kernel, rfl, by decide +kernel, by decide +kernel⟩
theorem ok_fur {f fL fC fB C D : Addr} {fd fdL fdC fdB : FuncData} (F : Fun K "_furthest_of" "_furthest_of" sFurthest f fd) (T : RCl K mg C) (Tb : BRC K mg D fB) (G_br : FnOk P w K mg base CX0 1 fB fdB ["self", "part"] (spBR D)) (b_br : Binds K fdB ["self", "part"] [])
    (G_lr : FnOk P w K mg base (L2.CX P w) 7 fL fdL ["ratios"] (spLr K C D)) (b_lr : Binds K fdL ["ratios"] []) (d_lr : Df K mg "_listed_ratios" fL)
    (Mc : Meth K C "compared" fC) (G_cmp : FnOk P w K mg base (L2.CX P w) 7 fC fdC ["self", "other"] (spCmp K C D)) (b_cmp : Binds K fdC ["self", "other"] []) : FnOk P w K mg base (L2.CX P w) 8 f fd ["ratios", "order"] (spFur K C D) := by
  refine F.okX sc_fur (fun vs H Q E h => ?_) (fun cdv A outer s H vs Q E hr h => ?_)
  · obtain ⟨v, o, rfl, _⟩ := h
    rfl
  · obtain ⟨v, o, rfl, ho, h⟩ := h
    have nd := sc_fur.nd
    refine ⟨_, (pss_cons (ps_set (i := 2) nd rfl (Or.inl rfl) (pe_cs (calls_fnS G_lr (hr.mono (by decide)) b_lr .nil (fun σ => passAt (takes_of rfl rfl rfl rfl) σ)) d_lr.1 d_lr.2 (pa_cons (pv 0) pa_nil)))
(pss_cons (ps_if (pt_not (pt_truth (pv 2) (fun _ => rfl)))
(pss_one (ps_raise rfl (takes_of rfl rfl rfl rfl) (pmk_oex Tb.ox Tb.iC Tb.tI G_br (hr.mono (by decide)) b_br .nil pass0 rfl Tb.gl (pa_cons pe_str pa_nil))))
pss_nil)
(pss_cons (ps_set (i := 3) nd rfl (Or.inl rfl) (pe_ix ix_tup (pv 2) pe_int (fun _ _ => rfl)))
(pss_cons (ps_for (passes_of rfl) rfl (pi_tup (pv 2)) (pg_name (i := 4) nd rfl (Or.inl rfl))
(pss_one (ps_if (pt_cmpR op_gt (pe_op op_mulW (pe_methC (pv 4) T.cl Mc (calls_fnS G_cmp (hr.mono (by decide)) b_cmp .nil (fun σ => passAt (takes_of rfl rfl rfl rfl) σ)) (pa_cons (pv 3) pa_nil)) (pv 1)) pe_int (nomark _))
(pss_one (ps_set (i := 3) nd rfl (Or.inl rfl) (pv 4)))
pss_nil)))
(pss_one (ps_ret (pv 3))))))), ?_⟩
    rcases h with ⟨n, zz⟩ | ⟨ys, ps, hL, hp, hne, hsm, k⟩
    · rcases n with n | ⟨ys, hL, n | rfl⟩
      · exact ⟨_, rfl, v, rfl, .inl ⟨.inl n, zz⟩⟩
      · exact ⟨_, rfl, v, rfl, .inl ⟨.inr ⟨ys, hL, n⟩, zz⟩⟩
      · refine ⟨_, rfl, v, rfl, .inr ⟨[], [], hL, rfl, fun q xs H2 nq e2 hq hr2 => ?_⟩⟩
        have x0 : xs = [] := List.length_eq_zero_iff.mp hr2.1
        subst x0
        refine ⟨_, rfl, false, .inr (.inl ⟨[], st_of hq, rfl⟩), iteT ?_⟩
        exact rzr_mk (zz.ext e2) (ea_cons ev_c ea_nil)
    · refine ⟨_, rfl, v, rfl, .inr ⟨ys, ps, hL, hp, fun q xs H2 nq e2 hq hr2 => ?_⟩⟩
      obtain ⟨p0, pr, rfl⟩ : ∃ p0 pr, ps = p0 :: pr := by
        cases ps with
        | nil => exact absurd rfl hne
        | cons a b => exact ⟨a, b, rfl⟩
      obtain ⟨v0, vr, rfl⟩ : ∃ v0 vr, xs = v0 :: vr := by
        cases xs with
        | nil => have := hr2.1; cases this
        | cons a b => exact ⟨a, b, rfl⟩
      obtain ⟨x0, rfl, h0⟩ := hr2.2 0 v0 p0 rfl rfl
      refine ⟨_, rfl, true, .inr (.inl ⟨_, st_of hq, rfl⟩), iteF (nx_of ?_)⟩
      dsimp only
      refine q_asg (ev_op (ev_var rfl) ev_c (rv_ixT (st_of hq) (atI_nat (j := 0) rfl))) fun H3 e3 => ?_
      refine ⟨_, rfl, q, rfl, ⟨_, st_of (e3 _ _ hq)⟩, for_tup (xs := .ref x0 :: vr) (fun i σ H4 => ∃ (z : Addr) (p : Int × Int) (o4 : Option V), σ = [some v, some (.int o), some (.ref q), some (.ref z), o4] ∧ Same H2 H4 ∧ RatAt C H4 z p.1 p.2 ∧ p = (((p0 :: pr).take i).foldl (furP o) p0) ∧ p ∈ p0 :: pr) ⟨x0, p0, none, rfl, e3, ?_, rfl, List.mem_cons_self⟩ (fun i σ H4 _ pv => ?_) (fun i x σ H4 hx pv => ?_) fun σ H4 pv => ?_⟩
      · obtain ⟨d0, h0⟩ := h0
        exact ⟨d0, e3 _ _ h0⟩
      · obtain ⟨z, p, o4, rfl, e4, _⟩ := pv
        exact st_of (e4 _ _ hq)
      · obtain ⟨z, p, o4, rfl, e4, hz, eq, mem⟩ := pv
        have li := (List.getElem?_eq_some_iff.mp hx).1
        have hlen := hr2.1
        obtain ⟨y, hyi⟩ : ∃ y, (p0 :: pr)[i]? = some y := ⟨(p0 :: pr)[i]'(by omega), List.getElem?_eq_getElem (by omega)⟩
        obtain ⟨xr, rfl, hxr⟩ := (hr2.ext e4).2 i x y hx hyi
        have sy := hsm y (List.mem_of_getElem? hyi)
        have sp := hsm p mem
        obtain ⟨dr, hr3⟩ := id hxr
        have nxt : (p0 :: pr).take (i + 1) = (p0 :: pr).take i ++ [y] := Pk.take_succ' hyi
        refine ⟨_, rfl, xr, dr, _, rfl, hr3, rf_no (by decide +kernel) (by decide +kernel), _, rfl, xr, .ref z, y.1, y.2, rfl, hxr, .inl ⟨p.1, p.2, .inl ⟨z, rfl, hz⟩, sy.1, sy.2, sp.1, sp.2, fun H5 e5 => ?_⟩⟩
        have cb : CMulW (cmpI (y.1 * p.2) (p.1 * y.2)) o := wide_mul (cmpI_small _ _) (b := 2) (by omega) (by decide) (by decide) (by decide)
        refine ⟨_, rfl, _, _, rfl, rfl, cb, _, _, rfl, rfl, _, rfl, if_b (fun c => ?_) (fun c => ?_)⟩
        · refine ⟨_, rfl, xr, y, some (.ref xr), rfl, e4.trans e5, ⟨dr, e5 _ _ hr3⟩, ?_, List.mem_of_getElem? hyi⟩
          rw [nxt, List.foldl_append, ← eq]
          show y = furP o p y
          unfold furP
          rw [if_pos c]
        · obtain ⟨dz, hz'⟩ := id hz
          refine ⟨z, p, some (.ref xr), rfl, e4.trans e5, ⟨dz, e5 _ _ hz'⟩, ?_, mem⟩
          rw [nxt, List.foldl_append, ← eq]
          show p = furP o p y
          unfold furP
          rw [if_neg (by rw [c]; exact Bool.false_ne_true)]
      · obtain ⟨z, p, o4, rfl, e4, hz, eq, _⟩ := pv
        rw [List.take_of_length_le (by rw [hr2.1]; exact Nat.le_refl _)] at eq
        refine ⟨_, rfl, k z H4 (Ex.trans e2 e4) ?_⟩
        show RatAt C H4 z (((p0 :: pr).foldl (furP o) p0)).1 (((p0 :: pr).foldl (furP o) p0)).2
        rw [← eq]
        exact hz
end
end K01
end

section -- K01l
set_option linter.all false
set_option exponentiation.threshold 9000
set_option maxRecDepth 100000
set_option maxHeartbeats 4000000
namespace K01
open PySem PySem.Spec L2 Pk Evl
open PyProof.Rows hiding St
def spEnd (K : PySem.W.Frag) (C D : Addr) (o : Int) : Sp := fun vs H Q E => ∃ v : V, vs = [v] ∧ spFur K C D [v, .int o] H Q E
section
variable {P : Program} {w : World} {K : PySem.W.Frag} {mg : Str → Option Value} {base : Heap}
theorem sc_least : FnScope ["ratios"] ["ratios"] (defScope sLeast) := ⟨rfl, rfl, rfl, by decide +kernel, rfl, by decide +kernel, by decide +kernel⟩
theorem sc_greatest : FnScope ["ratios"] ["ratios"] (defScope sGreatest) := ⟨rfl, rfl, rfl, by decide +kernel, rfl, by decide +kernel, by decide +kernel⟩
theorem ok_least {f fF C D : Addr} {fd fdF : FuncData} (F : Fun K "least_of" "least_of" sLeast f fd) (G_fur : FnOk P w K mg base (L2.CX P w) 8 fF fdF ["ratios", "order"] (spFur K C D)) (b_fur : Binds K fdF ["ratios", "order"] []) (d_fur : Df K mg "_furthest_of" fF) : FnOk P w K mg base (L2.CX P w) 9 f fd ["ratios"] (spEnd K C D (-1)) := by
  refine F.okX sc_least (fun vs H Q E h => ?_) (fun cdv A outer s H vs Q E hr h => ?_)
  · obtain ⟨v, rfl, _⟩ := h
    rfl
  · obtain ⟨v, rfl, h⟩ := h
    have nd := sc_least.nd
    refine ⟨_, (pss_one (ps_ret (pe_cs (calls_fnS G_fur (hr.mono (by decide)) b_fur .nil (fun σ => passAt (takes_of rfl rfl rfl rfl) σ)) d_fur.1 d_fur.2 (pa_cons (pv 0) (pa_cons (pe_un un_neg pe_int) pa_nil))))), ?_⟩
    exact ⟨_, rfl, ⟨1, rfl, h⟩⟩
theorem ok_greatest {f fF C D : Addr} {fd fdF : FuncData} (F : Fun K "greatest_of" "greatest_of" sGreatest f fd) (G_fur : FnOk P w K mg base (L2.CX P w) 8 fF fdF ["ratios", "order"] (spFur K C D)) (b_fur : Binds K fdF ["ratios", "order"] []) (d_fur : Df K mg "_furthest_of" fF) : FnOk P w K mg base (L2.CX P w) 9 f fd ["ratios"] (spEnd K C D (1)) := by
  refine F.okX sc_greatest (fun vs H Q E h => ?_) (fun cdv A outer s H vs Q E hr h => ?_)
  · obtain ⟨v, rfl, _⟩ := h
    rfl
  · obtain ⟨v, rfl, h⟩ := h
    have nd := sc_greatest.nd
    refine ⟨_, (pss_one (ps_ret (pe_cs (calls_fnS G_fur (hr.mono (by decide)) b_fur .nil (fun σ => passAt (takes_of rfl rfl rfl rfl) σ)) d_fur.1 d_fur.2 (pa_cons (pv 0) (pa_cons pe_int pa_nil))))), ?_⟩
    exact ⟨_, rfl, h⟩
end
end K01
end

section -- K01m
set_option linter.all false
set_option maxRecDepth 100000
set_option maxHeartbeats 4000000
namespace K01
open PySem PySem.Spec L2 Pk Evl
open PyProof.Rows hiding St
open TL (tl numL)
abbrev sPen : Stmt := top 22
abbrev sDraw : Stmt := top 23
abbrev sPick : Stmt := top 24
/-! ### the pen: a list of cells, the turn, what is left -/
def PenAt (H : Hp) (p : Addr) (k : Nat) : Prop := ∃ (c : Addr) (t l : Int) (ns : List Int), H p = some (.lst [.ref c, .int t, .int l]) ∧ H c = some (.lst (ns.map V.int)) ∧ c ≠ p ∧ ns.length ≤ 63 ∧ 0 ≤ t ∧ t + (k : Int) ≤ 2 ^ 40 ∧ 0 ≤ l
/-- what stands beside p stays -/
def Fr (p : Addr) (H H1 : Hp) : Prop := ∀ b o, b ≠ p → H b = some o → H1 b = some o
theorem Fr.of {p : Addr} {H H1 : Hp} (e : Ex H H1) : Fr p H H1 := fun b o _ h => e b o h
theorem Fr.trans {p : Addr} {H H1 H2 : Hp} (a : Fr p H H1) (b : Fr p H1 H2) : Fr p H H2 := fun x o n h => b x o n (a x o n h)
theorem Fr.upd {p : Addr} {H H1 : Hp} {o : HO} (a : Fr p H H1) : Fr p H (upd H1 p o) := fun x u n h => by rw [upd_ne n]; exact a x u n h
theorem PenAt.ext {H H1 : Hp} {p : Addr} {k : Nat} (h : PenAt H p k) (e : Ex H H1) : PenAt H1 p k := by
  obtain ⟨c, t, l, ns, a, b, r⟩ := h
  exact ⟨c, t, l, ns, e _ _ a, e _ _ b, r⟩
theorem PenAt.less {H : Hp} {p : Addr} {k m : Nat} (h : PenAt H p k) (e : m ≤ k) : PenAt H p m := by
  obtain ⟨c, t, l, ns, a, b, n, z, t0, tk, l0⟩ := h
  exact ⟨c, t, l, ns, a, b, n, z, t0, by omega, l0⟩
/-- _law_pen -/
def spPen (K : PySem.W.Frag) : Sp := fun vs H Q _ => ∃ (s : Addr) (ns : List Int), vs = [.ref s] ∧ SqL K H s (ns.map V.int) ∧ ∀ p H1, H p = none → Ex H H1 → PenAt H1 p (2 ^ 40) → Q (.ref p) H1
/-- _law_draw -/
def spDraw : Sp := fun vs H Q _ => ∃ (p : Addr) (n : Int) (k : Nat), vs = [.ref p, .int n] ∧ 0 < n ∧ n < 2 ^ 100 ∧ PenAt H p (k + 1) ∧ ∀ r H1, 0 ≤ r → r < n → Fr p H H1 → PenAt H1 p k → Q (.int r) H1
/-- _law_pick, out of a list, out of a text -/
def spPickL : Sp := fun vs H Q _ => ∃ (p a : Addr) (xs : List V) (k : Nat), vs = [.ref p, .ref a] ∧ H a = some (.lst xs) ∧ a ≠ p ∧ xs ≠ [] ∧ xs.length ≤ 1000 ∧ PenAt H p (k + 1) ∧ ∀ x H1, x ∈ xs → Fr p H H1 → PenAt H1 p k → Q x H1
def spPickS : Sp := fun vs H Q _ => ∃ (p : Addr) (z : Str) (k : Nat), vs = [.ref p, .str z] ∧ z.length ≠ 0 ∧ z.length ≤ 1000 ∧ PenAt H p (k + 1) ∧ ∀ c H1, c ∈ tl z → Fr p H H1 → PenAt H1 p k → Q (.str ⟨#[c]⟩) H1
section
variable {P : Program} {w : World} {K : PySem.W.Frag} {mg : Str → Option Value} {base : Heap}
theorem scPen : FnScope ["_law_script", "_law_cell"] ["_law_script"] (defScope sPen) := ⟨rfl, rfl, rfl, by decide +kernel, rfl, by decide +kernel, by decide +kernel⟩
theorem cut_ints (ns : List Int) (lo hi : Option Int) : ∃ ms : List Int, cutV (ns.map V.int) lo hi = ms.map V.int := ⟨(ns.drop (HT.sIx (ns.map V.int).length 0 lo)).take (HT.sIx (ns.map V.int).length (ns.map V.int).length hi - HT.sIx (ns.map V.int).length 0 lo), by
  unfold cutV
  rw [List.map_take, List.map_drop]⟩
theorem ret_lst_c {tl : TE} {tr : TA} {D : Ends} {σ : L2.St} {H : Hp} (h : tl σ H fun x H1 => tr σ H1 fun vs H2 => (x :: vs).length ≤ sizeLine ∧ ∀ p, H2 p = none → D.rt (.ref p) (upd H2 p (.lst (x :: vs)))) : tRet (tLst (tCons tl tr)) D σ H := h
theorem ok_pen {f : Addr} {fd : FuncData} (F : Fun K "_law_pen" "_law_pen" sPen f fd) (B : Bi mg) : FnOk P w K mg base CX0 1 f fd ["_law_script"] (spPen K) := by
  refine F.ok scPen (fun vs H Q E h => ?_) (fun cdv A outer s H vs Q E hr h => ?_)
  · obtain ⟨x, _, rfl, _⟩ := h
    rfl
  · obtain ⟨x, ns, rfl, hx, kq⟩ := h
    have nd := scPen.nd
    refine ⟨_, (pss_one (ps_ret (pe_lst (pa_cons (pe_lc (own := [("_law_cell", 1)]) (g := gName 1) (by rfl) nd (pi_list (pe_slice sl_list (pv 0) po_none (po_some pe_int))) (blkOk_by (own := [("_law_cell", 1)]) (N := ["_law_script", "_law_cell"]) (sc := defScope sPen) (by decide +kernel)) (fun _ _ _ _ _ => pg_name (i := 1) nd rfl (Or.inl rfl)) (fun _ _ _ _ _ => pts_nil) (fun _ _ _ _ _ => (pe_callTy call_intI (by rfl) B.n_int (by decide +kernel) (pa_cons (pv 1) pa_nil)))) (pa_cons pe_int (pa_cons pe_int pa_nil)))))), ?_⟩
    obtain ⟨ms, hms⟩ := cut_ints ns none (some 63)
    have hl : ms.length ≤ 63 := by
      have h1 := congrArg List.length hms
      rw [List.length_map] at h1
      rw [← h1]
      unfold cutV
      have h2 : HT.sIx (ns.map V.int).length (ns.map V.int).length (some ((63 : Nat) : Int)) ≤ 63 := by rw [HT.sIx_nat]; omega
      have h3 : HT.sIx (ns.map V.int).length (ns.map V.int).length (some 63) ≤ 63 := h2
      rw [List.length_take]
      omega
    have esl : EvL (tSl (rSlL K) (tVar 0) tNoPart (tPart (tC (.int 63)))) (L2.start ["_law_script", "_law_cell"] [V.ref x]) H (ms.map V.int) := by
      rw [← hms]
      exact el_sl (ev_var rfl) eo_none (eo_some ev_c) hx
    have el := el_lcN (K := K) (te := tCB rInt1 (tCons (tVar 1) tNil)) (j := 1) (vs := [1]) (ms.map V.int) esl rfl (by rw [List.length_map]; omega) (fun _ => rfl) (fun i a b h1 h2 H1 e => by
      rw [h1] at h2
      cases h2
      rw [List.getElem?_map] at h1
      cases h3 : ms[i]? with
      | none => rw [h3] at h1; cases h1
      | some j =>
        rw [h3] at h1
        cases h1
        exact ev_cb (ea_cons (ev_var rfl) ea_nil) rc_int)
    refine ret_lst_c (el H (Ex.refl H) _ fun c H1 hc e1 h1 => ⟨sz (by show 3 ≤ 1000000; decide), fun p hp => ?_⟩)
    have nc : c ≠ p := fun z => by rw [z, hp] at h1; cases h1
    refine kq p _ (fresh_back e1 hp) (e1.trans (Ex.new hp)) ⟨c, 0, 0, ms, upd_same, ?_, nc, hl, by decide, by decide, by decide⟩
    rw [upd_ne nc]
    exact h1
theorem mulWb {i j : Int} {a b : Nat} (hi : i.natAbs < 2 ^ a) (hj : j.natAbs < 2 ^ b) (h : 0 < a ∧ 0 < b ∧ a + b ≤ 100000) : CMulW i j := by
  have h1 := PySem.Flt.log2_lt_of h.1 hi
  have h2 := PySem.Flt.log2_lt_of h.2.1 hj
  unfold CMulW
  omega
theorem mulW40 {i j : Int} (hi : i.natAbs < 2 ^ 40) (h0 : 0 ≤ j) (h1 : j < 2 ^ 40) : CMulW i j := mulWb hi (b := 40) (by omega) (by decide)
theorem scDraw : FnScope ["_law_pen_here", "_law_many", "_law_left", "_law_turn", "_law_cell", "_law_mixed"] ["_law_pen_here", "_law_many"] (defScope sDraw) := ⟨rfl, rfl, rfl, by decide +kernel, rfl, by decide +kernel, by decide +kernel⟩
theorem nb_ints {H : Hp} : ∀ ns : List Int, DpAll K H (ns.map V.int) (ns.map PyData.int)
  | [] => .nil
  | n :: r => .cons (.int n) (nb_ints r)
theorem eqv_nil (ns : List Int) : PyData.eqv (.list (ns.map PyData.int)) (.list []) = decide (ns = []) := by
  cases ns <;> simp [PyData.eqv, PyData.eqvAll]
/-- pen[i], the pen known -/
theorem ev_pen {H : Hp} {p c : Addr} {t l : Int} {σ : L2.St} {i : Nat} {v : V} (s0 : σ[0]? = some (some (.ref p))) (hp : H p = some (.lst [.ref c, .int t, .int l])) (hv : ([.ref c, .int t, .int l] : List V)[i]? = some v) : Ev (tOp (rIxL K) (tVar 0) (tC (.int (i : Int)))) σ H v := ev_op (ev_var s0) ev_c (rv_ixL (sq_of hp) (atI_nat hv))
theorem ok_draw {f : Addr} {fd : FuncData} (F : Fun K "_law_draw" "_law_draw" sDraw f fd) (B : Bi mg) : FnOk P w K mg base CX0 1 f fd ["_law_pen_here", "_law_many"] spDraw := by
  refine F.ok scDraw (fun vs H Q E h => ?_) (fun cdv A outer s H vs Q E hr h => ?_)
  · obtain ⟨p, n, k, rfl, _⟩ := h
    rfl
  · obtain ⟨p, n, k, rfl, n0, nb, ⟨c, t, l, ns, hp, hc, ne, hn, t0, tk, l0⟩, kq⟩ := h
    have nd := scDraw.nd
    refine ⟨_, (pss_cons (ps_if (pt_cmpR op_gt (pe_ix ix_list (pv 0) pe_int (fun _ _ => rfl)) pe_int (nomark _))
(pss_cons (ps_set (i := 2) nd rfl (Or.inl rfl) (pe_ix ix_list (pv 0) pe_int (fun _ _ => rfl)))
(pss_cons (ps_asg (pe_op op_fdivZ (pe_callTy call_intI (by rfl) B.n_int (by decide +kernel) (pa_cons (pv 2) pa_nil)) (pv 1)) (pg_sub (pv 0) pe_int set_list))
(pss_one (ps_ret (pe_op op_mod (pe_callTy call_intI (by rfl) B.n_int (by decide +kernel) (pa_cons (pv 2) pa_nil)) (pv 1))))))
pss_nil)
(pss_cons (ps_set (i := 3) nd rfl (Or.inl rfl) (pe_ix ix_list (pv 0) pe_int (fun _ _ => rfl)))
(pss_cons (ps_asg (pe_op op_add (pv 3) pe_int) (pg_sub (pv 0) pe_int set_list))
(pss_cons (ps_set (i := 4) nd rfl (Or.inl rfl) (pe_op op_add (pe_op op_mulW pe_int (pv 3)) pe_int))
(pss_cons (ps_if (pt_cmpR (op_neD hr.units) (pe_ix ix_list (pv 0) pe_int (fun _ _ => rfl)) (pe_lst pa_nil) (nomark _))
(pss_one (ps_set (i := 4) nd rfl (Or.inl rfl) (pe_ix ix_list (pe_ix ix_list (pv 0) pe_int (fun _ _ => rfl)) (pe_op op_mod (pe_callTy call_intI (by rfl) B.n_int (by decide +kernel) (pa_cons (pv 3) pa_nil)) (pe_callB call_lenL (by rfl) B.n_len (by decide +kernel) (pa_cons (pe_ix ix_list (pv 0) pe_int (fun _ _ => rfl)) pa_nil))) (fun _ _ => rfl))))
pss_nil)
(pss_cons (ps_if (PW.pt (pw_and (pt_cmpR op_lt (pv 3) (pe_callB call_lenL (by rfl) B.n_len (by decide +kernel) (pa_cons (pe_ix ix_list (pv 0) pe_int (fun _ _ => rfl)) pa_nil)) (nomark _)) (pw_and1 (pt_cmpR op_ge (pe_callB call_absI (by rfl) B.n_abs (by decide +kernel) (pa_cons (pv 4) pa_nil)) (pe_op op_powW pe_int pe_int) (nomark _)))))
(pss_cons (ps_set (i := 2) nd rfl (Or.inl rfl) (pe_op op_sub (pe_callB call_absI (by rfl) B.n_abs (by decide +kernel) (pa_cons (pv 4) pa_nil)) (pe_op op_powW pe_int pe_int)))
(pss_cons (ps_asg (pe_op op_fdivZ (pe_callTy call_intI (by rfl) B.n_int (by decide +kernel) (pa_cons (pv 2) pa_nil)) (pv 1)) (pg_sub (pv 0) pe_int set_list))
(pss_one (ps_ret (pe_op op_mod (pe_callTy call_intI (by rfl) B.n_int (by decide +kernel) (pa_cons (pv 2) pa_nil)) (pv 1))))))
pss_nil)
(pss_cons (ps_set (i := 5) nd rfl (Or.inl rfl) (pe_op op_mod (pe_callTy call_intI (by rfl) B.n_int (by decide +kernel) (pa_cons (pe_op op_powW (pe_op op_add (pe_op op_add (pe_op op_mod (pe_callTy call_intI (by rfl) B.n_int (by decide +kernel) (pa_cons (pv 4) pa_nil)) pe_int) (pe_op op_mulW pe_int (pv 3))) pe_int) pe_int) pa_nil)) pe_int))
(pss_cons (ps_set (i := 5) nd rfl (Or.inl rfl) (pe_op op_mod (pe_callTy call_intI (by rfl) B.n_int (by decide +kernel) (pa_cons (pe_op op_powW (pe_op op_add (pe_op op_add (pe_op op_mulW (pv 5) (pe_op op_add (pe_op op_mulW pe_int (pv 3)) pe_int)) (pe_op op_mulW (pe_op op_mulW pe_int (pv 3)) (pv 3))) pe_int) pe_int) pa_nil)) pe_int))
(pss_one (ps_ret (pe_op op_mod (pe_callTy call_intI (by rfl) B.n_int (by decide +kernel) (pa_cons (pe_op op_fdivZ (pv 5) pe_int) pa_nil)) (pv 1)))))))))))), ?_⟩
    have dn : ∀ i : Int, CDivZ i n := fun i => divZ (a := 100) (by omega) (by omega) (by decide) (by decide)
    have pick : ∀ (σ : L2.St) (H1 : Hp) (t1 l1 : Int), σ[0]? = some (some (.ref p)) → σ[1]? = some (some (.int n)) → σ[2]? = some (some (.int l1)) → Fr p H H1 → H1 p = some (.lst [.ref c, .int t1, .int l]) → 0 ≤ t1 → t1 + (k : Int) ≤ 2 ^ 40 → 0 ≤ l1 →
        tSeq (tAsg (tOp (rI CDivZ fun i j => V.int (i.fdiv j)) (tCB rInt1 (tCons (tVar 2) tNil)) (tVar 1)) (gSub (tVar 0) (tC (.int 2)) rSetL)) (tRet (tOp (rI (fun _ j => 0 < j) fun i j => V.int (i % j)) (tCB rInt1 (tCons (tVar 2) tNil)) (tVar 1))) { nx := fun _ G => Q .non G, rt := Q } σ H1 := fun σ H1 t1 l1 s0 s1 s2 fr h1 t10 t1k l10 => by
      refine q_setL (j := 2) h1 (ev_op (ev_cb (ea_cons (ev_var s2) ea_nil) rc_int) (ev_var s1) (rv_I (dn l1))) (ev_var s0) ev_c (by show 2 < 3; decide) fun H2 e2 => ?_
      refine s_ret (ev_op (ev_cb (ea_cons (ev_var s2) ea_nil) rc_int) (ev_var s1) (rv_I n0)) fun H3 e3 => ?_
      refine kq _ H3 (Int.emod_nonneg _ (by omega)) (Int.emod_lt_of_pos _ n0) ((fr.trans (Fr.of e2)).upd.trans (Fr.of e3)) ⟨c, t1, l1.fdiv n, ns, e3 _ _ upd_same, e3 _ _ ?_, ne, hn, t10, t1k, Int.fdiv_nonneg l10 (by omega)⟩
      rw [upd_ne ne]
      exact e2 _ _ (fr _ _ ne hc)
    refine q_when (b := decide (l > 0)) (et_test (ev_op (ev_pen (i := 2) rfl hp rfl) ev_c rv_I0)) (fun c1 H1 e1 => ?_) (fun c1 H1 e1 => ?_)
    · refine q_asg (ev_pen (i := 2) rfl (e1 _ _ hp) rfl) fun H2 e2 => ?_
      exact pick _ H2 t l rfl rfl rfl (Fr.of (e1.trans e2)) (e2 _ _ (e1 _ _ hp)) t0 (by omega) l0
    · refine q_asg (ev_pen (i := 1) rfl (e1 _ _ hp) rfl) fun H2 e2 => ?_
      refine q_setL (j := 1) (e2 _ _ (e1 _ _ hp)) (ev_op (ev_var rfl) ev_c rv_I0) (ev_var rfl) ev_c (by show 1 < 3; decide) fun H3 e3 => ?_
      obtain ⟨Hx, hHx⟩ : ∃ Hx, Hx = upd H3 p (.lst (([.ref c, .int t, .int l] : List V).set 1 (.int (t + 1)))) := ⟨_, rfl⟩
      rw [← hHx]
      have fx : Fr p H Hx := by rw [hHx]; exact (Fr.of ((e1.trans e2).trans e3)).upd
      have hpx : Hx p = some (.lst [.ref c, .int (t + 1), .int l]) := by rw [hHx]; exact upd_same
      have hcx : Hx c = some (.lst (ns.map V.int)) := fx _ _ ne hc
      have t1 : t < 2 ^ 40 := by omega
      refine q_asg (ev_op (ev_op ev_c (ev_var rfl) (rv_I (mulW40 (by decide) t0 t1))) ev_c rv_I0) fun H4 e4 => ?_
      have dl : 0 ≤ t % (ns.length : Int) := by
        by_cases z : ns.length = 0
        · rw [z]; show 0 ≤ t % 0; rw [Int.emod_zero]; exact t0
        · exact Int.emod_nonneg _ (by omega)
      obtain ⟨u, hu1, hu2⟩ : ∃ u : Int, (ns ≠ [] → (ns.map V.int)[(t % (ns.length : Int)).toNat]? = some (.int u)) ∧ (ns = [] → u = 61027 * t + 977) := by
        by_cases z : ns = []
        · exact ⟨_, fun w => (w z).elim, fun _ => rfl⟩
        · have h1 : 0 < ns.length := List.length_pos_iff.mpr z
          have h2 : (t % (ns.length : Int)).toNat < ns.length := by
            have := Int.emod_lt_of_pos t (b := (ns.length : Int)) (by omega)
            omega
          exact ⟨ns[(t % (ns.length : Int)).toNat]'h2, fun _ => by rw [List.getElem?_map, List.getElem?_eq_getElem h2]; rfl, fun w => (z w).elim⟩
      refine q_ifAsg (v := .int u) (b := !decide (ns = [])) (et_test fun H5 e5 Q5 q5 => ?_) (fun b5 => ?_) (fun b5 => ?_) fun H6 e6 => ?_
      · refine ev_pen (i := 0) rfl (e4 _ _ hpx) rfl H5 e5 _ fun H6 e6 => ⟨(by decide), fun q hq => ?_⟩
        have nq : Ex H6 (upd H6 q (.lst [])) := Ex.new hq
        refine ⟨.list (ns.map PyData.int), .list [], .lst (sq_of (nq _ _ (e6 _ _ (e5 _ _ (e4 _ _ hcx))))) (nb_ints ns), .lst (sq_of upd_same) .nil, PySem.W.shaped_ints ns, PySem.W.shaped_ints [], ?_⟩
        rw [eqv_nil]
        exact q5 _ (e6.trans nq)
      · have z : ns ≠ [] := fun w => by rw [decide_eq_true w] at b5; cases b5
        refine ev_op (ev_pen (i := 0) rfl (e4 _ _ hpx) rfl) (ev_op (ev_cb (ea_cons (ev_var rfl) ea_nil) rc_int) (ev_len (ev_pen (i := 0) rfl (e4 _ _ hpx) rfl) (sq_of (e4 _ _ hcx))) (rv_I ?_)) (rv_ixL (sq_of (e4 _ _ hcx)) ?_)
        · rw [List.length_map]
          have : 0 < ns.length := List.length_pos_iff.mpr z
          show (0 : Int) < (ns.length : Int)
          omega
        · rw [List.length_map, ← Int.toNat_of_nonneg dl]
          exact atI_nat (hu1 z)
      · have z : ns = [] := by
          by_cases z : ns = []
          · exact z
          · rw [decide_eq_false z] at b5; cases b5
        rw [hu2 z]
        rfl
      · have e46 := e4.trans e6
        have hp6 := e46 _ _ hpx
        have hc6 := e46 _ _ hcx
        refine q_when (et_and (et_test (ev_op (ev_var rfl) (ev_len (ev_pen (i := 0) rfl hp6 rfl) (sq_of hc6)) rv_I0)) fun _ => et_test (ev_op (ev_cb (ea_cons (ev_var rfl) ea_nil) rc_abs) (ev_op ev_c ev_c (rv_I ⟨by decide, by decide, by decide⟩)) rv_I0)) (fun b H7 e7 => ?_) (fun b H7 e7 => ?_)
        · have b2 := of_decide_eq_true (Bool.and_eq_true_iff.mp b).2
          refine q_asg (ev_op (ev_cb (ea_cons (ev_var rfl) ea_nil) rc_abs) (ev_op ev_c ev_c (rv_I ⟨by decide, by decide, by decide⟩)) rv_I0) fun H8 e8 => ?_
          exact pick _ H8 (t + 1) _ rfl rfl rfl (fx.trans (Fr.of ((e46.trans e7).trans e8))) (e8 _ _ (e7 _ _ hp6)) (by omega) (by omega) (by omega)
        · have a1 : 0 ≤ u % 2147483549 ∧ u % 2147483549 < 2147483549 := ⟨Int.emod_nonneg _ (by decide), Int.emod_lt_of_pos _ (by decide)⟩
          refine q_asg (ev_op (ev_cb (ea_cons (ev_op (ev_op (ev_op (ev_op (ev_cb (ea_cons (ev_var rfl) ea_nil) rc_int) ev_c (rv_I (by decide : (0 : Int) < 2147483549))) (ev_op ev_c (ev_var rfl) (rv_I (mulW40 (by decide) t0 t1))) rv_I0) ev_c rv_I0) ev_c (rv_I ⟨by decide, by decide, by omega⟩)) ea_nil) rc_int) ev_c (rv_I (by decide : (0 : Int) < 2147483647))) fun H8 e8 => ?_
          obtain ⟨m, hm⟩ : ∃ m : Int, m = (u % 2147483549 + 70313 * t + 977) ^ (5 : Int).toNat % 2147483647 := ⟨_, rfl⟩
          rw [← hm]
          have m0 : 0 ≤ m ∧ m < 2147483647 := by rw [hm]; exact ⟨Int.emod_nonneg _ (by decide), Int.emod_lt_of_pos _ (by decide)⟩
          have w1 : 0 ≤ m * (2 * t + 1511) ∧ m * (2 * t + 1511) ≤ 2147483647 * (2 * 2 ^ 40 + 1511) := ⟨Int.mul_nonneg m0.1 (by omega), Int.mul_le_mul (by omega) (by omega) (by omega) (by decide)⟩
          have w2 : 0 ≤ 61027 * t * t ∧ 61027 * t * t ≤ (61027 * 2 ^ 40) * 2 ^ 40 := ⟨Int.mul_nonneg (by omega) t0, Int.mul_le_mul (by omega) (by omega) t0 (by decide)⟩
          refine q_asg (ev_op (ev_cb (ea_cons (ev_op (ev_op (ev_op (ev_op (ev_var rfl) (ev_op (ev_op ev_c (ev_var rfl) (rv_I (mulW40 (by decide) t0 t1))) ev_c rv_I0) (rv_I (mulWb (a := 31) (b := 50) (by omega) (by omega) (by decide)))) (ev_op (ev_op ev_c (ev_var rfl) (rv_I (mulW40 (by decide) t0 t1))) (ev_var rfl) (rv_I (mulWb (a := 60) (b := 50) (by omega) (by omega) (by decide)))) rv_I0) ev_c rv_I0) ev_c (rv_I ⟨by decide, by decide, by omega⟩)) ea_nil) rc_int) ev_c (rv_I (by decide : (0 : Int) < 2147483579))) fun H9 e9 => ?_
          refine s_ret (ev_op (ev_cb (ea_cons (ev_op (ev_var rfl) ev_c (rv_I ⟨by decide, by decide⟩)) ea_nil) rc_int) (ev_var rfl) (rv_I n0)) fun H10 e10 => ?_
          have ee := (((e46.trans e7).trans e8).trans e9).trans e10
          exact kq _ H10 (Int.emod_nonneg _ (by omega)) (Int.emod_lt_of_pos _ n0) (fx.trans (Fr.of ee)) ⟨c, t + 1, l, ns, ee _ _ hpx, ee _ _ hcx, ne, hn, by omega, by omega, l0⟩
theorem scPick : FnScope ["_law_pen_here", "_law_some"] ["_law_pen_here", "_law_some"] (defScope sPick) := ⟨rfl, rfl, rfl, by decide +kernel, rfl, by decide +kernel, by decide +kernel⟩
/-- a draw, called -/
theorem ok_pickL {f fD : Addr} {fd fdD : FuncData} (F : Fun K "_law_pick" "_law_pick" sPick f fd) (B : Bi mg) (G_draw : FnOk P w K mg base CX0 1 fD fdD ["_law_pen_here", "_law_many"] spDraw) (b_draw : Binds K fdD ["_law_pen_here", "_law_many"] []) (d_draw : Df K mg "_law_draw" fD) :
    FnOk P w K mg base CX0 2 f fd ["_law_pen_here", "_law_some"] spPickL := by
  refine F.ok scPick (fun vs H Q E h => ?_) (fun cdv A outer s H vs Q E hr h => ?_)
  · obtain ⟨p, a, xs, k, rfl, _⟩ := h
    rfl
  · obtain ⟨p, a, xs, k, rfl, ha, ne, hx, hz, hp, kq⟩ := h
    refine ⟨_, (pss_one (ps_ret (pe_ix ix_list (pv 1) (pe_cs (calls_fn G_draw (hr.mono (by decide)) b_draw .nil pass0) d_draw.1 d_draw.2 (pa_cons (pv 0) (pa_cons (pe_callB call_lenL (by rfl) B.n_len (by decide +kernel) (pa_cons (pv 1) pa_nil)) pa_nil))) (fun _ _ => rfl)))), ?_⟩
    have h0 : 0 < xs.length := List.length_pos_iff.mpr hx
    refine ⟨_, rfl, _, rfl, _, rfl, a, xs, rfl, Or.inl (sq_of ha), p, _, k, rfl, (by omega), ?_, hp, fun r H1 r0 r1 fr hp1 => ?_⟩
    · exact Int.lt_of_le_of_lt (b := 1000) (by omega) (by decide)
    · obtain ⟨j, rfl⟩ := Int.eq_ofNat_of_zero_le r0
      have hj : j < xs.length := by omega
      exact ⟨a, xs, _, _, rfl, rfl, sq_of (fr a _ ne ha), atI_nat (List.getElem?_eq_getElem hj), kq _ _ (List.getElem_mem hj) fr hp1⟩
theorem ok_pickS {f fD : Addr} {fd fdD : FuncData} (F : Fun K "_law_pick" "_law_pick" sPick f fd) (B : Bi mg) (G_draw : FnOk P w K mg base CX0 1 fD fdD ["_law_pen_here", "_law_many"] spDraw) (b_draw : Binds K fdD ["_law_pen_here", "_law_many"] []) (d_draw : Df K mg "_law_draw" fD) :
    FnOk P w K mg base CX0 2 f fd ["_law_pen_here", "_law_some"] spPickS := by
  refine F.ok scPick (fun vs H Q E h => ?_) (fun cdv A outer s H vs Q E hr h => ?_)
  · obtain ⟨p, z, k, rfl, _⟩ := h
    rfl
  · obtain ⟨p, z, k, rfl, hx, hz, hp, kq⟩ := h
    refine ⟨_, (pss_one (ps_ret (pe_ix ix_str (pv 1) (pe_cs (calls_fn G_draw (hr.mono (by decide)) b_draw .nil pass0) d_draw.1 d_draw.2 (pa_cons (pv 0) (pa_cons (pe_callB call_lenT (by rfl) B.n_len (by decide +kernel) (pa_cons (pv 1) pa_nil)) pa_nil))) (fun _ _ => rfl)))), ?_⟩
    refine ⟨_, rfl, _, rfl, _, rfl, z, rfl, sz (by omega), p, _, k, rfl, (by omega), ?_, hp, fun r H1 r0 r1 fr hp1 => ?_⟩
    · exact Int.lt_of_le_of_lt (b := 1000) (by omega) (by decide)
    · obtain ⟨j, rfl⟩ := Int.eq_ofNat_of_zero_le r0
      have hj : j < z.cps.toList.length := by
        have : z.length = z.cps.toList.length := Array.length_toList.symm
        omega
      exact ⟨z, _, _, rfl, rfl, sz (by omega), atI_nat (List.getElem?_eq_getElem hj), kq _ _ (List.getElem_mem hj) fr hp1⟩
end
end K01
end

section -- K01n
set_option linter.all false
set_option exponentiation.threshold 9000
set_option maxRecDepth 100000
set_option maxHeartbeats 4000000
namespace K01
open PySem PySem.Spec L2 Pk Evl
open PyProof.Rows hiding St
abbrev sInteger : Stmt := top 25
abbrev sLow : Stmt := top 26
/-! ### the lowest form, by turns -/
def spLow (K : PySem.W.Frag) : Sp := fun vs H Q _ => ∃ n d : Int, vs = [.int n, .int d] ∧ d ≠ 0 ∧ d.natAbs < 2 ^ 640 ∧ ∀ q H1, H q = none → Ex H H1 → H1 q = some (.tup [.int (lowp n d).1, .int (lowp n d).2]) → Q (.ref q) H1
/-- where the turns are -/
def Tn (g i x y : Nat) : Prop := Nat.gcd x y = g ∧ ((i = 0 ∧ y < 2 ^ 640) ∨ ∃ j, i = j + 1 ∧ y < x ∧ x * y * 2 ^ j ≤ 2 ^ 1280)
theorem mod_half {x y : Nat} (hy : 0 < y) (h : y ≤ x) : 2 * (x % y) ≤ x := by
  have h1 := Nat.mod_lt x hy
  have h2 := Nat.mod_add_div x y
  have h3 : 1 ≤ x / y := (Nat.one_le_div_iff hy).mpr h
  have h4 : y * 1 ≤ y * (x / y) := Nat.mul_le_mul_left y h3
  omega
theorem Tn.step {g i x y : Nat} (h : Tn g i x y) (hy : 0 < y) : Tn g (i + 1) y (x % y) := by
  obtain ⟨hg, h⟩ := h
  refine ⟨?_, .inr ⟨i, rfl, Nat.mod_lt x hy, ?_⟩⟩
  · rw [← hg, Nat.gcd_comm x y, Nat.gcd_rec y x, Nat.gcd_comm]
  · rcases h with ⟨rfl, hy2⟩ | ⟨j, rfl, hl, hb⟩
    · have h1 := Nat.mod_lt x hy
      have h2 : y * (x % y) ≤ 2 ^ 640 * 2 ^ 640 := Nat.mul_le_mul (by omega) (by omega)
      rw [Nat.pow_zero, Nat.mul_one]
      rw [← Nat.pow_add] at h2
      exact h2
    · have h1 := mod_half hy (Nat.le_of_lt hl)
      have h2 : y * (x % y) * 2 ^ (j + 1) = y * (2 * (x % y)) * 2 ^ j := by rw [Nat.pow_succ]; simp only [Nat.mul_assoc, Nat.mul_comm, Nat.mul_left_comm]
      rw [h2]
      refine Nat.le_trans (Nat.mul_le_mul_right _ (Nat.mul_le_mul_left y h1)) ?_
      rw [Nat.mul_comm y x]
      exact hb
theorem Tn.last {g x y : Nat} (h : Tn g 1300 x y) : y = 0 := by
  obtain ⟨_, h⟩ := h
  rcases h with ⟨h0, _⟩ | ⟨j, hj, hl, hb⟩
  · cases h0
  · have e : j = 1299 := by omega
    subst e
    by_cases hy : y = 0
    · exact hy
    · have h1 : 1 ≤ x * y := Nat.mul_pos (by omega) (by omega)
      have h2 : 1 * 2 ^ 1299 ≤ x * y * 2 ^ 1299 := Nat.mul_le_mul_right _ h1
      have h3 : (2 : Nat) ^ 1280 < 2 ^ 1299 := Nat.pow_lt_pow_right (by decide) (by decide)
      rw [Nat.one_mul] at h2
      exact absurd (Nat.le_trans h2 hb) (Nat.not_le.mpr h3)
theorem s_par {i j : Nat} {ta : TA} {σ : L2.St} {H : Hp} {v u : V} {D : Ends} (h : EvA ta σ H [v, u]) (k : ∀ H1, Ex H H1 → D.nx ((σ.set i (some v)).set j (some u)) H1) : tPar i j ta D σ H := h H (Ex.refl H) _ fun H1 e => ⟨v, u, rfl, k H1 e⟩
section
variable {P : Program} {w : World} {K : PySem.W.Frag} {mg : Str → Option Value} {base : Heap}
theorem sc_low : FnScope ["_law_top", "_law_bottom", "_law_one", "_law_other", "_law_turn"] ["_law_top", "_law_bottom"] (defScope sLow) := ⟨rfl, rfl, rfl, by decide +kernel, rfl, by decide +kernel, by decide +kernel⟩
theorem abs_nat (a : Int) : (if a < 0 then -a else a) = ((a.natAbs : Nat) : Int) := by split <;> omega
theorem ok_low {f : Addr} {fd : FuncData} (F : Fun K "_law_low" "_law_low" sLow f fd) (B : Bi mg) : FnOk P w K mg base CX0 1 f fd ["_law_top", "_law_bottom"] (spLow K) := by
  refine F.ok sc_low (fun vs H Q E h => ?_) (fun cdv A outer s H vs Q E hr h => ?_)
  · obtain ⟨a, b, rfl, _⟩ := h
    rfl
  · obtain ⟨a, b, rfl, b0, hb, kq⟩ := h
    have nd := sc_low.nd
    refine ⟨_, (pss_cons (ps_par (i := 2) (j := 3) (by rfl) nd rfl rfl (by decide) rfl rfl (pa_cons (pe_callB call_absI (by rfl) B.n_abs (by decide +kernel) (pa_cons (pv 0) pa_nil)) (pa_cons (pe_callB call_absI (by rfl) B.n_abs (by decide +kernel) (pa_cons (pv 1) pa_nil)) pa_nil)) (by rfl))
(pss_cons (ps_for PassesOwn.never rfl (pi_range1 (by rfl) B.n_range (pa_cons pe_int pa_nil)) (pg_name (i := 4) nd rfl (Or.inl rfl))
(pss_cons (ps_if (pt_cmpR op_eq (pv 3) pe_int (nomark _))
(pss_one ps_break)
pss_nil)
(pss_one (ps_par (i := 2) (j := 3) (by rfl) nd rfl rfl (by decide) rfl rfl (pa_cons (pv 3) (pa_cons (pe_op op_mod (pe_callTy call_intI (by rfl) B.n_int (by decide +kernel) (pa_cons (pv 2) pa_nil)) (pv 3)) pa_nil)) (by rfl)))))
(pss_cons (ps_set (i := 2) nd rfl (Or.inl rfl) (pe_ifExp (pt_cmpR op_lt (pv 1) pe_int (nomark _)) (pe_un un_neg (pv 2)) (pv 2)))
(pss_one (ps_ret (pe_tup (pa_cons (pe_op op_fdivZ (pv 0) (pv 2)) (pa_cons (pe_op op_fdivZ (pv 1) (pv 2)) pa_nil)))))))), ?_⟩
    obtain ⟨g, hg⟩ : ∃ g, g = Nat.gcd a.natAbs b.natAbs := ⟨_, rfl⟩
    -- what is done when the other one is 0
    have fin : ∀ (H2 : Hp) (o : Option V), Ex H H2 → tSeq (tAsg (tIf (tTest (tOp (rI0 fun i j => V.bl (decide (i < j))) (tVar 1) (tC (.int 0)))) (tUn (rU fun i => V.int (-i)) (tVar 2)) (tVar 2)) (gName 2)) (tRet (tTup (tCons (tOp (rI CDivZ fun i j => V.int (i.fdiv j)) (tVar 0) (tVar 2)) (tCons (tOp (rI CDivZ fun i j => V.int (i.fdiv j)) (tVar 1) (tVar 2)) tNil)))) { nx := fun _ G => Q .non G, rt := Q }
        [some (.int a), some (.int b), some (.int (g : Int)), some (.int 0), o] H2 := fun H2 o e2 => by
      have sgl : (sg a b).natAbs < 2 ^ 8000 := by
        rw [sg_abs]
        exact Nat.lt_of_le_of_lt (Nat.gcd_le_right _ (by omega)) (Nat.lt_of_lt_of_le hb (Nat.pow_le_pow_right (by decide) (by decide)))
      have cd : ∀ i, CDivZ i (sg a b) := fun i => divZ (sg_ne b0) sgl (by decide) (by decide)
      refine q_asg (v := .int (sg a b)) (ev_if (b := decide (b < 0)) (et_test (ev_op (ev_var rfl) ev_c rv_I0)) (fun c => ?_) (fun c => ?_)) fun H3 e3 => ?_
      · have c' := of_decide_eq_true c
        refine ev_is (ev_un (ev_var rfl) ru_neg) ?_
        unfold sg
        rw [if_pos c', ← hg]
      · have c' := of_decide_eq_false c
        refine ev_is (ev_var rfl) ?_
        unfold sg
        rw [if_neg c', ← hg]
      · exact s_retU (eu_tup (ea_cons (ev_op (ev_var rfl) (ev_var rfl) (rv_I (cd a))) (ea_cons (ev_op (ev_var rfl) (ev_var rfl) (rv_I (cd b))) ea_nil)) (by show 2 ≤ 100000; decide)) fun q H4 nq e4 hq => kq q H4 (fresh_back (e2.trans e3) nq) ((e2.trans e3).trans e4) hq
    refine q_par (ea_cons (ev_cb (ea_cons (ev_var rfl) ea_nil) rc_abs) (ea_cons (ev_cb (ea_cons (ev_var rfl) ea_nil) rc_abs) ea_nil)) fun H1 e1 => ?_
    rw [abs_nat, abs_nat]
    refine q_forR1 (ea_cons ev_c ea_nil) (by decide) (fun i σ H2 => ∃ (x y : Nat) (o : Option V), σ = [some (.int a), some (.int b), some (.int (x : Int)), some (.int (y : Int)), o] ∧ Tn g i x y ∧ Ex H H2) (fun H2 e2 => ⟨_, _, _, rfl, ⟨hg.symm, .inl ⟨rfl, hb⟩⟩, e1.trans e2⟩) (fun i σ H2 hi pv => ?_) fun σ H2 pv => ?_
    · obtain ⟨x, y, o, rfl, T, e2⟩ := pv
      refine q_when (et_test (ev_op (ev_var rfl) ev_c (rv_eq rfl))) (fun c H3 e3 => ?_) (fun c H3 e3 => ?_)
      · have hy : y = 0 := by
          have := V.int.inj (of_decide_eq_true c)
          omega
        subst hy
        have hx : x = g := by rw [← T.1, Nat.gcd_zero_right]
        subst hx
        exact fin H3 _ (e2.trans e3)
      · have hy : 0 < y := by
          have c' := of_decide_eq_false c
          by_cases z : y = 0
          · exact (c' (by rw [z]; rfl)).elim
          · omega
        exact s_par (ea_cons (ev_var rfl) (ea_cons (ev_op (ev_cb (ea_cons (ev_var rfl) ea_nil) rc_int) (ev_var rfl) (rv_I (by show (0 : Int) < (y : Int); omega))) ea_nil)) fun H4 e4 => ⟨y, x % y, _, rfl, T.step hy, (e2.trans e3).trans e4⟩
    · obtain ⟨x, y, o, rfl, T, e2⟩ := pv
      have hy : y = 0 := T.last
      subst hy
      have hx : x = g := by rw [← T.1, Nat.gcd_zero_right]
      subst hx
      exact fin H2 _ e2
end
end K01
end

section -- K01o
set_option linter.all false
set_option exponentiation.threshold 9000
set_option maxRecDepth 100000
set_option maxHeartbeats 4000000
namespace K01
open PySem PySem.Spec L2 Pk Evl
open PyProof.Rows hiding St
theorem pen_ne {H : Hp} {p q : Addr} {k : Nat} (h : PenAt H p k) (hq : H q = none) : q ≠ p := fun z => by
  obtain ⟨c, t, l, ns, a, _⟩ := h
  rw [z, a] at hq
  cases hq
/-- a list of constants and slots, picked from -/
theorem pick_run {p : Addr} {k : Nat} {vs : List V} {σ : L2.St} {H : Hp} {ta : TA} {Q : VK} (s0 : σ[0]? = some (some (.ref p))) (ha : EvA ta σ H vs) (h0 : vs ≠ []) (hz : vs.length ≤ 1000) (hp : PenAt H p (k + 1)) (hq : ∀ x H1, x ∈ vs → Fr p H H1 → PenAt H1 p k → Q x H1) :
    tCS (fun _ vs H Q => spPickL (vs ++ []) H Q E0) (tCons (tVar 0) (tCons (tLst ta) tNil)) σ H Q := ⟨_, s0, ha H (Ex.refl H) _ fun H1 e1 => ⟨sz (by omega), fun q nq => by
  have e2 := e1.trans (Ex.new (o := .lst vs) nq)
  exact ⟨p, q, vs, k, rfl, upd_same, pen_ne (hp.ext e1) nq, h0, hz, hp.ext e2, fun x H2 hx fr h2 => hq x H2 hx ((Fr.of e2).trans fr) h2⟩⟩⟩
/-- a draw below a constant -/
theorem draw_run {p : Addr} {k : Nat} {n : Int} {σ : L2.St} {H : Hp} {Q : VK} (s0 : σ[0]? = some (some (.ref p))) (n0 : 0 < n) (nb : n < 2 ^ 100) (hp : PenAt H p (k + 1)) (hq : ∀ r H1, 0 ≤ r → r < n → Fr p H H1 → PenAt H1 p k → Q (.int r) H1) :
    tCS (fun _ vs H Q => spDraw (vs ++ []) H Q E0) (tCons (tVar 0) (tCons (tC (.int n)) tNil)) σ H Q := ⟨_, s0, p, n, k, rfl, n0, nb, hp, hq⟩
/-- _law_integer -/
def spInteger : Sp := fun vs H Q _ => ∃ (p : Addr) (k : Nat), vs = [.ref p] ∧ PenAt H p (k + 20) ∧ ∀ n H1, n.natAbs < 2 ^ 200 → Fr p H H1 → PenAt H1 p k → Q (.int n) H1
theorem pow5 {i : Nat} (h : i ≤ 12) : (100000 : Int) ^ i < 2 ^ 200 := by
  have h1 : (100000 : Nat) ^ i ≤ 100000 ^ 12 := Nat.pow_le_pow_right (by decide) h
  have h2 : (100000 : Nat) ^ 12 < 2 ^ 200 := by decide +kernel
  have h3 : (100000 : Nat) ^ i < 2 ^ 200 := Nat.lt_of_le_of_lt h1 h2
  have h4 : (((100000 : Nat) ^ i : Nat) : Int) = (100000 : Int) ^ i := Int.natCast_pow 100000 i
  rw [← h4]
  exact Int.lt_of_lt_of_le (Int.ofNat_lt.mpr h3) (by decide +kernel)
theorem step5 {i : Nat} {f r : Int} (f0 : 0 ≤ f) (f1 : f < 100000 ^ i) (r0 : 0 ≤ r) (r1 : r < 100000) : 0 ≤ f * 100000 + r ∧ f * 100000 + r < 100000 ^ (i + 1) := by
  rw [Int.pow_succ]
  omega
section
variable {P : Program} {w : World} {K : PySem.W.Frag} {mg : Str → Option Value} {base : Heap}
theorem sc_integer : FnScope ["_law_pen_here", "_law_found", "_law_turn"] ["_law_pen_here"] (defScope sInteger) := ⟨rfl, rfl, rfl, by decide +kernel, rfl, by decide +kernel, by decide +kernel⟩
theorem ok_integer {f fD fP : Addr} {fd fdD fdP : FuncData} (F : Fun K "_law_integer" "_law_integer" sInteger f fd) (B : Bi mg)
    (G_draw : FnOk P w K mg base CX0 1 fD fdD ["_law_pen_here", "_law_many"] spDraw) (b_draw : Binds K fdD ["_law_pen_here", "_law_many"] []) (d_draw : Df K mg "_law_draw" fD)
    (G_pickL : FnOk P w K mg base CX0 2 fP fdP ["_law_pen_here", "_law_some"] spPickL) (b_pickL : Binds K fdP ["_law_pen_here", "_law_some"] []) (d_pickL : Df K mg "_law_pick" fP) : FnOk P w K mg base CX0 3 f fd ["_law_pen_here"] spInteger := by
  refine F.ok sc_integer (fun vs H Q E h => ?_) (fun cdv A outer s H vs Q E hr h => ?_)
  · obtain ⟨p, k, rfl, _⟩ := h
    rfl
  · obtain ⟨p, k, rfl, hp, kq⟩ := h
    have nd := sc_integer.nd
    refine ⟨_, (pss_cons (ps_set (i := 1) nd rfl (Or.inl rfl) pe_int)
(pss_cons (ps_for PassesOwn.never rfl (pi_range1 (by rfl) B.n_range (pa_cons (pe_cs (calls_fn G_pickL (hr.mono (by decide)) b_pickL .nil pass0) d_pickL.1 d_pickL.2 (pa_cons (pv 0) (pa_cons (pe_lst (pa_cons pe_int (pa_cons pe_int (pa_cons pe_int (pa_cons pe_int (pa_cons pe_int (pa_cons pe_int pa_nil))))))) pa_nil))) pa_nil)) (pg_name (i := 2) nd rfl (Or.inl rfl))
(pss_one (ps_set (i := 1) nd rfl (Or.inl rfl) (pe_op op_add (pe_op op_mulW (pv 1) pe_int) (pe_cs (calls_fn G_draw (hr.mono (by decide)) b_draw .nil pass0) d_draw.1 d_draw.2 (pa_cons (pv 0) (pa_cons pe_int pa_nil)))))))
(pss_cons (ps_if (pt_cmpR op_eq (pe_cs (calls_fn G_draw (hr.mono (by decide)) b_draw .nil pass0) d_draw.1 d_draw.2 (pa_cons (pv 0) (pa_cons pe_int pa_nil))) pe_int (nomark _))
(pss_one (ps_set (i := 1) nd rfl (Or.inl rfl) (pe_op op_mod (pe_callTy call_intI (by rfl) B.n_int (by decide +kernel) (pa_cons (pv 1) pa_nil)) pe_int)))
pss_nil)
(pss_one (ps_ret (pe_op op_mulW (pe_cs (calls_fn G_pickL (hr.mono (by decide)) b_pickL .nil pass0) d_pickL.1 d_pickL.2 (pa_cons (pv 0) (pa_cons (pe_lst (pa_cons pe_int (pa_cons (pe_un un_neg pe_int) pa_nil))) pa_nil))) (pv 1))))))), ?_⟩
    have fin : ∀ (σ : L2.St) (H1 : Hp) (m : Int), σ[0]? = some (some (.ref p)) → σ[1]? = some (some (.int m)) → 0 ≤ m → m < 2 ^ 200 → Fr p H H1 → PenAt H1 p (k + 1) → tRet (tOp (rI CMulW fun i j => V.int (i * j)) (tCS (fun _ vs H Q => spPickL (vs ++ []) H Q E0) (tCons (tVar 0) (tCons (tLst (tCons (tC (.int 1)) (tCons (tUn (rU fun i => V.int (-i)) (tC (.int 1))) tNil))) tNil))) (tVar 1)) { nx := fun _ G => Q .non G, rt := Q } σ H1 := fun σ H1 m s0 s1 m0 m1 fr hp1 => by
      refine pick_run (k := k) s0 (ea_cons ev_c (ea_cons (ev_un ev_c ru_neg) ea_nil)) (List.cons_ne_nil _ _) (by show 2 ≤ 1000; decide) hp1 fun x H2 hx fr2 hp2 => ?_
      obtain ⟨j, rfl, hj⟩ : ∃ j : Int, x = .int j ∧ j.natAbs = 1 := by
        simp only [List.mem_cons, List.not_mem_nil, or_false] at hx
        rcases hx with rfl | rfl
        · exact ⟨_, rfl, rfl⟩
        · exact ⟨_, rfl, rfl⟩
      refine ⟨_, s1, j, m, rfl, rfl, mulWb (a := 1) (b := 200) (by omega) (by omega) (by decide), kq _ H2 ?_ (fr.trans fr2) hp2⟩
      rw [Int.natAbs_mul, hj, Nat.one_mul]
      omega
    refine q_asg ev_c fun H1 e1 => ?_
    refine pick_run (k := k + 19) rfl (ea_cons ev_c (ea_cons ev_c (ea_cons ev_c (ea_cons ev_c (ea_cons ev_c (ea_cons ev_c ea_nil)))))) (List.cons_ne_nil _ _) (by show 6 ≤ 1000; decide) (hp.ext e1) fun x H2 hx fr2 hp2 => ?_
    obtain ⟨N, rfl, hN⟩ : ∃ N : Nat, x = .int (N : Int) ∧ N ≤ 12 := by
      simp only [List.mem_cons, List.not_mem_nil, or_false] at hx
      rcases hx with rfl | rfl | rfl | rfl | rfl | rfl
      · exact ⟨0, rfl, by decide⟩
      · exact ⟨1, rfl, by decide⟩
      · exact ⟨1, rfl, by decide⟩
      · exact ⟨2, rfl, by decide⟩
      · exact ⟨3, rfl, by decide⟩
      · exact ⟨12, rfl, by decide⟩
    have fr : Fr p H H2 := (Fr.of e1).trans fr2
    refine ⟨(N : Int), rfl, by omega, by omega, for_range (lo := 0) (n := (N : Int).toNat) (fun i σ H => ∃ (m : Int) (o : Option V), σ = [some (.ref p), some (.int m), o] ∧ 0 ≤ m ∧ m < 100000 ^ i ∧ i ≤ 12 ∧ Fr p H2 H ∧ PenAt H p (k + 19 - i)) ⟨0, none, rfl, by decide, by decide, by omega, fun b o _ h => h, hp2⟩ (fun i σ H3 hi pv => ?_) (fun σ H3 pv => ?_)⟩
    · obtain ⟨m, o, rfl, m0, m1, i1, fr3, hp3⟩ := pv
      have hi12 : i < 12 := by omega
      have hm2 := pow5 i1
      refine ⟨_, rfl, m, 100000, rfl, rfl, mulWb (a := 200) (b := 17) (by omega) (by decide) (by decide), ?_⟩
      refine draw_run (k := k + 19 - (i + 1)) rfl (by decide) (by decide) (hp3.less (by omega)) fun r H4 r0 r1 fr4 hp4 => ?_
      exact ⟨_, _, rfl, rfl, _, _, rfl, (step5 m0 m1 r0 r1).1, (step5 m0 m1 r0 r1).2, hi12, fr3.trans fr4, hp4⟩
    · obtain ⟨m, o, rfl, m0, m1, i1, fr3, hp3⟩ := pv
      have hm2 := pow5 i1
      refine draw_run (k := k + 19 - (N : Int).toNat - 1) rfl (by decide) (by decide) (hp3.less (by omega)) fun r H4 r0 r1 fr4 hp4 => ?_
      have fr5 := (fr.trans fr3).trans fr4
      refine ⟨rfl, _, rfl, ?_⟩
      by_cases c : decide (V.int r = V.int 0) = true
      · show (if decide (V.int r = V.int 0) = true then _ else _)
        rw [if_pos c]
        refine s_asg (v := .int (m % 7)) (ev_op (ev_cb (ea_cons (ev_var rfl) ea_nil) rc_int) ev_c (rv_I (by decide : (0 : Int) < 7))) fun H5 e5 => ?_
        have h1 : 0 ≤ m % 7 ∧ m % 7 < 7 := ⟨Int.emod_nonneg _ (by decide), Int.emod_lt_of_pos _ (by decide)⟩
        exact fin _ H5 _ rfl rfl h1.1 (by omega) (fr5.trans (Fr.of e5)) ((hp4.ext e5).less (by omega))
      · show (if decide (V.int r = V.int 0) = true then _ else _)
        rw [if_neg c]
        exact fin _ H4 _ rfl rfl m0 (by omega) fr5 (hp4.less (by omega))
end
end K01
end

section -- PkV
set_option linter.all false
set_option maxRecDepth 100000
set_option maxHeartbeats 2000000
/-! PkV: repr of texts, of Booleans, of a pair of an int and a Boolean. -/
namespace Pk
open PySem PySem.Spec L2 Evl
open PyProof.Rows hiding St
open TL (tl numL)
def rReprT : List V → Hp → VK → Prop := fun vs H Q => ∃ a : Str, vs = [.str a] ∧ (reprText a).length ≤ sizeLine ∧ Q (.str (reprText a)) H
def rReprB : List V → Hp → VK → Prop := fun vs H Q => ∃ k : Bool, vs = [.bl k] ∧ Q (.str (if k then "True" else "False")) H
section
variable {X : Cx}
theorem call_reprT : CallR X (.builtin "repr") rReprT := by
  intro pins s σ H vs us Q I rv q
  obtain ⟨a, rfl, hz, q⟩ := q
  cases rv with
  | cons ra rn =>
    cases rn
    obtain ⟨t, rfl⟩ := ra
    exact PySem.P.repr_of_str ⟨.str _, H, I.tok _, ⟨_, rfl⟩, q⟩ hz
theorem call_reprB : CallR X (.builtin "repr") rReprB := by
  intro pins s σ H vs us Q I rv q
  obtain ⟨k, rfl, q⟩ := q
  cases rv with
  | cons ra rn =>
    cases rn
    cases ra
    exact PySem.P.repr_of_bool ⟨.str _, H, I.tok _, ⟨_, rfl⟩, q⟩
end
section
variable {K : PySem.W.Frag} {σ : L2.St} {H : Hp} {ta te : TE}
theorem ev_reprT {z : Str} (h : Ev te σ H (.str z)) (hz : (reprText z).length ≤ 1000000) : Ev (tCB rReprT (tCons te tNil)) σ H (.str (reprText z)) := ev_cb (ea_cons h ea_nil) fun H1 _ _ q => ⟨z, rfl, sz hz, q H1 (Ex.refl H1)⟩
theorem ev_reprB {k : Bool} (h : Ev te σ H (.bl k)) : Ev (tCB rReprB (tCons te tNil)) σ H (.str (if k then "True" else "False")) := ev_cb (ea_cons h ea_nil) fun H1 _ _ q => ⟨k, rfl, q H1 (Ex.refl H1)⟩
def pdb (t : Int) (b : Bool) : PyData := .tuple [.int t, .bool b]
theorem pdb_ok {t : Int} {b : Bool} (ht : t.natAbs.log2 < 1000) : (pdb t b).showable = true ∧ (pdb t b).hasDict = false ∧ (pdb t b).depth ≤ 40 ∧ (pdb t b).shown.length ≤ sizeLine := by
  have h1 : decide (t.natAbs.log2 < 1920) = true := decide_eq_true (by omega)
  refine ⟨?_, ?_, ?_, ?_⟩
  · simp only [pdb, PyData.showable, PyData.showableAll, h1, Bool.and_true]
  · simp only [pdb, PyData.hasDict, PyData.hasDictAll, Bool.or_false]
  · simp only [pdb, PyData.depth, PyData.depthAll]
    decide
  · have l1 := numLen ht
    have l2 : (PyData.bool b).shown.length ≤ 5 := by cases b <;> decide +kernel
    have h := PySem.tupleText_len_le (PyData.shownAll [.int t, .bool b])
    simp only [pdb, PyData.shown] at l2 ⊢
    simp only [PyData.shownAll, PyData.shown, List.map_cons, List.map_nil, List.sum_cons, List.sum_nil, List.length_cons, List.length_nil] at h ⊢
    exact sz (by omega)
theorem ev_reprUB {t : Int} {b : Bool} (ht : t.natAbs.log2 < 1000) (h : EvU ta σ H [.int t, .bl b]) : Ev (tCB (rReprD K) (tCons ta tNil)) σ H (.str (pdb t b).shown) := fun H1 e Q q =>
  h H1 e _ fun p H2 _ e2 hp =>
    have o := pdb_ok (b := b) ht
    ⟨p, pdb t b, rfl, .tup (st_of hp) (.cons (.int t) (.cons (.bl b) .nil)), o.1, o.2.1, o.2.2.1, o.2.2.2, q H2 e2⟩
/-- the text of a ratio, shown -/
theorem ratText_cps (t b : Int) : ∀ c ∈ (ratText t b).cps.toList, c < 16 ^ 8 := by
  have hn : ∀ (i : Int) (c : Nat), c ∈ numI i → c < 16 ^ 8 := fun i c hc => by
    unfold numI at hc
    split at hc
    · rcases List.mem_cons.mp hc with rfl | h
      · decide
      · exact Nat.lt_of_le_of_lt (TL.numL_digits _ c h).2 (by decide)
    · exact Nat.lt_of_le_of_lt (TL.numL_digits _ c hc).2 (by decide)
  intro c hc
  have hc' : c ∈ tl (ratText t b) := hc
  rw [tl_ratText] at hc'
  split at hc'
  · exact hn t c hc'
  · rcases List.mem_append.mp hc' with h | h
    · exact hn t c h
    · rcases List.mem_cons.mp h with rfl | h
      · decide
      · exact hn b c h
end
end Pk
end

section -- K01p
set_option linter.all false
set_option exponentiation.threshold 9000
set_option maxRecDepth 100000
set_option maxHeartbeats 4000000
namespace K01
open PySem PySem.Spec L2 Pk Evl
open PyProof.Rows hiding St
open TL (tl numL)
abbrev sIs : Stmt := top 27
/-- what is told of a ratio by itself -/
structure RT (P : Program) (w : World) (K : PySem.W.Frag) (mg : Str → Option Value) (base : Heap) (C gS gR gB gG gW pG pW : Addr) (fdS fdR fdB fdG fdW : FuncData) : Prop where
  fStr : PySem.W.findIn K (.ref C) "__str__" = some (some (.ref gS))
  iStr : PySem.W.isFn K (.ref gS) = true
  G_str : FnOk P w K mg base CX0 1 gS fdS ["self"] (spStr C)
  b_str : Binds K fdS ["self"] []
  fRepr : PySem.W.findIn K (.ref C) "__repr__" = some (some (.ref gR))
  iRepr : PySem.W.isFn K (.ref gR) = true
  G_repr : FnOk P w K mg base CX0 5 gR fdR ["self"] (spStr C)
  b_repr : Binds K fdR ["self"] []
  fBool : PySem.W.findIn K (.ref C) "__bool__" = some (some (.ref gB))
  iBool : PySem.W.isFn K (.ref gB) = true
  G_bool : FnOk P w K mg base CX0 1 gB fdB ["self"] (spTell C fun t _ => .bl (!decide (V.int t = V.int 0)))
  b_bool : Binds K fdB ["self"] []
  sign : PropOf K C "sign" pG gG
  G_sign : FnOk P w K mg base CX0 1 gG fdG ["self"] (spTell C fun t _ => .int (cmpI t 0))
  b_sign : Binds K fdG ["self"] []
  whole : PropOf K C "is_whole" pW gW
  G_whole : FnOk P w K mg base CX0 1 gW fdW ["self"] (spTell C fun _ b => .bl (decide (V.int b = V.int 1)))
  b_whole : Binds K fdW ["self"] []
/-- _law_is, right -/
def spIs (C : Addr) : Sp := fun vs H Q _ => ∃ (x p : Addr) (t b : Int), vs = [.ref x, .ref p] ∧ RatAt C H x t b ∧ H p = some (.tup [.int t, .int b]) ∧ t.natAbs.log2 < 1000 ∧ b.natAbs.log2 < 1000 ∧ ∀ H1, Ex H H1 → Q (.bl true) H1
theorem cmp_neg {t : Int} (h : t < 0) : cmpI t 0 = -1 := by
  unfold cmpI
  rw [decide_eq_false (by omega : ¬ t > 0), decide_eq_true h]
  rfl
theorem cmp_pos {t : Int} (h : 0 < t) : cmpI t 0 = 1 := by
  unfold cmpI
  rw [decide_eq_true (by omega : t > 0), decide_eq_false (by omega : ¬ t < 0)]
  rfl
theorem cmp_zero {t : Int} (h : t = 0) : cmpI t 0 = 0 := by
  subst h
  rfl
theorem cmp_log (t : Int) : (cmpI t 0).natAbs.log2 < 1000 := by
  rcases Int.lt_trichotomy t 0 with h | h | h
  · rw [cmp_neg h]; decide
  · rw [cmp_zero h]; decide
  · rw [cmp_pos h]; decide
theorem cmp_same (t : Int) : decide (V.int (cmpI t 0) = V.int 0) = decide (V.int t = V.int 0) := by
  rw [dec_int, dec_int]
  rcases Int.lt_trichotomy t 0 with h | h | h
  · rw [cmp_neg h, Bool.eq_iff_iff]; simp; omega
  · rw [cmp_zero h, h]
  · rw [cmp_pos h, Bool.eq_iff_iff]; simp; omega
theorem ratText_log {t b : Int} (ht : t.natAbs.log2 < 1000) (hb : b.natAbs.log2 < 1000) : (ratText t b).length ≤ 9000 := by
  have h1 := numLen ht
  have h2 := numLen hb
  rw [TL.len_tl, tl_numI] at h1 h2
  rw [TL.len_tl, tl_ratText]
  split
  · omega
  · rw [List.length_append, List.length_cons]
    omega
section
variable {P : Program} {w : World} {K : PySem.W.Frag} {mg : Str → Option Value} {base : Heap}
theorem sc_is : FnScope ["_law_value", "_law_pair", "_law_text", "_law_sign"] ["_law_value", "_law_pair"] (defScope sIs) := ⟨rfl, rfl, rfl, by decide +kernel, rfl, by decide +kernel, by decide +kernel⟩
theorem ok_is {f C gS gR gB gG gW pG pW : Addr} {fd fdS fdR fdB fdG fdW : FuncData} (F : Fun K "_law_is" "_law_is" sIs f fd) (B : Bi mg) (T : RCl K mg C) (R : RT P w K mg base C gS gR gB gG gW pG pW fdS fdR fdB fdG fdW) : FnG P w K mg base CX0 8 f fd ["_law_value", "_law_pair"] (spIs C) := by
  refine fnG_of F sc_is (fun vs H Q E h => ?_) (fun cdv A outer s H vs Q E hr hg h => ?_)
  · obtain ⟨x, p, t, b, rfl, _⟩ := h
    rfl
  · obtain ⟨x, p, t, b, rfl, hx, hp, lt, lb, kq⟩ := h
    have nd := sc_is.nd
    refine ⟨_, PSs.nox (pss_cons (ps_if (PW.pt (pw_or (pt_not (pt_val (pe_callB call_isi (by rfl) B.n_isinstance (by decide +kernel) (pa_cons (pv 0) (pa_cons (pe_gv T.v_Ratio) pa_nil))))) (pw_or1 (pt_cmpR op_ne (pe_callB (call_reprD hg hr.units) (by rfl) B.n_repr (by decide +kernel) (pa_cons (pe_tup (pa_cons (pe_fld (pv 0) rfl) (pa_cons (pe_fld (pv 0) rfl) pa_nil))) pa_nil)) (pe_callB (call_reprD hg hr.units) (by rfl) B.n_repr (by decide +kernel) (pa_cons (pv 1) pa_nil)) (nomark _)))))
(pss_one (ps_ret pe_bl))
pss_nil)
(pss_cons (ps_set (i := 2) nd rfl (Or.inl rfl) (pe_op op_addT (pe_callTy call_strI (by rfl) B.n_str (by decide +kernel) (pa_cons (pe_ix ix_tup (pv 1) pe_int (fun _ _ => rfl)) pa_nil)) (pe_ifExp (pt_cmpR op_eq (pe_ix ix_tup (pv 1) pe_int (fun _ _ => rfl)) pe_int (nomark _)) pe_str (pe_op op_addT pe_str (pe_callTy call_strI (by rfl) B.n_str (by decide +kernel) (pa_cons (pe_ix ix_tup (pv 1) pe_int (fun _ _ => rfl)) pa_nil))))))
(pss_cons (ps_set (i := 3) nd rfl (Or.inl rfl) (pe_ifExp (pt_cmpR op_lt (pe_ix ix_tup (pv 1) pe_int (fun _ _ => rfl)) pe_int (nomark _)) (pe_un un_neg pe_int) (pe_ifExp (pt_cmpR op_eq (pe_ix ix_tup (pv 1) pe_int (fun _ _ => rfl)) pe_int (nomark _)) pe_int pe_int)))
(pss_cons (ps_if (PW.pt (pw_or (pt_cmpR op_ne (pe_callB (call_reprD hg hr.units) (by rfl) B.n_repr (by decide +kernel) (pa_cons (pe_tup (pa_cons (pe_prop (pv 0) T.cl R.sign R.G_sign (hr.mono (by decide)) R.b_sign .nil pass0 rfl) (pa_cons (pe_prop (pv 0) T.cl R.whole R.G_whole (hr.mono (by decide)) R.b_whole .nil pass0 rfl) pa_nil))) pa_nil)) (pe_callB (call_reprD hg hr.units) (by rfl) B.n_repr (by decide +kernel) (pa_cons (pe_tup (pa_cons (pv 3) (pa_cons (pe_cmpR op_eq (pe_ix ix_tup (pv 1) pe_int (fun _ _ => rfl)) pe_int (nomark _)) pa_nil))) pa_nil)) (nomark _)) (pw_or1 (pt_cmpR op_ne (pe_callB call_reprB (by rfl) B.n_repr (by decide +kernel) (pa_cons (pe_callTy (call_boolO (C := C) R.fBool R.iBool (runAt_fn R.G_bool (hr.mono (by decide : 3 ≤ 7)).in1.in1 rfl R.b_bool pass0)) (by rfl) B.n_bool (by decide +kernel) (pa_cons (pv 0) pa_nil)) pa_nil)) (pe_callB call_reprB (by rfl) B.n_repr (by decide +kernel) (pa_cons (pe_cmpR op_ne (pv 3) pe_int (nomark _)) pa_nil)) (nomark _)))))
(pss_one (ps_ret pe_bl))
pss_nil)
(pss_one (ps_ret (pe_and (pe_cmpR op_eq (pe_callB call_reprT (by rfl) B.n_repr (by decide +kernel) (pa_cons (pe_callTy (call_strO (C := C) (hr.mono (by decide : 3 ≤ 7)).in1.in1.units0 R.fStr R.iStr (runAt_fn R.G_str (hr.mono (by decide : 3 ≤ 7)).in1.in1 rfl R.b_str pass0)) (by rfl) B.n_str (by decide +kernel) (pa_cons (pv 0) pa_nil)) pa_nil)) (pe_callB call_reprT (by rfl) B.n_repr (by decide +kernel) (pa_cons (pv 2) pa_nil)) (nomark _)) (pe_one (pe_cmpR op_eq (pe_callB (call_reprO (C := C) (hr.mono (by decide : 6 ≤ 7)).in1.units0 R.fRepr R.iRepr (runAt_fn R.G_repr (hr.mono (by decide : 6 ≤ 7)).in1 rfl R.b_repr pass0)) (by rfl) B.n_repr (by decide +kernel) (pa_cons (pv 0) pa_nil)) (pv 2) (nomark _)))))))))), ?_⟩
    obtain ⟨dx, ex⟩ := id hx
    have isi : ∀ {σ : L2.St} {H1 : Hp}, σ[0]? = some (some (.ref x)) → Ex H H1 → EvT (tB (tCB (rIsi K) (tCons (tVar 0) (tCons (tC (.ref C)) tNil)))) σ H1 true := fun s0 e0 H2 e Q q => ⟨_, s0, _, _, _, _, true, rfl, ClsV.own C, tyRat T ⟨dx, e _ _ (e0 _ _ ex)⟩, T.me, true, rfl, q H2 (Ex.refl H2)⟩
    have ix0 : ∀ {σ : L2.St} {H1 : Hp}, σ[1]? = some (some (.ref p)) → Ex H H1 → Ev (tOp (rIxT K) (tVar 1) (tC (.int 0))) σ H1 (.int t) := fun s1 e => ev_op (ev_var s1) ev_c (rv_ixT (st_of (e _ _ hp)) (atI_nat (j := 0) rfl))
    have ix1 : ∀ {σ : L2.St} {H1 : Hp}, σ[1]? = some (some (.ref p)) → Ex H H1 → Ev (tOp (rIxT K) (tVar 1) (tC (.int 1))) σ H1 (.int b) := fun s1 e => ev_op (ev_var s1) ev_c (rv_ixT (st_of (e _ _ hp)) (atI_nat (j := 1) rfl))
    have n1 := numLen lt
    have n2 := numLen lb
    have l1 : (Str.ofString "/").length = 1 := by decide +kernel
    have l0 : (Str.ofString "").length = 0 := by decide +kernel
    have ln := ratText_log lt lb
    have lr : (reprText (ratText t b)).length ≤ 1000000 := by
      have := StrLaws.reprText_len (ratText t b) (ratText_cps t b)
      omega
    refine q_when (b := false) (et_is (et_or (a := false) (b := false) (et_is (et_not (isi rfl (Ex.refl H))) rfl) fun _ => et_is (et_test (ev_op (ev_reprU lt lb (eu_tup (ea_cons (ev_fld (ev_var rfl) ex T.cl T.nT (rf_top _ _)) (ea_cons (ev_fld (ev_var rfl) ex T.cl T.nB (rf_bot _ _)) ea_nil)) (by show 2 ≤ 100000; decide))) (ev_cb (ea_cons (ev_var rfl) ea_nil) (rc_repr lt lb (st_of hp))) (rv_ne rfl))) (by rw [decide_eq_true rfl]; rfl)) rfl) (fun c => by cases c) (fun _ H1 e1 => ?_)
    refine q_asg (v := .str (ratText t b)) ?_ fun H2 e2 => ?_
    · by_cases z : b = 1
      · refine ev_is (ev_op (ev_cb (ea_cons (ix0 rfl e1) ea_nil) (rc_strI (by omega))) (ev_if (b := true) (et_is (et_test (ev_op (ix1 rfl e1) ev_c (rv_eq rfl))) (decide_eq_true (by rw [z]))) (fun _ => ev_c) (fun c => by cases c)) (rv_addT (by omega))) (congrArg V.str (TL.ext_tl ?_))
        rw [tl_ratText, if_pos z, TL.tl_append, tl_numI]
        have : tl (Str.ofString "") = [] := by decide +kernel
        rw [this, List.append_nil]
      · refine ev_is (ev_op (ev_cb (ea_cons (ix0 rfl e1) ea_nil) (rc_strI (by omega))) (ev_if (b := false) (et_is (et_test (ev_op (ix1 rfl e1) ev_c (rv_eq rfl))) (decide_eq_false fun w => z (V.int.inj w))) (fun c => by cases c) (fun _ => ev_op ev_c (ev_cb (ea_cons (ix1 rfl e1) ea_nil) (rc_strI (by omega))) (rv_addT (by omega)))) (rv_addT (by rw [Str.length_append]; omega))) (congrArg V.str (TL.ext_tl ?_))
        rw [tl_ratText, if_neg z, TL.tl_append, TL.tl_append, tl_numI, tl_numI]
        have : tl (Str.ofString "/") = [47] := by decide +kernel
        rw [this]
        rfl
    have e12 := e1.trans e2
    refine q_asg (v := .int (cmpI t 0)) (ev_if (b := decide (t < 0)) (et_test (ev_op (ix0 rfl e12) ev_c rv_I0)) (fun c => ev_is (ev_un ev_c ru_neg) (by rw [cmp_neg (of_decide_eq_true c)])) (fun c => ev_if (b := decide (V.int t = V.int 0)) (et_test (ev_op (ix0 rfl e12) ev_c (rv_eq rfl))) (fun z => ev_is ev_c (by rw [cmp_zero (V.int.inj (of_decide_eq_true z))])) (fun z => ev_is ev_c (by
      have c1 := of_decide_eq_false c
      have c2 := of_decide_eq_false z
      have c3 : t ≠ 0 := fun w => c2 (by rw [w])
      rw [cmp_pos (by omega)])))) fun H3 e3 => ?_
    have e13 := e12.trans e3
    have ex3 := e13 _ _ ex
    have self : ∀ (g : Int → Int → V) (H4 : Hp) (Q : VK), Ex H3 H4 → (∀ H5, Ex H4 H5 → Q (g t b) H5) → spTell C g [.ref x] H4 Q E0 := fun g H4 Q e q => ⟨x, t, b, rfl, ⟨dx, e _ _ ex3⟩, q H4 (Ex.refl H4)⟩
    have pr : ∀ {σ : L2.St} (g : Int → Int → V), σ[0]? = some (some (.ref x)) → Ev (tProp C (spTell C g) [] E0 (tVar 0)) σ H3 (g t b) := fun g s0 H4 e Q q => ⟨_, s0, x, dx, _, rfl, e _ _ ex3, self g H4 Q e q⟩
    refine q_when (b := false) (et_is (et_or (a := false) (b := false) (et_is (et_test (ev_op (ev_reprUB (cmp_log t) (eu_tup (ea_cons (pr (fun t _ => .int (cmpI t 0)) rfl) (ea_cons (pr (fun _ b => .bl (decide (V.int b = V.int 1))) rfl) ea_nil)) (by show 2 ≤ 100000; decide))) (ev_reprUB (cmp_log t) (eu_tup (ea_cons (ev_var rfl) (ea_cons (ev_op (ix1 rfl e13) ev_c (rv_eq rfl)) ea_nil)) (by show 2 ≤ 100000; decide))) (rv_ne rfl))) (by rw [decide_eq_true rfl]; rfl)) fun _ =>
      et_is (et_test (ev_op (ev_reprB (k := !decide (V.int t = V.int 0)) (ev_cb (ea_cons (ev_var rfl) ea_nil) fun H4 e Q q => ⟨x, dx, _, rfl, e _ _ ex3, self _ H4 _ e fun H5 e5 => ⟨_, rfl, q H5 e5⟩⟩)) (ev_reprB (ev_op (ev_var rfl) ev_c (rv_ne rfl))) (rv_ne rfl))) (by rw [cmp_same, decide_eq_true rfl]; rfl)) rfl) (fun c => by cases c) (fun _ H4 e4 => ?_)
    have e14 := e13.trans e4
    have ex4 := e4 _ _ ex3
    have tx : ∀ {σ : L2.St}, σ[0]? = some (some (.ref x)) → Ev (tCB (rOwnT C fun vs H Q => spStr C vs H Q E0) (tCons (tVar 0) tNil)) σ H4 (.str (ratText t b)) := fun s0 => ev_cb (ea_cons (ev_var s0) ea_nil) fun H5 e Q q => ⟨x, dx, _, rfl, e _ _ ex4, x, t, b, rfl, ⟨dx, e _ _ ex4⟩, lt, lb, _, rfl, q H5 (Ex.refl H5)⟩
    exact s_ret (ev_is (ev_andV (a := true) (b := true) (ev_is (ev_op (ev_reprT (tx rfl) lr) (ev_reprT (ev_var rfl) lr) (rv_eq rfl)) (by rw [decide_eq_true rfl])) fun _ => ev_is (ev_op (tx rfl) (ev_var rfl) (rv_eq rfl)) (by rw [decide_eq_true rfl])) rfl) fun H5 e5 => kq H5 (e14.trans e5)
end
end K01
end

section -- PkW
set_option linter.all false
set_option maxRecDepth 100000
set_option maxHeartbeats 2000000
/-! PkW: calls with keywords alone, which may raise; == of lists of unlike lengths. -/
namespace Pk
open PySem PySem.Spec L2 Evl
open PyProof.Rows hiding St
section
variable {X : Cx} {CX : CXT} {k : Nat} {f : Addr} {fd : FuncData} {ps ks : List Str} {sp : Sp} {E : St → XK} {x : Str} {kws : List Keyword} {tk : TA} {p pos : Pos}
/-- f(k = e, ..), nothing by position -/
def tCSK (r : St → List V → Hp → VK → Prop) (tk : TA) : TE := fun σ H Q => tk σ H fun zs H1 => r σ zs H1 Q
theorem pe_csK (F : FnOk X.prog X.w X.K X.mg X.base CX k f fd ps sp) (hr : Room k X.A) (hb : KBinds X.K fd ps ks (fun us ws => us ++ ws) (fun vs zs => vs ++ zs)) (hx : ∀ σ, PassesAt CX X σ (E σ)) (hm : X.mg x = some (.ref f)) (hk : PySem.W.keepIn X.K (.ref f) = true) (hkw : PK X kws tk) (hg : Gl X x := by rfl)
    (hall : (backToKw pos (keywordEach kws X.env)).all (·.1.isSome) = true := by rfl) (hks : (backToKw pos (keywordEach kws X.env)).filterMap (·.1) = ks := by rfl) (hdb : (x == ("__debug__" : Str)) = false := by decide)
    (hpl : ((backTo pos (starEach [] X.env)).any (·.1) || (backToKw pos (keywordEach kws X.env)).any (·.1.isNone)) = false := by rfl) :
    PE X (.Call (.Name x p) [] kws pos) (tCSK (fun σ zs H Q => sp zs H Q (E σ)) tk) := by
  refine ⟨fun pins s σ H Q I h => ?_⟩
  refine wpAny_Call_Name_kw (ld_glob I hg hm ?_ hdb)
  refine PySem.W.callWith_KW0 (h₀ := X.base) (first := []) I.ok.mod.kin hk hall (thn (hkw.run pos pins s σ H _ I h) fun ws s2 ⟨zs, H2, I2, rz, q2⟩ => ⟨I2.kIn, ?_⟩) hpl
  rw [hks]
  have r2 : Vals ([] ++ zs) ([] ++ ws) := hb.rel .nil rz
  have hl : ([] ++ ws).length = ps.length := by rw [← r2.length]; exact F.len _ _ _ _ q2
  refine wpAny_call (codeAny_mono (F.run X.A X.stack s2 H2 ⟨[], ks.zip ws⟩ ([] ++ ws) ([] ++ zs) Q (E σ) hr I2.env0 (hb.to s2 [] ws I2.kIn hl) r2 q2) fun r s' hq => ?_)
  cases r with
  | error e => exact hx σ pins H2 s2 e s' I2 hq
  | ok fl =>
    cases fl with
    | ret u => exact I2.after hq
    | next => exact False.elim hq
    | brk => exact False.elim hq
    | cont => exact False.elim hq
end
/-- xs == ys, two lists: unlike lengths, or both empty -/
def rEqLen : R2 := fun x y H Q => ∃ (a b : Addr) (xs ys : List V), x = .ref a ∧ y = .ref b ∧ H a = some (.lst xs) ∧ H b = some (.lst ys) ∧ (xs = [] ∨ ys = []) ∧ Q (.bl (decide (xs.length = ys.length))) H
theorem op_eqLen {X : Cx} (hu : X.A.units < cLine) : OpR X (compareOp .Eq) rEqLen := by
  intro pins s σ H x y v u Q I rx ry q
  obtain ⟨a, b, xs, ys, rfl, rfl, ha, hb, he, q⟩ := q
  cases rx
  cases ry
  obtain ⟨z, its, k, r, e⟩ := I.hok a _ ha
  obtain ⟨z2, its2, k2, r2, e2⟩ := I.hok b _ hb
  have l1 : xs.length = its.toArray.size := by rw [List.size_toArray]; exact r.length
  have l2 : ys.length = its2.toArray.size := by rw [List.size_toArray]; exact r2.length
  show wpAny _ X.A (richCompare .Eq (.ref a) (.ref b)) _ _ _
  have L1 : s.heap.IsList a its.toArray := ⟨_, e, rfl, k, rfl⟩
  have L2 : s.heap.IsList b its2.toArray := ⟨_, e2, rfl, k2, rfl⟩
  by_cases c : xs.length = ys.length
  · have c0 : its.toArray.size = 0 := by
      rcases he with h | h
      · rw [← l1, h]; rfl
      · rw [← l1, c, h]; rfl
    have w := PySem.SeqAt.RcAt.lists (e := fun _ => true) L1 L2 (by rw [← l1, ← l2]; exact c) hu (fun j h1 _ => by omega) X.prog X.w X.xe (EP X pins σ Q) (by
      rw [c0]
      rw [decide_eq_true c] at q
      exact ⟨.bl true, H, I, rfl, q⟩)
    exact w
  · have w := PySem.SeqAt.RcAt.lists_lengths L1 L2 (by rw [← l1, ← l2]; exact bne_iff_ne.mpr c) hu X.prog X.w X.xe (EP X pins σ Q) (by
      rw [decide_eq_false c] at q
      exact ⟨.bl false, H, I, rfl, q⟩)
    exact w
/-! ### xs[::k], k 1 or -1 -/
theorem pick_one (its : List Value) : slicePick its.toArray none none (some 1) = its.toArray := by
  unfold slicePick
  have e : sliceBounds none none (some 1) its.toArray.size = (((0 : Nat) : Int), ((its.toArray.size : Nat) : Int), (1 : Int)) := rfl
  rw [e]
  simp only [sliceRange_one, pick_run, List.size_toArray, Nat.sub_zero, List.drop_zero, List.take_length]
def tStep (K : PySem.W.Frag) (te : TE) (tk : TO) : TE := fun σ H Q => te σ H fun x H1 => tk σ H1 fun o H2 => ∃ (a : Addr) (xs : List V) (st : Int), x = .ref a ∧ o = some st ∧ (st = 1 ∨ st = -1) ∧ SqL K H2 a xs ∧ ∀ p, H2 p = none → Q (.ref p) (upd H2 p (.lst (if st = 1 then xs else xs.reverse)))
theorem vals_rev : ∀ {vs : List V} {us : List Value}, Vals vs us → Vals vs.reverse us.reverse
  | [], _, h => by cases h; exact .nil
  | v :: vs, _, h => by
    cases h with
    | cons a b =>
      rw [List.reverse_cons, List.reverse_cons]
      exact (vals_rev b).append (.cons a .nil)
theorem pe_step {X : Cx} {e k : Expr} {te : TE} {tk : TO} {pos p2 : Pos} (he : PE X e te) (hk : PO X (some k) tk) : PE X (.Subscript e (.Slice none none (some k) p2) pos) (tStep X.K te tk) := by
  refine ⟨fun pins s σ H Q I h => ?_⟩
  refine Subscript_ (thn (he.run pins s σ H _ I h) fun v s1 ⟨x, H1, I1, r1, q1⟩ => ?_)
  refine wpAny_Slice ?_
  rw [evalPart_none]
  refine wpAny_pure (wpAny_pure (thn (hk.run pins s1 σ H1 _ I1 q1) fun vk s3 ⟨o, H3, I3, pk, q3⟩ => ?_))
  obtain ⟨a, xs, st, rfl, rfl, hst, hx, q⟩ := q3
  have I4 : Inv X pins σ H3 { s3 with heap := s3.heap.push { cls := .type "slice", data := .fields #[.none, .none, vk] } } := I3.kept (t' := s3.toks) fun b ob q => Heap.get?_push_of_some _ q
  cases r1
  obtain ⟨its, r, ht, hz⟩ := I4.list hx
  have hlen := r.length
  have hp : slicePick its.toArray none none (some st) = (if st = 1 then its else its.reverse).toArray := by
    rcases hst with rfl | rfl
    · rw [if_pos rfl]; exact pick_one its
    · rw [if_neg (by decide)]
      have := PySem.W.krv_pick its.toArray
      rw [this] <;> simp
  have rr : Vals (if st = 1 then xs else xs.reverse) (if st = 1 then its else its.reverse) := by
    rcases hst with rfl | rfl
    · rw [if_pos rfl, if_pos rfl]; exact r
    · rw [if_neg (by decide), if_neg (by decide)]; exact vals_rev r
  have hz2 : (if st = 1 then xs else xs.reverse).length ≤ sizeLine := by
    split
    · exact hz
    · rw [List.length_reverse]; exact hz
  show wpAny (model X.prog X.w) X.A (subscriptTail e (.Slice none none (some k) p2) (.ref a) (.ref s3.heap.objs.size)) (EP X pins σ Q) X.xe { s3 with heap := s3.heap.push { cls := .type "slice", data := .fields #[.none, .none, vk] } }
  refine tail_any (ops := [.ref a, .ref s3.heap.objs.size]) ht.isList.typeIs slot_list_getitem.lookup ?_ (by with_unfolding_all rfl)
  refine wpAny_getItem_list_slice ht.isList (Heap.IsSliceOf.new ..) .none .none pk (by rcases hst with rfl | rfl <;> decide) ?_ (by rw [List.size_toArray] <;> omega)
  rw [hp]
  refine ⟨.ref _, _, I4.laid (t' := s3.toks) (o := .lst (if st = 1 then xs else xs.reverse)) (fun b ob q => Heap.get?_push_of_some _ q) (Nat.le_refl _) ?_, rfl, q _ (I4.hok.fresh (Nat.le_refl _))⟩
  exact ⟨hz2, _, 0, rr, Heap.get?_push_size _ rfl⟩
/-! ### what evaluates to what, further -/
def rTupOf (K : PySem.W.Frag) : List V → Hp → VK → Prop := fun xs H Q => ∃ p ys, xs = [.ref p] ∧ ((SqL K H p ys ∧ ∀ l, H l = none → Q (.ref l) (upd H l (.tup ys))) ∨ (SqT K H p ys ∧ Q (.ref p) H))
theorem call_tupOf {X : Cx} : CallR X (.type "tuple") (rTupOf X.K) := call_tuple_of
section
variable {K : PySem.W.Frag} {σ : L2.St} {H : Hp} {ta tb te : TE}
theorem eu_tupOf {p : Addr} {xs : List V} (h : Ev ta σ H (.ref p)) (hp : SqL K H p xs) : EvU (tCB (rTupOf K) (tCons ta tNil)) σ H xs := fun H1 e Q q => h H1 e _ fun H2 e2 => ⟨p, xs, rfl, .inl ⟨ex_l (e.trans e2) hp, fun l nl => q l _ (fresh_back e2 nl) (e2.trans (Ex.new nl)) upd_same⟩⟩
theorem ev_eqLen {p : Addr} {xs : List V} (h : Ev ta σ H (.ref p)) (hp : H p = some (.lst xs)) (hb : EvL tb σ H []) : Ev (tOp rEqLen ta tb) σ H (.bl (decide (xs.length = 0))) := ev_opL h hb fun q H1 hq e => fun H2 e2 Q k => ⟨p, q, xs, [], rfl, rfl, e2 _ _ (e _ _ hp), e2 _ _ hq, .inr rfl, k H2 (Ex.refl H2)⟩
theorem dp_strs {H : Hp} : ∀ zs : List Str, DpAll K H (zs.map V.str) (zs.map PyData.str)
  | [] => .nil
  | z :: zs => .cons (.str z) (dp_strs zs)
theorem lay_strs : ∀ zs : List Str, zs.all PyData.strOk = true → PyData.canLayAll0 (zs.map PyData.str) = true
  | [], _ => rfl
  | z :: zs, h => by
    rw [List.all_cons, Bool.and_eq_true] at h
    simp only [List.map_cons, PyData.canLayAll0, PyData.canLay0, h.1, Bool.true_and]
    exact lay_strs zs h.2
theorem depth_strs : ∀ zs : List Str, PyData.depthAll (zs.map PyData.str) ≤ 1
  | [] => Nat.zero_le _
  | z :: zs => by
    have := depth_strs zs
    simp only [List.map_cons, PyData.depthAll, PyData.depth]
    omega
theorem shaped_strs {zs : List Str} (hz : zs.all PyData.strOk = true) : SeqAt.shaped (.list (zs.map PyData.str)) = true := by
  have h := depth_strs zs
  unfold SeqAt.shaped
  rw [Bool.and_eq_true, decide_eq_true_iff]
  refine ⟨by simp only [PyData.canLay0]; exact lay_strs zs hz, ?_⟩
  simp only [PyData.depth]
  omega
/-- equal lists of texts -/
theorem ev_eqStrs {zs : List Str} (hz : zs.all PyData.strOk = true) (ha : EvL ta σ H (zs.map V.str)) (hb : EvL tb σ H (zs.map V.str)) : Ev (tOp (rEqD K) ta tb) σ H (.bl true) := ev_opLL ha hb fun p q H1 hp hq e => fun H2 e2 Q k =>
  ⟨_, _, .lst (sq_of (e2 _ _ hp)) (dp_strs zs), .lst (sq_of (e2 _ _ hq)) (dp_strs zs), shaped_strs hz, shaped_strs hz, by rw [SeqAt.eqv_refl _ (by simp only [PyData.canLay0]; exact lay_strs zs hz)]; exact k H2 (Ex.refl H2)⟩
theorem ev_neStrs {zs : List Str} (hz : zs.all PyData.strOk = true) (ha : EvL ta σ H (zs.map V.str)) (hb : EvL tb σ H (zs.map V.str)) : Ev (tOp (rNeD K) ta tb) σ H (.bl false) := ev_opLL ha hb fun p q H1 hp hq e => fun H2 e2 Q k =>
  ⟨_, _, .lst (sq_of (e2 _ _ hp)) (dp_strs zs), .lst (sq_of (e2 _ _ hq)) (dp_strs zs), shaped_strs hz, shaped_strs hz, by rw [SeqAt.eqv_refl _ (by simp only [PyData.canLay0]; exact lay_strs zs hz)]; exact k H2 (Ex.refl H2)⟩
theorem el_rep {xs : List V} {n : Int} (ha : EvL ta σ H xs) (hb : Ev tb σ H (.int n)) (h0 : 0 ≤ n) (h1 : n ≤ 1000) (hz : xs.length ≤ 100) : EvL (tOp rRep ta tb) σ H (List.replicate n.toNat xs).flatten := fun H1 e Q k => ha H1 e _ fun p H2 np e2 hp => hb H2 (e.trans e2) _ fun H3 e3 => by
  refine ⟨p, n, xs, rfl, rfl, e3 _ _ hp, by omega, by omega, ?_, fun l nl => k l _ (fresh_back (e2.trans e3) nl) ((e2.trans e3).trans (Ex.new nl)) upd_same⟩
  have : xs.length * n.toNat ≤ 100 * 1000 := Nat.mul_le_mul hz (by omega)
  exact sz (by omega)
end
end Pk
end

section -- K01q
set_option linter.all false
set_option exponentiation.threshold 9000
set_option maxRecDepth 100000
set_option maxHeartbeats 4000000
namespace K01
open PySem PySem.Spec L2 Pk Evl
open PyProof.Rows hiding St
abbrev sPart : Stmt := top 28
/-! ### values that are no numbers -/
/-- a built-in type whose values are no numbers here -/
structure OddT (K : PySem.W.Frag) (C : Addr) (T : String) : Prop where
  kc : PySem.W.kitOne K (.type T) (.ref C) = some false
  ki : PySem.W.kitOne K (.type T) (.type "int") = some false ∨ (PySem.W.kitOne K (.type T) (.type "int") = some true ∧ PySem.W.kitOne K (.type T) (.type "bool") = some true)
  add : BinT K C (Operator.info .Add).2 T
  sub : BinT K C (Operator.info .Sub).2 T
  mul : BinT K C (Operator.info .Mult).2 T
  nf : PySem.W.notFirst K C (.type T) = true
def OddB (K : PySem.W.Frag) (C : Addr) (H : Hp) (v : V) : Prop := ∃ T, TyX K H v (.type T) ∧ OddT K C T
section
variable {K : PySem.W.Frag} {C : Addr} {H H2 : Hp} {v : V}
theorem OddB.ext (h : OddB K C H v) (e : Ex H H2) : OddB K C H2 v := by
  obtain ⟨T, a, b⟩ := h
  exact ⟨T, tyx_ext a e, b⟩
theorem OddB.odd (h : OddB K C H v) : OddV K C H v := by
  obtain ⟨T, a, b⟩ := h
  exact ⟨_, a, b.kc, b.ki⟩
theorem NoLs.ext (h : NoLs K H v) (e : Ex H H2) : NoLs K H2 v := by
  obtain ⟨T, a, b⟩ := h
  exact ⟨T, tyx_ext a e, b⟩
theorem LsAt.ext {ys : List (V × Option (Int × Int))} (h : LsAt K C H v ys) (e : Ex H H2) : LsAt K C H2 v ys := by
  obtain ⟨a, T, rfl, t1, t2, hs, hz, hy⟩ := h
  exact ⟨a, T, rfl, tyx_ext t1 e, t2, hs.elim (fun h => .inl (ex_l e h)) (fun h => .inr (ex_t e h)), hz, fun y h => told1_ext e (hy y h)⟩
theorem Num.ext {u c : Int} (h : Num C H v u c) (e : Ex H H2) : Num C H2 v u c := by
  rcases h with ⟨x, ev, dx, hx⟩ | h
  · exact .inl ⟨x, ev, dx, e _ _ hx⟩
  · exact .inr h
theorem RatAt.ext {x : Addr} {t b : Int} (h : RatAt C H x t b) (e : Ex H H2) : RatAt C H2 x t b := by
  obtain ⟨dx, h⟩ := h
  exact ⟨dx, e _ _ h⟩
theorem kit_list : PySem.W.kitAny K (.type "list") [.type "list", .type "tuple"] = some true := kitAny_cons (b := true) (kit_ty (by decide +kernel)) (fun z => nomatch z) fun _ => rfl
theorem kit_tuple : PySem.W.kitAny K (.type "tuple") [.type "list", .type "tuple"] = some true := kitAny_cons (b := false) (kit_ty (by decide +kernel)) (fun _ => kitAny_cons (b := true) (kit_ty (by decide +kernel)) (fun z => nomatch z) fun _ => rfl) (fun z => nomatch z)
theorem kit_other {T : String} (h1 : PySem.W.kitOne K (.type T) (.type "list") = some false) (h2 : PySem.W.kitOne K (.type T) (.type "tuple") = some false) : PySem.W.kitAny K (.type T) [.type "list", .type "tuple"] = some false :=
  kitAny_cons (b := false) h1 (fun _ => kitAny_cons (b := false) h2 (fun _ => rfl) (fun z => nomatch z)) (fun z => nomatch z)
theorem ls_list {a : Addr} {ys : List (V × Option (Int × Int))} (h : H a = some (.lst (ys.map Prod.fst))) (hz : ys.length ≤ 1000) (hy : ∀ y ∈ ys, Told1 K C H y) : LsAt K C H (.ref a) ys := ⟨a, _, rfl, .base (.lst h), kit_list, .inl (sq_of h), hz, hy⟩
theorem ls_tup {a : Addr} {ys : List (V × Option (Int × Int))} (h : H a = some (.tup (ys.map Prod.fst))) (hz : ys.length ≤ 1000) (hy : ∀ y ∈ ys, Told1 K C H y) : LsAt K C H (.ref a) ys := ⟨a, _, rfl, .base (.tup h), kit_tuple, .inr (st_of h), hz, hy⟩
end
theorem op_binK {X : Cx} {K : PySem.W.Frag} {C g : Addr} {op : Operator} {r : L2.St → List V → Hp → VK → Prop} {rc : Option Value} (hK : X.K = K) (hc : PySem.W.selfFirst K C = true) (hs : PySem.W.findIn K (.ref C) (PySem.dunder op.info.2) = some (some (.ref g))) (hf : PySem.W.isFn K (.ref g) = true)
    (hr : PySem.W.findIn K (.ref C) (dunderR op.info.2) = some rc) (hp : rc = none ∨ ∃ g : Addr, rc = some (.ref g)) (c : RunS X X.A g r) : OpS X (binaryOp op) (rBinT K C op.info.2 r) := by
  subst hK
  exact op_binT hc hs hf hr hp c
theorem op_binIK {X : Cx} {K : PySem.W.Frag} {C g : Addr} {op : Operator} {r : L2.St → List V → Hp → VK → Prop} (hK : X.K = K) (hc : PySem.W.selfFirst K C = true) (hs : PySem.W.findIn K (.ref C) (PySem.dunder op.info.2) = some (some (.ref g))) (hf : PySem.W.isFn K (.ref g) = true)
    (c : RunS X X.A g r) : OpS X (binaryOp op) (rBinI C r) := by
  subst hK
  exact op_binI hc hs hf c
/-! ### all that is told of ratios -/
structure RX (P : Program) (w : World) (K : PySem.W.Frag) (mg : Str → Option Value) (base : Heap) (C D : Addr) where
  T : RCl K mg C
  fB : Addr
  Tb : BRC K mg D fB
  PK : Addr
  gP : mg "PeekError" = some (.ref PK)
  ex : PySem.W.exmOne K (.ref D) (.ref PK) = some true
  xf : XfC K D
  ec : ExcC K D
  me : PySem.W.kitOne K (.ref D) (.ref D) = some true
  kI : PySem.W.kitOne K (.type "int") (.ref C) = some false
  sf : PySem.W.selfFirst K C = true
  gAdd : Addr
  fdAdd : FuncData
  s_add : PySem.W.findIn K (.ref C) (PySem.dunder (Operator.info .Add).2) = some (some (.ref gAdd))
  i_add : PySem.W.isFn K (.ref gAdd) = true
  r_add : PySem.W.findIn K (.ref C) (dunderR (Operator.info .Add).2) = some none
  G_add : FnOk P w K mg base (L2.CX P w) 7 gAdd fdAdd ["self", "other"] (spBin K C D fAdd)
  b_add : Binds K fdAdd ["self", "other"] []
  gSub : Addr
  fdSub : FuncData
  s_sub : PySem.W.findIn K (.ref C) (PySem.dunder (Operator.info .Sub).2) = some (some (.ref gSub))
  i_sub : PySem.W.isFn K (.ref gSub) = true
  r_sub : PySem.W.findIn K (.ref C) (dunderR (Operator.info .Sub).2) = some none
  G_sub : FnOk P w K mg base (L2.CX P w) 7 gSub fdSub ["self", "other"] (spBin K C D fSub)
  b_sub : Binds K fdSub ["self", "other"] []
  gMul : Addr
  fdMul : FuncData
  s_mul : PySem.W.findIn K (.ref C) (PySem.dunder (Operator.info .Mult).2) = some (some (.ref gMul))
  i_mul : PySem.W.isFn K (.ref gMul) = true
  r_mul : PySem.W.findIn K (.ref C) (dunderR (Operator.info .Mult).2) = some none
  G_mul : FnOk P w K mg base (L2.CX P w) 7 gMul fdMul ["self", "other"] (spBin K C D fMul)
  b_mul : Binds K fdMul ["self", "other"] []
  gOver : Addr
  fdOver : FuncData
  m_over : Meth K C "over" gOver
  G_over : FnOk P w K mg base (L2.CX P w) 7 gOver fdOver ["self", "other"] (spOver K C D)
  b_over : Binds K fdOver ["self", "other"] []
  gCmp : Addr
  fdCmp : FuncData
  m_cmp : Meth K C "compared" gCmp
  G_cmp : FnOk P w K mg base (L2.CX P w) 7 gCmp fdCmp ["self", "other"] (spCmp K C D)
  b_cmp : Binds K fdCmp ["self", "other"] []
  gBelow : Addr
  fdBelow : FuncData
  m_below : Meth K C "is_below" gBelow
  G_below : FnOk P w K mg base (L2.CX P w) 8 gBelow fdBelow ["self", "other"] (spBelow K C D)
  b_below : Binds K fdBelow ["self", "other"] []
  mc : Value
  rd : ClX.CRead K C mc
  qOf : Addr
  gOf : Addr
  fdOf : FuncData
  st : StM K C mc "of" qOf gOf
  G_of : FnOk P w K mg base (L2.CX P w) 6 gOf fdOf ["value"] (spOf K C D)
  b_of : Binds K fdOf ["value"] []
  fR : Addr
  fdR : FuncData
  M_R : Mk K C fR
  G_R : FnOk P w K mg base (L2.CX P w) 3 fR fdR ["self", "top", "bottom"] (spRi K C D)
  b_R : Binds K fdR ["self", "top", "bottom"] []
  ds : List Value
  v_R1 : Vals [.int 1] ds
  b_R1 : Binds K fdR ["self", "top", "bottom"] ds
  d_R : Df K mg "Ratio" C
  ne : PySem.W.findIn K (.ref C) "__ne__" = some (some (.builtin "object.__ne__"))
  nfC : PySem.W.notFirst K C (.ref C) = true
  gEq : Addr
  fdEq : FuncData
  s_eq : PySem.W.findIn K (.ref C) "__eq__" = some (some (.ref gEq))
  i_eq : PySem.W.isFn K (.ref gEq) = true
  G_eq : FnOk P w K mg base CX0 2 gEq fdEq ["self", "other"] (spEqV K C)
  b_eq : Binds K fdEq ["self", "other"] []
  i_addI : BinT K C (Operator.info .Add).2 "int"
  i_subI : BinT K C (Operator.info .Sub).2 "int"
  i_mulI : BinT K C (Operator.info .Mult).2 "int"
  nfI : PySem.W.notFirst K C (.type "int") = true
  oN : OddT K C "NoneType"
  oB : OddT K C "bool"
  oS : OddT K C "str"
  oT : OddT K C "tuple"
  oL : OddT K C "list"
  oD : OddT K C "dict"
  kL : PySem.W.kitOne K (.ref C) (.type "list") = some false
  kT : PySem.W.kitOne K (.ref C) (.type "tuple") = some false
  gNeg : Addr
  fdNeg : FuncData
  s_neg : PySem.W.findIn K (.ref C) "__neg__" = some (some (.ref gNeg))
  i_neg : PySem.W.isFn K (.ref gNeg) = true
  G_neg : FnOk P w K mg base CX0 5 gNeg fdNeg ["self"] (spUn C fun t => -t)
  b_neg : Binds K fdNeg ["self"] []
  gAbs : Addr
  fdAbs : FuncData
  s_abs : PySem.W.findIn K (.ref C) "__abs__" = some (some (.ref gAbs))
  i_abs : PySem.W.isFn K (.ref gAbs) = true
  G_abs : FnOk P w K mg base CX0 5 gAbs fdAbs ["self"] (spUn C absI)
  b_abs : Binds K fdAbs ["self"] []
  kbn : KBn K fdR ["self", "top", "bottom"] 1 ["bottom", "top"] (fun us ws => us ++ ws.reverse) (fun vs zs => vs ++ zs.reverse)
  u60 : Value
  most : ClX.CVal K C mc "MOST_DIGITS" (.int 60) u60
  gAdded : Addr
  fdAdded : FuncData
  G_added : FnOk P w K mg base (L2.CX P w) 8 gAdded fdAdded ["ratios"] (spAdded K C D)
  b_added : Binds K fdAdded ["ratios"] []
  d_added : Df K mg "added" gAdded
  kb_added : KBinds K fdAdded ["ratios"] ["ratios"] (fun us ws => us ++ ws) (fun vs zs => vs ++ zs)
  gLeast : Addr
  fdLeast : FuncData
  G_least : FnOk P w K mg base (L2.CX P w) 9 gLeast fdLeast ["ratios"] (spEnd K C D (-1))
  b_least : Binds K fdLeast ["ratios"] []
  d_least : Df K mg "least_of" gLeast
  gGreatest : Addr
  fdGreatest : FuncData
  G_greatest : FnOk P w K mg base (L2.CX P w) 9 gGreatest fdGreatest ["ratios"] (spEnd K C D 1)
  b_greatest : Binds K fdGreatest ["ratios"] []
  d_greatest : Df K mg "greatest_of" gGreatest
  kb_greatest : KBinds K fdGreatest ["ratios"] ["ratios"] (fun us ws => us ++ ws) (fun vs zs => vs ++ zs)
/-! ### the part that is refused -/
/-- this way refuses this value for this part -/
def RefB (K : PySem.W.Frag) (C : Addr) (H : Hp) (way : Int) (v : V) (part : Str) : Prop :=
  (OddB K C H v ∧ ((0 ≤ way ∧ way < 6 ∧ part = "other") ∨ (way = 6 ∧ part = "value") ∨ (way = 7 ∧ part = "top") ∨ (way = 8 ∧ part = "bottom") ∨ ((way = 12 ∨ way = 13 ∨ way = 14) ∧ part = "ratios"))) ∨ (way = 3 ∧ part = "zero" ∧ ∃ c, Num C H v 0 c ∧ Sm c) ∨
  (way = 8 ∧ part = "bottom" ∧ v = .int 0) ∨ (NoLs K H v ∧ (way = 9 ∨ way = 10 ∨ way = 11) ∧ part = "ratios") ∨ (LsAt K C H v [] ∧ (way = 10 ∨ way = 11) ∧ part = "ratios")
def spPart (K : PySem.W.Frag) (C : Addr) : Sp := fun vs H Q _ => ∃ (way : Int) (x : Addr) (v : V) (t b : Int) (part : Str), vs = [.int way, .ref x, v] ∧ RatAt C H x t b ∧ Sm t ∧ Sm b ∧ RefB K C H way v part ∧ ∀ H2, Same H H2 → Q (.str part) H2
/-- whatever is wanted of the value: it raises -/
def Rz (te : TE) (σ : L2.St) (H : Hp) : Prop := ∀ Q : VK, te σ H Q
theorem rz_if {t : TT} {ta tb : TE} {σ : L2.St} {H : Hp} {b : Bool} (h : EvT t σ H b) (h1 : b = true → ∀ H1, Ex H H1 → Rz ta σ H1) (h2 : b = false → ∀ H1, Ex H H1 → Rz tb σ H1) : Rz (tIf t ta tb) σ H := fun Q => h H (Ex.refl H) _ fun H1 e => by
  cases b with
  | true => exact iteT (h1 rfl H1 e Q)
  | false => exact iteF (h2 rfl H1 e Q)
theorem rz_asg {te : TE} {σ : L2.St} {H : Hp} {g : TG} {D : Ends} (h : Rz te σ H) : tAsg te g D σ H := h _
theorem OddV.ext' {K : PySem.W.Frag} {C : Addr} {H H2 : Hp} {v : V} (h : OddV K C H v) (e : Ex H H2) : OddV K C H2 v := by
  obtain ⟨T, a, b⟩ := h
  exact ⟨T, tyx_ext a e, b⟩
theorem ex_made {H : Hp} {x dx : Addr} {o u : HO} (nx : H x = none) (nd : H dx = none) (ne : dx ≠ x) : Ex H (upd (upd H dx o) x u) := (Ex.new nd).trans (Ex.new (by rw [upd_ne (Ne.symm ne)]; exact nx))
theorem q_asgC {i : Nat} {v : V} {tz : TS} {D : Ends} {σ : L2.St} {H : Hp} (h : tz D (σ.set i (some v)) H) : tSeq (tAsg (tC v) (gName i)) tz D σ H := h
theorem q_mid {tu tz : TS} {D : Ends} {σ : L2.St} {H : Hp} (h : tu { D with nx := tz D } σ H) : tSeq tu tz D σ H := h
section
variable {P : Program} {w : World} {K : PySem.W.Frag} {mg : Str → Option Value} {base : Heap}
theorem sc_part : FnScope ["_law_way", "_law_ratio", "_law_odd", "_law_caught", "_law_told", "error"] ["_law_way", "_law_ratio", "_law_odd"] (defScope sPart) := ⟨rfl, rfl, rfl, by decide +kernel, rfl, by decide +kernel, by decide +kernel⟩
theorem ok_part {f C D : Addr} {fd : FuncData} (F : Fun K "_law_part" "_law_part" sPart f fd) (B : Bi mg) (X : RX P w K mg base C D) : FnOk P w K mg base CX0 11 f fd ["_law_way", "_law_ratio", "_law_odd"] (spPart K C) := by
  refine F.ok sc_part (fun vs H Q E h => ?_) (fun cdv A outer s H vs Q E hr h => ?_)
  · obtain ⟨way, x, v, t, b, part, rfl, _⟩ := h
    rfl
  · obtain ⟨way, x, v, t, b, part, rfl, hx, st, sb, h, kq⟩ := h
    have nd := sc_part.nd
    refine ⟨_, pss_cons (ps_set (i := 3) nd rfl (Or.inl rfl) pe_non)
(pss_cons (ps_try_keep (x := "PeekError") (n := "error") (c := .ref X.PK) (i := 5) (ts := fun _ _ _ => tAsg (tVar 5) (gName 3)) rfl rfl rfl nd rfl rfl rfl X.gP (fun W pn xe tk po => (pss_cons (ps_if (pt_cmpR op_lt (pv 0) pe_int (nomark _))
(pss_one (ps_set (i := 4) nd rfl (Or.inl rfl) (pe_ifExp (pt_cmpR op_eq (pv 0) pe_int (nomark _)) (pe_opS (op_binK (op := .Add) rfl X.sf X.s_add X.i_add X.r_add (.inl rfl) (runS_fn X.G_add (hr.mono (by decide)) X.b_add (fun σ => passAt tk σ))) (pv 1) (pv 2)) (pe_ifExp (pt_cmpR op_eq (pv 0) pe_int (nomark _)) (pe_opS (op_binK (op := .Sub) rfl X.sf X.s_sub X.i_sub X.r_sub (.inl rfl) (runS_fn X.G_sub (hr.mono (by decide)) X.b_sub (fun σ => passAt tk σ))) (pv 1) (pv 2)) (pe_opS (op_binK (op := .Mult) rfl X.sf X.s_mul X.i_mul X.r_mul (.inl rfl) (runS_fn X.G_mul (hr.mono (by decide)) X.b_mul (fun σ => passAt tk σ))) (pv 1) (pv 2))))))
(pss_one (ps_if (pt_cmpR op_lt (pv 0) pe_int (nomark _))
(pss_one (ps_set (i := 4) nd rfl (Or.inl rfl) (pe_ifExp (pt_cmpR op_eq (pv 0) pe_int (nomark _)) (pe_methC (pv 1) X.T.cl X.m_over (calls_fnS X.G_over (hr.mono (by decide)) X.b_over .nil (fun σ => passAt tk σ)) (pa_cons (pv 2) pa_nil)) (pe_ifExp (pt_cmpR op_eq (pv 0) pe_int (nomark _)) (pe_methC (pv 1) X.T.cl X.m_cmp (calls_fnS X.G_cmp (hr.mono (by decide)) X.b_cmp .nil (fun σ => passAt tk σ)) (pa_cons (pv 2) pa_nil)) (pe_methC (pv 1) X.T.cl X.m_below (calls_fnS X.G_below (hr.mono (by decide)) X.b_below .nil (fun σ => passAt tk σ)) (pa_cons (pv 2) pa_nil))))))
(pss_one (ps_if (pt_cmpR op_lt (pv 0) pe_int (nomark _))
(pss_one (ps_set (i := 4) nd rfl (Or.inl rfl) (pe_ifExp (pt_cmpR op_eq (pv 0) pe_int (nomark _)) (pe_stat (pe_gv X.T.v_Ratio) X.rd X.st (calls_fnS X.G_of (hr.mono (by decide)) X.b_of .nil (fun σ => passAt tk σ)) (pa_cons (pv 2) pa_nil)) (pe_ifExp (pt_cmpR op_eq (pv 0) pe_int (nomark _)) (pe_cs (calls_makeS X.M_R X.G_R (hr.mono (by decide)) X.b_R .nil (fun σ => passAt tk σ)) X.d_R.1 X.d_R.2 (pa_cons (pv 2) (pa_cons (pv 2) pa_nil))) (pe_cs (calls_makeS X.M_R X.G_R (hr.mono (by decide)) X.b_R .nil (fun σ => passAt tk σ)) X.d_R.1 X.d_R.2 (pa_cons pe_int (pa_cons (pv 2) pa_nil)))))))
(pss_one (ps_if (pt_cmpR op_lt (pv 0) pe_int (nomark _))
(pss_one (ps_set (i := 4) nd rfl (Or.inl rfl) (pe_ifExp (pt_cmpR op_eq (pv 0) pe_int (nomark _)) (pe_cs (calls_fnS X.G_added (hr.mono (by decide)) X.b_added .nil (fun σ => passAt tk σ)) X.d_added.1 X.d_added.2 (pa_cons (pv 2) pa_nil)) (pe_ifExp (pt_cmpR op_eq (pv 0) pe_int (nomark _)) (pe_cs (calls_fnS X.G_least (hr.mono (by decide)) X.b_least .nil (fun σ => passAt tk σ)) X.d_least.1 X.d_least.2 (pa_cons (pv 2) pa_nil)) (pe_cs (calls_fnS X.G_greatest (hr.mono (by decide)) X.b_greatest .nil (fun σ => passAt tk σ)) X.d_greatest.1 X.d_greatest.2 (pa_cons (pv 2) pa_nil))))))
(pss_one (ps_set (i := 4) nd rfl (Or.inl rfl) (pe_ifExp (pt_cmpR op_eq (pv 0) pe_int (nomark _)) (pe_cs (calls_fnS X.G_added (hr.mono (by decide)) X.b_added .nil (fun σ => passAt tk σ)) X.d_added.1 X.d_added.2 (pa_cons (pe_lst (pa_cons (pv 1) (pa_cons (pv 2) pa_nil))) pa_nil)) (pe_ifExp (pt_cmpR op_eq (pv 0) pe_int (nomark _)) (pe_cs (calls_fnS X.G_least (hr.mono (by decide)) X.b_least .nil (fun σ => passAt tk σ)) X.d_least.1 X.d_least.2 (pa_cons (pe_tup (pa_cons (pv 2) (pa_cons pe_int pa_nil))) pa_nil)) (pe_cs (calls_fnS X.G_greatest (hr.mono (by decide)) X.b_greatest .nil (fun σ => passAt tk σ)) X.d_greatest.1 X.d_greatest.2 (pa_cons (pe_lst (pa_cons pe_int (pa_cons (pv 1) (pa_cons (pv 2) pa_nil)))) pa_nil)))))))))))))
(pss_one (ps_ret (pe_ifExp (pt_cmpR op_notN' (pv 4) pe_non (nomark _)) pe_str pe_str))))) (fun a cls d pn => (pss_one (ps_set (i := 3) nd rfl (Or.inl rfl) (pv 5)))))
(pss_one (ps_ret (pe_ifExp (pt_val (pe_callB call_isQ (by rfl) B.n_isinstance (by decide +kernel) (pa_cons (pv 3) (pa_cons (pe_gv (v := .ref D) ⟨_, X.Tb.gl, rfl⟩) pa_nil)))) (pe_xq X.xf X.Tb.nP (pv 3)) pe_str)))), ?_⟩
    refine q_asgC (q_mid ?_)
    dsimp only
    generalize hW : wKeep _ _ _ _ _ = W
    have caught : ∀ H1, Ex H H1 → RzR D H1 (WE W [some (.int way), some (.ref x), some v, some .non, none, none]) part := fun H1 e1 d H2 n2 e2 hd => by
      subst hW
      refine ⟨X.ex, fun a na => ⟨_, rfl, ?_⟩⟩
      have ne : d ≠ a := ne_of_none hd na
      have h1 : (upd H2 a (exq (.ref D) (some d) a)) a = some (exq (.ref D) (some d) a) := upd_same
      have h2 : (upd H2 a (exq (.ref D) (some d) a)) d = some (.xd [("part", .str part)]) := by rw [upd_ne ne]; exact hd
      refine ⟨_, rfl, a, D, some d, .ref D, .ref D, true, rfl, fun o ho => by cases ho; exact ⟨_, h2⟩, h1, ClsV.own D, X.ec, X.me, true, rfl, iteT ?_⟩
      exact ⟨_, rfl, a, d, _, _, rfl, h1, h2, by rfl, kq _ ((e1.trans e2).trans (Ex.new na))⟩
    obtain ⟨dx, ex⟩ := id hx
    have lk : ∀ m : Str, m ≠ "top" → m ≠ "bottom" → (rf t b).lookup m = none := fun m m1 m2 => by
      unfold rf
      rw [lookup_putF, if_neg m2, lookup_putF, if_neg m1]
      rfl
    rcases h with ⟨od, h⟩ | ⟨rfl, rfl, c, hn, sc⟩ | ⟨rfl, rfl, rfl⟩ | ⟨nl, h, rfl⟩ | ⟨ls, h, rfl⟩
    · obtain ⟨T, ty, oT⟩ := id od
      rcases h with ⟨w0, w6, rfl⟩ | ⟨rfl, rfl⟩ | ⟨rfl, rfl⟩ | ⟨rfl, rfl⟩ | ⟨h, rfl⟩
      · obtain rfl | rfl | rfl | rfl | rfl | rfl : way = 0 ∨ way = 1 ∨ way = 2 ∨ way = 3 ∨ way = 4 ∨ way = 5 := by omega
        · exact q_if (b := true) (et_is (et_test (ev_op (ev_var rfl) ev_c rv_I0)) rfl) (fun _ Hg eg => rz_asg (rz_if (b := true) (et_is (et_test (ev_op (ev_var rfl) ev_c (rv_eq rfl))) (by decide +kernel)) (fun _ Hj0 ej0 => fun Q1 => ⟨_, rfl, _, rfl, x, dx, _, T, rfl, ((eg).trans ej0) _ _ ex, tyx_ext ty ((eg).trans ej0), oT.add, x, v, t, b, rfl, hx.ext ((eg).trans ej0), .inr ⟨od.odd.ext' ((eg).trans ej0), caught _ ((eg).trans ej0)⟩⟩) (fun c => by cases c))) (fun c => by cases c)
        · exact q_if (b := true) (et_is (et_test (ev_op (ev_var rfl) ev_c rv_I0)) rfl) (fun _ Hg eg => rz_asg (rz_if (b := false) (et_is (et_test (ev_op (ev_var rfl) ev_c (rv_eq rfl))) (by decide +kernel)) (fun c => by cases c) (fun _ Hj0 ej0 => rz_if (b := true) (et_is (et_test (ev_op (ev_var rfl) ev_c (rv_eq rfl))) (by decide +kernel)) (fun _ Hj1 ej1 => fun Q1 => ⟨_, rfl, _, rfl, x, dx, _, T, rfl, (((eg).trans ej0).trans ej1) _ _ ex, tyx_ext ty (((eg).trans ej0).trans ej1), oT.sub, x, v, t, b, rfl, hx.ext (((eg).trans ej0).trans ej1), .inr ⟨od.odd.ext' (((eg).trans ej0).trans ej1), caught _ (((eg).trans ej0).trans ej1)⟩⟩) (fun c => by cases c)))) (fun c => by cases c)
        · exact q_if (b := true) (et_is (et_test (ev_op (ev_var rfl) ev_c rv_I0)) rfl) (fun _ Hg eg => rz_asg (rz_if (b := false) (et_is (et_test (ev_op (ev_var rfl) ev_c (rv_eq rfl))) (by decide +kernel)) (fun c => by cases c) (fun _ Hj0 ej0 => rz_if (b := false) (et_is (et_test (ev_op (ev_var rfl) ev_c (rv_eq rfl))) (by decide +kernel)) (fun c => by cases c) (fun _ Hj1 ej1 => fun Q1 => ⟨_, rfl, _, rfl, x, dx, _, T, rfl, (((eg).trans ej0).trans ej1) _ _ ex, tyx_ext ty (((eg).trans ej0).trans ej1), oT.mul, x, v, t, b, rfl, hx.ext (((eg).trans ej0).trans ej1), .inr ⟨od.odd.ext' (((eg).trans ej0).trans ej1), caught _ (((eg).trans ej0).trans ej1)⟩⟩)))) (fun c => by cases c)
        · exact q_if (b := false) (et_is (et_test (ev_op (ev_var rfl) ev_c rv_I0)) rfl) (fun c => by cases c) (fun _ H0 e0 => s_if (b := true) (et_is (et_test (ev_op (ev_var rfl) ev_c rv_I0)) rfl) (fun _ Hg eg => rz_asg (rz_if (b := true) (et_is (et_test (ev_op (ev_var rfl) ev_c (rv_eq rfl))) (by decide +kernel)) (fun _ Hj0 ej0 => fun Q1 => ⟨_, rfl, x, dx, _, rfl, (((e0).trans eg).trans ej0) _ _ ex, lk _ (by decide +kernel) (by decide +kernel), _, rfl, x, v, t, b, rfl, hx.ext (((e0).trans eg).trans ej0), .inr ⟨od.odd.ext' (((e0).trans eg).trans ej0), caught _ (((e0).trans eg).trans ej0)⟩⟩) (fun c => by cases c))) (fun c => by cases c))
        · exact q_if (b := false) (et_is (et_test (ev_op (ev_var rfl) ev_c rv_I0)) rfl) (fun c => by cases c) (fun _ H0 e0 => s_if (b := true) (et_is (et_test (ev_op (ev_var rfl) ev_c rv_I0)) rfl) (fun _ Hg eg => rz_asg (rz_if (b := false) (et_is (et_test (ev_op (ev_var rfl) ev_c (rv_eq rfl))) (by decide +kernel)) (fun c => by cases c) (fun _ Hj0 ej0 => rz_if (b := true) (et_is (et_test (ev_op (ev_var rfl) ev_c (rv_eq rfl))) (by decide +kernel)) (fun _ Hj1 ej1 => fun Q1 => ⟨_, rfl, x, dx, _, rfl, ((((e0).trans eg).trans ej0).trans ej1) _ _ ex, lk _ (by decide +kernel) (by decide +kernel), _, rfl, x, v, t, b, rfl, hx.ext ((((e0).trans eg).trans ej0).trans ej1), .inr ⟨od.odd.ext' ((((e0).trans eg).trans ej0).trans ej1), caught _ ((((e0).trans eg).trans ej0).trans ej1)⟩⟩) (fun c => by cases c)))) (fun c => by cases c))
        · exact q_if (b := false) (et_is (et_test (ev_op (ev_var rfl) ev_c rv_I0)) rfl) (fun c => by cases c) (fun _ H0 e0 => s_if (b := true) (et_is (et_test (ev_op (ev_var rfl) ev_c rv_I0)) rfl) (fun _ Hg eg => rz_asg (rz_if (b := false) (et_is (et_test (ev_op (ev_var rfl) ev_c (rv_eq rfl))) (by decide +kernel)) (fun c => by cases c) (fun _ Hj0 ej0 => rz_if (b := false) (et_is (et_test (ev_op (ev_var rfl) ev_c (rv_eq rfl))) (by decide +kernel)) (fun c => by cases c) (fun _ Hj1 ej1 => fun Q1 => ⟨_, rfl, x, dx, _, rfl, ((((e0).trans eg).trans ej0).trans ej1) _ _ ex, lk _ (by decide +kernel) (by decide +kernel), _, rfl, x, v, t, b, rfl, hx.ext ((((e0).trans eg).trans ej0).trans ej1), .inr ⟨od.odd.ext' ((((e0).trans eg).trans ej0).trans ej1), caught _ ((((e0).trans eg).trans ej0).trans ej1)⟩⟩)))) (fun c => by cases c))
      · exact q_if (b := false) (et_is (et_test (ev_op (ev_var rfl) ev_c rv_I0)) rfl) (fun c => by cases c) (fun _ H0 e0 => s_if (b := false) (et_is (et_test (ev_op (ev_var rfl) ev_c rv_I0)) rfl) (fun c => by cases c) (fun _ H1 e1 => s_if (b := true) (et_is (et_test (ev_op (ev_var rfl) ev_c rv_I0)) rfl) (fun _ Hg eg => rz_asg (rz_if (b := true) (et_is (et_test (ev_op (ev_var rfl) ev_c (rv_eq rfl))) (by decide +kernel)) (fun _ Hj0 ej0 => fun Q1 => ⟨rfl, _, rfl, v, rfl, .inr (.inr ⟨od.odd.ext' ((((e0).trans e1).trans eg).trans ej0), caught _ ((((e0).trans e1).trans eg).trans ej0)⟩)⟩) (fun c => by cases c))) (fun c => by cases c)))
      · exact q_if (b := false) (et_is (et_test (ev_op (ev_var rfl) ev_c rv_I0)) rfl) (fun c => by cases c) (fun _ H0 e0 => s_if (b := false) (et_is (et_test (ev_op (ev_var rfl) ev_c rv_I0)) rfl) (fun c => by cases c) (fun _ H1 e1 => s_if (b := true) (et_is (et_test (ev_op (ev_var rfl) ev_c rv_I0)) rfl) (fun _ Hg eg => rz_asg (rz_if (b := false) (et_is (et_test (ev_op (ev_var rfl) ev_c (rv_eq rfl))) (by decide +kernel)) (fun c => by cases c) (fun _ Hj0 ej0 => rz_if (b := true) (et_is (et_test (ev_op (ev_var rfl) ev_c (rv_eq rfl))) (by decide +kernel)) (fun _ Hj1 ej1 => fun Q1 => ⟨_, rfl, _, rfl, fun y dy ny nd ne => ⟨y, dy, v, v, rfl, upd_same, .inl ⟨(od.odd.ext' ((((((e0).trans e1).trans eg).trans ej0).trans ej1).trans (ex_made ny nd ne))).not, caught _ ((((((e0).trans e1).trans eg).trans ej0).trans ej1).trans (ex_made ny nd ne))⟩⟩⟩) (fun c => by cases c)))) (fun c => by cases c)))
      · exact q_if (b := false) (et_is (et_test (ev_op (ev_var rfl) ev_c rv_I0)) rfl) (fun c => by cases c) (fun _ H0 e0 => s_if (b := false) (et_is (et_test (ev_op (ev_var rfl) ev_c rv_I0)) rfl) (fun c => by cases c) (fun _ H1 e1 => s_if (b := true) (et_is (et_test (ev_op (ev_var rfl) ev_c rv_I0)) rfl) (fun _ Hg eg => rz_asg (rz_if (b := false) (et_is (et_test (ev_op (ev_var rfl) ev_c (rv_eq rfl))) (by decide +kernel)) (fun c => by cases c) (fun _ Hj0 ej0 => rz_if (b := false) (et_is (et_test (ev_op (ev_var rfl) ev_c (rv_eq rfl))) (by decide +kernel)) (fun c => by cases c) (fun _ Hj1 ej1 => fun Q1 => ⟨_, rfl, fun y dy ny nd ne => ⟨y, dy, .int 3, v, rfl, upd_same, .inr ⟨3, rfl, .inl ⟨.inl (od.odd.ext' ((((((e0).trans e1).trans eg).trans ej0).trans ej1).trans (ex_made ny nd ne))).not, caught _ ((((((e0).trans e1).trans eg).trans ej0).trans ej1).trans (ex_made ny nd ne))⟩⟩⟩⟩)))) (fun c => by cases c)))
      · rcases h with rfl | rfl | rfl
        · exact q_if (b := false) (et_is (et_test (ev_op (ev_var rfl) ev_c rv_I0)) rfl) (fun c => by cases c) (fun _ H0 e0 => s_if (b := false) (et_is (et_test (ev_op (ev_var rfl) ev_c rv_I0)) rfl) (fun c => by cases c) (fun _ H1 e1 => s_if (b := false) (et_is (et_test (ev_op (ev_var rfl) ev_c rv_I0)) rfl) (fun c => by cases c) (fun _ H2 e2 => s_if (b := false) (et_is (et_test (ev_op (ev_var rfl) ev_c rv_I0)) rfl) (fun c => by cases c) (fun _ H3 e3 => rz_asg (rz_if (b := true) (et_is (et_test (ev_op (ev_var rfl) ev_c (rv_eq rfl))) (by decide +kernel)) (fun _ Hj0 ej0 => fun Q1 => ⟨_, rfl, _, rfl, sz (Nat.le_of_ble_eq_true rfl), fun l nl => ⟨.ref l, rfl, .inl ⟨.inr ⟨[(.ref x, some (t, b)), (v, none)], ls_list (ys := [(.ref x, some (t, b)), (v, none)]) upd_same (Nat.le_of_ble_eq_true rfl) (by
          intro y hy
          simp only [List.mem_cons, List.not_mem_nil, or_false] at hy
          rcases hy with rfl | rfl
          · exact (.inl ⟨x, rfl, hx.ext ((((((e0).trans e1).trans e2).trans e3).trans ej0).trans (Ex.new nl))⟩ : Num C _ _ t b)
          · exact (od.odd.ext' ((((((e0).trans e1).trans e2).trans e3).trans ej0).trans (Ex.new nl)) : OddV K C _ v)), ⟨(v, none), by simp, rfl⟩⟩, caught _ ((((((e0).trans e1).trans e2).trans e3).trans ej0).trans (Ex.new nl))⟩⟩⟩) (fun c => by cases c))))))
        · exact q_if (b := false) (et_is (et_test (ev_op (ev_var rfl) ev_c rv_I0)) rfl) (fun c => by cases c) (fun _ H0 e0 => s_if (b := false) (et_is (et_test (ev_op (ev_var rfl) ev_c rv_I0)) rfl) (fun c => by cases c) (fun _ H1 e1 => s_if (b := false) (et_is (et_test (ev_op (ev_var rfl) ev_c rv_I0)) rfl) (fun c => by cases c) (fun _ H2 e2 => s_if (b := false) (et_is (et_test (ev_op (ev_var rfl) ev_c rv_I0)) rfl) (fun c => by cases c) (fun _ H3 e3 => rz_asg (rz_if (b := false) (et_is (et_test (ev_op (ev_var rfl) ev_c (rv_eq rfl))) (by decide +kernel)) (fun c => by cases c) (fun _ Hj0 ej0 => rz_if (b := true) (et_is (et_test (ev_op (ev_var rfl) ev_c (rv_eq rfl))) (by decide +kernel)) (fun _ Hj1 ej1 => fun Q1 => ⟨_, rfl, sz (Nat.le_of_ble_eq_true rfl), fun l nl => ⟨.ref l, rfl, .ref l, _, rfl, by decide, .inl ⟨.inr ⟨[(v, none), (.int 1, some (1, 1))], ls_tup (ys := [(v, none), (.int 1, some (1, 1))]) upd_same (Nat.le_of_ble_eq_true rfl) (by
          intro y hy
          simp only [List.mem_cons, List.not_mem_nil, or_false] at hy
          rcases hy with rfl | rfl
          · exact (od.odd.ext' (((((((e0).trans e1).trans e2).trans e3).trans ej0).trans ej1).trans (Ex.new nl)) : OddV K C _ v)
          · exact (.inr ⟨rfl, rfl⟩ : Num C _ _ 1 1)), .inl ⟨(v, none), by simp, rfl⟩⟩, caught _ (((((((e0).trans e1).trans e2).trans e3).trans ej0).trans ej1).trans (Ex.new nl))⟩⟩⟩) (fun c => by cases c)))))))
        · exact q_if (b := false) (et_is (et_test (ev_op (ev_var rfl) ev_c rv_I0)) rfl) (fun c => by cases c) (fun _ H0 e0 => s_if (b := false) (et_is (et_test (ev_op (ev_var rfl) ev_c rv_I0)) rfl) (fun c => by cases c) (fun _ H1 e1 => s_if (b := false) (et_is (et_test (ev_op (ev_var rfl) ev_c rv_I0)) rfl) (fun c => by cases c) (fun _ H2 e2 => s_if (b := false) (et_is (et_test (ev_op (ev_var rfl) ev_c rv_I0)) rfl) (fun c => by cases c) (fun _ H3 e3 => rz_asg (rz_if (b := false) (et_is (et_test (ev_op (ev_var rfl) ev_c (rv_eq rfl))) (by decide +kernel)) (fun c => by cases c) (fun _ Hj0 ej0 => rz_if (b := false) (et_is (et_test (ev_op (ev_var rfl) ev_c (rv_eq rfl))) (by decide +kernel)) (fun c => by cases c) (fun _ Hj1 ej1 => fun Q1 => ⟨_, rfl, _, rfl, sz (Nat.le_of_ble_eq_true rfl), fun l nl => ⟨.ref l, rfl, .ref l, _, rfl, by decide, .inl ⟨.inr ⟨[(.int 1, some (1, 1)), (.ref x, some (t, b)), (v, none)], ls_list (ys := [(.int 1, some (1, 1)), (.ref x, some (t, b)), (v, none)]) upd_same (Nat.le_of_ble_eq_true rfl) (by
          intro y hy
          simp only [List.mem_cons, List.not_mem_nil, or_false] at hy
          rcases hy with rfl | rfl | rfl
          · exact (.inr ⟨rfl, rfl⟩ : Num C _ _ 1 1)
          · exact (.inl ⟨x, rfl, hx.ext (((((((e0).trans e1).trans e2).trans e3).trans ej0).trans ej1).trans (Ex.new nl))⟩ : Num C _ _ t b)
          · exact (od.odd.ext' (((((((e0).trans e1).trans e2).trans e3).trans ej0).trans ej1).trans (Ex.new nl)) : OddV K C _ v)), .inl ⟨(v, none), by simp, rfl⟩⟩, caught _ (((((((e0).trans e1).trans e2).trans e3).trans ej0).trans ej1).trans (Ex.new nl))⟩⟩⟩)))))))
    · exact q_if (b := false) (et_is (et_test (ev_op (ev_var rfl) ev_c rv_I0)) rfl) (fun c => by cases c) (fun _ H0 e0 => s_if (b := true) (et_is (et_test (ev_op (ev_var rfl) ev_c rv_I0)) rfl) (fun _ Hg eg => rz_asg (rz_if (b := true) (et_is (et_test (ev_op (ev_var rfl) ev_c (rv_eq rfl))) (by decide +kernel)) (fun _ Hj0 ej0 => fun Q1 => ⟨_, rfl, x, dx, _, rfl, (((e0).trans eg).trans ej0) _ _ ex, lk _ (by decide +kernel) (by decide +kernel), _, rfl, x, v, t, b, rfl, hx.ext (((e0).trans eg).trans ej0), .inl ⟨0, c, hn.ext (((e0).trans eg).trans ej0), st, sb, Nat.pow_pos (n := 4000) (by decide : 0 < 2), sc, .inl ⟨rfl, caught _ (((e0).trans eg).trans ej0)⟩⟩⟩) (fun c => by cases c))) (fun c => by cases c))
    · exact q_if (b := false) (et_is (et_test (ev_op (ev_var rfl) ev_c rv_I0)) rfl) (fun c => by cases c) (fun _ H0 e0 => s_if (b := false) (et_is (et_test (ev_op (ev_var rfl) ev_c rv_I0)) rfl) (fun c => by cases c) (fun _ H1 e1 => s_if (b := true) (et_is (et_test (ev_op (ev_var rfl) ev_c rv_I0)) rfl) (fun _ Hg eg => rz_asg (rz_if (b := false) (et_is (et_test (ev_op (ev_var rfl) ev_c (rv_eq rfl))) (by decide +kernel)) (fun c => by cases c) (fun _ Hj0 ej0 => rz_if (b := false) (et_is (et_test (ev_op (ev_var rfl) ev_c (rv_eq rfl))) (by decide +kernel)) (fun c => by cases c) (fun _ Hj1 ej1 => fun Q1 => ⟨_, rfl, fun y dy ny nd ne => ⟨y, dy, .int 3, .int 0, rfl, upd_same, .inr ⟨3, rfl, .inl ⟨.inr rfl, caught _ ((((((e0).trans e1).trans eg).trans ej0).trans ej1).trans (ex_made ny nd ne))⟩⟩⟩⟩)))) (fun c => by cases c)))
    · rcases h with rfl | rfl | rfl
      · exact q_if (b := false) (et_is (et_test (ev_op (ev_var rfl) ev_c rv_I0)) rfl) (fun c => by cases c) (fun _ H0 e0 => s_if (b := false) (et_is (et_test (ev_op (ev_var rfl) ev_c rv_I0)) rfl) (fun c => by cases c) (fun _ H1 e1 => s_if (b := false) (et_is (et_test (ev_op (ev_var rfl) ev_c rv_I0)) rfl) (fun c => by cases c) (fun _ H2 e2 => s_if (b := true) (et_is (et_test (ev_op (ev_var rfl) ev_c rv_I0)) rfl) (fun _ Hg eg => rz_asg (rz_if (b := true) (et_is (et_test (ev_op (ev_var rfl) ev_c (rv_eq rfl))) (by decide +kernel)) (fun _ Hj0 ej0 => fun Q1 => ⟨_, rfl, v, rfl, .inl ⟨.inl (nl.ext (((((e0).trans e1).trans e2).trans eg).trans ej0)), caught _ (((((e0).trans e1).trans e2).trans eg).trans ej0)⟩⟩) (fun c => by cases c))) (fun c => by cases c))))
      · exact q_if (b := false) (et_is (et_test (ev_op (ev_var rfl) ev_c rv_I0)) rfl) (fun c => by cases c) (fun _ H0 e0 => s_if (b := false) (et_is (et_test (ev_op (ev_var rfl) ev_c rv_I0)) rfl) (fun c => by cases c) (fun _ H1 e1 => s_if (b := false) (et_is (et_test (ev_op (ev_var rfl) ev_c rv_I0)) rfl) (fun c => by cases c) (fun _ H2 e2 => s_if (b := true) (et_is (et_test (ev_op (ev_var rfl) ev_c rv_I0)) rfl) (fun _ Hg eg => rz_asg (rz_if (b := false) (et_is (et_test (ev_op (ev_var rfl) ev_c (rv_eq rfl))) (by decide +kernel)) (fun c => by cases c) (fun _ Hj0 ej0 => rz_if (b := true) (et_is (et_test (ev_op (ev_var rfl) ev_c (rv_eq rfl))) (by decide +kernel)) (fun _ Hj1 ej1 => fun Q1 => ⟨_, rfl, v, rfl, v, _, rfl, by decide, .inl ⟨.inl (nl.ext ((((((e0).trans e1).trans e2).trans eg).trans ej0).trans ej1)), caught _ ((((((e0).trans e1).trans e2).trans eg).trans ej0).trans ej1)⟩⟩) (fun c => by cases c)))) (fun c => by cases c))))
      · exact q_if (b := false) (et_is (et_test (ev_op (ev_var rfl) ev_c rv_I0)) rfl) (fun c => by cases c) (fun _ H0 e0 => s_if (b := false) (et_is (et_test (ev_op (ev_var rfl) ev_c rv_I0)) rfl) (fun c => by cases c) (fun _ H1 e1 => s_if (b := false) (et_is (et_test (ev_op (ev_var rfl) ev_c rv_I0)) rfl) (fun c => by cases c) (fun _ H2 e2 => s_if (b := true) (et_is (et_test (ev_op (ev_var rfl) ev_c rv_I0)) rfl) (fun _ Hg eg => rz_asg (rz_if (b := false) (et_is (et_test (ev_op (ev_var rfl) ev_c (rv_eq rfl))) (by decide +kernel)) (fun c => by cases c) (fun _ Hj0 ej0 => rz_if (b := false) (et_is (et_test (ev_op (ev_var rfl) ev_c (rv_eq rfl))) (by decide +kernel)) (fun c => by cases c) (fun _ Hj1 ej1 => fun Q1 => ⟨_, rfl, v, rfl, v, _, rfl, by decide, .inl ⟨.inl (nl.ext ((((((e0).trans e1).trans e2).trans eg).trans ej0).trans ej1)), caught _ ((((((e0).trans e1).trans e2).trans eg).trans ej0).trans ej1)⟩⟩)))) (fun c => by cases c))))
    · rcases h with rfl | rfl
      · exact q_if (b := false) (et_is (et_test (ev_op (ev_var rfl) ev_c rv_I0)) rfl) (fun c => by cases c) (fun _ H0 e0 => s_if (b := false) (et_is (et_test (ev_op (ev_var rfl) ev_c rv_I0)) rfl) (fun c => by cases c) (fun _ H1 e1 => s_if (b := false) (et_is (et_test (ev_op (ev_var rfl) ev_c rv_I0)) rfl) (fun c => by cases c) (fun _ H2 e2 => s_if (b := true) (et_is (et_test (ev_op (ev_var rfl) ev_c rv_I0)) rfl) (fun _ Hg eg => rz_asg (rz_if (b := false) (et_is (et_test (ev_op (ev_var rfl) ev_c (rv_eq rfl))) (by decide +kernel)) (fun c => by cases c) (fun _ Hj0 ej0 => rz_if (b := true) (et_is (et_test (ev_op (ev_var rfl) ev_c (rv_eq rfl))) (by decide +kernel)) (fun _ Hj1 ej1 => fun Q1 => ⟨_, rfl, v, rfl, v, _, rfl, by decide, .inl ⟨.inr ⟨[], ls.ext ((((((e0).trans e1).trans e2).trans eg).trans ej0).trans ej1), .inr rfl⟩, caught _ ((((((e0).trans e1).trans e2).trans eg).trans ej0).trans ej1)⟩⟩) (fun c => by cases c)))) (fun c => by cases c))))
      · exact q_if (b := false) (et_is (et_test (ev_op (ev_var rfl) ev_c rv_I0)) rfl) (fun c => by cases c) (fun _ H0 e0 => s_if (b := false) (et_is (et_test (ev_op (ev_var rfl) ev_c rv_I0)) rfl) (fun c => by cases c) (fun _ H1 e1 => s_if (b := false) (et_is (et_test (ev_op (ev_var rfl) ev_c rv_I0)) rfl) (fun c => by cases c) (fun _ H2 e2 => s_if (b := true) (et_is (et_test (ev_op (ev_var rfl) ev_c rv_I0)) rfl) (fun _ Hg eg => rz_asg (rz_if (b := false) (et_is (et_test (ev_op (ev_var rfl) ev_c (rv_eq rfl))) (by decide +kernel)) (fun c => by cases c) (fun _ Hj0 ej0 => rz_if (b := false) (et_is (et_test (ev_op (ev_var rfl) ev_c (rv_eq rfl))) (by decide +kernel)) (fun c => by cases c) (fun _ Hj1 ej1 => fun Q1 => ⟨_, rfl, v, rfl, v, _, rfl, by decide, .inl ⟨.inr ⟨[], ls.ext ((((((e0).trans e1).trans e2).trans eg).trans ej0).trans ej1), .inr rfl⟩, caught _ ((((((e0).trans e1).trans e2).trans eg).trans ej0).trans ej1)⟩⟩)))) (fun c => by cases c))))
end
end K01
end

section -- K01r
set_option linter.all false
set_option exponentiation.threshold 9000
set_option maxRecDepth 100000
set_option maxHeartbeats 4000000
namespace K01
open PySem PySem.Spec L2 Pk Evl
open PyProof.Rows hiding St
/-! ### lowest terms, once -/
theorem lowp_spec {n d : Int} (hd : d ≠ 0) : ∃ g, g ≠ 0 ∧ n = (lowp n d).1 * g ∧ d = (lowp n d).2 * g ∧ 0 < (lowp n d).2 ∧ Nat.gcd (lowp n d).1.natAbs (lowp n d).2.natAbs = 1 := by
  have s0 := sg_ne (t := n) hd
  have sa := sg_abs n d
  have l3 := (lowp_le (n := n) hd).2.2
  obtain ⟨n', hn⟩ : sg n d ∣ n := Int.natAbs_dvd_natAbs.mp (by rw [sa]; exact Nat.gcd_dvd_left _ _)
  obtain ⟨d', hd'⟩ : sg n d ∣ d := Int.natAbs_dvd_natAbs.mp (by rw [sa]; exact Nat.gcd_dvd_right _ _)
  have e1 : (lowp n d).1 = n' := by
    have : (sg n d * n').fdiv (sg n d) = n' := Int.mul_fdiv_cancel_left _ s0
    rw [← hn] at this
    exact this
  have e2 : (lowp n d).2 = d' := by
    have : (sg n d * d').fdiv (sg n d) = d' := Int.mul_fdiv_cancel_left _ s0
    rw [← hd'] at this
    exact this
  have g0 : 0 < (sg n d).natAbs := Int.natAbs_pos.mpr s0
  refine ⟨sg n d, s0, by rw [e1, Int.mul_comm]; exact hn, by rw [e2, Int.mul_comm]; exact hd', l3, ?_⟩
  rw [e1, e2]
  have m1 : n.natAbs = (sg n d).natAbs * n'.natAbs := by rw [← Int.natAbs_mul, ← hn]
  have m2 : d.natAbs = (sg n d).natAbs * d'.natAbs := by rw [← Int.natAbs_mul, ← hd']
  have m3 : (sg n d).natAbs * Nat.gcd n'.natAbs d'.natAbs = (sg n d).natAbs * 1 := by
    rw [← Nat.gcd_mul_left, ← m1, ← m2, ← sa, Nat.mul_one]
  exact Nat.eq_of_mul_eq_mul_left g0 m3
theorem low_uniq {u v a b : Int} (hv : 0 < v) (hg : Nat.gcd u.natAbs v.natAbs = 1) (hb : 0 < b) (hg2 : Nat.gcd a.natAbs b.natAbs = 1) (h : u * b = a * v) : u = a ∧ v = b := by
  have hn : u.natAbs * b.natAbs = a.natAbs * v.natAbs := by rw [← Int.natAbs_mul, ← Int.natAbs_mul, h]
  have d1 : v.natAbs ∣ b.natAbs := by
    have c : Nat.Coprime v.natAbs u.natAbs := by rw [Nat.Coprime, Nat.gcd_comm]; exact hg
    refine c.dvd_of_dvd_mul_left (n := b.natAbs) ?_
    rw [hn]
    exact Nat.dvd_mul_left _ _
  have d2 : b.natAbs ∣ v.natAbs := by
    have c : Nat.Coprime b.natAbs a.natAbs := by rw [Nat.Coprime, Nat.gcd_comm]; exact hg2
    refine c.dvd_of_dvd_mul_left (n := v.natAbs) ?_
    rw [← hn]
    exact Nat.dvd_mul_left _ _
  have e : v = b := by
    have := Nat.dvd_antisymm d1 d2
    omega
  subst e
  exact ⟨Int.eq_of_mul_eq_mul_right (by omega) h, rfl⟩
/-- in lowest terms, the bottom above 0 -/
def Lw (p : Int × Int) : Prop := 0 < p.2 ∧ Nat.gcd p.1.natAbs p.2.natAbs = 1
theorem lw_lowp {n d : Int} (hd : d ≠ 0) : Lw (lowp n d) := by
  obtain ⟨g, _, _, _, h1, h2⟩ := lowp_spec (n := n) hd
  exact ⟨h1, h2⟩
theorem lowp_of {n d : Int} {p : Int × Int} (hd : d ≠ 0) (hp : Lw p) (h : n * p.2 = p.1 * d) : lowp n d = p := by
  obtain ⟨g, g0, e1, e2, h1, h2⟩ := lowp_spec (n := n) hd
  have h3 : (lowp n d).1 * p.2 = p.1 * (lowp n d).2 := by
    refine Int.eq_of_mul_eq_mul_right g0 ?_
    calc (lowp n d).1 * p.2 * g = ((lowp n d).1 * g) * p.2 := by rw [Int.mul_right_comm]
      _ = n * p.2 := by rw [← e1]
      _ = p.1 * d := h
      _ = p.1 * ((lowp n d).2 * g) := by rw [← e2]
      _ = p.1 * (lowp n d).2 * g := by rw [Int.mul_assoc]
  obtain ⟨z1, z2⟩ := low_uniq h1 h2 hp.1 hp.2 h3
  exact Prod.ext z1 z2
theorem lowp_self {p : Int × Int} (hp : Lw p) : lowp p.1 p.2 = p := lowp_of (Int.ne_of_gt hp.1) hp rfl
theorem lowp_one (i : Int) : lowp i 1 = (i, 1) := lowp_of (p := (i, 1)) (by decide) ⟨(by decide : (0 : Int) < 1), by show Nat.gcd i.natAbs 1 = 1; exact Nat.gcd_one_right _⟩ rfl
/-- the cross product of what is put into lowest terms -/
theorem lowp_cross {n d : Int} (hd : d ≠ 0) : (lowp n d).1 * d = n * (lowp n d).2 := by
  obtain ⟨g, g0, e1, e2, _⟩ := lowp_spec (n := n) hd
  calc (lowp n d).1 * d = (lowp n d).1 * ((lowp n d).2 * g) := by rw [← e2]
    _ = ((lowp n d).1 * g) * (lowp n d).2 := by rw [Int.mul_comm (lowp n d).2 g, Int.mul_assoc]
    _ = n * (lowp n d).2 := by rw [← e1]
theorem lowp_eq {n d m e : Int} (hd : d ≠ 0) (he : e ≠ 0) (h : n * e = m * d) : lowp n d = lowp m e := by
  refine lowp_of hd (lw_lowp he) ?_
  have c := lowp_cross (n := m) he
  refine Int.eq_of_mul_eq_mul_right he ?_
  calc n * (lowp m e).2 * e = (n * e) * (lowp m e).2 := by rw [Int.mul_right_comm]
    _ = m * d * (lowp m e).2 := by rw [h]
    _ = m * (lowp m e).2 * d := by rw [Int.mul_right_comm]
    _ = (lowp m e).1 * e * d := by rw [c]
    _ = (lowp m e).1 * d * e := by rw [Int.mul_right_comm]
theorem lw_eq {p q : Int × Int} (hp : Lw p) (hq : Lw q) : (p.1 * q.2 = q.1 * p.2) ↔ p = q := ⟨fun h => by
  obtain ⟨z1, z2⟩ := low_uniq hp.1 hp.2 hq.1 hq.2 h
  exact Prod.ext z1 z2, fun h => by rw [h]⟩
theorem ratEq_iff {p q : Int × Int} : ratEq p.1 p.2 q.1 q.2 = true ↔ p = q := by
  unfold ratEq
  rw [Bool.and_eq_true, decide_eq_true_iff, decide_eq_true_iff]
  exact ⟨fun h => Prod.ext h.1 h.2, fun h => by rw [h]; exact ⟨rfl, rfl⟩⟩
theorem cmpI_lt {a b : Int} (h : a < b) : cmpI a b = -1 := by
  unfold cmpI
  rw [decide_eq_false (by omega : ¬ a > b), decide_eq_true h]
  rfl
theorem cmpI_gt {a b : Int} (h : b < a) : cmpI a b = 1 := by
  unfold cmpI
  rw [decide_eq_true (by omega : a > b), decide_eq_false (by omega : ¬ a < b)]
  rfl
theorem cmpI_eq {a b : Int} (h : a = b) : cmpI a b = 0 := by
  subst h
  unfold cmpI
  rw [decide_eq_false (by omega : ¬ a > a)]
  rfl
end K01
end

section -- K01s
set_option linter.all false
set_option exponentiation.threshold 9000
set_option maxRecDepth 100000
set_option maxHeartbeats 4000000
namespace K01
open PySem PySem.Spec L2 Pk Evl
open PyProof.Rows hiding St
theorem passLS {X : Cx} : ∀ σ : L2.St, PassesAt (L2.CX X.prog X.w) X σ E0 := fun σ pins H s e s' I c => passL pins σ H s e s' I c
/-! ### expressions whose value is a ratio, or a number -/
def EvX (C : Addr) (te : TE) (σ : L2.St) (H : Hp) (p : Int × Int) : Prop := ∀ H1, Ex H H1 → ∀ Q : VK, (∀ z H2, Ex H1 H2 → RatAt C H2 z p.1 p.2 → Q (.ref z) H2) → te σ H1 Q
def EvN (C : Addr) (te : TE) (σ : L2.St) (H : Hp) (p : Int × Int) : Prop := ∀ H1, Ex H H1 → ∀ Q : VK, (∀ v H2, Ex H1 H2 → Num C H2 v p.1 p.2 → Q v H2) → te σ H1 Q
def rOp (K : PySem.W.Frag) (C D : Addr) (nm : String) (f : Int → Int → Int → Int → Int × Int) : L2.St → V → V → Hp → VK → Prop := fun σ x y H Q => rBinI C (fun _ vs H Q => spBin K C D f vs H Q E0) σ x y H Q ∨ rBinT K C nm (fun _ vs H Q => spBin K C D f vs H Q E0) σ x y H Q
section
variable {K : PySem.W.Frag} {C D : Addr} {σ : L2.St} {H : Hp} {ta tb te tl : TE} {p q : Int × Int}
theorem ex_var {i : Nat} {x : Addr} (s : σ[i]? = some (some (.ref x))) (h : RatAt C H x p.1 p.2) : EvX C (tVar i) σ H p := fun H1 e Q k => ⟨_, s, k x H1 (Ex.refl H1) (h.ext e)⟩
theorem en_var {i : Nat} {v : V} (s : σ[i]? = some (some v)) (h : Num C H v p.1 p.2) : EvN C (tVar i) σ H p := fun H1 e Q k => ⟨_, s, k v H1 (Ex.refl H1) (h.ext e)⟩
theorem en_x (h : EvX C te σ H p) : EvN C te σ H p := fun H1 e Q k => h H1 e Q fun z H2 e2 hz => k _ H2 e2 (.inl ⟨z, rfl, hz⟩)
theorem en_int {i : Int} (h : Ev te σ H (.int i)) : EvN C te σ H (i, 1) := fun H1 e Q k => h H1 e Q fun H2 e2 => k _ H2 e2 (.inr ⟨rfl, rfl⟩)
theorem EvX.mono {H' : Hp} (e : Ex H H') (h : EvX C te σ H p) : EvX C te σ H' p := fun H1 e1 Q k => h H1 (e.trans e1) Q k
theorem ex_op {nm : String} {f : Int → Int → Int → Int → Int × Int} (ha : EvX C ta σ H p) (hb : EvN C tb σ H q) (s1 : Sm p.1) (s2 : Sm p.2) (s3 : Sm q.1) (s4 : Sm q.2) (ne : (f p.1 p.2 q.1 q.2).2 ≠ 0) (bt : BinT K C nm "int") :
    EvX C (tOpS (rOp K C D nm f) ta tb) σ H (lowp (f p.1 p.2 q.1 q.2).1 (f p.1 p.2 q.1 q.2).2) := fun H1 e Q k => ha H1 e _ fun x H2 e2 hx => hb H2 (e.trans e2) _ fun v H3 e3 hv => by
  have hx3 := hx.ext e3
  obtain ⟨dx, ex⟩ := id hx3
  have all : ∀ Q2 : VK, (∀ z H4, Ex H3 H4 → RatAt C H4 z (lowp (f p.1 p.2 q.1 q.2).1 (f p.1 p.2 q.1 q.2).2).1 (lowp (f p.1 p.2 q.1 q.2).1 (f p.1 p.2 q.1 q.2).2).2 → Q2 (.ref z) H4) → spBin K C D f [.ref x, v] H3 Q2 E0 := fun Q2 k2 =>
    ⟨x, v, p.1, p.2, rfl, hx3, .inl ⟨q.1, q.2, hv, s1, s2, s3, s4, ne, fun z H4 _ e4 hz => k2 z H4 e4 hz⟩⟩
  have fin : ∀ z H4, Ex H3 H4 → RatAt C H4 z (lowp (f p.1 p.2 q.1 q.2).1 (f p.1 p.2 q.1 q.2).2).1 (lowp (f p.1 p.2 q.1 q.2).1 (f p.1 p.2 q.1 q.2).2).2 → (∃ c, V.ref z = .ref c) ∧ Q (.ref z) H4 := fun z H4 e4 hz => ⟨⟨z, rfl⟩, k z H4 ((e2.trans e3).trans e4) hz⟩
  rcases id hv with ⟨y, rfl, dy, ey⟩ | ⟨rfl, hc⟩
  · exact .inl ⟨x, dx, y, dy, _, _, rfl, ex, rfl, ey, all _ fin⟩
  · exact .inr ⟨x, dx, _, "int", rfl, ex, .base (.int _), bt, all _ fin⟩
theorem lk_rf {t b : Int} (m : Str) (m1 : ¬ m = ("top" : Str)) (m2 : ¬ m = ("bottom" : Str)) : (rf t b).lookup m = none := rf_no m1 m2
theorem ex_over (ha : EvX C ta σ H p) (hb : EvN C tb σ H q) (s1 : Sm p.1) (s2 : Sm p.2) (s3 : Sm q.1) (s4 : Sm q.2) (n1 : q.1 ≠ 0) (n2 : p.2 ≠ 0) :
    EvX C (tMC C "over" (fun _ vs H Q => spOver K C D (vs ++ []) H Q E0) ta (tCons tb tNil)) σ H (lowp (p.1 * q.2) (p.2 * q.1)) := fun H1 e Q k => ha H1 e _ fun x H2 e2 hx => by
  obtain ⟨dx, ex⟩ := id hx
  exact ⟨x, dx, _, rfl, ex, lk_rf _ (by decide +kernel) (by decide +kernel), hb H2 (e.trans e2) _ fun v H3 e3 hv => ⟨x, v, p.1, p.2, rfl, hx.ext e3, .inl ⟨q.1, q.2, hv, s1, s2, s3, s4, .inr ⟨n1, n2, fun z H4 _ e4 hz => k z H4 ((e2.trans e3).trans e4) hz⟩⟩⟩⟩
theorem ev_cmp (ha : EvX C ta σ H p) (hb : EvN C tb σ H q) (s1 : Sm p.1) (s2 : Sm p.2) (s3 : Sm q.1) (s4 : Sm q.2) :
    Ev (tMC C "compared" (fun _ vs H Q => spCmp K C D (vs ++ []) H Q E0) ta (tCons tb tNil)) σ H (.int (cmpI (p.1 * q.2) (q.1 * p.2))) := fun H1 e Q k => ha H1 e _ fun x H2 e2 hx => by
  obtain ⟨dx, ex⟩ := id hx
  exact ⟨x, dx, _, rfl, ex, lk_rf _ (by decide +kernel) (by decide +kernel), hb H2 (e.trans e2) _ fun v H3 e3 hv => ⟨x, v, p.1, p.2, rfl, hx.ext e3, .inl ⟨q.1, q.2, hv, s1, s2, s3, s4, fun H4 e4 => k H4 ((e2.trans e3).trans e4)⟩⟩⟩
theorem ev_below (ha : EvX C ta σ H p) (hb : EvN C tb σ H q) (s1 : Sm p.1) (s2 : Sm p.2) (s3 : Sm q.1) (s4 : Sm q.2) :
    Ev (tMC C "is_below" (fun _ vs H Q => spBelow K C D (vs ++ []) H Q E0) ta (tCons tb tNil)) σ H (.bl (decide (cmpI (p.1 * q.2) (q.1 * p.2) < 0))) := fun H1 e Q k => ha H1 e _ fun x H2 e2 hx => by
  obtain ⟨dx, ex⟩ := id hx
  exact ⟨x, dx, _, rfl, ex, lk_rf _ (by decide +kernel) (by decide +kernel), hb H2 (e.trans e2) _ fun v H3 e3 hv => ⟨x, v, p.1, p.2, rfl, hx.ext e3, .inl ⟨q.1, q.2, hv, s1, s2, s3, s4, fun H4 e4 => k H4 ((e2.trans e3).trans e4)⟩⟩⟩
theorem ev_eqX {mg : Str → Option Value} {neg : Bool} (T : RCl K mg C) (nfC : PySem.W.notFirst K C (.ref C) = true) (nfI : PySem.W.notFirst K C (.type "int") = true) (ha : EvX C ta σ H p) (hb : EvN C tb σ H q) :
    Ev (tOp (rEqV neg K C (fun vs H Q => spEqV K C vs H Q E0)) ta tb) σ H (.bl (ratEq p.1 p.2 q.1 q.2 != neg)) := fun H1 e Q k => ha H1 e _ fun x H2 e2 hx => hb H2 (e.trans e2) _ fun v H3 e3 hv => by
  have hx3 := hx.ext e3
  obtain ⟨dx, ex⟩ := id hx3
  rcases id hv with ⟨y, rfl, hy⟩ | ⟨rfl, hc⟩
  · exact ⟨x, dx, _, _, rfl, ex, tyRat T hy, nfC, x, _, p.1, p.2, rfl, hx3, .inl ⟨y, q.1, q.2, rfl, hy, fun H4 e4 => ⟨_, rfl, k H4 ((e2.trans e3).trans e4)⟩⟩⟩
  · have k' : ∀ H4, Ex H1 H4 → Q (.bl (ratEq p.1 p.2 q.1 1 != neg)) H4 := by rw [← hc]; exact k
    exact ⟨x, dx, _, _, rfl, ex, .base (.int _), nfI, x, _, p.1, p.2, rfl, hx3, .inr (.inl ⟨q.1, rfl, fun H4 e4 => ⟨_, rfl, k' H4 ((e2.trans e3).trans e4)⟩⟩)⟩
theorem ev_isX (ha : EvX C te σ H p) (hl : EvU tl σ H [.int p.1, .int p.2]) (l1 : p.1.natAbs.log2 < 1000) (l2 : p.2.natAbs.log2 < 1000) :
    Ev (tCS (fun _ vs H Q => spIs C (vs ++ []) H Q E0) (tCons te (tCons tl tNil))) σ H (.bl true) := fun H1 e Q k => ha H1 e _ fun x H2 e2 hx => hl H2 (e.trans e2) _ fun a H3 _ e3 h3 =>
  ⟨x, a, p.1, p.2, rfl, hx.ext e3, h3, l1, l2, fun H4 e4 => k H4 ((e2.trans e3).trans e4)⟩
theorem eu_low {ta : TA} {n d : Int} (h : EvA ta σ H [.int n, .int d]) (d0 : d ≠ 0) (db : d.natAbs < 2 ^ 640) : EvU (tCS (fun _ vs H Q => spLow K (vs ++ []) H Q E0) ta) σ H [.int (lowp n d).1, .int (lowp n d).2] := fun H1 e Q k =>
  h H1 e _ fun H2 e2 => ⟨n, d, rfl, d0, db, fun a H3 n3 e3 h3 => k a H3 (fresh_back e2 n3) (e2.trans e3) h3⟩
end
end K01
end

section -- K01t
set_option linter.all false
set_option exponentiation.threshold 9000
set_option maxRecDepth 100000
set_option maxHeartbeats 4000000
namespace K01
open PySem PySem.Spec L2 Pk Evl
open PyProof.Rows hiding St
abbrev sTwo : Stmt := top 29
/-- lowest terms, not too long -/
structure Bd (p : Int × Int) : Prop where
  lw : Lw p
  t : p.1.natAbs < 2 ^ 200
  b : p.2.natAbs < 2 ^ 200
theorem Bd.s1 {p : Int × Int} (h : Bd p) : Sm p.1 := Nat.lt_of_lt_of_le h.t (Nat.pow_le_pow_right (by decide) (by decide))
theorem Bd.s2 {p : Int × Int} (h : Bd p) : Sm p.2 := Nat.lt_of_lt_of_le h.b (Nat.pow_le_pow_right (by decide) (by decide))
theorem Bd.b0 {p : Int × Int} (h : Bd p) : p.2 ≠ 0 := Int.ne_of_gt h.lw.1
theorem log_lt {n m : Nat} (h : n < 2 ^ m) (hm : m ≤ 1000) (h0 : 0 < m) : n.log2 < 1000 := log2_lt h h0 hm
theorem low1 {n d : Int} {m : Nat} (hd : d ≠ 0) (h : n.natAbs < 2 ^ m) (hm : m ≤ 1000) (h0 : 0 < m) : (lowp n d).1.natAbs.log2 < 1000 := log_lt (Nat.lt_of_le_of_lt (lowp_le hd).1 h) hm h0
theorem low2 {n d : Int} {m : Nat} (hd : d ≠ 0) (h : d.natAbs < 2 ^ m) (hm : m ≤ 1000) (h0 : 0 < m) : (lowp n d).2.natAbs.log2 < 1000 := log_lt (Nat.lt_of_le_of_lt (lowp_le hd).2.1 h) hm h0
theorem w2 {i j : Int} (hi : i.natAbs < 2 ^ 200) (hj : j.natAbs < 2 ^ 200) : CMulW i j := mulWb hi hj (by decide)
theorem wl {i j : Int} (hi : i.natAbs < 2 ^ 200) (hj : j.natAbs < 2 ^ 200) : (i * j).natAbs < 2 ^ 400 := wide_lt hi hj
theorem wa {i j k l : Int} (h1 : i.natAbs < 2 ^ 200) (h2 : j.natAbs < 2 ^ 200) (h3 : k.natAbs < 2 ^ 200) (h4 : l.natAbs < 2 ^ 200) : (i * j + k * l).natAbs < 2 ^ 402 := by
  have a := wl h1 h2
  have b := wl h3 h4
  have := Int.natAbs_add_le (i * j) (k * l)
  omega
theorem ws {i j k l : Int} (h1 : i.natAbs < 2 ^ 200) (h2 : j.natAbs < 2 ^ 200) (h3 : k.natAbs < 2 ^ 200) (h4 : l.natAbs < 2 ^ 200) : (i * j - k * l).natAbs < 2 ^ 402 := by
  have a := wl h1 h2
  have b := wl h3 h4
  omega
theorem cmpI_cases (a b : Int) : cmpI a b = -1 ∨ cmpI a b = 0 ∨ cmpI a b = 1 := by
  rcases Int.lt_trichotomy a b with h | h | h
  · exact .inl (cmpI_lt h)
  · exact .inr (.inl (cmpI_eq h))
  · exact .inr (.inr (cmpI_gt h))
theorem cmp_neg1 (a b : Int) : decide (cmpI a b < 0) = decide (V.int (cmpI a b) = V.int (-1)) := by
  rcases cmpI_cases a b with h | h | h <;> rw [h] <;> decide +kernel
theorem cmp_zero' (a b : Int) : decide (V.int (cmpI a b) = V.int 0) = decide (a = b) := by
  rcases Int.lt_trichotomy a b with h | h | h
  · rw [cmpI_lt h, decide_eq_false (by omega : ¬ a = b)]; decide +kernel
  · rw [cmpI_eq h, decide_eq_true h]; decide +kernel
  · rw [cmpI_gt h, decide_eq_false (by omega : ¬ a = b)]; decide +kernel
theorem cmp_log2 (a b : Int) : (cmpI a b).natAbs.log2 < 1000 := by
  rcases cmpI_cases a b with h | h | h <;> rw [h] <;> decide
/-- the text of a pair of truth values -/
def pbb (a b : Bool) : PyData := .tuple [.bool a, .bool b]
theorem pbb_ok (a b : Bool) : (pbb a b).showable = true ∧ (pbb a b).hasDict = false ∧ (pbb a b).depth ≤ 40 ∧ (pbb a b).shown.length ≤ sizeLine := by
  cases a <;> cases b <;> decide +kernel
theorem ev_reprBB {K : PySem.W.Frag} {σ : L2.St} {H : Hp} {ta : TE} {a b : Bool} (h : EvU ta σ H [.bl a, .bl b]) : Ev (tCB (rReprD K) (tCons ta tNil)) σ H (.str (pbb a b).shown) := fun H1 e Q q =>
  h H1 e _ fun p H2 _ e2 hp =>
    have o := pbb_ok a b
    ⟨p, pbb a b, rfl, .tup (st_of hp) (.cons (.bl a) (.cons (.bl b) .nil)), o.1, o.2.1, o.2.2.1, o.2.2.2, q H2 e2⟩
theorem units1 {n : Nat} (h : n + 64 < cLine) : n + 1 < cLine := by omega
theorem q_un2 {K : PySem.W.Frag} {k i j n : Nat} {a : Addr} {u w : V} {tz : TS} {D : Ends} {σ : L2.St} {H : Hp} (hn : 2 = n) (hv : σ[k]? = some (some (.ref a))) (ht : SqT K H a [u, w]) (h : tz D ((σ.set i (some u)).set j (some w)) H) : tSeq (tAsg (tVar k) (gTup K n (gCons (gName i) (gCons (gName j) gNil)))) tz D σ H :=
  ⟨_, hv, a, _, rfl, ht, hn, _, _, rfl, _, _, rfl, rfl, h⟩
/-- two ratios, and what is told of them -/
def spTwo (C : Addr) : Sp := fun vs H Q _ => ∃ (x a2 b2 : Addr) (v : V) (p q : Int × Int), vs = [.ref x, .ref a2, v, .ref b2] ∧ RatAt C H x p.1 p.2 ∧ H a2 = some (.tup [.int p.1, .int p.2]) ∧ Num C H v q.1 q.2 ∧ H b2 = some (.tup [.int q.1, .int q.2]) ∧ Bd p ∧ Bd q ∧
  ∀ H1, Ex H H1 → Q (.bl true) H1
section
variable {P : Program} {w : World} {K : PySem.W.Frag} {mg : Str → Option Value} {base : Heap}
theorem sc_two : FnScope ["_law_one", "_law_first", "_law_other", "_law_second", "_law_a", "_law_b", "_law_c", "_law_d", "_law_order"] ["_law_one", "_law_first", "_law_other", "_law_second"] (defScope sTwo) := ⟨rfl, rfl, rfl, by decide +kernel, rfl, by decide +kernel, by decide +kernel⟩
theorem ok_two {f fL fI fP C D : Addr} {fd fdL fdI fdP : FuncData} (F : Fun K "_law_two_right" "_law_two_right" sTwo f fd) (B : Bi mg) (X : RX P w K mg base C D)
    (G_low : FnOk P w K mg base CX0 1 fL fdL ["_law_top", "_law_bottom"] (spLow K)) (b_low : Binds K fdL ["_law_top", "_law_bottom"] []) (d_low : Df K mg "_law_low" fL)
    (G_is : FnG P w K mg base CX0 8 fI fdI ["_law_value", "_law_pair"] (spIs C)) (b_is : Binds K fdI ["_law_value", "_law_pair"] []) (d_is : Df K mg "_law_is" fI)
    (G_part : FnOk P w K mg base CX0 11 fP fdP ["_law_way", "_law_ratio", "_law_odd"] (spPart K C)) (b_part : Binds K fdP ["_law_way", "_law_ratio", "_law_odd"] []) (d_part : Df K mg "_law_part" fP) :
    FnG P w K mg base CX0 12 f fd ["_law_one", "_law_first", "_law_other", "_law_second"] (spTwo C) := by
  refine fnG_of F sc_two (fun vs H Q E h => ?_) (fun cdv A outer s H vs Q E hr hg h => ?_)
  · obtain ⟨x, a2, b2, v, p, q, rfl, _⟩ := h
    rfl
  · obtain ⟨x, a2, b2, v, p, q, rfl, hx, hp, hv, hq, bp, bq, kq⟩ := h
    have nd := sc_two.nd
    refine ⟨_, PSs.nox (pss_cons (ps_asg (pv 1) (pg_tup (by rfl) (pgs_cons (pg_name (i := 4) nd rfl (Or.inl rfl)) (pgs_cons (pg_name (i := 5) nd rfl (Or.inl rfl)) pgs_nil))))
(pss_cons (ps_asg (pv 3) (pg_tup (by rfl) (pgs_cons (pg_name (i := 6) nd rfl (Or.inl rfl)) (pgs_cons (pg_name (i := 7) nd rfl (Or.inl rfl)) pgs_nil))))
(pss_cons (ps_if (PW.pt (pw_or (pt_not (pt_val (pe_cs (callsG G_is (hr.mono (by decide)) hg b_is .nil pass0) d_is.1 d_is.2 (pa_cons (pe_opS (OpS.or (op_binIK (op := .Add) rfl X.sf X.s_add X.i_add (runS_fn X.G_add (hr.mono (by decide)) X.b_add passLS)) (op_binK (op := .Add) rfl X.sf X.s_add X.i_add X.r_add (.inl rfl) (runS_fn X.G_add (hr.mono (by decide)) X.b_add passLS))) (pv 0) (pv 2)) (pa_cons (pe_cs (calls_fn G_low (hr.mono (by decide)) b_low .nil pass0) d_low.1 d_low.2 (pa_cons (pe_op op_add (pe_op op_mulW (pv 4) (pv 7)) (pe_op op_mulW (pv 6) (pv 5))) (pa_cons (pe_op op_mulW (pv 5) (pv 7)) pa_nil))) pa_nil))))) (pw_or1 (pt_not (pt_val (pe_cs (callsG G_is (hr.mono (by decide)) hg b_is .nil pass0) d_is.1 d_is.2 (pa_cons (pe_opS (OpS.or (op_binIK (op := .Sub) rfl X.sf X.s_sub X.i_sub (runS_fn X.G_sub (hr.mono (by decide)) X.b_sub passLS)) (op_binK (op := .Sub) rfl X.sf X.s_sub X.i_sub X.r_sub (.inl rfl) (runS_fn X.G_sub (hr.mono (by decide)) X.b_sub passLS))) (pv 0) (pv 2)) (pa_cons (pe_cs (calls_fn G_low (hr.mono (by decide)) b_low .nil pass0) d_low.1 d_low.2 (pa_cons (pe_op op_sub (pe_op op_mulW (pv 4) (pv 7)) (pe_op op_mulW (pv 6) (pv 5))) (pa_cons (pe_op op_mulW (pv 5) (pv 7)) pa_nil))) pa_nil))))))))
(pss_one (ps_ret pe_bl))
pss_nil)
(pss_cons (ps_if (pt_not (pt_val (pe_cs (callsG G_is (hr.mono (by decide)) hg b_is .nil pass0) d_is.1 d_is.2 (pa_cons (pe_opS (OpS.or (op_binIK (op := .Mult) rfl X.sf X.s_mul X.i_mul (runS_fn X.G_mul (hr.mono (by decide)) X.b_mul passLS)) (op_binK (op := .Mult) rfl X.sf X.s_mul X.i_mul X.r_mul (.inl rfl) (runS_fn X.G_mul (hr.mono (by decide)) X.b_mul passLS))) (pv 0) (pv 2)) (pa_cons (pe_cs (calls_fn G_low (hr.mono (by decide)) b_low .nil pass0) d_low.1 d_low.2 (pa_cons (pe_op op_mulW (pv 4) (pv 6)) (pa_cons (pe_op op_mulW (pv 5) (pv 7)) pa_nil))) pa_nil)))))
(pss_one (ps_ret pe_bl))
pss_nil)
(pss_cons (ps_set (i := 8) nd rfl (Or.inl rfl) (pe_ifExp (pt_cmpR op_lt (pe_op op_mulW (pv 4) (pv 7)) (pe_op op_mulW (pv 6) (pv 5)) (nomark _)) (pe_un un_neg pe_int) (pe_ifExp (pt_cmpR op_gt (pe_op op_mulW (pv 4) (pv 7)) (pe_op op_mulW (pv 6) (pv 5)) (nomark _)) pe_int pe_int)))
(pss_cons (ps_if (pt_cmpR op_ne (pe_callB (call_reprD hg hr.units) (by rfl) B.n_repr (by decide +kernel) (pa_cons (pe_tup (pa_cons (pe_methC (pv 0) X.T.cl X.m_cmp (calls_fnS X.G_cmp (hr.mono (by decide)) X.b_cmp .nil passLS) (pa_cons (pv 2) pa_nil)) (pa_cons (pe_methC (pv 0) X.T.cl X.m_below (calls_fnS X.G_below (hr.mono (by decide)) X.b_below .nil passLS) (pa_cons (pv 2) pa_nil)) pa_nil))) pa_nil)) (pe_callB (call_reprD hg hr.units) (by rfl) B.n_repr (by decide +kernel) (pa_cons (pe_tup (pa_cons (pv 8) (pa_cons (pe_cmpR op_eq (pv 8) (pe_un un_neg pe_int) (nomark _)) pa_nil))) pa_nil)) (nomark _))
(pss_one (ps_ret pe_bl))
pss_nil)
(pss_cons (ps_if (pt_cmpR op_ne (pe_callB (call_reprD hg hr.units) (by rfl) B.n_repr (by decide +kernel) (pa_cons (pe_tup (pa_cons (pe_cmpR (op_eqV (hr.mono (by decide : 3 ≤ 11)).units0 X.s_eq X.i_eq (runAt_fn X.G_eq (hr.mono (by decide)) rfl X.b_eq pass0)) (pv 0) (pv 2) (nomark _)) (pa_cons (pe_cmpR (op_neV (units1 (hr.mono (by decide : 3 ≤ 11)).units) X.T.hm X.ne X.s_eq X.i_eq (runAt_fn X.G_eq (hr.mono (by decide)).in1 rfl X.b_eq pass0)) (pv 0) (pv 2) (nomark _)) pa_nil))) pa_nil)) (pe_callB (call_reprD hg hr.units) (by rfl) B.n_repr (by decide +kernel) (pa_cons (pe_tup (pa_cons (pe_cmpR op_eq (pv 8) pe_int (nomark _)) (pa_cons (pe_cmpR op_ne (pv 8) pe_int (nomark _)) pa_nil))) pa_nil)) (nomark _))
(pss_one (ps_ret pe_bl))
pss_nil)
(pss_cons (ps_if (pt_cmpR op_eq (pv 6) pe_int (nomark _))
(pss_one (ps_ret (pe_cmpR op_eq (pe_cs (calls_fn G_part (hr.mono (by decide)) b_part .nil pass0) d_part.1 d_part.2 (pa_cons pe_int (pa_cons (pv 0) (pa_cons (pv 2) pa_nil)))) pe_str (nomark _))))
pss_nil)
(pss_one (ps_ret (pe_and (pe_cs (callsG G_is (hr.mono (by decide)) hg b_is .nil pass0) d_is.1 d_is.2 (pa_cons (pe_methC (pv 0) X.T.cl X.m_over (calls_fnS X.G_over (hr.mono (by decide)) X.b_over .nil passLS) (pa_cons (pv 2) pa_nil)) (pa_cons (pe_cs (calls_fn G_low (hr.mono (by decide)) b_low .nil pass0) d_low.1 d_low.2 (pa_cons (pe_op op_mulW (pv 4) (pv 7)) (pa_cons (pe_op op_mulW (pv 5) (pv 6)) pa_nil))) pa_nil))) (pe_one (pe_cmpR (op_eqV (hr.mono (by decide : 3 ≤ 11)).units0 X.s_eq X.i_eq (runAt_fn X.G_eq (hr.mono (by decide)) rfl X.b_eq pass0)) (pe_opS (OpS.or (op_binIK (op := .Mult) rfl X.sf X.s_mul X.i_mul (runS_fn X.G_mul (hr.mono (by decide)) X.b_mul passLS)) (op_binK (op := .Mult) rfl X.sf X.s_mul X.i_mul X.r_mul (.inl rfl) (runS_fn X.G_mul (hr.mono (by decide)) X.b_mul passLS))) (pe_methC (pv 0) X.T.cl X.m_over (calls_fnS X.G_over (hr.mono (by decide)) X.b_over .nil passLS) (pa_cons (pv 2) pa_nil)) (pv 2)) (pv 0) (nomark _)))))))))))))), ?_⟩
    refine q_un2 (hn := by rfl) rfl (st_of hp) (q_un2 (hn := by rfl) rfl (st_of hq) ?_)
    have vx : ∀ {σ : L2.St} {H1 : Hp}, Ex H H1 → σ[0]? = some (some (.ref x)) → EvX C (tVar 0) σ H1 p := fun e s => ex_var s (hx.ext e)
    have vn : ∀ {σ : L2.St} {H1 : Hp}, Ex H H1 → σ[2]? = some (some v) → EvN C (tVar 2) σ H1 q := fun e s => en_var s (hv.ext e)
    have m1 : ∀ {i j : Nat} {a b : Int} {σ : L2.St} {H1 : Hp}, σ[i]? = some (some (.int a)) → σ[j]? = some (some (.int b)) → a.natAbs < 2 ^ 200 → b.natAbs < 2 ^ 200 → Ev (tOp (rI CMulW fun i j => V.int (i * j)) (tVar i) (tVar j)) σ H1 (.int (a * b)) := fun s1 s2 h1 h2 => ev_op (ev_var s1) (ev_var s2) (rv_I (w2 h1 h2))
    have n4 : p.2 * q.2 ≠ 0 := Int.mul_ne_zero bp.b0 bq.b0
    have up : ∀ {n : Nat}, n < 2 ^ 400 → n < 2 ^ 640 := fun h => Nat.lt_of_lt_of_le h (Nat.pow_le_pow_right (by decide) (by decide))
    have z4 := wl bp.b bq.b
    have e0 := Ex.refl H
    refine q_when (b := false) (et_is (et_or (a := false) (b := false) (et_is (et_not (et_B (ev_isX (ex_op (f := fAdd) (vx e0 rfl) (vn e0 rfl) bp.s1 bp.s2 bq.s1 bq.s2 n4 X.i_addI) (eu_low (ea_cons (ev_op (m1 rfl rfl bp.t bq.b) (m1 rfl rfl bq.t bp.b) rv_I0) (ea_cons (m1 rfl rfl bp.b bq.b) ea_nil)) n4 (up z4)) (low1 n4 (wa bp.t bq.b bq.t bp.b) (by decide) (by decide)) (low2 n4 z4 (by decide) (by decide))))) rfl) fun _ =>
      et_is (et_not (et_B (ev_isX (ex_op (f := fSub) (vx e0 rfl) (vn e0 rfl) bp.s1 bp.s2 bq.s1 bq.s2 n4 X.i_subI) (eu_low (ea_cons (ev_op (m1 rfl rfl bp.t bq.b) (m1 rfl rfl bq.t bp.b) rv_I0) (ea_cons (m1 rfl rfl bp.b bq.b) ea_nil)) n4 (up z4)) (low1 n4 (ws bp.t bq.b bq.t bp.b) (by decide) (by decide)) (low2 n4 z4 (by decide) (by decide))))) rfl) rfl) (fun c => by cases c) fun _ H1 e1 => ?_
    refine q_when (b := false) (et_is (et_not (et_B (ev_isX (ex_op (f := fMul) (vx e1 rfl) (vn e1 rfl) bp.s1 bp.s2 bq.s1 bq.s2 n4 X.i_mulI) (eu_low (ea_cons (m1 rfl rfl bp.t bq.t) (ea_cons (m1 rfl rfl bp.b bq.b) ea_nil)) n4 (up z4)) (low1 n4 (wl bp.t bq.t) (by decide) (by decide)) (low2 n4 z4 (by decide) (by decide))))) rfl) (fun c => by cases c) fun _ H2 e2 => ?_
    have e12 := e1.trans e2
    refine q_asg (v := .int (cmpI (p.1 * q.2) (q.1 * p.2))) (ev_if (b := decide (p.1 * q.2 < q.1 * p.2)) (et_test (ev_op (m1 rfl rfl bp.t bq.b) (m1 rfl rfl bq.t bp.b) rv_I0)) (fun c => ev_is (ev_un ev_c ru_neg) (by rw [cmpI_lt (of_decide_eq_true c)])) fun c => ev_if (b := decide (p.1 * q.2 > q.1 * p.2)) (et_test (ev_op (m1 rfl rfl bp.t bq.b) (m1 rfl rfl bq.t bp.b) rv_I0)) (fun c2 => ev_is ev_c (by rw [cmpI_gt (of_decide_eq_true c2)])) fun c2 => ev_is ev_c (by
      have h1 := of_decide_eq_false c
      have h2 := of_decide_eq_false c2
      rw [cmpI_eq (by omega)])) fun H3 e3 => ?_
    have e13 := e12.trans e3
    have lc := cmp_log2 (p.1 * q.2) (q.1 * p.2)
    refine q_when (b := false) (et_is (et_test (ev_op (ev_reprUB lc (eu_tup (ea_cons (ev_cmp (vx e13 rfl) (vn e13 rfl) bp.s1 bp.s2 bq.s1 bq.s2) (ea_cons (ev_below (vx e13 rfl) (vn e13 rfl) bp.s1 bp.s2 bq.s1 bq.s2) ea_nil)) (by show 2 ≤ 100000; decide))) (ev_reprUB lc (eu_tup (ea_cons (ev_var rfl) (ea_cons (ev_op (ev_var rfl) (ev_un ev_c ru_neg) (rv_eq rfl)) ea_nil)) (by show 2 ≤ 100000; decide))) (rv_ne rfl))) (by rw [cmp_neg1, decide_eq_true rfl]; rfl)) (fun c => by cases c) fun _ H4 e4 => ?_
    have e14 := e13.trans e4
    have eqv : ratEq p.1 p.2 q.1 q.2 = decide (p.1 * q.2 = q.1 * p.2) := by
      rw [Bool.eq_iff_iff, ratEq_iff, decide_eq_true_iff]
      exact (lw_eq bp.lw bq.lw).symm
    refine q_when (b := false) (et_is (et_test (ev_op (ev_reprBB (eu_tup (ea_cons (ev_eqX (neg := false) X.T X.nfC X.nfI (vx e14 rfl) (vn e14 rfl)) (ea_cons (ev_eqX (neg := true) X.T X.nfC X.nfI (vx e14 rfl) (vn e14 rfl)) ea_nil)) (by show 2 ≤ 100000; decide))) (ev_reprBB (eu_tup (ea_cons (ev_op (ev_var rfl) ev_c (rv_eq rfl)) (ea_cons (ev_op (ev_var rfl) ev_c (rv_ne rfl)) ea_nil)) (by show 2 ≤ 100000; decide))) (rv_ne rfl))) (by rw [cmp_zero', eqv, Bool.bne_false, Bool.bne_true, decide_eq_true rfl]; rfl)) (fun c => by cases c) fun _ H5 e5 => ?_
    have e15 := e14.trans e5
    refine q_when (b := decide (V.int q.1 = V.int 0)) (et_test (ev_op (ev_var rfl) ev_c (rv_eq rfl))) (fun c H6 e6 => ?_) (fun c H6 e6 => ?_)
    · have q0 : q.1 = 0 := V.int.inj (of_decide_eq_true c)
      have e16 := e15.trans e6
      have hv6 : Num C H6 v 0 q.2 := by
        have := hv.ext e16
        rw [q0] at this
        exact this
      refine s_ret (v := .bl true) (ev_is (ev_op (x := .str "zero") (ev_cs (ea_cons ev_c (ea_cons (ev_var rfl) (ea_cons (ev_var rfl) ea_nil))) fun H7 e7 Q7 k7 => ⟨3, x, v, p.1, p.2, "zero", rfl, hx.ext (e16.trans e7), bp.s1, bp.s2, .inr (.inl ⟨rfl, rfl, q.2, hv6.ext e7, bq.s2⟩), fun H8 e8 => k7 H8 e8⟩) ev_c (rv_eq rfl)) (by rw [decide_eq_true rfl])) fun H7 e7 => kq H7 (e16.trans e7)
    · have q0 : q.1 ≠ 0 := fun z => of_decide_eq_false c (by rw [z])
      have e16 := e15.trans e6
      have n5 : p.2 * q.1 ≠ 0 := Int.mul_ne_zero bp.b0 q0
      have z5 := wl bp.b bq.t
      have z6 := wl bp.t bq.b
      have ov : ∀ {σ : L2.St}, σ[0]? = some (some (.ref x)) → σ[2]? = some (some v) → EvX C (tMC C "over" (fun _ vs H Q => spOver K C D (vs ++ []) H Q E0) (tVar 0) (tCons (tVar 2) tNil)) σ H6 (lowp (p.1 * q.2) (p.2 * q.1)) := fun s0 s2 => ex_over (vx e16 s0) (vn e16 s2) bp.s1 bp.s2 bq.s1 bq.s2 q0 bp.b0
      have l0 := lw_lowp (n := p.1 * q.2) n5
      have n6 : (lowp (p.1 * q.2) (p.2 * q.1)).2 * q.2 ≠ 0 := Int.mul_ne_zero (Int.ne_of_gt l0.1) bq.b0
      have back : lowp ((lowp (p.1 * q.2) (p.2 * q.1)).1 * q.1) ((lowp (p.1 * q.2) (p.2 * q.1)).2 * q.2) = p := by
        refine lowp_of n6 bp.lw ?_
        have c5 := lowp_cross (n := p.1 * q.2) n5
        calc (lowp (p.1 * q.2) (p.2 * q.1)).1 * q.1 * p.2 = (lowp (p.1 * q.2) (p.2 * q.1)).1 * (p.2 * q.1) := by rw [Int.mul_assoc, Int.mul_comm q.1 p.2]
          _ = p.1 * q.2 * (lowp (p.1 * q.2) (p.2 * q.1)).2 := c5
          _ = p.1 * ((lowp (p.1 * q.2) (p.2 * q.1)).2 * q.2) := by rw [Int.mul_assoc, Int.mul_comm q.2]
      have sl1 : Sm (lowp (p.1 * q.2) (p.2 * q.1)).1 := Nat.lt_of_le_of_lt (lowp_le n5).1 (Nat.lt_of_lt_of_le z6 (Nat.pow_le_pow_right (by decide) (by decide)))
      have sl2 : Sm (lowp (p.1 * q.2) (p.2 * q.1)).2 := Nat.lt_of_le_of_lt (lowp_le n5).2.1 (Nat.lt_of_lt_of_le z5 (Nat.pow_le_pow_right (by decide) (by decide)))
      refine s_ret (v := .bl true) (ev_is (ev_andV (a := true) (b := true) (ev_isX (ov rfl rfl) (eu_low (ea_cons (m1 rfl rfl bp.t bq.b) (ea_cons (m1 rfl rfl bp.b bq.t) ea_nil)) n5 (up z5)) (low1 n5 z6 (by decide) (by decide)) (low2 n5 z5 (by decide) (by decide))) fun _ => ?_) rfl) fun H7 e7 => kq H7 (e16.trans e7)
      refine ev_is (ev_eqX (neg := false) (q := p) X.T X.nfC X.nfI (ex_op (f := fMul) (ov rfl rfl) (vn e16 rfl) sl1 sl2 bq.s1 bq.s2 n6 X.i_mulI) (en_x (vx e16 rfl))) ?_
      show V.bl (ratEq (lowp ((lowp (p.1 * q.2) (p.2 * q.1)).1 * q.1) ((lowp (p.1 * q.2) (p.2 * q.1)).2 * q.2)).1 (lowp ((lowp (p.1 * q.2) (p.2 * q.1)).1 * q.1) ((lowp (p.1 * q.2) (p.2 * q.1)).2 * q.2)).2 p.1 p.2 != false) = V.bl true
      rw [back, ratEq_iff.mpr rfl]
      rfl
end
end K01
end

section -- K01u
set_option linter.all false
set_option exponentiation.threshold 9000
set_option maxRecDepth 100000
set_option maxHeartbeats 4000000
namespace K01
open PySem PySem.Spec L2 Pk Evl
open PyProof.Rows hiding St
/-! ### sums stay small -/
structure SumOk (M : Int) (i : Nat) (a : Int × Int) : Prop where
  lw : Lw a
  dv : a.2 ∣ M
  le : a.1.natAbs ≤ i * 2 ^ 200 * a.2.natAbs
theorem SumOk.zero (M : Int) : SumOk M 0 (0, 1) := ⟨⟨(by decide : (0 : Int) < 1), by decide⟩, ⟨M, (Int.one_mul M).symm⟩, Nat.zero_le _⟩
theorem SumOk.step {M : Int} {i : Nat} {a p : Int × Int} (h : SumOk M i a) (hp : Bd p) (hd : p.2 ∣ M) : SumOk M (i + 1) (addP a p) := by
  obtain ⟨k1, e1⟩ := h.dv
  obtain ⟨k2, e2⟩ := hd
  have a0 : a.2 ≠ 0 := Int.ne_of_gt h.lw.1
  have d0 : a.2 * p.2 ≠ 0 := Int.mul_ne_zero a0 hp.b0
  have cr := lowp_cross (n := a.1 * p.2 + p.1 * a.2) d0
  have lw := lw_lowp (n := a.1 * p.2 + p.1 * a.2) d0
  refine ⟨lw, ?_, ?_⟩
  · show (lowp (a.1 * p.2 + p.1 * a.2) (a.2 * p.2)).2 ∣ M
    generalize hu : (lowp (a.1 * p.2 + p.1 * a.2) (a.2 * p.2)).1 = u at cr lw
    generalize hv : (lowp (a.1 * p.2 + p.1 * a.2) (a.2 * p.2)).2 = v at cr lw
    have lw2 : Nat.gcd u.natAbs v.natAbs = 1 := by rw [← hu, ← hv]; exact lw.2
    have key : u * M = v * (a.1 * k1 + p.1 * k2) := by
      refine Int.eq_of_mul_eq_mul_right d0 ?_
      have t1 : a.1 * p.2 * M = (a.2 * p.2) * (a.1 * k1) := by
        rw [e1]
        simp only [Int.mul_assoc, Int.mul_comm, Int.mul_left_comm]
      have t2 : p.1 * a.2 * M = (a.2 * p.2) * (p.1 * k2) := by
        rw [e2]
        simp only [Int.mul_assoc, Int.mul_comm, Int.mul_left_comm]
      calc u * M * (a.2 * p.2) = u * (a.2 * p.2) * M := by rw [Int.mul_right_comm]
        _ = (a.1 * p.2 + p.1 * a.2) * v * M := by rw [cr]
        _ = (a.1 * p.2 * M + p.1 * a.2 * M) * v := by rw [Int.mul_right_comm, Int.add_mul (a.1 * p.2)]
        _ = ((a.2 * p.2) * (a.1 * k1) + (a.2 * p.2) * (p.1 * k2)) * v := by rw [t1, t2]
        _ = v * (a.1 * k1 + p.1 * k2) * (a.2 * p.2) := by rw [← Int.mul_add, Int.mul_comm, Int.mul_comm (a.2 * p.2), Int.mul_assoc]
    have dn : v.natAbs ∣ u.natAbs * M.natAbs := by
      rw [← Int.natAbs_mul, key, Int.natAbs_mul]
      exact Nat.dvd_mul_right _ _
    have c : Nat.Coprime v.natAbs u.natAbs := by rw [Nat.Coprime, Nat.gcd_comm]; exact lw2
    exact Int.natAbs_dvd_natAbs.mp (c.dvd_of_dvd_mul_left dn)
  · show (lowp (a.1 * p.2 + p.1 * a.2) (a.2 * p.2)).1.natAbs ≤ (i + 1) * 2 ^ 200 * (lowp (a.1 * p.2 + p.1 * a.2) (a.2 * p.2)).2.natAbs
    generalize (lowp (a.1 * p.2 + p.1 * a.2) (a.2 * p.2)).1 = u at cr
    generalize (lowp (a.1 * p.2 + p.1 * a.2) (a.2 * p.2)).2 = v at cr
    have hn : u.natAbs * (a.2.natAbs * p.2.natAbs) = (a.1 * p.2 + p.1 * a.2).natAbs * v.natAbs := by rw [← Int.natAbs_mul a.2, ← Int.natAbs_mul, cr, Int.natAbs_mul]
    have pos2 : 1 ≤ p.2.natAbs := by have := hp.lw.1; omega
    have posD : 0 < a.2.natAbs * p.2.natAbs := Nat.mul_pos (by have := h.lw.1; omega) pos2
    have tri : (a.1 * p.2 + p.1 * a.2).natAbs ≤ (i + 1) * 2 ^ 200 * (a.2.natAbs * p.2.natAbs) := by
      have b1 : (a.1 * p.2).natAbs ≤ i * 2 ^ 200 * (a.2.natAbs * p.2.natAbs) := by
        rw [Int.natAbs_mul, ← Nat.mul_assoc]
        exact Nat.mul_le_mul_right _ h.le
      have b2 : (p.1 * a.2).natAbs ≤ 2 ^ 200 * (a.2.natAbs * p.2.natAbs) := by
        rw [Int.natAbs_mul]
        refine Nat.le_trans (Nat.mul_le_mul_right _ (Nat.le_of_lt hp.t)) (Nat.mul_le_mul_left _ ?_)
        exact Nat.le_mul_of_pos_right _ pos2
      have b3 := Int.natAbs_add_le (a.1 * p.2) (p.1 * a.2)
      have b4 : (i + 1) * 2 ^ 200 * (a.2.natAbs * p.2.natAbs) = i * 2 ^ 200 * (a.2.natAbs * p.2.natAbs) + 2 ^ 200 * (a.2.natAbs * p.2.natAbs) := by rw [Nat.add_mul, Nat.one_mul, Nat.add_mul]
      omega
    refine Nat.le_of_mul_le_mul_right ?_ posD
    rw [hn]
    calc (a.1 * p.2 + p.1 * a.2).natAbs * v.natAbs ≤ (i + 1) * 2 ^ 200 * (a.2.natAbs * p.2.natAbs) * v.natAbs := Nat.mul_le_mul_right _ tri
      _ = (i + 1) * 2 ^ 200 * v.natAbs * (a.2.natAbs * p.2.natAbs) := by rw [Nat.mul_right_comm]
theorem SumOk.b2 {M : Int} {i : Nat} {a : Int × Int} (h : SumOk M i a) (h0 : M ≠ 0) (hM : M.natAbs < 2 ^ 400) : a.2.natAbs < 2 ^ 400 := Nat.lt_of_le_of_lt (Nat.le_of_dvd (Int.natAbs_pos.mpr h0) (Int.natAbs_dvd_natAbs.mpr h.dv)) hM
theorem SumOk.b1 {M : Int} {i : Nat} {a : Int × Int} (h : SumOk M i a) (h0 : M ≠ 0) (hM : M.natAbs < 2 ^ 400) (hi : i ≤ 12) : a.1.natAbs < 2 ^ 604 := by
  have h2 := h.b2 h0 hM
  have h3 : i * 2 ^ 200 * a.2.natAbs ≤ 12 * 2 ^ 200 * 2 ^ 400 := Nat.mul_le_mul (Nat.mul_le_mul_right _ hi) (Nat.le_of_lt h2)
  have h4 : (12 : Nat) * 2 ^ 200 * 2 ^ 400 < 2 ^ 604 := by decide +kernel
  exact Nat.lt_of_le_of_lt (Nat.le_trans h.le h3) h4
theorem sumOk_take {M : Int} {ps : List (Int × Int)} (hp : ∀ p ∈ ps, Bd p) (hd : ∀ p ∈ ps, p.2 ∣ M) : ∀ i, i ≤ ps.length → SumOk M i (sumR (ps.take i))
  | 0, _ => SumOk.zero M
  | i + 1, h => by
    have hi : ps[i]? = some (ps[i]'(by omega)) := List.getElem?_eq_getElem (by omega)
    have st := (sumOk_take hp hd i (by omega)).step (hp _ (List.mem_of_getElem? hi)) (hd _ (List.mem_of_getElem? hi))
    unfold sumR at st ⊢
    rw [Pk.take_succ' hi, List.foldl_append]
    exact st
/-! ### the least, the greatest, by pairs -/
theorem furP_lo (p x : Int × Int) : furP (-1) p x = if x.1 * p.2 < p.1 * x.2 then x else p := by
  unfold furP
  rcases Int.lt_trichotomy (x.1 * p.2) (p.1 * x.2) with h | h | h
  · rw [cmpI_lt h, if_pos (by decide), if_pos h]
  · rw [cmpI_eq h, if_neg (by decide), if_neg (by omega)]
  · rw [cmpI_gt h, if_neg (by decide), if_neg (by omega)]
theorem furP_hi (p x : Int × Int) : furP 1 p x = if x.1 * p.2 > p.1 * x.2 then x else p := by
  unfold furP
  rcases Int.lt_trichotomy (x.1 * p.2) (p.1 * x.2) with h | h | h
  · rw [cmpI_lt h, if_neg (by decide), if_neg (by omega)]
  · rw [cmpI_eq h, if_neg (by decide), if_neg (by omega)]
  · rw [cmpI_gt h, if_pos (by decide), if_pos h]
/-! ### lists of ratios and integers -/
def VsAt (C : Addr) (H : Hp) (vs : List V) (ps : List (Int × Int)) : Prop := vs.length = ps.length ∧ ∀ (i : Nat) (v : V) (p : Int × Int), vs[i]? = some v → ps[i]? = some p → Num C H v p.1 p.2
def PrAt (H : Hp) (ms : List V) (ps : List (Int × Int)) : Prop := ms.length = ps.length ∧ ∀ (i : Nat) (v : V) (p : Int × Int), ms[i]? = some v → ps[i]? = some p → ∃ a, v = .ref a ∧ H a = some (.tup [.int p.1, .int p.2])
section
variable {K : PySem.W.Frag} {C D : Addr} {σ : L2.St} {H H2 : Hp} {te : TE} {vs ms : List V} {ps : List (Int × Int)}
theorem VsAt.ext (h : VsAt C H vs ps) (e : Ex H H2) : VsAt C H2 vs ps := ⟨h.1, fun i v p a b => (h.2 i v p a b).ext e⟩
theorem PrAt.ext (h : PrAt H ms ps) (e : Ex H H2) : PrAt H2 ms ps := ⟨h.1, fun i v p a b => by
  obtain ⟨x, hx, hy⟩ := h.2 i v p a b
  exact ⟨x, hx, e _ _ hy⟩⟩
def ysOf (vs : List V) (ps : List (Int × Int)) : List (V × Option (Int × Int)) := vs.zip (ps.map some)
theorem ys_fst (h : vs.length = ps.length) : (ysOf vs ps).map Prod.fst = vs := List.map_fst_zip (by rw [List.length_map, h]; exact Nat.le_refl _)
theorem ys_snd (h : vs.length = ps.length) : (ysOf vs ps).map Prod.snd = ps.map some := List.map_snd_zip (by rw [List.length_map, h]; exact Nat.le_refl _)
theorem ys_told (h : VsAt C H vs ps) : ∀ y ∈ ysOf vs ps, Told1 K C H y := fun y hy => by
  obtain ⟨i, hi, rfl⟩ := List.getElem_of_mem hy
  unfold ysOf at hi ⊢
  rw [List.length_zip, List.length_map] at hi
  rw [List.getElem_zip, List.getElem_map]
  exact h.2 i _ _ (List.getElem?_eq_getElem (by omega)) (List.getElem?_eq_getElem (by omega))
theorem ys_len (h : vs.length = ps.length) : (ysOf vs ps).length = ps.length := by
  unfold ysOf
  rw [List.length_zip, List.length_map]
  omega
theorem ls_of_list {a : Addr} (h : VsAt C H vs ps) (ha : H a = some (.lst vs)) (hz : ps.length ≤ 1000) : LsAt K C H (.ref a) (ysOf vs ps) := ls_list (by rw [ys_fst h.1]; exact ha) (by rw [ys_len h.1]; exact hz) (ys_told h)
theorem ls_of_tup {a : Addr} (h : VsAt C H vs ps) (ha : H a = some (.tup vs)) (hz : ps.length ≤ 1000) : LsAt K C H (.ref a) (ysOf vs ps) := ls_tup (by rw [ys_fst h.1]; exact ha) (by rw [ys_len h.1]; exact hz) (ys_told h)
/-- an expression whose value is a list or tuple of these -/
def EvS (K : PySem.W.Frag) (C : Addr) (te : TE) (σ : L2.St) (H : Hp) (vs : List V) (ps : List (Int × Int)) : Prop := ∀ H1, Ex H H1 → ∀ Q : VK, (∀ v H2, Ex H1 H2 → LsAt K C H2 v (ysOf vs ps) → Q v H2) → te σ H1 Q
theorem es_var {i : Nat} {a : Addr} (s : σ[i]? = some (some (.ref a))) (h : VsAt C H vs ps) (ha : H a = some (.lst vs)) (hz : ps.length ≤ 1000) : EvS K C (tVar i) σ H vs ps := fun H1 e Q k => ⟨_, s, k _ H1 (Ex.refl H1) (ls_of_list (h.ext e) (e _ _ ha) hz)⟩
theorem es_tup (ht : EvU te σ H vs) (h : VsAt C H vs ps) (hz : ps.length ≤ 1000) : EvS K C te σ H vs ps := fun H1 e Q k => ht H1 e Q fun a H2 _ e2 ha => k _ H2 e2 (ls_of_tup (h.ext (e.trans e2)) ha hz)
theorem ex_added (hs : EvS K C te σ H vs ps) (hl : vs.length = ps.length) (h12 : ps.length ≤ 12) (hp : ∀ p ∈ ps, Bd p) : EvX C (tCS (fun _ vs H Q => spAdded K C D (vs ++ []) H Q E0) (tCons te tNil)) σ H (sumR ps) := fun H1 e Q k => hs H1 e _ fun v H2 e2 h2 =>
  ⟨v, rfl, .inr ⟨_, ps, h2, ys_snd hl, h12, fun p hm => ⟨Nat.lt_of_lt_of_le (hp p hm).t (Nat.pow_le_pow_right (by decide) (by decide)), Nat.lt_of_lt_of_le (hp p hm).b (Nat.pow_le_pow_right (by decide) (by decide)), (hp p hm).lw.1⟩, fun z H3 _ e3 h3 => k z H3 (e2.trans e3) h3⟩⟩
theorem ex_addedK (hs : EvS K C te σ H vs ps) (hl : vs.length = ps.length) (h12 : ps.length ≤ 12) (hp : ∀ p ∈ ps, Bd p) : EvX C (tCSK (fun _ vs H Q => spAdded K C D vs H Q E0) (tCons te tNil)) σ H (sumR ps) := fun H1 e Q k => hs H1 e _ fun v H2 e2 h2 =>
  ⟨v, rfl, .inr ⟨_, ps, h2, ys_snd hl, h12, fun p hm => ⟨Nat.lt_of_lt_of_le (hp p hm).t (Nat.pow_le_pow_right (by decide) (by decide)), Nat.lt_of_lt_of_le (hp p hm).b (Nat.pow_le_pow_right (by decide) (by decide)), (hp p hm).lw.1⟩, fun z H3 _ e3 h3 => k z H3 (e2.trans e3) h3⟩⟩
theorem ex_end {o : Int} (ho : o.natAbs ≤ 1) (hs : EvS K C te σ H vs ps) (hl : vs.length = ps.length) (h0 : ps ≠ []) (hp : ∀ p ∈ ps, Bd p) : EvX C (tCS (fun _ vs H Q => spEnd K C D o (vs ++ []) H Q E0) (tCons te tNil)) σ H (furR o ps) := fun H1 e Q k => hs H1 e _ fun v H2 e2 h2 =>
  ⟨v, rfl, v, o, rfl, ho, .inr ⟨_, ps, h2, ys_snd hl, h0, fun p hm => ⟨(hp p hm).s1, (hp p hm).s2⟩, fun z H3 e3 h3 => k z H3 (e2.trans e3) h3⟩⟩
theorem ex_endK {o : Int} (ho : o.natAbs ≤ 1) (hs : EvS K C te σ H vs ps) (hl : vs.length = ps.length) (h0 : ps ≠ []) (hp : ∀ p ∈ ps, Bd p) : EvX C (tCSK (fun _ vs H Q => spEnd K C D o vs H Q E0) (tCons te tNil)) σ H (furR o ps) := fun H1 e Q k => hs H1 e _ fun v H2 e2 h2 =>
  ⟨v, rfl, v, o, rfl, ho, .inr ⟨_, ps, h2, ys_snd hl, h0, fun p hm => ⟨(hp p hm).s1, (hp p hm).s2⟩, fun z H3 e3 h3 => k z H3 (e2.trans e3) h3⟩⟩
/-- _law_is, the pair in a name -/
theorem ev_isV {a : Addr} {tl : TE} {p : Int × Int} (ha : EvX C te σ H p) (hl : Ev tl σ H (.ref a)) (h : H a = some (.tup [.int p.1, .int p.2])) (l1 : p.1.natAbs.log2 < 1000) (l2 : p.2.natAbs.log2 < 1000) :
    Ev (tCS (fun _ vs H Q => spIs C (vs ++ []) H Q E0) (tCons te (tCons tl tNil))) σ H (.bl true) := fun H1 e Q k => ha H1 e _ fun x H2 e2 hx => hl H2 (e.trans e2) _ fun H3 e3 =>
  ⟨x, a, p.1, p.2, rfl, hx.ext e3, ((e.trans e2).trans e3) _ _ h, l1, l2, fun H4 e4 => k H4 ((e2.trans e3).trans e4)⟩
end
end K01
end

section -- K01v
set_option linter.all false
set_option exponentiation.threshold 9000
set_option maxRecDepth 100000
set_option maxHeartbeats 4000000
namespace K01
open PySem PySem.Spec L2 Pk Evl
open PyProof.Rows hiding St
abbrev sLists : Stmt := top 30
def spLists (C : Addr) : Sp := fun vs H Q _ => ∃ (l m : Addr) (xs ms : List V) (ps : List (Int × Int)) (M : Int), vs = [.ref l, .ref m] ∧ H l = some (.lst xs) ∧ H m = some (.lst ms) ∧ VsAt C H xs ps ∧ PrAt H ms ps ∧ ps.length ≤ 12 ∧ (∀ p ∈ ps, Bd p) ∧ M ≠ 0 ∧ M.natAbs < 2 ^ 400 ∧ (∀ p ∈ ps, p.2 ∣ M) ∧
  ∀ H1, Ex H H1 → Q (.bl true) H1
section
variable {P : Program} {w : World} {K : PySem.W.Frag} {mg : Str → Option Value} {base : Heap}
theorem sc_lists : FnScope ["_law_values", "_law_pairs", "_law_total", "_law_top", "_law_bottom", "_law_low_here", "_law_high", "_law_pair", "_law_way"] ["_law_values", "_law_pairs"] (defScope sLists) := ⟨rfl, rfl, rfl, by decide +kernel, rfl, by decide +kernel, by decide +kernel⟩
theorem ok_lists {f fL fI fP C D : Addr} {fd fdL fdI fdP : FuncData} (F : Fun K "_law_lists_right" "_law_lists_right" sLists f fd) (B : Bi mg) (X : RX P w K mg base C D)
    (G_low : FnOk P w K mg base CX0 1 fL fdL ["_law_top", "_law_bottom"] (spLow K)) (b_low : Binds K fdL ["_law_top", "_law_bottom"] []) (d_low : Df K mg "_law_low" fL)
    (G_is : FnG P w K mg base CX0 8 fI fdI ["_law_value", "_law_pair"] (spIs C)) (b_is : Binds K fdI ["_law_value", "_law_pair"] []) (d_is : Df K mg "_law_is" fI)
    (G_part : FnOk P w K mg base CX0 11 fP fdP ["_law_way", "_law_ratio", "_law_odd"] (spPart K C)) (b_part : Binds K fdP ["_law_way", "_law_ratio", "_law_odd"] []) (d_part : Df K mg "_law_part" fP) :
    FnG P w K mg base CX0 12 f fd ["_law_values", "_law_pairs"] (spLists C) := by
  refine fnG_of F sc_lists (fun vs H Q E h => ?_) (fun cdv A outer s H vs Q E hr hg h => ?_)
  · obtain ⟨l, m, xs, ms, ps, M, rfl, _⟩ := h
    rfl
  · obtain ⟨l, m, xs, ms, ps, M, rfl, hl, hm, hv, hp, h12, bd, M0, Mb, dv, kq⟩ := h
    have nd := sc_lists.nd
    refine ⟨_, PSs.nox (pss_cons (ps_set (i := 2) nd rfl (Or.inl rfl) (pe_tup (pa_cons pe_int (pa_cons pe_int pa_nil))))
(pss_cons (ps_for PassesOwn.never rfl (pi_list (pv 1)) (pg_tup (by rfl) (pgs_cons (pg_name (i := 3) nd rfl (Or.inl rfl)) (pgs_cons (pg_name (i := 4) nd rfl (Or.inl rfl)) pgs_nil)))
(pss_one (ps_set (i := 2) nd rfl (Or.inl rfl) (pe_cs (calls_fn G_low (hr.mono (by decide)) b_low .nil pass0) d_low.1 d_low.2 (pa_cons (pe_op op_add (pe_op op_mulW (pe_ix ix_tup (pv 2) pe_int (fun _ _ => rfl)) (pv 4)) (pe_op op_mulW (pv 3) (pe_ix ix_tup (pv 2) pe_int (fun _ _ => rfl)))) (pa_cons (pe_op op_mulW (pe_ix ix_tup (pv 2) pe_int (fun _ _ => rfl)) (pv 4)) pa_nil))))))
(pss_cons (ps_if (PW.pt (pw_or (pt_not (pt_val (pe_cs (callsG G_is (hr.mono (by decide)) hg b_is .nil pass0) d_is.1 d_is.2 (pa_cons (pe_cs (calls_fnS X.G_added (hr.mono (by decide)) X.b_added .nil passLS) X.d_added.1 X.d_added.2 (pa_cons (pv 0) pa_nil)) (pa_cons (pv 2) pa_nil))))) (pw_or1 (pt_not (pt_val (pe_cs (callsG G_is (hr.mono (by decide)) hg b_is .nil pass0) d_is.1 d_is.2 (pa_cons (pe_csK X.G_added (hr.mono (by decide)) X.kb_added passLS X.d_added.1 X.d_added.2 (pk_cons (pe_callTy call_tupOf (by rfl) B.n_tuple (by decide +kernel) (pa_cons (pv 0) pa_nil)) pk_nil)) (pa_cons (pv 2) pa_nil))))))))
(pss_one (ps_ret pe_bl))
pss_nil)
(pss_cons (ps_if (pt_cmpR (op_eqLen hr.units0) (pv 0) (pe_lst pa_nil) (nomark _))
(pss_one (ps_ret (pe_cmpR (op_eqD hr.units) (pe_lc (own := [("_law_way", 8)]) (g := gName 8) (by rfl) nd (pi_list (pe_lst (pa_cons pe_int (pa_cons pe_int pa_nil)))) (blkOk_by (own := [("_law_way", 8)]) (N := ["_law_values", "_law_pairs", "_law_total", "_law_top", "_law_bottom", "_law_low_here", "_law_high", "_law_pair", "_law_way"]) (sc := (defScope sLists)) (by decide +kernel)) (fun _ _ _ _ _ => pg_name (i := 8) nd rfl (Or.inl rfl)) (fun _ _ _ _ _ => pts_nil) (fun _ _ _ _ _ => (pe_cs (calls_fn G_part (hr.mono (by decide)) b_part .nil pass0) d_part.1 d_part.2 (pa_cons (pv 8) (pa_cons (pe_cs (calls_make X.M_R X.G_R (hr.mono (by decide)) X.b_R1 X.v_R1 passL) X.d_R.1 X.d_R.2 (pa_cons pe_int pa_nil)) (pa_cons (pe_lst pa_nil) pa_nil)))))) (pe_op op_rep (pe_lst (pa_cons pe_str pa_nil)) pe_int) (nomark _))))
pss_nil)
(pss_cons (ps_par (i := 5) (j := 6) (by rfl) nd rfl rfl (by decide) rfl rfl (pa_cons (pe_ix ix_list (pv 1) pe_int (fun _ _ => rfl)) (pa_cons (pe_ix ix_list (pv 1) pe_int (fun _ _ => rfl)) pa_nil)) (by rfl))
(pss_cons (ps_for PassesOwn.never rfl (pi_list (pv 1)) (pg_name (i := 7) nd rfl (Or.inl rfl))
(pss_cons (ps_if (pt_cmpR op_lt (pe_op op_mulW (pe_ix ix_tup (pv 7) pe_int (fun _ _ => rfl)) (pe_ix ix_tup (pv 5) pe_int (fun _ _ => rfl))) (pe_op op_mulW (pe_ix ix_tup (pv 5) pe_int (fun _ _ => rfl)) (pe_ix ix_tup (pv 7) pe_int (fun _ _ => rfl))) (nomark _))
(pss_one (ps_set (i := 5) nd rfl (Or.inl rfl) (pv 7)))
pss_nil)
(pss_one (ps_if (pt_cmpR op_gt (pe_op op_mulW (pe_ix ix_tup (pv 7) pe_int (fun _ _ => rfl)) (pe_ix ix_tup (pv 6) pe_int (fun _ _ => rfl))) (pe_op op_mulW (pe_ix ix_tup (pv 6) pe_int (fun _ _ => rfl)) (pe_ix ix_tup (pv 7) pe_int (fun _ _ => rfl))) (nomark _))
(pss_one (ps_set (i := 6) nd rfl (Or.inl rfl) (pv 7)))
pss_nil))))
(pss_one (ps_ret (pe_and (pe_cs (callsG G_is (hr.mono (by decide)) hg b_is .nil pass0) d_is.1 d_is.2 (pa_cons (pe_cs (calls_fnS X.G_least (hr.mono (by decide)) X.b_least .nil passLS) X.d_least.1 X.d_least.2 (pa_cons (pe_callTy call_tupOf (by rfl) B.n_tuple (by decide +kernel) (pa_cons (pv 0) pa_nil)) pa_nil)) (pa_cons (pv 5) pa_nil))) (pe_one (pe_cs (callsG G_is (hr.mono (by decide)) hg b_is .nil pass0) d_is.1 d_is.2 (pa_cons (pe_csK X.G_greatest (hr.mono (by decide)) X.kb_greatest passLS X.d_greatest.1 X.d_greatest.2 (pk_cons (pv 0) pk_nil)) (pa_cons (pv 6) pa_nil))))))))))))), ?_⟩
    have sm1 : Sm 1 := Nat.one_lt_two_pow (by decide : 4000 ≠ 0)
    refine q_asgU (eu_tup (ea_cons ev_c (ea_cons ev_c ea_nil)) (by show 2 ≤ 100000; decide)) fun t0 H1 n1 e1 h1 => ?_
    refine q_forL (ev_var rfl) (sq_of (e1 _ _ hm)) (fun i σ H2 => ∃ (t : Addr) (o3 o4 : Option V), σ = [some (.ref l), some (.ref m), some (.ref t), o3, o4, none, none, none, none] ∧ Ex H H2 ∧ H2 t = some (.tup [.int (sumR (ps.take i)).1, .int (sumR (ps.take i)).2])) (fun H2 e2 => ⟨t0, none, none, rfl, e1.trans e2, e2 _ _ h1⟩) (fun i σ H2 _ pv => ?_) (fun i x σ H2 hx pv => ?_) (fun σ H2 pv => ?_)
    · obtain ⟨t, o3, o4, rfl, e2, ht⟩ := pv
      exact sq_of (e2 _ _ hm)
    · obtain ⟨t, o3, o4, rfl, e2, ht⟩ := pv
      have li := (List.getElem?_eq_some_iff.mp hx).1
      obtain ⟨p, hpi⟩ : ∃ p, ps[i]? = some p := ⟨ps[i]'(by rw [← hp.1]; exact li), List.getElem?_eq_getElem (by rw [← hp.1]; exact li)⟩
      have i12 : i < ps.length := (List.getElem?_eq_some_iff.mp hpi).1
      obtain ⟨a, rfl, ha⟩ := (hp.ext e2).2 i x p hx hpi
      have bp := bd p (List.mem_of_getElem? hpi)
      have so := sumOk_take (M := M) bd dv i (by omega)
      have s2 := so.b2 M0 Mb
      have s1 := so.b1 M0 Mb (by omega)
      have st := so.step bp (dv p (List.mem_of_getElem? hpi))
      have a0 : (sumR (ps.take i)).2 ≠ 0 := Int.ne_of_gt so.lw.1
      have d0 : (sumR (ps.take i)).2 * p.2 ≠ 0 := Int.mul_ne_zero a0 bp.b0
      have db : ((sumR (ps.take i)).2 * p.2).natAbs < 2 ^ 640 := Nat.lt_of_lt_of_le (wide_lt s2 bp.b) (Nat.pow_le_pow_right (by decide) (by decide))
      have nxt : sumR (ps.take (i + 1)) = lowp ((sumR (ps.take i)).1 * p.2 + p.1 * (sumR (ps.take i)).2) ((sumR (ps.take i)).2 * p.2) := by
        unfold sumR
        rw [Pk.take_succ' hpi, List.foldl_append]
        rfl
      refine ⟨a, _, rfl, st_of ha, by rfl, _, _, rfl, _, _, rfl, rfl, ?_⟩
      have ix0 : ∀ {σ : L2.St}, σ[2]? = some (some (.ref t)) → Ev (tOp (rIxT K) (tVar 2) (tC (.int 0))) σ H2 (.int (sumR (ps.take i)).1) := fun s => ev_op (ev_var s) ev_c (rv_ixT (st_of ht) (atI_nat (j := 0) rfl))
      have ix1 : ∀ {σ : L2.St}, σ[2]? = some (some (.ref t)) → Ev (tOp (rIxT K) (tVar 2) (tC (.int 1))) σ H2 (.int (sumR (ps.take i)).2) := fun s => ev_op (ev_var s) ev_c (rv_ixT (st_of ht) (atI_nat (j := 1) rfl))
      refine s_asgU (eu_low (ea_cons (ev_op (ev_op (ix0 rfl) (ev_var rfl) (rv_I (mulWb s1 bp.b (by decide)))) (ev_op (ev_var rfl) (ix1 rfl) (rv_I (mulWb bp.t s2 (by decide)))) rv_I0) (ea_cons (ev_op (ix1 rfl) (ev_var rfl) (rv_I (mulWb s2 bp.b (by decide)))) ea_nil)) d0 db) fun t2 H3 n3 e3 h3 => ?_
      exact ⟨t2, _, _, rfl, e2.trans e3, by rw [nxt]; exact h3⟩
    · obtain ⟨t, o3, o4, rfl, e2, ht⟩ := pv
      rw [List.take_of_length_le (by rw [hp.1]; exact Nat.le_refl _)] at ht
      have so : SumOk M ps.length (sumR ps) := by
        have := sumOk_take (M := M) bd dv ps.length (Nat.le_refl _)
        rw [List.take_length] at this
        exact this
      have l1 := log_lt (so.b1 M0 Mb h12) (by decide) (by decide)
      have l2 := log_lt (so.b2 M0 Mb) (by decide) (by decide)
      have z1 : ps.length ≤ 1000 := by omega
      have vl : ∀ {σ : L2.St} {H3 : Hp}, Ex H H3 → σ[0]? = some (some (.ref l)) → EvS K C (tVar 0) σ H3 xs ps := fun e s => es_var s (hv.ext e) (e _ _ hl) z1
      have vt : ∀ {σ : L2.St} {H3 : Hp}, Ex H H3 → σ[0]? = some (some (.ref l)) → EvS K C (tCB (rTupOf K) (tCons (tVar 0) tNil)) σ H3 xs ps := fun e s => es_tup (eu_tupOf (ev_var s) (sq_of (e _ _ hl))) (hv.ext e) z1
      refine q_when (b := false) (et_is (et_or (a := false) (b := false) (et_is (et_not (et_B (ev_isV (ex_added (vl e2 rfl) hv.1 h12 bd) (ev_var rfl) ht l1 l2))) rfl) fun _ => et_is (et_not (et_B (ev_isV (ex_addedK (vt e2 rfl) hv.1 h12 bd) (ev_var rfl) ht l1 l2))) rfl) rfl) (fun c => by cases c) fun _ H3 e3 => ?_
      have e23 := e2.trans e3
      refine q_when (b := decide (xs.length = 0)) (et_test (ev_eqLen (ev_var rfl) (e23 _ _ hl) (el_lst ea_nil (by decide)))) (fun c H4 e4 => ?_) (fun c H4 e4 => ?_)
      · have e24 := e23.trans e4
        have r1 : ∀ {σ : L2.St} {H5 : Hp}, EvX C (tCS (rMk K C D [.int 1]) (tCons (tC (.int 1)) tNil)) σ H5 (1, 1) := fun {σ} {H5} H6 e6 Q6 k6 => ei_mk (K := K) (C := C) (D := D) (dvs := [.int 1]) (t := 1) (b := 1) (ea_cons ev_c ea_nil) rfl (by decide) (by decide) H6 (Ex.refl H6) Q6 fun x dx H7 nx e7 hx => k6 x H7 e7 ⟨dx, by rw [sg_unit, fdiv_one] at hx; exact hx⟩
        have one : ∀ (i : Nat) (x y : V), ([.int 10, .int 11] : List V)[i]? = some x → ([V.str "ratios", V.str "ratios"] : List V)[i]? = some y → ∀ H5, Ex H4 H5 → ∀ {σ : L2.St}, σ[8]? = some (some x) → Ev (tCS (fun _ vs H Q => spPart K C (vs ++ []) H Q E0) (tCons (tVar 8) (tCons (tCS (rMk K C D [.int 1]) (tCons (tC (.int 1)) tNil)) (tCons (tLst tNil) tNil)))) σ H5 y := fun i x y hx hy H5 e5 σ s8 H6 e6 Q6 k6 => by
          obtain ⟨wy, rfl, hw, rfl⟩ : ∃ wy : Int, x = .int wy ∧ (wy = 10 ∨ wy = 11) ∧ y = .str "ratios" := by
            rcases i with _ | _ | i
            · cases hx; cases hy; exact ⟨10, rfl, .inl rfl, rfl⟩
            · cases hx; cases hy; exact ⟨11, rfl, .inr rfl, rfl⟩
            · cases hx
          refine ⟨_, s8, r1 (H5 := H6) H6 (Ex.refl H6) _ fun z H7 e7 hz => ⟨by decide, fun q nq => ?_⟩⟩
          have hz2 := hz.ext (Ex.new (o := .lst []) nq)
          exact ⟨wy, z, .ref q, 1, 1, "ratios", rfl, hz2, sm1, sm1, .inr (.inr (.inr (.inr ⟨ls_list (ys := []) upd_same (by decide) (fun y hy => by cases hy), hw, rfl⟩))), fun H8 e8 => k6 H8 ((e7.trans (Ex.new nq)).trans e8)⟩
        refine s_ret (v := .bl true) (ev_eqStrs (zs := ["ratios", "ratios"]) (by decide +kernel) (el_lcN [.str "ratios", .str "ratios"] (el_lst (ea_cons ev_c (ea_cons ev_c ea_nil)) (by decide)) rfl (by decide) (fun _ => rfl) fun i x y hx hy H5 e5 => one i x y hx hy H5 e5 rfl) (el_rep (xs := [.str "ratios"]) (n := 2) (el_lst (ea_cons ev_c ea_nil) (by decide)) ev_c (by decide) (by decide) (by decide))) fun H5 e5 => kq H5 (e24.trans e5)
      · have e24 := e23.trans e4
        have x0 : xs.length ≠ 0 := of_decide_eq_false c
        obtain ⟨p0, pr, rfl⟩ : ∃ p0 pr, ps = p0 :: pr := by
          cases ps with
          | nil => exact absurd hv.1 x0
          | cons a b => exact ⟨a, b, rfl⟩
        obtain ⟨v0, mr, rfl⟩ : ∃ v0 mr, ms = v0 :: mr := by
          cases ms with
          | nil => have := hp.1; cases this
          | cons a b => exact ⟨a, b, rfl⟩
        obtain ⟨a0, rfl, ha0⟩ := hp.2 0 v0 p0 rfl rfl
        have bp0 := bd p0 List.mem_cons_self
        have i0 : ∀ {σ : L2.St}, σ[1]? = some (some (.ref m)) → Ev (tOp (rIxL K) (tVar 1) (tC (.int 0))) σ H4 (.ref a0) := fun s => ev_op (ev_var s) ev_c (rv_ixL (sq_of (e24 _ _ hm)) (atI_nat (j := 0) rfl))
        refine q_par (ea_cons (i0 rfl) (ea_cons (i0 rfl) ea_nil)) fun H5 e5 => ?_
        have e25 := e24.trans e5
        refine q_forLn (ev_var rfl) (sq_of (e25 _ _ hm)) (fun i σ H6 => ∃ (aL aH : Addr) (o7 : Option V) (lo hi : Int × Int), σ = [some (.ref l), some (.ref m), some (.ref t), o3, o4, some (.ref aL), some (.ref aH), o7, none] ∧ Ex H H6 ∧ H6 aL = some (.tup [.int lo.1, .int lo.2]) ∧ H6 aH = some (.tup [.int hi.1, .int hi.2]) ∧ Bd lo ∧ Bd hi ∧
          lo = ((p0 :: pr).take i).foldl (furP (-1)) p0 ∧ hi = ((p0 :: pr).take i).foldl (furP 1) p0) (fun H6 e6 => ⟨a0, a0, none, p0, p0, rfl, e25.trans e6, e6 _ _ (e25 _ _ ha0), e6 _ _ (e25 _ _ ha0), bp0, bp0, rfl, rfl⟩) (fun i σ H6 _ pv => ?_) (fun i x σ H6 hx pv => ?_) (fun σ H6 pv => ?_)
        · obtain ⟨aL, aH, o7, lo, hi, rfl, e6, _⟩ := pv
          exact sq_of (e6 _ _ hm)
        · obtain ⟨aL, aH, o7, lo, hi, rfl, e6, hL, hH, bL, bH, eL, eH⟩ := pv
          have li := (List.getElem?_eq_some_iff.mp hx).1
          obtain ⟨p, hpi⟩ : ∃ p, (p0 :: pr)[i]? = some p := ⟨(p0 :: pr)[i]'(by rw [← hp.1]; exact li), List.getElem?_eq_getElem (by rw [← hp.1]; exact li)⟩
          obtain ⟨a, rfl, ha⟩ := (hp.ext e6).2 i x p hx hpi
          have bp := bd p (List.mem_of_getElem? hpi)
          have ix : ∀ {j : Nat} {b : Addr} {q : Int × Int} {σ : L2.St} {H7 : Hp}, H7 b = some (.tup [.int q.1, .int q.2]) → σ[j]? = some (some (.ref b)) → Ev (tOp (rIxT K) (tVar j) (tC (.int 0))) σ H7 (.int q.1) ∧ Ev (tOp (rIxT K) (tVar j) (tC (.int 1))) σ H7 (.int q.2) := fun hb s => ⟨ev_op (ev_var s) ev_c (rv_ixT (st_of hb) (atI_nat (j := 0) rfl)), ev_op (ev_var s) ev_c (rv_ixT (st_of hb) (atI_nat (j := 1) rfl))⟩
          refine q_ifAsg (v := .ref (if p.1 * lo.2 < lo.1 * p.2 then a else aL)) (b := decide (p.1 * lo.2 < lo.1 * p.2)) (et_test (ev_op (ev_op (ix ha rfl).1 (ix hL rfl).2 (rv_I (w2 bp.t bL.b))) (ev_op (ix hL rfl).1 (ix ha rfl).2 (rv_I (w2 bL.t bp.b))) rv_I0)) (fun c7 => ev_is (ev_var rfl) (by rw [if_pos (of_decide_eq_true c7)])) (fun c7 => by rw [if_neg (of_decide_eq_false c7)]; rfl) fun H7 e7 => ?_
          refine s_ifAsg (v := .ref (if p.1 * hi.2 > hi.1 * p.2 then a else aH)) (b := decide (p.1 * hi.2 > hi.1 * p.2)) (et_test (ev_op (ev_op (ix (e7 _ _ ha) rfl).1 (ix (e7 _ _ hH) rfl).2 (rv_I (w2 bp.t bH.b))) (ev_op (ix (e7 _ _ hH) rfl).1 (ix (e7 _ _ ha) rfl).2 (rv_I (w2 bH.t bp.b))) rv_I0)) (fun c7 => ev_is (ev_var rfl) (by rw [if_pos (of_decide_eq_true c7)])) (fun c7 => by rw [if_neg (of_decide_eq_false c7)]; rfl) fun H8 e8 => ?_
          have e78 := e7.trans e8
          refine ⟨_, _, _, furP (-1) lo p, furP 1 hi p, rfl, e6.trans e78, ?_, ?_, ?_, ?_, ?_, ?_⟩
          · rw [furP_lo]
            by_cases c7 : p.1 * lo.2 < lo.1 * p.2
            · rw [if_pos c7, if_pos c7]; exact e78 _ _ ha
            · rw [if_neg c7, if_neg c7]; exact e78 _ _ hL
          · rw [furP_hi]
            by_cases c7 : p.1 * hi.2 > hi.1 * p.2
            · rw [if_pos c7, if_pos c7]; exact e78 _ _ ha
            · rw [if_neg c7, if_neg c7]; exact e78 _ _ hH
          · rw [furP_lo]; split
            · exact bp
            · exact bL
          · rw [furP_hi]; split
            · exact bp
            · exact bH
          · rw [Pk.take_succ' hpi, List.foldl_append, ← eL]; rfl
          · rw [Pk.take_succ' hpi, List.foldl_append, ← eH]; rfl
        · obtain ⟨aL, aH, o7, lo, hi, rfl, e6, hL, hH, bL, bH, eL, eH⟩ := pv
          rw [List.take_of_length_le (by rw [hp.1]; exact Nat.le_refl _)] at eL eH
          have fL : furR (-1) (p0 :: pr) = lo := eL.symm
          have fH : furR 1 (p0 :: pr) = hi := eH.symm
          have x1 := ex_end (K := K) (D := D) (o := -1) (by decide) (vt e6 (σ := [some (.ref l), some (.ref m), some (.ref t), o3, o4, some (.ref aL), some (.ref aH), o7, none]) rfl) hv.1 (List.cons_ne_nil _ _) bd
          have x2 := ex_endK (K := K) (D := D) (o := 1) (by decide) (vl e6 (σ := [some (.ref l), some (.ref m), some (.ref t), o3, o4, some (.ref aL), some (.ref aH), o7, none]) rfl) hv.1 (List.cons_ne_nil _ _) bd
          rw [fL] at x1
          rw [fH] at x2
          exact s_ret (v := .bl true) (ev_is (ev_andV (a := true) (b := true) (ev_isV x1 (ev_var rfl) hL (log_lt bL.t (by decide) (by decide)) (log_lt bL.b (by decide) (by decide))) fun _ => ev_isV x2 (ev_var rfl) hH (log_lt bH.t (by decide) (by decide)) (log_lt bH.b (by decide) (by decide))) rfl) fun H7 e7 => kq H7 (e6.trans e7)
end
end K01
end

section -- K01w
set_option linter.all false
set_option exponentiation.threshold 9000
set_option maxRecDepth 100000
set_option maxHeartbeats 4000000
namespace K01
open PySem PySem.Spec L2 Pk Evl
open PyProof.Rows hiding St
abbrev sRefused : Stmt := top 31
/-! ### what stays where the pen's own list changes -/
section
variable {K : PySem.W.Frag} {C : Addr} {H H2 : Hp} {v : V} {T : Value} {p x : Addr}
theorem tyof_fr (h : TyOf K H v T) (n : v ≠ .ref p) (e : Fr p H H2) : TyOf K H2 v T := by
  have w : ∀ a : Addr, v = .ref a → a ≠ p := fun a ha z => n (by rw [ha, z])
  cases h with
  | non => exact .non
  | bl x => exact .bl x
  | int i => exact .int i
  | str x => exact .str x
  | flt x => exact .flt x
  | lst q => exact .lst (e _ _ (w _ rfl) q)
  | frz q => exact .frz (e _ _ (w _ rfl) q)
  | tup q => exact .tup (e _ _ (w _ rfl) q)
  | dK q => exact .dK (e _ _ (w _ rfl) q)
  | dT q => exact .dT (e _ _ (w _ rfl) q)
  | ins q a b c d r => exact .ins (e _ _ (w _ rfl) q) a b c d r
theorem tyx_fr (h : TyX K H v T) (n : v ≠ .ref p) (e : Fr p H H2) : TyX K H2 v T := by
  have w : ∀ a : Addr, v = .ref a → a ≠ p := fun a ha z => n (by rw [ha, z])
  cases h with
  | base q => exact .base (tyof_fr q n e)
  | byt b => exact .byt b
  | set q => exact .set (e _ _ (w _ rfl) q)
  | kList q c => exact .kList q c
  | kTuple q c => exact .kTuple q c
  | kDict q c => exact .kDict q c
  | fTuple q => exact .fTuple (e _ _ (w _ rfl) q)
  | fDict q => exact .fDict (e _ _ (w _ rfl) q)
theorem RatAt.fr {t b : Int} (h : RatAt C H x t b) (n : x ≠ p) (e : Fr p H H2) : RatAt C H2 x t b := by
  obtain ⟨dx, h⟩ := h
  exact ⟨dx, e _ _ n h⟩
theorem pen_rat {k : Nat} {t b : Int} (h : PenAt H p k) (hx : RatAt C H x t b) : x ≠ p := fun z => by
  obtain ⟨c, t, l, ns, a, _⟩ := h
  obtain ⟨dx, hx⟩ := hx
  rw [z, a] at hx
  cases hx
/-- values of some kind, none of them the pen -/
def KindP (K : PySem.W.Frag) (S : Value → Prop) (p : Addr) (v : V) (H : Hp) : Prop := (∃ T, TyX K H v T ∧ S T) ∧ v ≠ .ref p
theorem KindP.ext {S : Value → Prop} (h : KindP K S p v H) (e : Ex H H2) : KindP K S p v H2 := by
  obtain ⟨⟨T, a, b⟩, n⟩ := h
  exact ⟨⟨T, tyx_ext a e, b⟩, n⟩
theorem KindP.fr {S : Value → Prop} (h : KindP K S p v H) (e : Fr p H H2) : KindP K S p v H2 := by
  obtain ⟨⟨T, a, b⟩, n⟩ := h
  exact ⟨⟨T, tyx_fr a n e, b⟩, n⟩
end
/-! ### lists of such values, picked from -/
def EvK (K : PySem.W.Frag) (S : Value → Prop) (p : Addr) (te : TE) (σ : L2.St) (H : Hp) : Prop := ∀ H1, Ex H H1 → ∀ Q : VK, (∀ v H2, Ex H1 H2 → KindP K S p v H2 → Q v H2) → te σ H1 Q
def EvKs (K : PySem.W.Frag) (S : Value → Prop) (p : Addr) (ta : TA) (σ : L2.St) (H : Hp) (n : Nat) : Prop := ∀ H1, Ex H H1 → ∀ Q : List V → Hp → Prop, (∀ vs H2, Ex H1 H2 → vs.length = n → (∀ v ∈ vs, KindP K S p v H2) → Q vs H2) → ta σ H1 Q
section
variable {K : PySem.W.Frag} {S : Value → Prop} {p : Addr} {ta : TA} {te : TE} {σ : L2.St} {H : Hp} {n k : Nat} {o : HO}
theorem ek_nil : EvKs K S p tNil σ H 0 := fun H1 e Q q => q [] H1 (Ex.refl H1) rfl (fun v h => by cases h)
theorem ek_cons (h : EvK K S p te σ H) (hr : EvKs K S p ta σ H n) : EvKs K S p (tCons te ta) σ H (n + 1) := fun H1 e Q q => h H1 e _ fun v H2 e2 hv => hr H2 (e.trans e2) _ fun vs H3 e3 hl hs => q (v :: vs) H3 (e2.trans e3) (by rw [List.length_cons, hl]) (fun u hu => by
  rcases List.mem_cons.mp hu with rfl | hu
  · exact hv.ext e3
  · exact hs u hu)
theorem ek_v {v : V} {T : Value} (h : Ev te σ H v) (ht : ∀ H2, TyX K H2 v T) (hs : S T) (n : v ≠ .ref p) : EvK K S p te σ H := fun H1 e Q q => h H1 e _ fun H2 e2 => q v H2 e2 ⟨⟨T, ht H2, hs⟩, n⟩
theorem ek_var {i : Nat} {v : V} (s : σ[i]? = some (some v)) (h : KindP K S p v H) : EvK K S p (tVar i) σ H := fun H1 e Q q => ⟨v, s, q v H1 (Ex.refl H1) (h.ext e)⟩
theorem ne_new {H1 : Hp} {q : Addr} (hp : H p = some o) (e : Ex H H1) (hq : H1 q = none) : V.ref q ≠ .ref p := fun z => by
  have : q = p := V.ref.inj z
  rw [this, e _ _ hp] at hq
  cases hq
theorem ek_tup {vs : List V} (hp : H p = some o) (h : EvU te σ H vs) (hs : S (.type "tuple")) : EvK K S p te σ H := fun H1 e Q q => h H1 e _ fun a H2 n2 e2 h2 => q _ H2 e2 ⟨⟨_, .base (.tup h2), hs⟩, ne_new hp e n2⟩
theorem ek_lst {vs : List V} (hp : H p = some o) (h : EvL te σ H vs) (hs : S (.type "list")) : EvK K S p te σ H := fun H1 e Q q => h H1 e _ fun a H2 n2 e2 h2 => q _ H2 e2 ⟨⟨_, .base (.lst h2), hs⟩, ne_new hp e n2⟩
theorem ek_dict0 (hp : H p = some o) (hs : S (.type "dict")) : EvK K S p tDNewK σ H := fun H1 e Q q => fun a na => q _ _ (Ex.new na) ⟨⟨_, .base (.dK upd_same), hs⟩, ne_new hp e na⟩
theorem ek_dict1 {i j : Int} (hp : H p = some o) (hs : S (.type "dict")) : EvK K S p (tDisp [(tC (.int i), tC (.int j))]) σ H := fun H1 e Q q => fun a na => ⟨upd_same, [(Sum.inl i, .int j)], rfl, Nat.le_of_ble_eq_true rfl, q _ _ ((Ex.new na).mut na) ⟨⟨_, .base (.dK upd_same), hs⟩, ne_new hp e na⟩⟩
/-- [[i]] -/
theorem ek_nest {i : Int} (hp : H p = some o) (hs : S (.type "list")) : EvK K S p (tLst (tCons (tLst (tCons (tC (.int i)) tNil)) tNil)) σ H := fun H1 e Q q => ⟨sz (Nat.le_of_ble_eq_true rfl), fun a na => ⟨sz (Nat.le_of_ble_eq_true rfl), fun b nb => q _ _ ((Ex.new na).trans (Ex.new nb)) ⟨⟨_, .base (.lst upd_same), hs⟩, ne_new hp (e.trans (Ex.new na)) nb⟩⟩⟩
theorem pick_kind {Q : VK} (s0 : σ[0]? = some (some (.ref p))) (ha : EvKs K S p ta σ H n) (n0 : 0 < n) (nz : n ≤ 1000) (hp : PenAt H p (k + 1)) (hq : ∀ x H1, KindP K S p x H1 → Fr p H H1 → PenAt H1 p k → Q x H1) :
    tCS (fun _ vs H Q => spPickL (vs ++ []) H Q E0) (tCons (tVar 0) (tCons (tLst ta) tNil)) σ H Q := ⟨_, s0, ha H (Ex.refl H) _ fun vs H1 e1 hl hs => ⟨sz (by omega), fun q nq => by
  have e2 := e1.trans (Ex.new (o := .lst vs) nq)
  exact ⟨p, q, vs, k, rfl, upd_same, pen_ne (hp.ext e1) nq, fun z => by rw [z] at hl; have : 0 = n := hl; omega, by omega, hp.ext e2, fun x H2 hx fr h2 => hq x H2 (((hs x hx).ext (Ex.new nq)).fr fr) ((Fr.of e2).trans fr) h2⟩⟩⟩
end
/-! ### parts, told -/
section
variable {K : PySem.W.Frag} {C D : Addr} {σ : L2.St} {H H2 : Hp} {ta : TA} {te tb : TE} {v : V} {x : Addr}
theorem RefB.ext {way : Int} {part : Str} (h : RefB K C H way v part) (e : Ex H H2) : RefB K C H2 way v part := by
  rcases h with ⟨h, k⟩ | ⟨a, b, c, h, k⟩ | h | ⟨h, k⟩ | ⟨h, k⟩
  · exact .inl ⟨h.ext e, k⟩
  · exact .inr (.inl ⟨a, b, c, h.ext e, k⟩)
  · exact .inr (.inr (.inl h))
  · exact .inr (.inr (.inr (.inl ⟨h.ext e, k⟩)))
  · exact .inr (.inr (.inr (.inr ⟨h.ext e, k⟩)))
theorem ev_part {way t b : Int} {part : Str} (ha : EvA ta σ H [.int way, .ref x, v]) (hx : RatAt C H x t b) (st : Sm t) (sb : Sm b) (hb : RefB K C H way v part) : Ev (tCS (fun _ vs H Q => spPart K C (vs ++ []) H Q E0) ta) σ H (.str part) := fun H1 e Q q =>
  ha H1 e _ fun H2 e2 => ⟨way, x, v, t, b, part, rfl, hx.ext (e.trans e2), st, sb, hb.ext (e.trans e2), fun H3 e3 => q H3 (e2.trans e3)⟩
theorem ev_eqOdd {neg : Bool} {p : Int × Int} (ha : EvX C te σ H p) (hb : Ev tb σ H v) (ho : OddB K C H v) : Ev (tOp (rEqV neg K C (fun vs H Q => spEqV K C vs H Q E0)) te tb) σ H (.bl neg) := fun H1 e Q k => ha H1 e _ fun x H2 e2 hx => hb H2 (e.trans e2) _ fun H3 e3 => by
  have o3 := ho.ext ((e.trans e2).trans e3)
  obtain ⟨T, ty, oT⟩ := id o3
  have hx3 := hx.ext e3
  obtain ⟨dx, ex⟩ := id hx3
  exact ⟨x, dx, _, _, rfl, ex, ty, oT.nf, x, _, p.1, p.2, rfl, hx3, .inr (.inr ⟨o3.odd, fun H4 e4 => ⟨false, rfl, by rw [Bool.false_bne]; exact k H4 ((e2.trans e3).trans e4)⟩⟩)⟩
theorem ev_neStrsV {d : Addr} {zs : List Str} (hz : zs.all PyData.strOk = true) (ha : EvL te σ H (zs.map V.str)) (hb : Ev tb σ H (.ref d)) (hd : H d = some (.lst (zs.map V.str))) : Ev (tOp (rNeD K) te tb) σ H (.bl false) := ev_opL1 ha (fun H1 e => hb.mono e) fun p H1 hp e => fun H2 e2 Q k =>
  ⟨_, _, .lst (sq_of (e2 _ _ hp)) (dp_strs zs), .lst (sq_of (e2 _ _ (e _ _ hd))) (dp_strs zs), shaped_strs hz, shaped_strs hz, by rw [SeqAt.eqv_refl _ (by simp only [PyData.canLay0]; exact lay_strs zs hz)]; exact k H2 (Ex.refl H2)⟩
end
/-- which part each way refuses -/
def dueF (i : Nat) : Str := if i < 6 then "other" else if i = 6 then "value" else if i = 7 then "top" else "bottom"
def rat3 : List Str := ["ratios", "ratios", "ratios"]
def dueL : List Str := ["other", "other", "other", "other", "other", "other", "value", "top", "bottom"]
theorem due_given : given 9 (fun _ => true) (fun i => V.str (dueF i)) = dueL.map V.str := by rfl
def spRefused (C : Addr) : Sp := fun vs H Q _ => ∃ (p x : Addr) (k : Nat) (q : Int × Int), vs = [.ref p, .ref x] ∧ PenAt H p (k + 2) ∧ RatAt C H x q.1 q.2 ∧ Bd q ∧ ∀ H1, Fr p H H1 → PenAt H1 p k → Q (.bl true) H1
section
variable {P : Program} {w : World} {K : PySem.W.Frag} {mg : Str → Option Value} {base : Heap}
theorem sc_refused : FnScope ["_law_pen_here", "_law_ratio", "_law_odd", "_law_due", "_law_some", "_law_way"] ["_law_pen_here", "_law_ratio"] (defScope sRefused) := ⟨rfl, rfl, rfl, by decide +kernel, rfl, by decide +kernel, by decide +kernel⟩
theorem ok_refused {f fP fK C D gS gR gB gG gW pG pW : Addr} {fd fdP fdK fdS fdR fdB fdG fdW : FuncData} (F : Fun K "_law_refused_right" "_law_refused_right" sRefused f fd) (B : Bi mg) (X : RX P w K mg base C D) (R : RT P w K mg base C gS gR gB gG gW pG pW fdS fdR fdB fdG fdW)
    (G_part : FnOk P w K mg base CX0 11 fP fdP ["_law_way", "_law_ratio", "_law_odd"] (spPart K C)) (b_part : Binds K fdP ["_law_way", "_law_ratio", "_law_odd"] []) (d_part : Df K mg "_law_part" fP)
    (G_pick : FnOk P w K mg base CX0 2 fK fdK ["_law_pen_here", "_law_some"] spPickL) (b_pick : Binds K fdK ["_law_pen_here", "_law_some"] []) (d_pick : Df K mg "_law_pick" fK) :
    FnOk P w K mg base CX0 12 f fd ["_law_pen_here", "_law_ratio"] (spRefused C) := by
  refine F.ok sc_refused (fun vs H Q E h => ?_) (fun cdv A outer s H vs Q E hr h => ?_)
  · obtain ⟨p, x, k, q, rfl, _⟩ := h
    rfl
  · obtain ⟨p, x, k, q, rfl, hp, hx, bq, kq⟩ := h
    have nd := sc_refused.nd
    refine ⟨_, (pss_cons (ps_set (i := 2) nd rfl (Or.inr rfl) (pe_cs (calls_fn G_pick (hr.mono (by decide)) b_pick .nil pass0) d_pick.1 d_pick.2 (pa_cons (pv 0) (pa_cons (pe_lst (pa_cons pe_non (pa_cons pe_bl (pa_cons pe_bl (pa_cons pe_str (pa_cons pe_str (pa_cons (pe_tup (pa_cons pe_int (pa_cons pe_int pa_nil))) (pa_cons (pe_lst (pa_cons (pe_lst (pa_cons pe_int pa_nil)) pa_nil)) (pa_cons pe_dnewK (pa_cons (pe_disp (pps_cons pe_int pe_int pps_nil) (by rfl) (by rfl) (fun z => by cases z) (by decide)) pa_nil)))))))))) pa_nil))))
(pss_cons (ps_set (i := 3) nd rfl (Or.inl rfl) (pe_lst (pa_cons pe_str (pa_cons pe_str (pa_cons pe_str (pa_cons pe_str (pa_cons pe_str (pa_cons pe_str (pa_cons pe_str (pa_cons pe_str (pa_cons pe_str pa_nil)))))))))))
(pss_cons (ps_if (PW.pt (pw_or (pt_cmpR (op_neD hr.units) (pe_lc (own := [("_law_way", 5)]) (g := gName 5) (by rfl) nd (pi_range1 (by rfl) B.n_range (pa_cons pe_int pa_nil)) (blkOk_by (own := [("_law_way", 5)]) (N := ["_law_pen_here", "_law_ratio", "_law_odd", "_law_due", "_law_some", "_law_way"]) (sc := (defScope sRefused)) (by decide +kernel)) (fun _ _ _ _ _ => pg_name (i := 5) nd rfl (Or.inl rfl)) (fun _ _ _ _ _ => pts_nil) (fun _ _ _ _ _ => (pe_cs (calls_fn G_part (hr.mono (by decide)) b_part .nil pass0) d_part.1 d_part.2 (pa_cons (pv 5) (pa_cons (pv 1) (pa_cons (pv 2) pa_nil)))))) (pv 3) (nomark _)) (pw_or (pt_cmpR (op_eqV (hr.mono (by decide : 3 ≤ 11)).units0 X.s_eq X.i_eq (runAt_fn X.G_eq (hr.mono (by decide)) rfl X.b_eq pass0)) (pv 1) (pv 2) (nomark _)) (pw_or1 (pt_not (pt_cmpR (op_neV (units1 (hr.mono (by decide : 3 ≤ 11)).units) X.T.hm X.ne X.s_eq X.i_eq (runAt_fn X.G_eq (hr.mono (by decide)).in1 rfl X.b_eq pass0)) (pv 1) (pv 2) (nomark _)))))))
(pss_one (ps_ret pe_bl))
pss_nil)
(pss_cons (ps_if (pt_cmpR (op_neD hr.units) (pe_lc (own := [("_law_way", 5)]) (g := gName 5) (by rfl) nd (pi_list (pe_lst (pa_cons pe_int (pa_cons pe_int (pa_cons pe_int pa_nil))))) (blkOk_by (own := [("_law_way", 5)]) (N := ["_law_pen_here", "_law_ratio", "_law_odd", "_law_due", "_law_some", "_law_way"]) (sc := (defScope sRefused)) (by decide +kernel)) (fun _ _ _ _ _ => pg_name (i := 5) nd rfl (Or.inl rfl)) (fun _ _ _ _ _ => pts_nil) (fun _ _ _ _ _ => (pe_cs (calls_fn G_part (hr.mono (by decide)) b_part .nil pass0) d_part.1 d_part.2 (pa_cons (pv 5) (pa_cons (pv 1) (pa_cons (pv 2) pa_nil)))))) (pe_op op_rep (pe_lst (pa_cons pe_str pa_nil)) pe_int) (nomark _))
(pss_one (ps_ret pe_bl))
pss_nil)
(pss_cons (ps_set (i := 4) nd rfl (Or.inr rfl) (pe_cs (calls_fn G_pick (hr.mono (by decide)) b_pick .nil pass0) d_pick.1 d_pick.2 (pa_cons (pv 0) (pa_cons (pe_lst (pa_cons pe_non (pa_cons pe_int (pa_cons pe_bl (pa_cons pe_str (pa_cons pe_dnewK (pa_cons (pe_disp (pps_cons pe_int pe_int pps_nil) (by rfl) (by rfl) (fun z => by cases z) (by decide)) (pa_cons (pv 1) pa_nil)))))))) pa_nil))))
(pss_cons (ps_if (pt_cmpR (op_neD hr.units) (pe_lc (own := [("_law_way", 5)]) (g := gName 5) (by rfl) nd (pi_list (pe_lst (pa_cons pe_int (pa_cons pe_int (pa_cons pe_int pa_nil))))) (blkOk_by (own := [("_law_way", 5)]) (N := ["_law_pen_here", "_law_ratio", "_law_odd", "_law_due", "_law_some", "_law_way"]) (sc := (defScope sRefused)) (by decide +kernel)) (fun _ _ _ _ _ => pg_name (i := 5) nd rfl (Or.inl rfl)) (fun _ _ _ _ _ => pts_nil) (fun _ _ _ _ _ => (pe_cs (calls_fn G_part (hr.mono (by decide)) b_part .nil pass0) d_part.1 d_part.2 (pa_cons (pv 5) (pa_cons (pv 1) (pa_cons (pv 4) pa_nil)))))) (pe_op op_rep (pe_lst (pa_cons pe_str pa_nil)) pe_int) (nomark _))
(pss_one (ps_ret pe_bl))
pss_nil)
(pss_one (ps_ret (pe_and (pe_cmpR op_eq (pe_cs (calls_fn G_part (hr.mono (by decide)) b_part .nil pass0) d_part.1 d_part.2 (pa_cons pe_int (pa_cons (pv 1) (pa_cons pe_int pa_nil)))) pe_str (nomark _)) (pe_and (pe_cmpR op_eq (pe_cs (calls_fn G_part (hr.mono (by decide)) b_part .nil pass0) d_part.1 d_part.2 (pa_cons pe_int (pa_cons (pv 1) (pa_cons pe_str pa_nil)))) pe_str (nomark _)) (pe_one (pe_cmpR (op_neV (units1 (hr.mono (by decide : 3 ≤ 11)).units) X.T.hm X.ne X.s_eq X.i_eq (runAt_fn X.G_eq (hr.mono (by decide)).in1 rfl X.b_eq pass0)) (pv 1) (pe_callTy (call_strO (C := C) (hr.mono (by decide : 3 ≤ 11)).in1.in1.units0 R.fStr R.iStr (runAt_fn R.G_str (hr.mono (by decide : 3 ≤ 11)).in1.in1 rfl R.b_str pass0)) (by rfl) B.n_str (by decide +kernel) (pa_cons (pv 1) pa_nil)) (nomark _))))))))))))), ?_⟩
    have hpp : ∃ o, H p = some o := by
      obtain ⟨c, t, l, ns, a, _⟩ := id hp
      exact ⟨_, a⟩
    obtain ⟨o, hpo⟩ := hpp
    have nx := pen_rat hp hx
    refine pick_kind (K := K) (S := fun T => ∃ s, T = .type s ∧ OddT K C s) (k := k + 1) rfl (ek_cons (ek_v ev_c (fun _ => .base .non) ⟨_, rfl, X.oN⟩ (fun z => by cases z)) (ek_cons (ek_v ev_c (fun _ => .base (.bl _)) ⟨_, rfl, X.oB⟩ (fun z => by cases z)) (ek_cons (ek_v ev_c (fun _ => .base (.bl _)) ⟨_, rfl, X.oB⟩ (fun z => by cases z)) (ek_cons (ek_v ev_c (fun _ => .base (.str _)) ⟨_, rfl, X.oS⟩ (fun z => by cases z)) (ek_cons (ek_v ev_c (fun _ => .base (.str _)) ⟨_, rfl, X.oS⟩ (fun z => by cases z))
      (ek_cons (ek_tup hpo (eu_tup (ea_cons ev_c (ea_cons ev_c ea_nil)) (by show 2 ≤ 100000; decide)) ⟨_, rfl, X.oT⟩) (ek_cons (ek_nest hpo ⟨_, rfl, X.oL⟩) (ek_cons (ek_dict0 hpo ⟨_, rfl, X.oD⟩) (ek_cons (ek_dict1 hpo ⟨_, rfl, X.oD⟩) ek_nil))))))))) (by decide) (by decide) hp fun v H1 hv f1 hp1 => ?_
    have hx1 := hx.fr nx f1
    obtain ⟨⟨_, ty, s0, rfl, oT⟩, nv⟩ := id hv
    have ob : OddB K C H1 v := ⟨s0, ty, oT⟩
    refine q_asgL (xs := dueL.map V.str) (el_lst (ea_cons ev_c (ea_cons ev_c (ea_cons ev_c (ea_cons ev_c (ea_cons ev_c (ea_cons ev_c (ea_cons ev_c (ea_cons ev_c (ea_cons ev_c ea_nil))))))))) (by decide)) fun d H2 n2 e2 hd => ?_
    have hx2 := hx1.ext e2
    have ob2 := ob.ext e2
    have xv : ∀ {σ : L2.St} {H3 : Hp}, Ex H2 H3 → σ[1]? = some (some (.ref x)) → EvX C (tVar 1) σ H3 q := fun e s => ex_var s (hx2.ext e)
    have ov : ∀ {σ : L2.St} {H3 : Hp} {way : Int} {part : Str}, Ex H2 H3 → σ[5]? = some (some (.int way)) → σ[1]? = some (some (.ref x)) → σ[2]? = some (some v) → RefB K C H3 way v part → Ev (tCS (fun _ vs H Q => spPart K C (vs ++ []) H Q E0) (tCons (tVar 5) (tCons (tVar 1) (tCons (tVar 2) tNil)))) σ H3 (.str part) := fun e s5 s1 s2 hb => ev_part (ea_cons (ev_var s5) (ea_cons (ev_var s1) (ea_cons (ev_var s2) ea_nil))) (hx2.ext e) bq.s1 bq.s2 hb
    have due1 : ∀ (i : Nat) (H3 : Hp), Ex H2 H3 → (i : Int) < 9 → RefB K C H3 i v (dueF i) := fun i H3 e hi => by
      refine .inl ⟨ob2.ext e, ?_⟩
      unfold dueF
      by_cases c1 : i < 6
      · rw [if_pos c1]; exact .inl ⟨by omega, by omega, rfl⟩
      · rw [if_neg c1]
        by_cases c2 : i = 6
        · rw [if_pos c2]; exact .inr (.inl ⟨by omega, rfl⟩)
        · rw [if_neg c2]
          by_cases c3 : i = 7
          · rw [if_pos c3]; exact .inr (.inr (.inl ⟨by omega, rfl⟩))
          · rw [if_neg c3]; exact .inr (.inr (.inr (.inl ⟨by omega, rfl⟩)))
    have lc9 := el_lcR1 (te := tCS (fun _ vs H Q => spPart K C (vs ++ []) H Q E0) (tCons (tVar 5) (tCons (tVar 1) (tCons (tVar 2) tNil)))) (t := tYes) (j := 5) (vs := [5]) (σ := [some (.ref p), some (.ref x), some v, some (.ref d), none, none]) (H := H2) (n := 9) (fun _ => true) (fun i => V.str (dueF i)) (ea_cons ev_c ea_nil) (by decide) (fun _ => rfl) (fun i H3 e3 hi => fun H4 e4 Q4 q4 => q4 H4 (Ex.refl H4)) (fun i H3 e3 hi _ => ov e3 rfl rfl rfl (due1 i H3 e3 hi))
    refine q_when (b := false) (et_is (et_or (a := false) (b := false) (et_test (ev_neStrsV (zs := dueL) (by decide +kernel) (by rw [← due_given]; exact lc9) (ev_var rfl) hd)) fun _ => et_is (et_or (a := false) (b := false) (et_test (ev_eqOdd (xv (Ex.refl H2) rfl) (ev_var rfl) ob2)) fun _ => et_is (et_not (et_test (ev_eqOdd (neg := true) (xv (Ex.refl H2) rfl) (ev_var rfl) ob2))) rfl) rfl) rfl) (fun c => by cases c) fun _ H3 e3 => ?_
    have r3 : ∀ (tw : TE) (σ : L2.St) (H4 : Hp) (ws : List Int) (u : V) (j : Nat), EvL tw σ H4 (ws.map V.int) → ws.length = 3 → (∀ y ∈ ws, RefB K C H4 y u "ratios") → Ex H2 H4 → (∀ x', ((wipe σ [5]).set 5 (some x'))[1]? = some (some (.ref x)) ∧ ((wipe σ [5]).set 5 (some x'))[j]? = some (some u) ∧ ((wipe σ [5]).set 5 (some x'))[5]? = some (some x') ∧ wipe ((wipe σ [5]).set 5 (some x')) [5] = wipe σ [5]) →
        EvL (tLc (iList K tw) (gName 5) tYes (tCS (fun _ vs H Q => spPart K C (vs ++ []) H Q E0) (tCons (tVar 5) (tCons (tVar 1) (tCons (tVar j) tNil)))) [5]) σ H4 (rat3.map V.str) := fun tw σ H4 ws u j hw hl hb e4 hs =>
      el_lcN (rat3.map V.str) hw (by rw [List.length_map, List.length_map, hl]; rfl) (by rw [List.length_map, hl]; decide) (fun x' => (hs x').2.2.2) fun i x' y hx' hy H5 e5 => by
        rw [List.getElem?_map] at hx'
        obtain ⟨z, hz, rfl⟩ := Option.map_eq_some_iff.mp hx'
        have iy : y = .str "ratios" := by
          rcases i with _ | _ | _ | i
          · cases hy; rfl
          · cases hy; rfl
          · cases hy; rfl
          · cases hy
        subst iy
        obtain ⟨s1, s2, s3, _⟩ := hs (.int z)
        exact ev_part (ea_cons (ev_var s3) (ea_cons (ev_var s1) (ea_cons (ev_var s2) ea_nil))) (hx2.ext (e4.trans e5)) bq.s1 bq.s2 ((hb z (List.mem_of_getElem? hz)).ext e5)
    have rep3 : ∀ {σ : L2.St} {H4 : Hp}, EvL (tOp rRep (tLst (tCons (tC (.str "ratios")) tNil)) (tC (.int 3))) σ H4 (rat3.map V.str) := el_rep (xs := [.str "ratios"]) (n := 3) (el_lst (ea_cons ev_c ea_nil) (by decide)) ev_c (by decide) (by decide) (by decide)
    refine q_when (b := false) (et_test (ev_neStrs (zs := rat3) (by decide +kernel) (r3 _ _ _ [12, 13, 14] v 2 (el_lst (ea_cons ev_c (ea_cons ev_c (ea_cons ev_c ea_nil))) (by decide)) rfl (fun y hy => .inl ⟨ob2.ext e3, .inr (.inr (.inr (.inr ⟨by simpa using hy, rfl⟩)))⟩) e3 (fun x' => ⟨rfl, rfl, rfl, rfl⟩)) rep3)) (fun c => by cases c) fun _ H4 e4 => ?_
    have e24 := e3.trans e4
    have hp4 := (hp1.ext e2).ext e24
    obtain ⟨o4, hpo4⟩ : ∃ o, H4 p = some o := by
      obtain ⟨c, t, l, ns, a, _⟩ := id hp4
      exact ⟨_, a⟩
    have hx4 := hx2.ext e24
    refine pick_kind (K := K) (S := fun T => PySem.W.kitAny K T [.type "list", .type "tuple"] = some false) (k := k) rfl (ek_cons (ek_v ev_c (fun _ => .base .non) (kit_other (kit_ty (by decide +kernel)) (kit_ty (by decide +kernel))) (fun z => by cases z)) (ek_cons (ek_v ev_c (fun _ => .base (.int _)) (kit_other (kit_ty (by decide +kernel)) (kit_ty (by decide +kernel))) (fun z => by cases z)) (ek_cons (ek_v ev_c (fun _ => .base (.bl _)) (kit_other (kit_ty (by decide +kernel)) (kit_ty (by decide +kernel))) (fun z => by cases z)) (ek_cons (ek_v ev_c (fun _ => .base (.str _)) (kit_other (kit_ty (by decide +kernel)) (kit_ty (by decide +kernel))) (fun z => by cases z))
      (ek_cons (ek_dict0 hpo4 (kit_other (kit_ty (by decide +kernel)) (kit_ty (by decide +kernel)))) (ek_cons (ek_dict1 hpo4 (kit_other (kit_ty (by decide +kernel)) (kit_ty (by decide +kernel)))) (ek_cons (ek_var rfl ⟨⟨_, tyRat X.T hx4, kitAny_cons (b := false) X.kL (fun _ => kitAny_cons (b := false) X.kT (fun _ => rfl) (fun z => nomatch z)) (fun z => nomatch z)⟩, fun z => nx (V.ref.inj z)⟩) ek_nil))))))) (by decide) (by decide) hp4 fun u H5 hu f5 hp5 => ?_
    have hx5 := hx4.fr nx f5
    obtain ⟨⟨_, tyu, ku⟩, nu⟩ := id hu
    have nl : NoLs K H5 u := ⟨_, tyu, ku⟩
    refine q_when (b := false) (et_test (ev_neStrs (zs := rat3) (by decide +kernel) (el_lcN (rat3.map V.str) (ys := [.int 9, .int 10, .int 11]) (el_lst (ea_cons ev_c (ea_cons ev_c (ea_cons ev_c ea_nil))) (by decide)) rfl (by decide) (fun _ => rfl) fun i x' y hx' hy H6 e6 => ?_) rep3)) (fun c => by cases c) fun _ H6 e6 => ?_
    · obtain ⟨z, rfl, hz, rfl⟩ : ∃ z : Int, x' = .int z ∧ (z = 9 ∨ z = 10 ∨ z = 11) ∧ y = .str "ratios" := by
        rcases i with _ | _ | _ | i
        · cases hx'; cases hy; exact ⟨9, rfl, .inl rfl, rfl⟩
        · cases hx'; cases hy; exact ⟨10, rfl, .inr (.inl rfl), rfl⟩
        · cases hx'; cases hy; exact ⟨11, rfl, .inr (.inr rfl), rfl⟩
        · cases hx'
      exact ev_part (ea_cons (ev_var rfl) (ea_cons (ev_var rfl) (ea_cons (ev_var rfl) ea_nil))) (hx5.ext e6) bq.s1 bq.s2 (.inr (.inr (.inr (.inl ⟨nl.ext e6, hz, rfl⟩))))
    · have hx6 := hx5.ext e6
      obtain ⟨dx, ex6⟩ := id hx6
      have oz : ∀ {H7 : Hp} {z : Str}, OddB K C H7 (.str z) := fun {H7} {z} => ⟨"str", .base (.str z), X.oS⟩
      have txt : ∀ {σ : L2.St}, σ[1]? = some (some (.ref x)) → Ev (tCB (rOwnT C fun vs H Q => spStr C vs H Q E0) (tCons (tVar 1) tNil)) σ H6 (.str (ratText q.1 q.2)) := fun s1 => ev_cb (ea_cons (ev_var s1) ea_nil) fun H7 e7 Q7 q7 => ⟨x, dx, _, rfl, e7 _ _ ex6, x, q.1, q.2, rfl, ⟨dx, e7 _ _ ex6⟩, log_lt bq.t (by decide) (by decide), log_lt bq.b (by decide) (by decide), _, rfl, q7 H7 (Ex.refl H7)⟩
      refine s_ret (v := .bl true) (ev_is (ev_andV (a := true) (b := true) (ev_is (ev_op (ev_part (ea_cons ev_c (ea_cons (ev_var rfl) (ea_cons ev_c ea_nil))) hx6 bq.s1 bq.s2 (.inr (.inr (.inl ⟨rfl, rfl, rfl⟩)))) ev_c (rv_eq rfl)) (by rw [decide_eq_true rfl])) fun _ => ev_is (ev_andV (a := true) (b := true) (ev_is (ev_op (ev_part (ea_cons ev_c (ea_cons (ev_var rfl) (ea_cons ev_c ea_nil))) hx6 bq.s1 bq.s2 (.inl ⟨oz, .inr (.inr (.inl ⟨rfl, rfl⟩))⟩)) ev_c (rv_eq rfl)) (by rw [decide_eq_true rfl])) fun _ => ev_eqOdd (neg := true) (p := q) (ex_var rfl hx6) (txt rfl) oz) rfl) rfl) fun H7 e7 => kq H7 ?_ ((hp5.ext e6).ext e7)
      exact f1.trans ((Fr.of (e2.trans e24)).trans (f5.trans (Fr.of (e6.trans e7))))
end
end K01
end

section -- K01x
set_option linter.all false
set_option exponentiation.threshold 9000
set_option maxRecDepth 100000
set_option maxHeartbeats 4000000
namespace K01
open PySem PySem.Spec L2 Pk Evl
open PyProof.Rows hiding St
/-! ### what a pair in lowest terms stands for -/
structure Rep (p : Int × Int) (n d : Int) : Prop where
  lw : Lw p
  d0 : d ≠ 0
  eq : p.1 * d = n * p.2
theorem Rep.b0 {p : Int × Int} {n d : Int} (h : Rep p n d) : p.2 ≠ 0 := Int.ne_of_gt h.lw.1
theorem Rep.self {p : Int × Int} (h : Lw p) : Rep p p.1 p.2 := ⟨h, Int.ne_of_gt h.1, rfl⟩
theorem Rep.same {p q : Int × Int} {n d m e : Int} (hp : Rep p n d) (hq : Rep q m e) (h : n * e = m * d) : p = q := by
  refine (lw_eq hp.lw hq.lw).mp ?_
  have h1 := hp.eq
  have h2 := hq.eq
  refine Int.eq_of_mul_eq_mul_right (Int.mul_ne_zero hp.d0 hq.d0) ?_
  grind
theorem Rep.mul {p q : Int × Int} {n d m e : Int} (hp : Rep p n d) (hq : Rep q m e) : Rep (lowp (p.1 * q.1) (p.2 * q.2)) (n * m) (d * e) := by
  have b0 := Int.mul_ne_zero hp.b0 hq.b0
  refine ⟨lw_lowp b0, Int.mul_ne_zero hp.d0 hq.d0, ?_⟩
  have c := lowp_cross (n := p.1 * q.1) b0
  have h1 := hp.eq
  have h2 := hq.eq
  refine Int.eq_of_mul_eq_mul_right b0 ?_
  grind
theorem Rep.add {p q : Int × Int} {n d m e : Int} (hp : Rep p n d) (hq : Rep q m e) : Rep (lowp (p.1 * q.2 + q.1 * p.2) (p.2 * q.2)) (n * e + m * d) (d * e) := by
  have b0 := Int.mul_ne_zero hp.b0 hq.b0
  refine ⟨lw_lowp b0, Int.mul_ne_zero hp.d0 hq.d0, ?_⟩
  have c := lowp_cross (n := p.1 * q.2 + q.1 * p.2) b0
  have h1 := hp.eq
  have h2 := hq.eq
  refine Int.eq_of_mul_eq_mul_right b0 ?_
  grind
theorem Rep.sub {p q : Int × Int} {n d m e : Int} (hp : Rep p n d) (hq : Rep q m e) : Rep (lowp (p.1 * q.2 - q.1 * p.2) (p.2 * q.2)) (n * e - m * d) (d * e) := by
  have b0 := Int.mul_ne_zero hp.b0 hq.b0
  refine ⟨lw_lowp b0, Int.mul_ne_zero hp.d0 hq.d0, ?_⟩
  have c := lowp_cross (n := p.1 * q.2 - q.1 * p.2) b0
  have h1 := hp.eq
  have h2 := hq.eq
  refine Int.eq_of_mul_eq_mul_right b0 ?_
  grind
theorem absI_nat (t : Int) : absI t = ((t.natAbs : Nat) : Int) := by
  unfold absI
  split <;> omega
theorem lw_neg {p : Int × Int} (h : Lw p) : Lw (-p.1, p.2) := ⟨h.1, by
  show Nat.gcd (-p.1).natAbs p.2.natAbs = 1
  rw [Int.natAbs_neg]
  exact h.2⟩
theorem lw_abs {p : Int × Int} (h : Lw p) : Lw (absI p.1, p.2) := ⟨h.1, by
  show Nat.gcd (absI p.1).natAbs p.2.natAbs = 1
  rw [absI_nat, Int.natAbs_natCast]
  exact h.2⟩
theorem absI_mul (a b : Int) : absI (a * b) = absI a * absI b := by rw [absI_nat, absI_nat, absI_nat, Int.natAbs_mul, Int.natCast_mul]
theorem absI_pos {a : Int} (h : 0 < a) : absI a = a := by
  unfold absI
  rw [if_neg (by omega)]
theorem Rep.abs {p : Int × Int} {n d : Int} (hp : Rep p n d) (hd : 0 < d) : Rep (absI p.1, p.2) (absI n) d := ⟨lw_abs hp.lw, hp.d0, by
  have h := congrArg absI hp.eq
  rw [absI_mul, absI_mul, absI_pos hd, absI_pos hp.lw.1] at h
  exact h⟩
def Sz (p : Int × Int) (m : Nat) : Prop := p.1.natAbs < 2 ^ m ∧ p.2.natAbs < 2 ^ m
theorem Sz.sm {p : Int × Int} {m : Nat} (h : Sz p m) (hm : m ≤ 4000) : Sm p.1 ∧ Sm p.2 := ⟨Nat.lt_of_lt_of_le h.1 (Nat.pow_le_pow_right (by decide) hm), Nat.lt_of_lt_of_le h.2 (Nat.pow_le_pow_right (by decide) hm)⟩
theorem Bd.sz {p : Int × Int} (h : Bd p) : Sz p 200 := ⟨h.t, h.b⟩
theorem sz_low {n d : Int} {m : Nat} (h0 : d ≠ 0) (hn : n.natAbs < 2 ^ m) (hd : d.natAbs < 2 ^ m) : Sz (lowp n d) m := ⟨Nat.lt_of_le_of_lt (lowp_le h0).1 hn, Nat.lt_of_le_of_lt (lowp_le h0).2.1 hd⟩
theorem two_p (m : Nat) : (2 : Nat) ^ m + 2 ^ m = 2 ^ (m + 1) := by rw [Nat.pow_succ]; omega
theorem up1 {n m : Nat} (h : n < 2 ^ m) : n < 2 ^ (m + 1) := Nat.lt_of_lt_of_le h (Nat.pow_le_pow_right (by decide) (Nat.le_succ m))
/-! ### expressions that stand for a quotient -/
def EvQ (C : Addr) (te : TE) (σ : L2.St) (H : Hp) (n d : Int) (m : Nat) : Prop := ∃ p, Rep p n d ∧ Sz p m ∧ EvX C te σ H p
def EvQN (C : Addr) (te : TE) (σ : L2.St) (H : Hp) (n d : Int) (m : Nat) : Prop := ∃ p, Rep p n d ∧ Sz p m ∧ EvN C te σ H p
section
variable {K : PySem.W.Frag} {C D : Addr} {σ : L2.St} {H H2 : Hp} {ta tb te tl : TE} {n d m e : Int} {a b : Nat} {nm : String}
theorem qn_x (h : EvQ C te σ H n d a) : EvQN C te σ H n d a := by
  obtain ⟨p, h1, h2, h3⟩ := h
  exact ⟨p, h1, h2, en_x h3⟩
theorem qx_mul (ha : EvQ C ta σ H n d a) (hb : EvQN C tb σ H m e b) (hm : a ≤ 4000 ∧ b ≤ 4000) (bt : BinT K C nm "int") : EvQ C (tOpS (rOp K C D nm fMul) ta tb) σ H (n * m) (d * e) (a + b) := by
  obtain ⟨p, p1, p2, p3⟩ := ha
  obtain ⟨q, q1, q2, q3⟩ := hb
  have b0 := Int.mul_ne_zero p1.b0 q1.b0
  exact ⟨_, p1.mul q1, sz_low b0 (wide_lt p2.1 q2.1) (wide_lt p2.2 q2.2), ex_op (f := fMul) p3 q3 (p2.sm hm.1).1 (p2.sm hm.1).2 (q2.sm hm.2).1 (q2.sm hm.2).2 b0 bt⟩
theorem qx_add (ha : EvQ C ta σ H n d a) (hb : EvQN C tb σ H m e b) (hm : a ≤ 4000 ∧ b ≤ 4000) (bt : BinT K C nm "int") : EvQ C (tOpS (rOp K C D nm fAdd) ta tb) σ H (n * e + m * d) (d * e) (a + b + 1) := by
  obtain ⟨p, p1, p2, p3⟩ := ha
  obtain ⟨q, q1, q2, q3⟩ := hb
  have b0 := Int.mul_ne_zero p1.b0 q1.b0
  refine ⟨_, p1.add q1, sz_low b0 ?_ (up1 (wide_lt p2.2 q2.2)), ex_op (f := fAdd) p3 q3 (p2.sm hm.1).1 (p2.sm hm.1).2 (q2.sm hm.2).1 (q2.sm hm.2).2 b0 bt⟩
  have w1 := wide_lt p2.1 q2.2
  have w2 := wide_lt p2.2 q2.1
  have e1 : q.1 * p.2 = p.2 * q.1 := Int.mul_comm _ _
  have := two_p (a + b)
  rw [e1]
  omega
theorem qx_sub (ha : EvQ C ta σ H n d a) (hb : EvQN C tb σ H m e b) (hm : a ≤ 4000 ∧ b ≤ 4000) (bt : BinT K C nm "int") : EvQ C (tOpS (rOp K C D nm fSub) ta tb) σ H (n * e - m * d) (d * e) (a + b + 1) := by
  obtain ⟨p, p1, p2, p3⟩ := ha
  obtain ⟨q, q1, q2, q3⟩ := hb
  have b0 := Int.mul_ne_zero p1.b0 q1.b0
  refine ⟨_, p1.sub q1, sz_low b0 ?_ (up1 (wide_lt p2.2 q2.2)), ex_op (f := fSub) p3 q3 (p2.sm hm.1).1 (p2.sm hm.1).2 (q2.sm hm.2).1 (q2.sm hm.2).2 b0 bt⟩
  have w1 := wide_lt p2.1 q2.2
  have w2 := wide_lt p2.2 q2.1
  have e1 : q.1 * p.2 = p.2 * q.1 := Int.mul_comm _ _
  have := two_p (a + b)
  rw [e1]
  omega
/-- -x, abs(x) -/
def rAbsO (C : Addr) (r : List V → Hp → VK → Prop) : List V → Hp → VK → Prop := fun xs H Q => ∃ x, xs = [x] ∧ rOwn1 C r x H Q
theorem ex_neg {p : Int × Int} (ha : EvX C ta σ H p) (hp : Lw p) (hs : Sm p.2) : EvX C (tUn (rOwn1 C (fun vs H Q => spUn C (fun t => -t) vs H Q E0)) ta) σ H (-p.1, p.2) := fun H1 e Q k => ha H1 e _ fun x H2 e2 hx => by
  obtain ⟨dx, ex⟩ := id hx
  exact ⟨x, dx, _, rfl, ex, x, p.1, p.2, rfl, hx, Int.ne_of_gt hp.1, hs, fun z H3 _ e3 hz => k z H3 (e2.trans e3) (by
    have s := lowp_self (lw_neg hp)
    unfold Low at hz
    have z1 : (-p.1).fdiv (sg (-p.1) p.2) = (lowp (-p.1) p.2).1 := rfl
    have z2 : p.2.fdiv (sg (-p.1) p.2) = (lowp (-p.1) p.2).2 := rfl
    rw [z1, z2] at hz
    have s' : lowp (-p.1) p.2 = (-p.1, p.2) := s
    rw [s'] at hz
    exact hz)⟩
theorem ex_abs {p : Int × Int} (ha : EvX C ta σ H p) (hp : Lw p) (hs : Sm p.2) : EvX C (tCB (rAbsO C (fun vs H Q => spUn C absI vs H Q E0)) (tCons ta tNil)) σ H (absI p.1, p.2) := fun H1 e Q k => ha H1 e _ fun x H2 e2 hx => by
  obtain ⟨dx, ex⟩ := id hx
  exact ⟨_, rfl, x, dx, _, rfl, ex, x, p.1, p.2, rfl, hx, Int.ne_of_gt hp.1, hs, fun z H3 _ e3 hz => k z H3 (e2.trans e3) (by
    have s := lowp_self (lw_abs hp)
    unfold Low at hz
    have z1 : (absI p.1).fdiv (sg (absI p.1) p.2) = (lowp (absI p.1) p.2).1 := rfl
    have z2 : p.2.fdiv (sg (absI p.1) p.2) = (lowp (absI p.1) p.2).2 := rfl
    rw [z1, z2] at hz
    have s' : lowp (absI p.1) p.2 = (absI p.1, p.2) := s
    rw [s'] at hz
    exact hz)⟩
theorem qx_abs (ha : EvQ C ta σ H n d a) (hd : 0 < d) (hm : a ≤ 4000) : EvQ C (tCB (rAbsO C (fun vs H Q => spUn C absI vs H Q E0)) (tCons ta tNil)) σ H (absI n) d a := by
  obtain ⟨p, p1, p2, p3⟩ := ha
  refine ⟨_, p1.abs hd, ⟨?_, p2.2⟩, ex_abs p3 p1.lw (p2.sm hm).2⟩
  show (absI p.1).natAbs < 2 ^ a
  rw [absI_nat, Int.natAbs_natCast]
  exact p2.1
theorem ev_neQ {mg : Str → Option Value} (T : RCl K mg C) (nfC : PySem.W.notFirst K C (.ref C) = true) (nfI : PySem.W.notFirst K C (.type "int") = true) (ha : EvQ C ta σ H n d a) (hb : EvQN C tb σ H m e b) (h : n * e = m * d) :
    Ev (tOp (rEqV true K C (fun vs H Q => spEqV K C vs H Q E0)) ta tb) σ H (.bl false) := by
  obtain ⟨p, p1, p2, p3⟩ := ha
  obtain ⟨q, q1, q2, q3⟩ := hb
  have e1 := p1.same q1 h
  subst e1
  exact ev_is (ev_eqX T nfC nfI p3 q3) (by rw [ratEq_iff.mpr rfl]; rfl)
theorem ex_of {p : Int × Int} (h : EvN C te σ H p) : EvX C (tSt C (fun _ vs H Q => spOf K C D (vs ++ []) H Q E0) (tC (.ref C)) (tCons te tNil)) σ H p := fun H1 e Q k => ⟨rfl, h H1 e _ fun v H2 e2 hv => ⟨v, rfl, by
  rcases hv with ⟨y, rfl, hy⟩ | ⟨rfl, hc⟩
  · exact .inl ⟨y, p.1, p.2, rfl, hy, k y H2 e2 hy⟩
  · exact .inr (.inl ⟨p.1, rfl, fun x H3 nx e3 h3 => k x H3 (e2.trans e3) (by rw [hc]; exact h3)⟩)⟩⟩
theorem ex_mk {ta : TA} {t b : Int} {vs dvs : List V} (h : EvA ta σ H vs) (ev : vs ++ dvs = [.int t, .int b]) (h0 : b ≠ 0) (hb : b.natAbs < 2 ^ 8000) : EvX C (tCS (rMk K C D dvs) ta) σ H (lowp t b) := fun H1 e Q k =>
  ei_mk (K := K) (C := C) (D := D) h ev h0 hb H1 e Q fun x dx H2 _ e2 hx => k x H2 e2 ⟨dx, hx⟩
theorem ex_mkK {ta : TA} {t b : Int} {gV : List V → List V → List V} (h : EvA ta σ H [.int b, .int t]) (hg : ∀ x : V, gV [x] [.int b, .int t] = [x, .int t, .int b]) (h0 : b ≠ 0) (hb : b.natAbs < 2 ^ 8000) : EvX C (tMakeK C 0 2 (spRi K C D) gV E0 tNil ta) σ H (lowp t b) := fun H1 e Q k =>
  h H1 e _ fun H2 e2 => ⟨rfl, rfl, fun x dx nx nd ne => by
    refine ⟨x, dx, .int t, .int b, hg _, upd_same, .inr ⟨t, rfl, .inr ⟨b, rfl, h0, hb, rfl, k x _ (e2.trans ?_) ⟨dx, upd_same⟩⟩⟩⟩
    intro a o ha
    rw [upd_ne (ne_of_none ha nx), upd_ne (ne_of_none ha nx), upd_ne (ne_of_none ha nx), upd_ne (ne_of_none ha nd)]
    exact ha⟩
theorem ev_two {t1 t2 t3 t4 : TE} {x p2 q2 : Addr} {v : V} {p q : Int × Int} (h1 : Ev t1 σ H (.ref x)) (h2 : Ev t2 σ H (.ref p2)) (h3 : Ev t3 σ H v) (h4 : Ev t4 σ H (.ref q2)) (hx : RatAt C H x p.1 p.2) (hp : H p2 = some (.tup [.int p.1, .int p.2])) (hv : Num C H v q.1 q.2) (hq : H q2 = some (.tup [.int q.1, .int q.2])) (bp : Bd p) (bq : Bd q) :
    Ev (tCS (fun _ vs H Q => spTwo C (vs ++ []) H Q E0) (tCons t1 (tCons t2 (tCons t3 (tCons t4 tNil))))) σ H (.bl true) := ev_cs (ea_cons h1 (ea_cons h2 (ea_cons h3 (ea_cons h4 ea_nil)))) fun H1 e Q k =>
  ⟨x, p2, q2, v, p, q, rfl, hx.ext e, e _ _ hp, hv.ext e, e _ _ hq, bp, bq, k⟩
theorem ev_lists {t1 t2 : TE} {xs ms : List V} {ps : List (Int × Int)} {M : Int} (h1 : EvL t1 σ H xs) (h2 : EvL t2 σ H ms) (hv : VsAt C H xs ps) (hp : PrAt H ms ps) (h12 : ps.length ≤ 12) (bd : ∀ p ∈ ps, Bd p) (M0 : M ≠ 0) (Mb : M.natAbs < 2 ^ 400) (dv : ∀ p ∈ ps, p.2 ∣ M) :
    Ev (tCS (fun _ vs H Q => spLists C (vs ++ []) H Q E0) (tCons t1 (tCons t2 tNil))) σ H (.bl true) := fun H1 e Q k => h1 H1 e _ fun l H2 _ e2 hl => h2 H2 (e.trans e2) _ fun m' H3 _ e3 hm =>
  ⟨l, m', xs, ms, ps, M, rfl, e3 _ _ hl, hm, hv.ext ((e.trans e2).trans e3), hp.ext ((e.trans e2).trans e3), h12, bd, M0, Mb, dv, fun H4 e4 => k H4 ((e2.trans e3).trans e4)⟩
theorem el_step {xs : List V} {st : Int} (ha : EvL ta σ H xs) (hb : Ev tb σ H (.int st)) (hs : st = 1 ∨ st = -1) : EvL (tStep K ta (tPart tb)) σ H (if st = 1 then xs else xs.reverse) := fun H1 e Q k => ha H1 e _ fun p H2 np e2 hp => hb H2 (e.trans e2) _ fun H3 e3 =>
  ⟨st, rfl, p, xs, st, rfl, rfl, hs, sq_of (e3 _ _ hp), fun l nl => k l _ (fresh_back (e2.trans e3) nl) ((e2.trans e3).trans (Ex.new nl)) upd_same⟩
end
/-! ### lists of pairs, taken apart -/
def AllR (R : V → Int × Int → Prop) (vs : List V) (ps : List (Int × Int)) : Prop := vs.length = ps.length ∧ ∀ (i : Nat) (v : V) (p : Int × Int), vs[i]? = some v → ps[i]? = some p → R v p
section
variable {R : V → Int × Int → Prop} {vs us : List V} {ps qs : List (Int × Int)}
theorem AllR.take (h : AllR R vs ps) (k : Nat) : AllR R (vs.take k) (ps.take k) := ⟨by rw [List.length_take, List.length_take, h.1], fun i v p a b => by
  rw [List.getElem?_take] at a b
  split at a
  · rename_i c
    rw [if_pos c] at b
    exact h.2 i v p a b
  · cases a⟩
theorem AllR.rev (h : AllR R vs ps) : AllR R vs.reverse ps.reverse := ⟨by rw [List.length_reverse, List.length_reverse, h.1], fun i v p a b => by
  have li := (List.getElem?_eq_some_iff.mp a).1
  rw [List.length_reverse] at li
  rw [List.getElem?_reverse li] at a
  rw [List.getElem?_reverse (by rw [← h.1]; exact li), ← h.1] at b
  exact h.2 _ v p a b⟩
theorem AllR.app (h : AllR R vs ps) (g : AllR R us qs) : AllR R (vs ++ us) (ps ++ qs) := ⟨by rw [List.length_append, List.length_append, h.1, g.1], fun i v p a b => by
  by_cases c : i < vs.length
  · rw [List.getElem?_append_left c] at a
    rw [List.getElem?_append_left (by rw [← h.1]; exact c)] at b
    exact h.2 i v p a b
  · rw [List.getElem?_append_right (by omega)] at a
    rw [List.getElem?_append_right (by rw [← h.1]; omega), ← h.1] at b
    exact g.2 _ v p a b⟩
theorem AllR.nil : AllR R [] [] := ⟨rfl, fun i v p a _ => by cases a⟩
theorem AllR.snoc {v : V} {p : Int × Int} (h : AllR R vs ps) (hv : R v p) : AllR R (vs ++ [v]) (ps ++ [p]) := h.app ⟨rfl, fun i u q a b => by
  cases i with
  | zero => cases a; cases b; exact hv
  | succ i => cases a⟩
end
theorem cut_take {xs : List V} {k : Int} (h0 : 0 ≤ k) (hk : k ≤ xs.length) : cutV xs none (some k) = xs.take k.toNat := by
  unfold cutV
  have e1 : HT.sIx xs.length 0 none = 0 := rfl
  have e2 : HT.sIx xs.length xs.length (some k) = k.toNat := by
    unfold HT.sIx
    simp only []
    first
      | (rw [if_neg (by omega)]; omega)
      | omega
      | (split <;> omega)
  rw [e1, e2, List.drop_zero, Nat.sub_zero]
end K01
end

section -- K01z
set_option linter.all false
set_option exponentiation.threshold 9000
set_option maxRecDepth 100000
set_option maxHeartbeats 8000000
namespace K01
open PySem PySem.Spec L2 Pk Evl
open PyProof.Rows hiding St
abbrev sLaw : Stmt := top 32
/-! ### the pen, drawn from -/
section
variable {K : PySem.W.Frag} {C : Addr} {p : Addr} {k j : Nat} {σ : L2.St} {H H2 : Hp} {Q : VK} {ta : TA} {vs ms : List V} {ps : List (Int × Int)}
theorem int_run (s1 : σ[j]? = some (some (.ref p))) (hp : PenAt H p (k + 20)) (q : ∀ n H1, n.natAbs < 2 ^ 200 → Fr p H H1 → PenAt H1 p k → Q (.int n) H1) : tCS (fun _ vs H Q => spInteger (vs ++ []) H Q E0) (tCons (tVar j) tNil) σ H Q := ⟨_, s1, p, k, rfl, hp, q⟩
theorem pick_runI (s0 : σ[j]? = some (some (.ref p))) (ha : EvA ta σ H vs) (h0 : vs ≠ []) (hz : vs.length ≤ 1000) (hp : PenAt H p (k + 1)) (hq : ∀ x H1, x ∈ vs → Fr p H H1 → PenAt H1 p k → Q x H1) :
    tCS (fun _ vs H Q => spPickL (vs ++ []) H Q E0) (tCons (tVar j) (tCons (tLst ta) tNil)) σ H Q := ⟨_, s0, ha H (Ex.refl H) _ fun H1 e1 => ⟨sz (by omega), fun q nq => by
  have e2 := e1.trans (Ex.new (o := .lst vs) nq)
  exact ⟨p, q, vs, k, rfl, upd_same, pen_ne (hp.ext e1) nq, h0, hz, hp.ext e2, fun x H2 hx fr h2 => hq x H2 hx ((Fr.of e2).trans fr) h2⟩⟩⟩
theorem draw_runI {n : Int} (s0 : σ[j]? = some (some (.ref p))) (n0 : 0 < n) (nb : n < 2 ^ 100) (hp : PenAt H p (k + 1)) (hq : ∀ r H1, 0 ≤ r → r < n → Fr p H H1 → PenAt H1 p k → Q (.int r) H1) :
    tCS (fun _ vs H Q => spDraw (vs ++ []) H Q E0) (tCons (tVar j) (tCons (tC (.int n)) tNil)) σ H Q := ⟨_, s0, p, n, k, rfl, n0, nb, hp, hq⟩
theorem q_asgP {te : TE} {i : Nat} {tz : TS} {D : Ends} (P : V → Hp → Prop) (h : ∀ Q : VK, (∀ v H1, P v H1 → Q v H1) → te σ H Q) (k : ∀ v H1, P v H1 → tz D (σ.set i (some v)) H1) : tSeq (tAsg te (gName i)) tz D σ H := h _ k
theorem nx_go {t : L2.St → Hp → Prop} {rt : VK} {bk ct : L2.St → Hp → Prop} (h : t σ H) : ({ nx := t, rt := rt, bk := bk, ct := ct } : Ends).nx σ H := h
theorem pen_at (h : PenAt H p k) : ∃ o, H p = some o := by
  obtain ⟨c, t, l, ns, a, _⟩ := h
  exact ⟨_, a⟩
theorem pen_tup {a : Addr} {us : List V} (h : PenAt H p k) (ha : H a = some (.tup us)) : a ≠ p := fun z => by
  obtain ⟨c, t, l, ns, b, _⟩ := h
  rw [z, b] at ha
  cases ha
theorem VsAt.fr (hp : PenAt H p k) (h : VsAt C H vs ps) (f : Fr p H H2) : VsAt C H2 vs ps := ⟨h.1, fun i v q a b => by
  rcases h.2 i v q a b with ⟨x, hv, hx⟩ | h
  · exact .inl ⟨x, hv, hx.fr (pen_rat hp hx) f⟩
  · exact .inr h⟩
theorem PrAt.fr (hp : PenAt H p k) (h : PrAt H ms ps) (f : Fr p H H2) : PrAt H2 ms ps := ⟨h.1, fun i v q a b => by
  obtain ⟨x, hv, hx⟩ := h.2 i v q a b
  exact ⟨x, hv, f _ _ (pen_tup hp hx) hx⟩⟩
end
/-! ### two values at once -/
section
variable {C : Addr} {i j : Nat} {ta tb : TE} {tz : TS} {D : Ends} {σ : L2.St} {H : Hp} {vs xs ms : List V} {q : Int × Int}
theorem q_parXU (ha : EvX C ta σ H q) (hb : EvU tb σ H vs) (k : ∀ x a H1, Ex H H1 → RatAt C H1 x q.1 q.2 → H1 a = some (.tup vs) → tz D ((σ.set i (some (.ref x))).set j (some (.ref a))) H1) : tSeq (tPar i j (tCons ta (tCons tb tNil))) tz D σ H :=
  ha H (Ex.refl H) _ fun x H1 e1 hx => hb H1 e1 _ fun a H2 _ e2 h2 => ⟨_, _, rfl, k x a H2 (e1.trans e2) (hx.ext e2) h2⟩
theorem s_parLL (ha : EvL ta σ H xs) (hb : EvL tb σ H ms) (k : ∀ l m H1, H l = none → H m = none → Ex H H1 → H1 l = some (.lst xs) → H1 m = some (.lst ms) → D.nx ((σ.set i (some (.ref l))).set j (some (.ref m))) H1) : tPar i j (tCons ta (tCons tb tNil)) D σ H :=
  ha H (Ex.refl H) _ fun l H1 nl e1 hl => hb H1 e1 _ fun m H2 nm e2 hm => ⟨_, _, rfl, k l m H2 nl (fresh_back e1 nm) (e1.trans e2) (e2 _ _ hl) hm⟩
theorem q_parLL (ha : EvL ta σ H xs) (hb : EvL tb σ H ms) (k : ∀ l m H1, H l = none → H m = none → Ex H H1 → H1 l = some (.lst xs) → H1 m = some (.lst ms) → tz D ((σ.set i (some (.ref l))).set j (some (.ref m))) H1) : tSeq (tPar i j (tCons ta (tCons tb tNil))) tz D σ H := s_parLL (D := { D with nx := tz D }) ha hb k
/-- .. the second list ends in a new pair -/
theorem q_parLW {l0 m0 : Addr} {w : Int} (hl : H l0 = some (.lst xs)) (hm : H m0 = some (.lst ms)) (hz : xs.length ≤ 100 ∧ ms.length ≤ 100) (s2 : σ[2]? = some (some (.ref l0))) (s3 : σ[3]? = some (some (.ref m0))) (s10 : σ[10]? = some (some (.int w)))
    (k : ∀ l m a H1, H l = none → H m = none → Ex H H1 → H1 l = some (.lst (xs ++ [.int w])) → H1 m = some (.lst (ms ++ [.ref a])) → H1 a = some (.tup [.int w, .int 1]) → tz D ((σ.set 2 (some (.ref l))).set 3 (some (.ref m))) H1) :
    tSeq (tPar 2 3 (tCons (tOp rCat (tVar 2) (tLst (tCons (tVar 10) tNil))) (tCons (tOp rCat (tVar 3) (tLst (tCons (tTup (tCons (tVar 10) (tCons (tC (.int 1)) tNil))) tNil))) tNil))) tz D σ H :=
  el_catVL (ev_var s2) hl (el_lst (ea_cons (ev_var s10) ea_nil) (by show 1 ≤ 100000; decide)) (by show xs.length + 1 ≤ 1000000; omega) H (Ex.refl H) _ fun l H1 nl e1 h1 => ⟨_, s3, _, s10, sz (by show 2 ≤ 1000000; decide), fun a na => ⟨sz (by show 1 ≤ 1000000; decide), fun r nr => by
    have e2 := e1.trans (Ex.new (o := .tup [.int w, .int 1]) na)
    have e3 := e2.trans (Ex.new (o := .lst [.ref a]) nr)
    refine ⟨m0, r, ms, [.ref a], rfl, rfl, e3 _ _ hm, upd_same, sz (by show ms.length + 1 ≤ 1000000; omega), fun m nm => ⟨_, _, rfl, ?_⟩⟩
    have e4 := e3.trans (Ex.new (o := .lst (ms ++ [.ref a])) nm)
    have ha : (upd (upd (upd H1 a (.tup [.int w, .int 1])) r (.lst [.ref a])) m (.lst (ms ++ [.ref a]))) a = some (.tup [.int w, .int 1]) := (Ex.new nm) _ _ ((Ex.new nr) _ _ upd_same)
    exact k l m a _ nl (fresh_back e3 nm) e4 (((Ex.new na).trans ((Ex.new nr).trans (Ex.new nm))) _ _ h1) upd_same ha⟩⟩
end
def spLaw (K : PySem.W.Frag) : Sp := fun vs H Q _ => ∃ (s : Addr) (ns : List Int), vs = [.ref s] ∧ SqL K H s (ns.map V.int) ∧ ∀ H1, Q (.bl true) H1
section
variable {P : Program} {w : World} {K : PySem.W.Frag} {mg : Str → Option Value} {base : Heap}
theorem sc_law : FnScope ["_law_script", "_law_pen_here", "_law_values", "_law_pairs", "_law_turn", "_law_top", "_law_bottom", "_law_more", "_law_value", "_law_pair", "_law_whole", "_law_one", "_law_other", "_law_at", "_law_many", "_law_turned"] ["_law_script"] (defScope sLaw) := ⟨rfl, rfl, rfl, by decide +kernel, rfl, by decide +kernel, by decide +kernel⟩
theorem ok_law {f fPen fInt fD fK fL fI f2 fLs fRf C D : Addr} {fd fdPen fdInt fdD fdK fdL fdI fd2 fdLs fdRf : FuncData} (F : Fun K "law" "law" sLaw f fd) (B : Bi mg) (X : RX P w K mg base C D)
    (G_pen : FnOk P w K mg base CX0 1 fPen fdPen ["_law_script"] (spPen K)) (b_pen : Binds K fdPen ["_law_script"] []) (d_pen : Df K mg "_law_pen" fPen)
    (G_integer : FnOk P w K mg base CX0 3 fInt fdInt ["_law_pen_here"] spInteger) (b_integer : Binds K fdInt ["_law_pen_here"] []) (d_integer : Df K mg "_law_integer" fInt)
    (G_draw : FnOk P w K mg base CX0 1 fD fdD ["_law_pen_here", "_law_many"] spDraw) (b_draw : Binds K fdD ["_law_pen_here", "_law_many"] []) (d_draw : Df K mg "_law_draw" fD)
    (G_pick : FnOk P w K mg base CX0 2 fK fdK ["_law_pen_here", "_law_some"] spPickL) (b_pick : Binds K fdK ["_law_pen_here", "_law_some"] []) (d_pick : Df K mg "_law_pick" fK)
    (G_low : FnOk P w K mg base CX0 1 fL fdL ["_law_top", "_law_bottom"] (spLow K)) (b_low : Binds K fdL ["_law_top", "_law_bottom"] []) (d_low : Df K mg "_law_low" fL)
    (G_is : FnG P w K mg base CX0 8 fI fdI ["_law_value", "_law_pair"] (spIs C)) (b_is : Binds K fdI ["_law_value", "_law_pair"] []) (d_is : Df K mg "_law_is" fI)
    (G_two : FnG P w K mg base CX0 12 f2 fd2 ["_law_one", "_law_first", "_law_other", "_law_second"] (spTwo C)) (b_two : Binds K fd2 ["_law_one", "_law_first", "_law_other", "_law_second"] []) (d_two : Df K mg "_law_two_right" f2)
    (G_lists : FnG P w K mg base CX0 12 fLs fdLs ["_law_values", "_law_pairs"] (spLists C)) (b_lists : Binds K fdLs ["_law_values", "_law_pairs"] []) (d_lists : Df K mg "_law_lists_right" fLs)
    (G_refused : FnOk P w K mg base CX0 12 fRf fdRf ["_law_pen_here", "_law_ratio"] (spRefused C)) (b_refused : Binds K fdRf ["_law_pen_here", "_law_ratio"] []) (d_refused : Df K mg "_law_refused_right" fRf) :
    FnG P w K mg base CX0 13 f fd ["_law_script"] (spLaw K) := by
  refine fnG_of F sc_law (fun vs H Q E h => ?_) (fun cdv A outer s H vs Q E hr hg h => ?_)
  · obtain ⟨a, ns, rfl, _⟩ := h
    rfl
  · obtain ⟨a, ns, rfl, hS, kq⟩ := h
    have nd := sc_law.nd
    refine ⟨_, PSs.nox (pss_cons (ps_set (i := 1) nd rfl (Or.inl rfl) (pe_cs (calls_fn G_pen (hr.mono (by decide)) b_pen .nil pass0) d_pen.1 d_pen.2 (pa_cons (pv 0) pa_nil)))
(pss_cons (ps_par (i := 2) (j := 3) (by rfl) nd rfl rfl (by decide) rfl rfl (pa_cons (pe_lst pa_nil) (pa_cons (pe_lst pa_nil) pa_nil)) (by rfl))
(pss_cons (ps_for PassesOwn.never rfl (pi_range1 (by rfl) B.n_range (pa_cons pe_int pa_nil)) (pg_name (i := 4) nd rfl (Or.inl rfl))
(pss_cons (ps_par (i := 5) (j := 6) (by rfl) nd rfl rfl (by decide) rfl rfl (pa_cons (pe_cs (calls_fn G_integer (hr.mono (by decide)) b_integer .nil pass0) d_integer.1 d_integer.2 (pa_cons (pv 1) pa_nil)) (pa_cons (pe_cs (calls_fn G_integer (hr.mono (by decide)) b_integer .nil pass0) d_integer.1 d_integer.2 (pa_cons (pv 1) pa_nil)) pa_nil)) (by rfl))
(pss_cons (ps_set (i := 6) nd rfl (Or.inl rfl) (pe_ifExp (pt_cmpR op_ne (pv 6) pe_int (nomark _)) (pv 6) (pe_op op_add pe_int (pe_cs (calls_fn G_draw (hr.mono (by decide)) b_draw .nil pass0) d_draw.1 d_draw.2 (pa_cons (pv 1) (pa_cons pe_int pa_nil))))))
(pss_cons (ps_set (i := 7) nd rfl (Or.inl rfl) (pe_cs (calls_fn G_pick (hr.mono (by decide)) b_pick .nil pass0) d_pick.1 d_pick.2 (pa_cons (pv 1) (pa_cons (pe_lst (pa_cons pe_int (pa_cons pe_int (pa_cons (pe_un un_neg pe_int) (pa_cons pe_int (pa_cons (pe_un un_neg pe_int) (pa_cons (pe_op op_add (pe_op op_powW pe_int pe_int) pe_int) pa_nil))))))) pa_nil))))
(pss_cons (ps_par (i := 8) (j := 9) (by rfl) nd rfl rfl (by decide) rfl rfl (pa_cons (pe_cs (calls_make X.M_R X.G_R (hr.mono (by decide)) X.b_R .nil passL) X.d_R.1 X.d_R.2 (pa_cons (pe_op op_mulW (pv 5) (pv 7)) (pa_cons (pe_op op_mulW (pv 6) (pv 7)) pa_nil))) (pa_cons (pe_cs (calls_fn G_low (hr.mono (by decide)) b_low .nil pass0) d_low.1 d_low.2 (pa_cons (pv 5) (pa_cons (pv 6) pa_nil))) pa_nil)) (by rfl))
(pss_cons (ps_if (PW.pt (pw_or (pt_not (pt_val (pe_cs (callsG G_is (hr.mono (by decide)) hg b_is .nil pass0) d_is.1 d_is.2 (pa_cons (pv 8) (pa_cons (pv 9) pa_nil))))) (pw_or (pt_cmpR (op_neV (units1 (hr.mono (by decide : 3 ≤ 12)).units) X.T.hm X.ne X.s_eq X.i_eq (runAt_fn X.G_eq (hr.mono (by decide)).in1 rfl X.b_eq pass0)) (pv 8) (pe_cs (calls_make X.M_R X.G_R (hr.mono (by decide)) X.b_R .nil passL) X.d_R.1 X.d_R.2 (pa_cons (pv 5) (pa_cons (pv 6) pa_nil))) (nomark _)) (pw_or1 (pt_not (pt_val (pe_cs (callsG G_is (hr.mono (by decide)) hg b_is .nil pass0) d_is.1 d_is.2 (pa_cons (pe_makeK0 X.M_R X.G_R (hr.mono (by decide)) (by rfl) X.d_R.1 X.kbn passL (pk_cons (pv 6) (pk_cons (pv 5) pk_nil))) (pa_cons (pv 9) pa_nil)))))))))
(pss_one (ps_ret pe_bl))
pss_nil)
(pss_cons (ps_if (PW.pt (pw_or (pt_not (pt_val (pe_cs (callsG G_is (hr.mono (by decide)) hg b_is .nil pass0) d_is.1 d_is.2 (pa_cons (pe_un (un_negO X.s_neg X.i_neg (runAt_fn X.G_neg (hr.mono (by decide)) rfl X.b_neg pass0)) (pv 8)) (pa_cons (pe_tup (pa_cons (pe_un un_neg (pe_ix ix_tup (pv 9) pe_int (fun _ _ => rfl))) (pa_cons (pe_ix ix_tup (pv 9) pe_int (fun _ _ => rfl)) pa_nil))) pa_nil))))) (pw_or1 (pt_not (pt_val (pe_cs (callsG G_is (hr.mono (by decide)) hg b_is .nil pass0) d_is.1 d_is.2 (pa_cons (pe_callB (call_absO X.s_abs X.i_abs (runAt_fn X.G_abs (hr.mono (by decide : 6 ≤ 12)).in1 rfl X.b_abs pass0)) (by rfl) B.n_abs (by decide +kernel) (pa_cons (pv 8) pa_nil)) (pa_cons (pe_tup (pa_cons (pe_callB call_absI (by rfl) B.n_abs (by decide +kernel) (pa_cons (pe_ix ix_tup (pv 9) pe_int (fun _ _ => rfl)) pa_nil)) (pa_cons (pe_ix ix_tup (pv 9) pe_int (fun _ _ => rfl)) pa_nil))) pa_nil))))))))
(pss_one (ps_ret pe_bl))
pss_nil)
(pss_cons (ps_if (PW.pt (pw_or (pt_not (pt_val (pe_cs (callsG G_is (hr.mono (by decide)) hg b_is .nil pass0) d_is.1 d_is.2 (pa_cons (pe_stat (pe_gv X.T.v_Ratio) X.rd X.st (calls_fnS X.G_of (hr.mono (by decide)) X.b_of .nil passLS) (pa_cons (pv 8) pa_nil)) (pa_cons (pv 9) pa_nil))))) (pw_or (pt_not (pt_val (pe_cs (callsG G_is (hr.mono (by decide)) hg b_is .nil pass0) d_is.1 d_is.2 (pa_cons (pe_stat (pe_gv X.T.v_Ratio) X.rd X.st (calls_fnS X.G_of (hr.mono (by decide)) X.b_of .nil passLS) (pa_cons (pv 5) pa_nil)) (pa_cons (pe_tup (pa_cons (pv 5) (pa_cons pe_int pa_nil))) pa_nil))))) (pw_or1 (pt_not (pt_val (pe_cs (callsG G_is (hr.mono (by decide)) hg b_is .nil pass0) d_is.1 d_is.2 (pa_cons (pe_cs (calls_make X.M_R X.G_R (hr.mono (by decide)) X.b_R1 X.v_R1 passL) X.d_R.1 X.d_R.2 (pa_cons (pv 5) pa_nil)) (pa_cons (pe_tup (pa_cons (pv 5) (pa_cons pe_int pa_nil))) pa_nil)))))))))
(pss_one (ps_ret pe_bl))
pss_nil)
(pss_one (ps_par (i := 2) (j := 3) (by rfl) nd rfl rfl (by decide) rfl rfl (pa_cons (pe_op op_cat (pv 2) (pe_lst (pa_cons (pv 8) pa_nil))) (pa_cons (pe_op op_cat (pv 3) (pe_lst (pa_cons (pv 9) pa_nil))) pa_nil)) (by rfl)))))))))))
(pss_cons (ps_set (i := 10) nd rfl (Or.inl rfl) (pe_cs (calls_fn G_integer (hr.mono (by decide)) b_integer .nil pass0) d_integer.1 d_integer.2 (pa_cons (pv 1) pa_nil)))
(pss_cons (ps_par (i := 2) (j := 3) (by rfl) nd rfl rfl (by decide) rfl rfl (pa_cons (pe_op op_cat (pv 2) (pe_lst (pa_cons (pv 10) pa_nil))) (pa_cons (pe_op op_cat (pv 3) (pe_lst (pa_cons (pe_tup (pa_cons (pv 10) (pa_cons pe_int pa_nil))) pa_nil))) pa_nil)) (by rfl))
(pss_cons (ps_par (i := 11) (j := 12) (by rfl) nd rfl rfl (by decide) rfl rfl (pa_cons (pe_ix ix_list (pv 2) pe_int (fun _ _ => rfl)) (pa_cons (pe_ix ix_list (pv 2) pe_int (fun _ _ => rfl)) pa_nil)) (by rfl))
(pss_cons (ps_for PassesOwn.never rfl (pi_range1 (by rfl) B.n_range (pa_cons pe_int pa_nil)) (pg_name (i := 13) nd rfl (Or.inl rfl))
(pss_one (ps_if (PW.pt (pw_or (pt_not (pt_val (pe_cs (callsG G_two (hr.mono (by decide)) hg b_two .nil pass0) d_two.1 d_two.2 (pa_cons (pv 11) (pa_cons (pe_ix ix_list (pv 3) pe_int (fun _ _ => rfl)) (pa_cons (pe_ix ix_list (pv 2) (pv 13) (fun _ _ => rfl)) (pa_cons (pe_ix ix_list (pv 3) (pv 13) (fun _ _ => rfl)) pa_nil))))))) (pw_or1 (pt_not (pt_val (pe_cs (callsG G_two (hr.mono (by decide)) hg b_two .nil pass0) d_two.1 d_two.2 (pa_cons (pv 12) (pa_cons (pe_ix ix_list (pv 3) pe_int (fun _ _ => rfl)) (pa_cons (pe_ix ix_list (pv 2) (pv 13) (fun _ _ => rfl)) (pa_cons (pe_ix ix_list (pv 3) (pv 13) (fun _ _ => rfl)) pa_nil))))))))))
(pss_one (ps_ret pe_bl))
pss_nil)))
(pss_cons (ps_if (PW.pt (pw_or (pt_cmpR (op_neV (units1 (hr.mono (by decide : 3 ≤ 12)).units) X.T.hm X.ne X.s_eq X.i_eq (runAt_fn X.G_eq (hr.mono (by decide)).in1 rfl X.b_eq pass0)) (pe_opS (OpS.or (op_binIK (op := .Mult) rfl X.sf X.s_mul X.i_mul (runS_fn X.G_mul (hr.mono (by decide)) X.b_mul passLS)) (op_binK (op := .Mult) rfl X.sf X.s_mul X.i_mul X.r_mul (.inl rfl) (runS_fn X.G_mul (hr.mono (by decide)) X.b_mul passLS))) (pe_opS (OpS.or (op_binIK (op := .Add) rfl X.sf X.s_add X.i_add (runS_fn X.G_add (hr.mono (by decide)) X.b_add passLS)) (op_binK (op := .Add) rfl X.sf X.s_add X.i_add X.r_add (.inl rfl) (runS_fn X.G_add (hr.mono (by decide)) X.b_add passLS))) (pv 11) (pv 12)) (pe_opS (OpS.or (op_binIK (op := .Sub) rfl X.sf X.s_sub X.i_sub (runS_fn X.G_sub (hr.mono (by decide)) X.b_sub passLS)) (op_binK (op := .Sub) rfl X.sf X.s_sub X.i_sub X.r_sub (.inl rfl) (runS_fn X.G_sub (hr.mono (by decide)) X.b_sub passLS))) (pv 11) (pv 12))) (pe_opS (OpS.or (op_binIK (op := .Sub) rfl X.sf X.s_sub X.i_sub (runS_fn X.G_sub (hr.mono (by decide)) X.b_sub passLS)) (op_binK (op := .Sub) rfl X.sf X.s_sub X.i_sub X.r_sub (.inl rfl) (runS_fn X.G_sub (hr.mono (by decide)) X.b_sub passLS))) (pe_opS (OpS.or (op_binIK (op := .Mult) rfl X.sf X.s_mul X.i_mul (runS_fn X.G_mul (hr.mono (by decide)) X.b_mul passLS)) (op_binK (op := .Mult) rfl X.sf X.s_mul X.i_mul X.r_mul (.inl rfl) (runS_fn X.G_mul (hr.mono (by decide)) X.b_mul passLS))) (pv 11) (pv 11)) (pe_opS (OpS.or (op_binIK (op := .Mult) rfl X.sf X.s_mul X.i_mul (runS_fn X.G_mul (hr.mono (by decide)) X.b_mul passLS)) (op_binK (op := .Mult) rfl X.sf X.s_mul X.i_mul X.r_mul (.inl rfl) (runS_fn X.G_mul (hr.mono (by decide)) X.b_mul passLS))) (pv 12) (pv 12))) (nomark _)) (pw_or1 (pt_cmpR (op_neV (units1 (hr.mono (by decide : 3 ≤ 12)).units) X.T.hm X.ne X.s_eq X.i_eq (runAt_fn X.G_eq (hr.mono (by decide)).in1 rfl X.b_eq pass0)) (pe_opS (OpS.or (op_binIK (op := .Add) rfl X.sf X.s_add X.i_add (runS_fn X.G_add (hr.mono (by decide)) X.b_add passLS)) (op_binK (op := .Add) rfl X.sf X.s_add X.i_add X.r_add (.inl rfl) (runS_fn X.G_add (hr.mono (by decide)) X.b_add passLS))) (pe_opS (OpS.or (op_binIK (op := .Sub) rfl X.sf X.s_sub X.i_sub (runS_fn X.G_sub (hr.mono (by decide)) X.b_sub passLS)) (op_binK (op := .Sub) rfl X.sf X.s_sub X.i_sub X.r_sub (.inl rfl) (runS_fn X.G_sub (hr.mono (by decide)) X.b_sub passLS))) (pv 11) (pv 12)) (pe_opS (OpS.or (op_binIK (op := .Sub) rfl X.sf X.s_sub X.i_sub (runS_fn X.G_sub (hr.mono (by decide)) X.b_sub passLS)) (op_binK (op := .Sub) rfl X.sf X.s_sub X.i_sub X.r_sub (.inl rfl) (runS_fn X.G_sub (hr.mono (by decide)) X.b_sub passLS))) (pv 12) (pv 11))) pe_int (nomark _)))))
(pss_one (ps_ret pe_bl))
pss_nil)
(pss_cons (ps_if (PW.pt (pw_or (pt_cmpR (op_neV (units1 (hr.mono (by decide : 3 ≤ 12)).units) X.T.hm X.ne X.s_eq X.i_eq (runAt_fn X.G_eq (hr.mono (by decide)).in1 rfl X.b_eq pass0)) (pe_opS (OpS.or (op_binIK (op := .Mult) rfl X.sf X.s_mul X.i_mul (runS_fn X.G_mul (hr.mono (by decide)) X.b_mul passLS)) (op_binK (op := .Mult) rfl X.sf X.s_mul X.i_mul X.r_mul (.inl rfl) (runS_fn X.G_mul (hr.mono (by decide)) X.b_mul passLS))) (pe_opS (OpS.or (op_binIK (op := .Add) rfl X.sf X.s_add X.i_add (runS_fn X.G_add (hr.mono (by decide)) X.b_add passLS)) (op_binK (op := .Add) rfl X.sf X.s_add X.i_add X.r_add (.inl rfl) (runS_fn X.G_add (hr.mono (by decide)) X.b_add passLS))) (pv 11) (pv 12)) (pv 10)) (pe_opS (OpS.or (op_binIK (op := .Add) rfl X.sf X.s_add X.i_add (runS_fn X.G_add (hr.mono (by decide)) X.b_add passLS)) (op_binK (op := .Add) rfl X.sf X.s_add X.i_add X.r_add (.inl rfl) (runS_fn X.G_add (hr.mono (by decide)) X.b_add passLS))) (pe_opS (OpS.or (op_binIK (op := .Mult) rfl X.sf X.s_mul X.i_mul (runS_fn X.G_mul (hr.mono (by decide)) X.b_mul passLS)) (op_binK (op := .Mult) rfl X.sf X.s_mul X.i_mul X.r_mul (.inl rfl) (runS_fn X.G_mul (hr.mono (by decide)) X.b_mul passLS))) (pv 11) (pv 10)) (pe_opS (OpS.or (op_binIK (op := .Mult) rfl X.sf X.s_mul X.i_mul (runS_fn X.G_mul (hr.mono (by decide)) X.b_mul passLS)) (op_binK (op := .Mult) rfl X.sf X.s_mul X.i_mul X.r_mul (.inl rfl) (runS_fn X.G_mul (hr.mono (by decide)) X.b_mul passLS))) (pv 12) (pv 10))) (nomark _)) (pw_or1 (pt_cmpR (op_neV (units1 (hr.mono (by decide : 3 ≤ 12)).units) X.T.hm X.ne X.s_eq X.i_eq (runAt_fn X.G_eq (hr.mono (by decide)).in1 rfl X.b_eq pass0)) (pe_callB (call_absO X.s_abs X.i_abs (runAt_fn X.G_abs (hr.mono (by decide : 6 ≤ 12)).in1 rfl X.b_abs pass0)) (by rfl) B.n_abs (by decide +kernel) (pa_cons (pe_opS (OpS.or (op_binIK (op := .Mult) rfl X.sf X.s_mul X.i_mul (runS_fn X.G_mul (hr.mono (by decide)) X.b_mul passLS)) (op_binK (op := .Mult) rfl X.sf X.s_mul X.i_mul X.r_mul (.inl rfl) (runS_fn X.G_mul (hr.mono (by decide)) X.b_mul passLS))) (pv 11) (pv 12)) pa_nil)) (pe_opS (OpS.or (op_binIK (op := .Mult) rfl X.sf X.s_mul X.i_mul (runS_fn X.G_mul (hr.mono (by decide)) X.b_mul passLS)) (op_binK (op := .Mult) rfl X.sf X.s_mul X.i_mul X.r_mul (.inl rfl) (runS_fn X.G_mul (hr.mono (by decide)) X.b_mul passLS))) (pe_callB (call_absO X.s_abs X.i_abs (runAt_fn X.G_abs (hr.mono (by decide : 6 ≤ 12)).in1 rfl X.b_abs pass0)) (by rfl) B.n_abs (by decide +kernel) (pa_cons (pv 11) pa_nil)) (pe_callB (call_absO X.s_abs X.i_abs (runAt_fn X.G_abs (hr.mono (by decide : 6 ≤ 12)).in1 rfl X.b_abs pass0)) (by rfl) B.n_abs (by decide +kernel) (pa_cons (pv 12) pa_nil))) (nomark _)))))
(pss_one (ps_ret pe_bl))
pss_nil)
(pss_cons (ps_par (i := 14) (j := 15) (by rfl) nd rfl rfl (by decide) rfl rfl (pa_cons (pe_cs (calls_fn G_draw (hr.mono (by decide)) b_draw .nil pass0) d_draw.1 d_draw.2 (pa_cons (pv 1) (pa_cons pe_int pa_nil))) (pa_cons (pe_cs (calls_fn G_pick (hr.mono (by decide)) b_pick .nil pass0) d_pick.1 d_pick.2 (pa_cons (pv 1) (pa_cons (pe_lst (pa_cons pe_int (pa_cons (pe_un un_neg pe_int) pa_nil))) pa_nil))) pa_nil)) (by rfl))
(pss_cons (ps_if (pt_not (pt_val (pe_cs (callsG G_lists (hr.mono (by decide)) hg b_lists .nil pass0) d_lists.1 d_lists.2 (pa_cons (pe_op op_cat (pe_step (pe_slice sl_list (pv 2) po_none (po_some (pv 14))) (po_some (pv 15))) (pe_slice sl_list (pv 2) po_none (po_some (pv 14)))) (pa_cons (pe_op op_cat (pe_step (pe_slice sl_list (pv 3) po_none (po_some (pv 14))) (po_some (pv 15))) (pe_slice sl_list (pv 3) po_none (po_some (pv 14)))) pa_nil)))))
(pss_one (ps_ret pe_bl))
pss_nil)
(pss_cons (ps_if (PW.pt (pw_or (pt_not (pt_val (pe_cs (calls_fn G_refused (hr.mono (by decide)) b_refused .nil pass0) d_refused.1 d_refused.2 (pa_cons (pv 1) (pa_cons (pv 11) pa_nil))))) (pw_or1 (pt_cmpR op_ne (ClX.pe_cval (pe_gv X.T.v_Ratio) rfl) pe_int (nomark _)))))
(pss_one (ps_ret pe_bl))
pss_nil)
(pss_one (ps_ret (pe_and (pe_cs (callsG G_is (hr.mono (by decide)) hg b_is .nil pass0) d_is.1 d_is.2 (pa_cons (pv 11) (pa_cons (pe_ix ix_list (pv 3) pe_int (fun _ _ => rfl)) pa_nil))) (pe_one (pe_cs (callsG G_is (hr.mono (by decide)) hg b_is .nil pass0) d_is.1 d_is.2 (pa_cons (pv 12) (pa_cons (pe_ix ix_list (pv 3) pe_int (fun _ _ => rfl)) pa_nil))))))))))))))))))), ?_⟩
    have r9 : ∀ {r : Int}, 0 ≤ r → r < 9 → (1 + r).natAbs < 2 ^ 200 := fun h0 h1 => by
      have : (16 : Nat) < 2 ^ 200 := by decide +kernel
      omega
    refine ⟨_, rfl, a, ns, rfl, hS, fun p H1 np e1 hp0 => ?_⟩
    refine q_parLL (el_lst ea_nil (by decide)) (el_lst ea_nil (by decide)) fun l0 m0 H2 nl0 nm0 e2 hl0 hm0 => ?_
    refine q_forR1 (ea_cons ev_c ea_nil) (by decide) (fun i σ H3 => ∃ (l m : Addr) (xs ms : List V) (ps : List (Int × Int)) (o4 o5 o6 o7 o8 o9 : Option V), σ = [some (.ref a), some (.ref p), some (.ref l), some (.ref m), o4, o5, o6, o7, o8, o9, none, none, none, none, none, none] ∧ PenAt H3 p (1000 - 100 * i) ∧ H3 l = some (.lst xs) ∧ l ≠ p ∧ H3 m = some (.lst ms) ∧ m ≠ p ∧ VsAt C H3 xs ps ∧ PrAt H3 ms ps ∧ (∀ q ∈ ps, Bd q) ∧ ps.length = i ∧ ∀ v ∈ xs, ∃ x, v = V.ref x) (fun H3 e3 => ?_) (fun i σ H3 hi pv => ?_) (fun σ H3 pv => ?_)
    · have hp3 := (hp0.ext (e2.trans e3)).less (m := 1000) (by decide)
      obtain ⟨op, hop⟩ := pen_at hp0
      exact ⟨l0, m0, [], [], [], none, none, none, none, none, none, rfl, hp3, e3 _ _ hl0, (fun z => by rw [z, hop] at nl0; cases nl0), e3 _ _ hm0, (fun z => by rw [z, hop] at nm0; cases nm0), AllR.nil, ⟨rfl, fun i v q h _ => by cases h⟩, (fun q h => by cases h), rfl, fun v h => by cases h⟩
    · obtain ⟨l, m, xs, ms, ps, o4, o5, o6, o7, o8, o9, rfl, hp, hl, nl, hm, nm, hv, hpr, bd, len, rf⟩ := pv
      have hp' : PenAt H3 p ((1000 - 100 * i - 60) + 20 + 20 + 1 + 1) := hp.less (by omega)
      refine int_run (j := 1) rfl (k := 1000 - 100 * i - 60 + 20 + 1 + 1) (by have := hp'; rw [show 1000 - 100 * i - 60 + 20 + 20 + 1 + 1 = 1000 - 100 * i - 60 + 20 + 1 + 1 + 20 by omega] at this; exact this) fun n1 H4 b1 f4 hp4 => ?_
      refine int_run (j := 1) rfl (k := 1000 - 100 * i - 60 + 1 + 1) (by rw [show 1000 - 100 * i - 60 + 20 + 1 + 1 = 1000 - 100 * i - 60 + 1 + 1 + 20 by omega] at hp4; exact hp4) fun n2 H5 b2 f5 hp5 => ⟨_, _, rfl, ?_⟩
      refine nx_go (q_asgP (fun v H6 => ∃ b : Int, v = .int b ∧ b ≠ 0 ∧ b.natAbs < 2 ^ 200 ∧ Fr p H5 H6 ∧ PenAt H6 p (1000 - 100 * i - 60 + 1)) (fun Q6 k6 => ?_) fun v H6 hv6 => ?_)
      · have ne := et_test (ev_op (r := rNe) (σ := [some (.ref a), some (.ref p), some (.ref l), some (.ref m), some (V.int i), some (V.int n1), some (V.int n2), o7, o8, o9, none, none, none, none, none, none]) (H := H5) (ta := tVar 6) (tb := tC (.int 0)) (ev_var rfl) ev_c (rv_ne rfl))
        refine ne H5 (Ex.refl H5) _ fun H6 e6 => ?_
        by_cases c : n2 = 0
        · refine if_f (by rw [c]; decide +kernel) ?_
          refine draw_runI (j := 1) rfl (k := 1000 - 100 * i - 60 + 1) (by decide) (by decide) (hp5.ext e6) fun r H7 r0 r1 f7 hp7 => ?_
          exact ⟨1, r, rfl, rfl, k6 _ _ ⟨1 + r, rfl, by omega, r9 r0 r1, (Fr.of e6).trans f7, hp7⟩⟩
        · refine if_t (by rw [decide_eq_false (fun z => c (V.int.inj z))]; rfl) ?_
          exact ⟨_, rfl, k6 _ _ ⟨n2, rfl, c, b2, Fr.of e6, (hp5.ext e6).less (by omega)⟩⟩
      · obtain ⟨b, rfl, b0, bb, f6, hp6⟩ := hv6
        refine q_asgP (fun v H7 => ∃ r : Int, v = .int r ∧ r ≠ 0 ∧ r.natAbs < 2 ^ 100 ∧ Fr p H6 H7 ∧ PenAt H7 p (1000 - 100 * i - 60)) (fun Q7 k7 => ?_) fun v H7 hv7 => ?_
        · refine pick_runI (j := 1) rfl (ea_cons ev_c (ea_cons ev_c (ea_cons (ev_un ev_c ru_neg) (ea_cons ev_c (ea_cons (ev_un ev_c ru_neg) (ea_cons (ev_op (ev_op ev_c ev_c (rv_I (C := CPowW) (g := fun i j => .int (i ^ j.toNat)) ⟨by decide, by decide, by decide⟩)) ev_c rv_I0) ea_nil)))))) (List.cons_ne_nil _ _) (by show 6 ≤ 1000; decide) hp6 fun x H8 hx f8 hp8 => k7 _ _ ?_
          simp only [List.mem_cons, List.not_mem_nil, or_false] at hx
          rcases hx with rfl | rfl | rfl | rfl | rfl | rfl
          · exact ⟨_, rfl, by decide, by decide, f8, hp8⟩
          · exact ⟨_, rfl, by decide, by decide, f8, hp8⟩
          · exact ⟨_, rfl, by decide, by decide, f8, hp8⟩
          · exact ⟨_, rfl, by decide, by decide, f8, hp8⟩
          · exact ⟨_, rfl, by decide, by decide, f8, hp8⟩
          · exact ⟨_, rfl, by decide +kernel, by decide +kernel, f8, hp8⟩
        · obtain ⟨r, rfl, r0, rb, f7, hp7⟩ := hv7
          have br0 : b * r ≠ 0 := Int.mul_ne_zero b0 r0
          have eqv : lowp (n1 * r) (b * r) = lowp n1 b := lowp_eq br0 b0 (by grind)
          have bq : Bd (lowp n1 b) := ⟨lw_lowp b0, Nat.lt_of_le_of_lt (lowp_le b0).1 b1, Nat.lt_of_le_of_lt (lowp_le b0).2.1 bb⟩
          have up8 : ∀ {n : Nat}, n < 2 ^ 200 → n < 2 ^ 8000 := fun h => Nat.lt_of_lt_of_le h (Nat.pow_le_pow_right (by decide) (by decide))
          have mkv := ex_mk (K := K) (C := C) (D := D) (dvs := []) (H := H7) (ea_cons (ev_op (ev_var (i := 5) (σ := [some (.ref a), some (.ref p), some (.ref l), some (.ref m), some (V.int i), some (V.int n1), some (V.int b), some (.int r), o8, o9, none, none, none, none, none, none]) rfl) (ev_var (i := 7) rfl) (rv_I (C := CMulW) (g := fun i j => V.int (i * j)) (mulWb b1 rb (by decide)))) (ea_cons (ev_op (ev_var (i := 6) rfl) (ev_var (i := 7) rfl) (rv_I (C := CMulW) (g := fun i j => V.int (i * j)) (mulWb bb rb (by decide)))) ea_nil)) rfl br0 (Nat.lt_of_lt_of_le (wide_lt bb rb) (Nat.pow_le_pow_right (by decide) (by decide)))
          rw [eqv] at mkv
          refine q_parXU mkv (eu_low (ea_cons (ev_var rfl) (ea_cons (ev_var rfl) ea_nil)) b0 (Nat.lt_of_lt_of_le bb (Nat.pow_le_pow_right (by decide) (by decide)))) fun x pa H8 e8 hx hpa => ?_
          have l1 := log_lt bq.t (by decide) (by decide)
          have l2 := log_lt bq.b (by decide) (by decide)
          have vv : ∀ {σ : L2.St} {H9 : Hp}, Ex H8 H9 → σ[8]? = some (some (.ref x)) → EvX C (tVar 8) σ H9 (lowp n1 b) := fun e s => ex_var s (hx.ext e)
          have pv : ∀ {te : TE} {σ : L2.St} {H9 : Hp}, Ex H8 H9 → σ[9]? = some (some (.ref pa)) → EvX C te σ H9 (lowp n1 b) → Ev (tCS (fun _ vs H Q => spIs C (vs ++ []) H Q E0) (tCons te (tCons (tVar 9) tNil))) σ H9 (.bl true) := fun e s h => ev_isV h (ev_var s) (e _ _ hpa) l1 l2
          refine q_when (b := false) (et_is (et_or (a := false) (b := false) (et_is (et_not (et_B (pv (Ex.refl H8) rfl (vv (Ex.refl H8) rfl)))) rfl) fun _ => et_is (et_or (a := false) (b := false) (et_is (et_test (ev_eqX (neg := true) X.T X.nfC X.nfI (vv (Ex.refl H8) rfl) (en_x (ex_mk (dvs := []) (ea_cons (ev_var rfl) (ea_cons (ev_var rfl) ea_nil)) rfl b0 (up8 bb))))) (by rw [ratEq_iff.mpr rfl]; rfl)) fun _ =>
            et_is (et_not (et_B (pv (Ex.refl H8) rfl (ex_mkK (t := n1) (ea_cons (ev_var rfl) (ea_cons (ev_var rfl) ea_nil)) (fun x => rfl) b0 (up8 bb))))) rfl) rfl) rfl) (fun c => by cases c) fun _ H9 e9 => ?_
          have ix0 : ∀ {σ : L2.St} {Hz : Hp}, Ex H8 Hz → σ[9]? = some (some (.ref pa)) → Ev (tOp (rIxT K) (tVar 9) (tC (.int 0))) σ Hz (.int (lowp n1 b).1) := fun e s => ev_op (ev_var s) ev_c (rv_ixT (st_of (e _ _ hpa)) (atI_nat (j := 0) rfl))
          have ix1 : ∀ {σ : L2.St} {Hz : Hp}, Ex H8 Hz → σ[9]? = some (some (.ref pa)) → Ev (tOp (rIxT K) (tVar 9) (tC (.int 1))) σ Hz (.int (lowp n1 b).2) := fun e s => ev_op (ev_var s) ev_c (rv_ixT (st_of (e _ _ hpa)) (atI_nat (j := 1) rfl))
          refine q_when (b := false) (et_is (et_or (a := false) (b := false) (et_is (et_not (et_B (ev_isX (ex_neg (vv e9 rfl) bq.lw bq.s2) (eu_tup (ea_cons (ev_un (ix0 e9 rfl) ru_neg) (ea_cons (ix1 e9 rfl) ea_nil)) (by show 2 ≤ 100000; decide)) (by show (-(lowp n1 b).1).natAbs.log2 < 1000; rw [Int.natAbs_neg]; exact l1) l2))) rfl) fun _ => et_is (et_not (et_B (ev_isX (ex_abs (vv e9 rfl) bq.lw bq.s2) (eu_tup (ea_cons (ev_cb (ea_cons (ix0 e9 rfl) ea_nil) rc_abs) (ea_cons (ix1 e9 rfl) ea_nil)) (by show 2 ≤ 100000; decide)) (by show (absI (lowp n1 b).1).natAbs.log2 < 1000; rw [absI_nat, Int.natAbs_natCast]; exact l1) l2))) rfl) rfl) (fun c => by cases c) fun _ H10 e10 => ?_
          have e910 := e9.trans e10
          have lt1 : n1.natAbs.log2 < 1000 := log_lt b1 (by decide) (by decide)
          have one1 : ((n1, 1) : Int × Int).2.natAbs.log2 < 1000 := by show (1 : Int).natAbs.log2 < 1000; decide
          have mk1 := ex_mk (K := K) (C := C) (D := D) (dvs := [.int 1]) (H := H10) (t := n1) (b := 1) (ea_cons (ev_var (i := 5) (σ := [some (.ref a), some (.ref p), some (.ref l), some (.ref m), some (V.int i), some (V.int n1), some (V.int b), some (.int r), some (.ref x), some (.ref pa), none, none, none, none, none, none]) rfl) ea_nil) rfl (by decide) (by decide)
          rw [lowp_one] at mk1
          refine q_when (b := false) (et_is (et_or (a := false) (b := false) (et_is (et_not (et_B (pv e910 rfl (ex_of (en_x (vv e910 rfl)))))) rfl) fun _ => et_is (et_or (a := false) (b := false) (et_is (et_not (et_B (ev_isX (ex_of (en_int (ev_var rfl))) (eu_tup (ea_cons (ev_var rfl) (ea_cons ev_c ea_nil)) (by show 2 ≤ 100000; decide)) lt1 one1))) rfl) fun _ => et_is (et_not (et_B (ev_isX mk1 (eu_tup (ea_cons (ev_var rfl) (ea_cons ev_c ea_nil)) (by show 2 ≤ 100000; decide)) lt1 one1))) rfl) rfl) rfl) (fun c => by cases c) fun _ H11 e11 => ?_
          have e8a := e910.trans e11
          have fa : Fr p H3 H7 := f4.trans (f5.trans (f6.trans f7))
          have fb : Fr p H3 H11 := fa.trans (Fr.of (e8.trans e8a))
          have hl11 := fb _ _ nl hl
          have hm11 := fb _ _ nm hm
          have lx : xs.length = i := by rw [hv.1]; exact len
          have lm : ms.length = i := by rw [hpr.1]; exact len
          refine s_parLL (el_catVL (ev_var rfl) hl11 (el_lst (ea_cons (ev_var rfl) ea_nil) (by show 1 ≤ 100000; decide)) (by show xs.length + 1 ≤ 1000000; omega)) (el_catVL (ev_var rfl) hm11 (el_lst (ea_cons (ev_var rfl) ea_nil) (by show 1 ≤ 100000; decide)) (by show ms.length + 1 ≤ 1000000; omega)) fun l' m' H12 nl' nm' e12 hl' hm' => ?_
          have hp11 : PenAt H11 p (1000 - 100 * i - 60) := hp7.ext (e8.trans e8a)
          obtain ⟨op, hop⟩ := pen_at hp11
          refine ⟨l', m', _, _, ps ++ [lowp n1 b], _, _, _, _, _, _, rfl, (hp11.ext e12).less (by omega), hl', (fun z => by rw [z, hop] at nl'; cases nl'), hm', (fun z => by rw [z, hop] at nm'; cases nm'), ?_, ?_, ?_, by rw [List.length_append, len]; rfl, ?_⟩
          · exact AllR.snoc (R := fun v q => Num C H12 v q.1 q.2) ((hv.fr hp fb).ext e12) (.inl ⟨x, rfl, hx.ext (e8a.trans e12)⟩)
          · exact AllR.snoc (R := fun v q => ∃ a, v = V.ref a ∧ H12 a = some (.tup [.int q.1, .int q.2])) ((hpr.fr hp fb).ext e12) ⟨pa, rfl, (e8a.trans e12) _ _ hpa⟩
          · intro q hq
            rcases List.mem_append.mp hq with h | h
            · exact bd q h
            · rw [List.mem_singleton.mp h]; exact bq
          · intro v hv'
            rcases List.mem_append.mp hv' with h | h
            · exact rf v h
            · exact ⟨x, List.mem_singleton.mp h⟩
    · obtain ⟨l, m, xs, ms, ps, o4, o5, o6, o7, o8, o9, rfl, hp, hl, nl, hm, nm, hv, hpr, bd, len, rf⟩ := pv
      have hp' : PenAt H3 p (100 + 20) := hp.less (by decide)
      refine q_asgP (fun v H4 => ∃ n : Int, v = .int n ∧ n.natAbs < 2 ^ 200 ∧ Fr p H3 H4 ∧ PenAt H4 p 100) (fun Q4 k4 => int_run (j := 1) rfl hp' fun n H4 b f h => k4 _ _ ⟨n, rfl, b, f, h⟩) fun v H4 hv4 => ?_
      obtain ⟨wn, rfl, bw, f4, hp4⟩ := hv4
      have hl4 := f4 _ _ nl hl
      have hm4 := f4 _ _ nm hm
      have hv4 := hv.fr hp f4
      have hpr4 := hpr.fr hp f4
      obtain ⟨p0, p1, rfl⟩ : ∃ p0 p1, ps = [p0, p1] := by
        rcases ps with _ | ⟨p0, _ | ⟨p1, _ | ⟨p2, r⟩⟩⟩
        · cases len
        · cases len
        · exact ⟨p0, p1, rfl⟩
        · simp at len
      obtain ⟨v0, v1, rfl⟩ : ∃ v0 v1, xs = [v0, v1] := by
        have lx := hv.1
        rcases xs with _ | ⟨p0, _ | ⟨p1, _ | ⟨p2, r⟩⟩⟩
        · cases lx
        · cases lx
        · exact ⟨p0, p1, rfl⟩
        · simp at lx
      obtain ⟨u0, u1, rfl⟩ : ∃ u0 u1, ms = [u0, u1] := by
        have lx := hpr.1
        rcases ms with _ | ⟨p0, _ | ⟨p1, _ | ⟨p2, r⟩⟩⟩
        · cases lx
        · cases lx
        · exact ⟨p0, p1, rfl⟩
        · simp at lx
      obtain ⟨x0, rfl⟩ := rf v0 List.mem_cons_self
      obtain ⟨x1, rfl⟩ := rf v1 (List.mem_cons_of_mem _ List.mem_cons_self)
      have bp0 := bd p0 List.mem_cons_self
      have bp1 := bd p1 (List.mem_cons_of_mem _ List.mem_cons_self)
      have bw1 : Bd (wn, 1) := ⟨⟨(by decide : (0 : Int) < 1), by show Nat.gcd wn.natAbs 1 = 1; exact Nat.gcd_one_right _⟩, bw, by show (1 : Int).natAbs < 2 ^ 200; exact Nat.one_lt_two_pow (by decide)⟩
      have rt : ∀ {x : Addr} {q : Int × Int} {i : Nat}, ([V.ref x0, V.ref x1] : List V)[i]? = some (.ref x) → ([p0, p1] : List (Int × Int))[i]? = some q → RatAt C H4 x q.1 q.2 := fun h1 h2 => by
        rcases hv4.2 _ _ _ h1 h2 with ⟨y, e, h⟩ | ⟨e, _⟩
        · cases e; exact h
        · cases e
      have r0 := rt (i := 0) rfl rfl
      have r1 := rt (i := 1) rfl rfl
      obtain ⟨a0, rfl, ha0⟩ := hpr4.2 0 u0 p0 rfl rfl
      obtain ⟨a1, rfl, ha1⟩ := hpr4.2 1 u1 p1 rfl rfl
      refine q_parLW hl4 hm4 ⟨by show 2 ≤ 100; decide, by show 2 ≤ 100; decide⟩ rfl rfl rfl fun l5 m5 aw H5 nl5 nm5 e5 hl5 hm5 haw => ?_
      have hl5 : H5 l5 = some (.lst [.ref x0, .ref x1, .int wn]) := hl5
      have hm5 : H5 m5 = some (.lst [.ref a0, .ref a1, .ref aw]) := hm5
      have hp5 := hp4.ext e5
      obtain ⟨op, hop⟩ := pen_at hp4
      have nl5p : l5 ≠ p := fun z => by rw [z, hop] at nl5; cases nl5
      have nm5p : m5 ≠ p := fun z => by rw [z, hop] at nm5; cases nm5
      have vs5 : VsAt C H5 [.ref x0, .ref x1, .int wn] [p0, p1, (wn, 1)] := AllR.snoc (R := fun v q => Num C H5 v q.1 q.2) (hv4.ext e5) (.inr ⟨rfl, rfl⟩)
      have pr5 : PrAt H5 [.ref a0, .ref a1, .ref aw] [p0, p1, (wn, 1)] := AllR.snoc (R := fun v q => ∃ a, v = V.ref a ∧ H5 a = some (.tup [.int q.1, .int q.2])) (hpr4.ext e5) ⟨aw, rfl, haw⟩
      have bd5 : ∀ q ∈ [p0, p1, ((wn, 1) : Int × Int)], Bd q := fun q hq => by
        simp only [List.mem_cons, List.not_mem_nil, or_false] at hq
        rcases hq with rfl | rfl | rfl
        · exact bp0
        · exact bp1
        · exact bw1
      have r0 := r0.ext e5
      have r1 := r1.ext e5
      have ha0 := e5 _ _ ha0
      have ha1 := e5 _ _ ha1
      have lx : ∀ {σ : L2.St} {H6 : Hp} {i : Nat} {v : V}, Ex H5 H6 → σ[2]? = some (some (.ref l5)) → ([.ref x0, .ref x1, .int wn] : List V)[i]? = some v → Ev (tOp (rIxL K) (tVar 2) (tC (.int (i : Int)))) σ H6 v := fun e s h => ev_op (ev_var s) ev_c (rv_ixL (sq_of (e _ _ hl5)) (atI_nat h))
      have mx : ∀ {σ : L2.St} {H6 : Hp} {i : Nat} {v : V}, Ex H5 H6 → σ[3]? = some (some (.ref m5)) → ([.ref a0, .ref a1, .ref aw] : List V)[i]? = some v → Ev (tOp (rIxL K) (tVar 3) (tC (.int (i : Int)))) σ H6 v := fun e s h => ev_op (ev_var s) ev_c (rv_ixL (sq_of (e _ _ hm5)) (atI_nat h))
      refine q_par (ea_cons (lx (i := 0) (Ex.refl H5) rfl rfl) (ea_cons (lx (i := 1) (Ex.refl H5) rfl rfl) ea_nil)) fun H6 e6 => ?_
      refine q_forR1 (ea_cons ev_c ea_nil) (by decide) (fun i σ H7 => ∃ o13 : Option V, σ = [some (.ref a), some (.ref p), some (.ref l5), some (.ref m5), o4, o5, o6, o7, o8, o9, some (.int wn), some (.ref x0), some (.ref x1), o13, none, none] ∧ Ex H6 H7) (fun H7 e7 => ⟨_, rfl, e7⟩) (fun i σ H7 hi pv => ?_) (fun σ H7 pv => ?_)
      · obtain ⟨o13, rfl, e7⟩ := pv
        have e57 := e6.trans e7
        have i3 : i < 3 := by omega
        obtain ⟨v, hvi⟩ : ∃ v, ([.ref x0, .ref x1, .int wn] : List V)[i]? = some v := ⟨_, List.getElem?_eq_getElem (by exact i3)⟩
        obtain ⟨q, hqi⟩ : ∃ q, ([p0, p1, (wn, 1)] : List (Int × Int))[i]? = some q := ⟨_, List.getElem?_eq_getElem (by exact i3)⟩
        obtain ⟨u, hui⟩ : ∃ u, ([.ref a0, .ref a1, .ref aw] : List V)[i]? = some u := ⟨_, List.getElem?_eq_getElem (by exact i3)⟩
        have nv := vs5.2 i v q hvi hqi
        obtain ⟨aq, rfl, haq⟩ := pr5.2 i u q hui hqi
        have bq := bd5 q (List.mem_of_getElem? hqi)
        have lv : ∀ {σ : L2.St}, σ[2]? = some (some (.ref l5)) → σ[13]? = some (some (.int (i : Int))) → Ev (tOp (rIxL K) (tVar 2) (tVar 13)) σ H7 v := fun s2 s3 => ev_op (ev_var s2) (ev_var s3) (rv_ixL (sq_of (e57 _ _ hl5)) (atI_nat hvi))
        have mv : ∀ {σ : L2.St}, σ[3]? = some (some (.ref m5)) → σ[13]? = some (some (.int (i : Int))) → Ev (tOp (rIxL K) (tVar 3) (tVar 13)) σ H7 (.ref aq) := fun s2 s3 => ev_op (ev_var s2) (ev_var s3) (rv_ixL (sq_of (e57 _ _ hm5)) (atI_nat hui))
        refine s_when (b := false) (et_is (et_or (a := false) (b := false) (et_is (et_not (et_B (ev_two (ev_var rfl) (mx (i := 0) e57 rfl rfl) (lv rfl rfl) (mv rfl rfl) (r0.ext e57) (e57 _ _ ha0) (nv.ext e57) (e57 _ _ haq) bp0 bq))) rfl) fun _ => et_is (et_not (et_B (ev_two (ev_var rfl) (mx (i := 1) e57 rfl rfl) (lv rfl rfl) (mv rfl rfl) (r1.ext e57) (e57 _ _ ha1) (nv.ext e57) (e57 _ _ haq) bp1 bq))) rfl) rfl) (fun c => by cases c) fun _ H8 e8 => ?_
        exact ⟨_, rfl, e7.trans e8⟩
      · obtain ⟨o13, rfl, e7⟩ := pv
        have e57 := e6.trans e7
        have q0 : ∀ {σ : L2.St} {H8 : Hp}, Ex H5 H8 → σ[11]? = some (some (.ref x0)) → EvQ C (tVar 11) σ H8 p0.1 p0.2 200 := fun e s => ⟨p0, .self bp0.lw, bp0.sz, ex_var s (r0.ext e)⟩
        have q1 : ∀ {σ : L2.St} {H8 : Hp}, Ex H5 H8 → σ[12]? = some (some (.ref x1)) → EvQ C (tVar 12) σ H8 p1.1 p1.2 200 := fun e s => ⟨p1, .self bp1.lw, bp1.sz, ex_var s (r1.ext e)⟩
        have qw : ∀ {σ : L2.St} {H8 : Hp}, σ[10]? = some (some (.int wn)) → EvQN C (tVar 10) σ H8 wn 1 200 := fun s => ⟨(wn, 1), .self bw1.lw, bw1.sz, en_int (ev_var s)⟩
        have qz : ∀ {σ : L2.St} {H8 : Hp}, EvQN C (tC (.int 0)) σ H8 0 1 200 := ⟨(0, 1), ⟨⟨(by decide : (0 : Int) < 1), by decide⟩, by decide, rfl⟩, ⟨Nat.pow_pos (by decide), Nat.one_lt_two_pow (by decide)⟩, en_int ev_c⟩
        refine q_when (b := false) (et_is (et_or (a := false) (b := false) (et_test (ev_neQ X.T X.nfC X.nfI (qx_mul (D := D) (qx_add (D := D) (q0 e57 rfl) (qn_x (q1 e57 rfl)) (by decide) X.i_addI) (qn_x (qx_sub (D := D) (q0 e57 rfl) (qn_x (q1 e57 rfl)) (by decide) X.i_subI)) (by decide) X.i_mulI) (qn_x (qx_sub (D := D) (qx_mul (D := D) (q0 e57 rfl) (qn_x (q0 e57 rfl)) (by decide) X.i_mulI) (qn_x (qx_mul (D := D) (q1 e57 rfl) (qn_x (q1 e57 rfl)) (by decide) X.i_mulI)) (by decide) X.i_subI)) (by grind))) fun _ =>
          et_test (ev_neQ X.T X.nfC X.nfI (qx_add (D := D) (qx_sub (D := D) (q0 e57 rfl) (qn_x (q1 e57 rfl)) (by decide) X.i_subI) (qn_x (qx_sub (D := D) (q1 e57 rfl) (qn_x (q0 e57 rfl)) (by decide) X.i_subI)) (by decide) X.i_addI) qz (by grind))) rfl) (fun c => by cases c) fun _ H8 e8 => ?_
        have e58 := e57.trans e8
        refine q_when (b := false) (et_is (et_or (a := false) (b := false) (et_test (ev_neQ X.T X.nfC X.nfI (qx_mul (D := D) (qx_add (D := D) (q0 e58 rfl) (qn_x (q1 e58 rfl)) (by decide) X.i_addI) (qw rfl) (by decide) X.i_mulI) (qn_x (qx_add (D := D) (qx_mul (D := D) (q0 e58 rfl) (qw rfl) (by decide) X.i_mulI) (qn_x (qx_mul (D := D) (q1 e58 rfl) (qw rfl) (by decide) X.i_mulI)) (by decide) X.i_addI)) (by grind))) fun _ =>
          et_test (ev_neQ X.T X.nfC X.nfI (qx_abs (qx_mul (D := D) (q0 e58 rfl) (qn_x (q1 e58 rfl)) (by decide) X.i_mulI) (Int.mul_pos bp0.lw.1 bp1.lw.1) (by decide)) (qn_x (qx_mul (D := D) (qx_abs (q0 e58 rfl) bp0.lw.1 (by decide)) (qn_x (qx_abs (q1 e58 rfl) bp1.lw.1 (by decide))) (by decide) X.i_mulI)) (by rw [absI_mul]))) rfl) (fun c => by cases c) fun _ H9 e9 => ?_
        have e59 := e58.trans e9
        have hp9 := hp5.ext e59
        refine draw_runI (j := 1) rfl (k := 90) (by decide) (by decide) (hp9.less (by decide)) fun mn H10 mn0 mn4 f10 hp10 => ?_
        refine pick_runI (j := 1) (k := 80) rfl (ea_cons ev_c (ea_cons (ev_un ev_c ru_neg) ea_nil)) (List.cons_ne_nil _ _) (by show 2 ≤ 1000; decide) (hp10.less (by decide)) fun tv H11 htv f11 hp11 => ⟨_, _, rfl, ?_⟩
        obtain ⟨tn, rfl, htn⟩ : ∃ tn : Int, tv = .int tn ∧ (tn = 1 ∨ tn = -1) := by
          simp only [List.mem_cons, List.not_mem_nil, or_false] at htv
          rcases htv with rfl | rfl
          · exact ⟨_, rfl, .inl rfl⟩
          · exact ⟨_, rfl, .inr rfl⟩
        have f911 := f10.trans f11
        have hl11 := f911 _ _ nl5p (e59 _ _ hl5)
        have hm11 := f911 _ _ nm5p (e59 _ _ hm5)
        have vs11 := (vs5.ext e59).fr hp9 f911
        have pr11 := (pr5.ext e59).fr hp9 f911
        have r0a := (r0.ext e59).fr (pen_rat hp9 (r0.ext e59)) f911
        have r1a := (r1.ext e59).fr (pen_rat hp9 (r1.ext e59)) f911
        have ha0a := f911 _ _ (pen_tup hp9 (e59 _ _ ha0)) (e59 _ _ ha0)
        have ha1a := f911 _ _ (pen_tup hp9 (e59 _ _ ha1)) (e59 _ _ ha1)
        have k3 : mn ≤ 3 := by omega
        have cx : cutV [V.ref x0, V.ref x1, V.int wn] none (some mn) = [V.ref x0, V.ref x1, V.int wn].take mn.toNat := cut_take mn0 (by show mn ≤ ((3 : Nat) : Int); omega)
        have cm : cutV [V.ref a0, V.ref a1, V.ref aw] none (some mn) = [V.ref a0, V.ref a1, V.ref aw].take mn.toNat := cut_take mn0 (by show mn ≤ ((3 : Nat) : Int); omega)
        have el : ∀ {σ : L2.St} {j : Nat} {l : Addr} {ys : List V}, H11 l = some (.lst ys) → ys.length ≤ 100 → σ[j]? = some (some (.ref l)) → σ[14]? = some (some (.int mn)) → σ[15]? = some (some (.int tn)) → EvL (tOp rCat (tStep K (tSl (rSlL K) (tVar j) tNoPart (tPart (tVar 14))) (tPart (tVar 15))) (tSl (rSlL K) (tVar j) tNoPart (tPart (tVar 14)))) σ H11 ((if tn = 1 then cutV ys none (some mn) else (cutV ys none (some mn)).reverse) ++ cutV ys none (some mn)) := fun {σ j l ys} hl hz s1 s2 s3 =>
          el_catLL (el_step (el_sl (ev_var s1) eo_none (eo_some (ev_var s2)) (sq_of hl)) (ev_var s3) htn) (el_sl (ev_var s1) eo_none (eo_some (ev_var s2)) (sq_of hl)) (by
            have := cutV_length ys none (some mn)
            split
            · omega
            · rw [List.length_reverse]; omega)
        have tl1 := vs11
        obtain ⟨psx, hpsx, hvx, hmx, hmem, hlen⟩ : ∃ psx : List (Int × Int), psx = psx ∧ VsAt C H11 ((if tn = 1 then [V.ref x0, V.ref x1, V.int wn].take mn.toNat else ([V.ref x0, V.ref x1, V.int wn].take mn.toNat).reverse) ++ [V.ref x0, V.ref x1, V.int wn].take mn.toNat) psx ∧ PrAt H11 ((if tn = 1 then [V.ref a0, V.ref a1, V.ref aw].take mn.toNat else ([V.ref a0, V.ref a1, V.ref aw].take mn.toNat).reverse) ++ [V.ref a0, V.ref a1, V.ref aw].take mn.toNat) psx ∧ (∀ q ∈ psx, q ∈ [p0, p1, ((wn, 1) : Int × Int)]) ∧ psx.length ≤ 12 := by
          have v1 : AllR (fun v q => Num C H11 v q.1 q.2) _ _ := AllR.take (R := fun v q => Num C H11 v q.1 q.2) vs11 mn.toNat
          have m1 : AllR (fun v q => ∃ a, v = V.ref a ∧ H11 a = some (.tup [.int q.1, .int q.2])) _ _ := AllR.take (R := fun v q => ∃ a, v = V.ref a ∧ H11 a = some (.tup [.int q.1, .int q.2])) pr11 mn.toNat
          have lz : ([p0, p1, ((wn, 1) : Int × Int)].take mn.toNat).length ≤ 3 := by rw [List.length_take]; exact Nat.min_le_right _ _
          rcases htn with rfl | rfl
          · rw [if_pos rfl, if_pos rfl]
            refine ⟨[p0, p1, (wn, 1)].take mn.toNat ++ [p0, p1, (wn, 1)].take mn.toNat, rfl, v1.app v1, m1.app m1, fun q hq => ?_, by rw [List.length_append]; omega⟩
            rcases List.mem_append.mp hq with h | h <;> exact List.mem_of_mem_take h
          · rw [if_neg (by decide), if_neg (by decide)]
            refine ⟨([p0, p1, (wn, 1)].take mn.toNat).reverse ++ [p0, p1, (wn, 1)].take mn.toNat, rfl, v1.rev.app v1, m1.rev.app m1, fun q hq => ?_, by rw [List.length_append, List.length_reverse]; omega⟩
            rcases List.mem_append.mp hq with h | h
            · exact List.mem_of_mem_take (List.mem_reverse.mp h)
            · exact List.mem_of_mem_take h
        have lx11 := fun {σ : L2.St} (s1 : σ[2]? = some (some (.ref l5))) (s2 : σ[14]? = some (some (.int mn))) (s3 : σ[15]? = some (some (.int tn))) => el (σ := σ) (j := 2) hl11 (by show 3 ≤ 100; decide) s1 s2 s3
        have mx11 := fun {σ : L2.St} (s1 : σ[3]? = some (some (.ref m5))) (s2 : σ[14]? = some (some (.int mn))) (s3 : σ[15]? = some (some (.int tn))) => el (σ := σ) (j := 3) hm11 (by show 3 ≤ 100; decide) s1 s2 s3
        rw [cx] at lx11
        rw [cm] at mx11
        have M0 : p0.2 * p1.2 ≠ 0 := Int.mul_ne_zero bp0.b0 bp1.b0
        have dv : ∀ q ∈ psx, q.2 ∣ p0.2 * p1.2 := fun q hq => by
          have h := hmem q hq
          simp only [List.mem_cons, List.not_mem_nil, or_false] at h
          rcases h with rfl | rfl | rfl
          · exact Int.dvd_mul_right _ _
          · exact Int.dvd_mul_left _ _
          · exact Int.one_dvd _
        refine nx_go (q_when (b := false) (et_is (et_not (et_B (ev_lists (lx11 rfl rfl rfl) (mx11 rfl rfl rfl) hvx hmx hlen (fun q hq => bd5 q (hmem q hq)) M0 (wl bp0.b bp1.b) dv))) rfl) (fun c => by cases c) fun _ H12 e12 => ?_)
        have hp12 := hp11.ext e12
        refine ⟨_, rfl, _, rfl, p, x0, 10, p0, rfl, hp12.less (by decide), r0a.ext e12, bp0, fun H13 f13 hp13 => ⟨true, rfl, if_f rfl ?_⟩⟩
        have mostE : Ev (ClX.tCVal K (tC (.ref C)) "MOST_DIGITS") [some (.ref a), some (.ref p), some (.ref l5), some (.ref m5), o4, o5, o6, o7, o8, o9, some (.int wn), some (.ref x0), some (.ref x1), o13, some (.int mn), some (.int tn)] H13 (.int 60) := ev_cval ev_c X.rd X.most
        refine (et_test (ev_op (r := rNe) mostE (ev_c (v := .int 60)) (rv_ne rfl))) H13 (Ex.refl H13) _ fun H14 e14 => if_f (by rw [decide_eq_true rfl]; rfl) ?_
        have r0b := ((r0a.ext e12).fr (pen_rat hp12 (r0a.ext e12)) f13).ext e14
        have r1b := ((r1a.ext e12).fr (pen_rat hp12 (r1a.ext e12)) f13).ext e14
        have ha0b := e14 _ _ (f13 _ _ (pen_tup hp12 (e12 _ _ ha0a)) (e12 _ _ ha0a))
        have ha1b := e14 _ _ (f13 _ _ (pen_tup hp12 (e12 _ _ ha1a)) (e12 _ _ ha1a))
        have hm14 := e14 _ _ (f13 _ _ nm5p (e12 _ _ hm11))
        have mz : ∀ {σ : L2.St} {i : Nat} {v : V}, σ[3]? = some (some (.ref m5)) → ([.ref a0, .ref a1, .ref aw] : List V)[i]? = some v → Ev (tOp (rIxL K) (tVar 3) (tC (.int (i : Int)))) σ H14 v := fun s h => ev_op (ev_var s) ev_c (rv_ixL (sq_of hm14) (atI_nat h))
        exact s_ret (v := .bl true) (ev_is (ev_andV (a := true) (b := true) (ev_isV (ex_var rfl r0b) (mz (i := 0) rfl rfl) ha0b (log_lt bp0.t (by decide) (by decide)) (log_lt bp0.b (by decide) (by decide))) fun _ => ev_isV (ex_var rfl r1b) (mz (i := 1) rfl rfl) ha1b (log_lt bp1.t (by decide) (by decide)) (log_lt bp1.b (by decide) (by decide))) rfl) fun H15 _ => kq H15
end
end K01
end

section -- PkX
set_option linter.all false
set_option maxRecDepth 100000
set_option maxHeartbeats 4000000
/-! PkX: looks behind the top, that every law shares. -/
namespace Pk
open PySem PySem.Spec L2
open PyProof.Rows hiding St
open He (ga ma)
/-- an error class that is its own dict's: the object as the store of its fields asks -/
def oexB (K : PySem.W.Frag) (C : Addr) : Bool := match K.lookup C with
  | some ⟨.type t, _, .cls cd, sl⟩ => decide (t = "type") && (cd.hasDict && (!cd.hasDel && (decide (sl.size = 6) && (decide ((sl[4]?).join = some (.builtin "ValueError.__new__")) && (match cd.mro with
    | .ref c :: bm => decide (c = C) && PySem.HandSPX.refsVE bm
    | _ => false)))))
  | _ => false
theorem oexB_ok {K : PySem.W.Frag} {C : Addr} (h : oexB K C = true) : ∃ nm q N bs bm sn sub ab col dd k0 k1 k2 k3 k5, K.lookup C = some (excClassObj nm q C N bs bm true sn sub ab col dd k0 k1 k2 k3 k5 "ValueError.__new__") ∧ PySem.HandSPX.refsVE bm = true := by
  unfold oexB at h
  cases q : K.lookup C with
  | none => rw [q] at h; cases h
  | some o =>
    obtain ⟨oc, od, dt, sl⟩ := o
    rw [q] at h
    cases oc with
    | type t =>
      cases dt with
      | cls cd =>
        obtain ⟨nm, bs, mro, N, qn, hd, sn, sub, ab, col, hdel⟩ := cd
        obtain ⟨h1, h⟩ := Bool.and_eq_true_iff.mp h
        obtain ⟨h2, h⟩ := Bool.and_eq_true_iff.mp h
        obtain ⟨h3, h⟩ := Bool.and_eq_true_iff.mp h
        obtain ⟨h4, h⟩ := Bool.and_eq_true_iff.mp h
        obtain ⟨h5, h⟩ := Bool.and_eq_true_iff.mp h
        cases mro with
        | nil => cases h
        | cons v bm =>
          cases v with
          | ref c =>
            obtain ⟨h6, h7⟩ := Bool.and_eq_true_iff.mp h
            have e1 := of_decide_eq_true h1
            have e6 := of_decide_eq_true h6
            subst e1 e6
            have e2 : hd = true := h2
            have e3 : hdel = false := by cases hdel with
              | false => rfl
              | true => cases h3
            subst e2 e3
            obtain ⟨l, rfl⟩ : ∃ l, sl = ⟨l⟩ := ⟨sl.toList, rfl⟩
            have e4 : l.length = 6 := of_decide_eq_true h4
            match l, e4, h5, q with
            | [k0, k1, k2, k3, k4, k5], _, h5, q =>
              have e5 : k4 = some (.builtin "ValueError.__new__") := of_decide_eq_true h5
              subst e5
              exact ⟨nm, qn, N, bs, bm, sn, sub, ab, col, od, k0, k1, k2, k3, k5, rfl, h7⟩
          | _ => cases h
      | _ => cases h
    | _ => cases dt <;> cases h
theorem intC_of {K : PySem.W.Frag} {C : Addr} {f : Str} {n : Int} (c : (match PySem.W.findCls K (.ref C) (.type "type") f with
    | some (.val (.int i _)) => decide (i = n)
    | _ => false) = true) : ∃ u, ClX.CVal K C (.type "type") f (.int n) u := by
  split at c
  · next i t e =>
    have ei := of_decide_eq_true c
    subst ei
    exact ⟨_, e, t, rfl⟩
  · cases c
theorem strC_of {K : PySem.W.Frag} {C : Addr} {f : Str} {z : Str} (c : (match PySem.W.findCls K (.ref C) (.type "type") f with
    | some (.val (.str i _)) => decide (i = z)
    | _ => false) = true) : ∃ u, ClX.CVal K C (.type "type") f (.str z) u := by
  split at c
  · next i t e =>
    have ei := of_decide_eq_true c
    subst ei
    exact ⟨_, e, t, rfl⟩
  · cases c
theorem strG_of {K : PySem.W.Frag} {h : Heap} {mg : Str → Option Value} (X : K.In h) (G : h.Ns mainGlobals mg) {x z : Str} (c : (match PySem.W.nsIn K mainGlobals x with
    | some (some (.str y _)) => decide (y = z)
    | _ => false) = true) : ∃ u, mg x = some u ∧ RelV (.str z) u := by
  split at c
  · next y t e =>
    have ey := of_decide_eq_true c
    subst ey
    exact ⟨_, PySem.W.mg_of X G e, t, rfl⟩
  · cases c
theorem intG_of {K : PySem.W.Frag} {h : Heap} {mg : Str → Option Value} (X : K.In h) (G : h.Ns mainGlobals mg) {x : Str} {z : Int} (c : (match PySem.W.nsIn K mainGlobals x with
    | some (some (.int y _)) => decide (y = z)
    | _ => false) = true) : ∃ u, mg x = some u ∧ RelV (.int z) u := by
  split at c
  · next y t e =>
    have ey := of_decide_eq_true c
    subst ey
    exact ⟨_, PySem.W.mg_of X G e, t, rfl⟩
  · cases c
/-- the record of a property, a staticmethod -/
def recB (K : PySem.W.Frag) (C : Addr) (T : String) (m : Str) : Bool := match PySem.W.recIn K (ma K C m) T with
  | some (.ref _ :: _) => true
  | _ => false
theorem recB_ok {K : PySem.W.Frag} {C : Addr} {T : String} {m : Str} (h : recB K C T m = true) : ∃ rest, PySem.W.recIn K (ma K C m) T = some (.ref (He5.wf K C T m) :: rest) := by
  unfold He5.wf
  unfold recB at h
  split at h
  · rename_i f r e
    exact ⟨r, by rw [e]⟩
  · cases h
end Pk
end

section -- K01ya
set_option linter.all false
set_option maxRecDepth 100000
set_option maxHeartbeats 4000000
namespace K01
open PySem PySem.Spec L2 Pk
open PyProof.Rows hiding St
open He (ga ma)
/-! ### what is looked at behind the top -/
abbrev cC (K : PySem.W.Frag) : Addr := ga K "Ratio"
abbrev cD (K : PySem.W.Frag) : Addr := ga K "BadRatio"
abbrev cP (K : PySem.W.Frag) : Addr := ga K "PeekError"
abbrev mT : Value := .type "type"
def fns : List He5.DefA := [⟨fun K => ga K "is_integer", "is_integer", "is_integer", defArgs sIsInt, defBody sIsInt, defScope sIsInt, [], []⟩,
  ⟨fun K => ga K "is_listed", "is_listed", "is_listed", defArgs sListed, defBody sListed, defScope sListed, [], []⟩,
  ⟨fun K => ma K (cD K) "__init__", "__init__", "BadRatio.__init__", defArgs sBRi, defBody sBRi, defScope sBRi, [], []⟩,
  ⟨fun K => ma K (cC K) "__init__", "__init__", "Ratio.__init__", defArgs sRi, defBody sRi, defScope sRi, [.int 1], []⟩,
  ⟨fun K => He5.wf K (cC K) "property" "sign", "sign", "Ratio.sign", defArgs sRSign, defBody sRSign, defScope sRSign, [], []⟩,
  ⟨fun K => He5.wf K (cC K) "property" "is_whole", "is_whole", "Ratio.is_whole", defArgs sRWhole, defBody sRWhole, defScope sRWhole, [], []⟩,
  ⟨fun K => ma K (cC K) "__add__", "__add__", "Ratio.__add__", defArgs sRAdd, defBody sRAdd, defScope sRAdd, [], []⟩,
  ⟨fun K => ma K (cC K) "__sub__", "__sub__", "Ratio.__sub__", defArgs sRSub, defBody sRSub, defScope sRSub, [], []⟩,
  ⟨fun K => ma K (cC K) "__mul__", "__mul__", "Ratio.__mul__", defArgs sRMul, defBody sRMul, defScope sRMul, [], []⟩,
  ⟨fun K => ma K (cC K) "over", "over", "Ratio.over", defArgs sROver, defBody sROver, defScope sROver, [], []⟩,
  ⟨fun K => ma K (cC K) "compared", "compared", "Ratio.compared", defArgs sRCmp, defBody sRCmp, defScope sRCmp, [], []⟩,
  ⟨fun K => ma K (cC K) "is_below", "is_below", "Ratio.is_below", defArgs sRBelow, defBody sRBelow, defScope sRBelow, [], []⟩,
  ⟨fun K => ma K (cC K) "__neg__", "__neg__", "Ratio.__neg__", defArgs sRNeg, defBody sRNeg, defScope sRNeg, [], []⟩,
  ⟨fun K => ma K (cC K) "__abs__", "__abs__", "Ratio.__abs__", defArgs sRAbs, defBody sRAbs, defScope sRAbs, [], []⟩,
  ⟨fun K => ma K (cC K) "__bool__", "__bool__", "Ratio.__bool__", defArgs sRBool, defBody sRBool, defScope sRBool, [], []⟩,
  ⟨fun K => ma K (cC K) "__eq__", "__eq__", "Ratio.__eq__", defArgs sREq, defBody sREq, defScope sREq, [], []⟩,
  ⟨fun K => ma K (cC K) "__str__", "__str__", "Ratio.__str__", defArgs sRStr, defBody sRStr, defScope sRStr, [], []⟩,
  ⟨fun K => ma K (cC K) "__repr__", "__repr__", "Ratio.__repr__", defArgs sRRepr, defBody sRRepr, defScope sRRepr, [], []⟩,
  ⟨fun K => He5.wf K (cC K) "staticmethod" "of", "of", "Ratio.of", defArgs sROf, defBody sROf, defScope sROf, [], []⟩,
  ⟨fun K => ga K "added", "added", "added", defArgs sAdded, defBody sAdded, defScope sAdded, [], []⟩,
  ⟨fun K => ga K "least_of", "least_of", "least_of", defArgs sLeast, defBody sLeast, defScope sLeast, [], []⟩,
  ⟨fun K => ga K "greatest_of", "greatest_of", "greatest_of", defArgs sGreatest, defBody sGreatest, defScope sGreatest, [], []⟩,
  ⟨fun K => ga K "as_ratio", "as_ratio", "as_ratio", defArgs sAsRatio, defBody sAsRatio, defScope sAsRatio, [], []⟩,
  ⟨fun K => ga K "as_ratios", "as_ratios", "as_ratios", defArgs sAsRatios, defBody sAsRatios, defScope sAsRatios, [], []⟩,
  ⟨fun K => ga K "_other_ratio", "_other_ratio", "_other_ratio", defArgs sOther, defBody sOther, defScope sOther, [], []⟩,
  ⟨fun K => ga K "_furthest_of", "_furthest_of", "_furthest_of", defArgs sFurthest, defBody sFurthest, defScope sFurthest, [], []⟩,
  ⟨fun K => ga K "_listed_ratios", "_listed_ratios", "_listed_ratios", defArgs sListedR, defBody sListedR, defScope sListedR, [], []⟩,
  ⟨fun K => ga K "_law_pen", "_law_pen", "_law_pen", defArgs sPen, defBody sPen, defScope sPen, [], []⟩,
  ⟨fun K => ga K "_law_draw", "_law_draw", "_law_draw", defArgs sDraw, defBody sDraw, defScope sDraw, [], []⟩,
  ⟨fun K => ga K "_law_pick", "_law_pick", "_law_pick", defArgs sPick, defBody sPick, defScope sPick, [], []⟩,
  ⟨fun K => ga K "_law_integer", "_law_integer", "_law_integer", defArgs sInteger, defBody sInteger, defScope sInteger, [], []⟩,
  ⟨fun K => ga K "_law_low", "_law_low", "_law_low", defArgs sLow, defBody sLow, defScope sLow, [], []⟩,
  ⟨fun K => ga K "_law_is", "_law_is", "_law_is", defArgs sIs, defBody sIs, defScope sIs, [], []⟩,
  ⟨fun K => ga K "_law_part", "_law_part", "_law_part", defArgs sPart, defBody sPart, defScope sPart, [], []⟩,
  ⟨fun K => ga K "_law_two_right", "_law_two_right", "_law_two_right", defArgs sTwo, defBody sTwo, defScope sTwo, [], []⟩,
  ⟨fun K => ga K "_law_lists_right", "_law_lists_right", "_law_lists_right", defArgs sLists, defBody sLists, defScope sLists, [], []⟩,
  ⟨fun K => ga K "_law_refused_right", "_law_refused_right", "_law_refused_right", defArgs sRefused, defBody sRefused, defScope sRefused, [], []⟩,
  ⟨fun K => ga K "law", "law", "law", defArgs sLaw, defBody sLaw, defScope sLaw, [], []⟩]
def frees : List Str := ["isinstance", "int", "bool", "str", "list", "len", "all", "abs", "range", "repr", "tuple", "any"]
def globs : List Str := ["Ratio", "BadRatio", "PeekError", "is_integer", "is_listed", "added", "least_of", "greatest_of", "as_ratio", "as_ratios", "_other_ratio", "_furthest_of", "_listed_ratios", "_law_pen", "_law_draw", "_law_pick", "_law_integer", "_law_low", "_law_is", "_law_part", "_law_two_right", "_law_lists_right", "_law_refused_right", "law"]
abbrev eqB (a b : Option (Option Value)) : Bool := decide (a = b)
theorem eqB_ok {a b : Option (Option Value)} (h : eqB a b = true) : a = b := of_decide_eq_true h
def looks : List (PySem.W.Frag → Bool) := [
  fun K => frees.all fun x => eqB (PySem.W.nsIn K mainGlobals x) (some none),
  fun K => globs.all fun x => eqB (PySem.W.nsIn K mainGlobals x) (some (some (.ref (ga K x)))),
  fun K => eqB (PySem.W.specialIn K (.builtin "object.__class__") "__get__") (some (some (.builtin "getset_descriptor.__get__"))),
  fun K => decide (PySem.W.takesIn K (.builtin "object.__class__") = some true),
  fun K => eqB (PySem.W.nsIn K mainGlobals "gcd") (some (some (.builtin "math.gcd"))),
  fun K => PySem.W.plainGet K (cC K) Str.empty,
  fun K => PySem.W.hasDictIn K (cC K),
  fun K => PySem.W.plainOver K (cC K),
  fun K => eqB (PySem.W.findIn K (.ref (cC K)) "__setattr__") (some (some (.builtin "object.__setattr__"))),
  fun K => eqB (PySem.W.findIn K (.ref (cC K)) "top") (some none),
  fun K => eqB (PySem.W.findIn K (.ref (cC K)) "bottom") (some none),
  fun K => eqB (PySem.W.findIn K (.ref (cC K)) "__class__") (some (some (.builtin "object.__class__"))),
  fun K => decide (PySem.W.mroIn K (cC K) (.type "object") = some true),
  fun K => decide (PySem.W.kitOne K (.ref (cC K)) (.ref (cC K)) = some true),
  fun K => decide (PySem.W.subIn K (.ref (cD K)) (.type "BaseException") = some true),
  fun K => oexB K (cD K),
  fun K => eqB (PySem.W.findIn K (.ref (cD K)) "__setattr__") (some (some (.builtin "object.__setattr__"))),
  fun K => decide (PySem.W.typeIn K (.ref (cD K)) = some (.type "type")),
  fun K => PySem.W.keepIn K (.ref (cD K)),
  fun K => eqB (PySem.W.findIn K (.ref (cD K)) "part") (some none),
  fun K => eqB (PySem.W.findIn K (.ref (cD K)) "__init__") (some (some (.ref (ma K (cD K) "__init__")))),
  fun K => decide (PySem.W.typeIn K (.ref (ma K (cD K) "__init__")) = some (.type "function")),
  fun K => eqB (PySem.W.findIn K (.ref (cD K)) "__getattribute__") (some (some (.builtin "BaseException.__getattribute__"))),
  fun K => eqB (PySem.W.findIn K (.ref (cD K)) "__getattr__") (some none),
  fun K => PySem.W.hasDictIn K (cD K),
  fun K => eqB (PySem.W.findIn K (.ref (cD K)) "__class__") (some (some (.builtin "object.__class__"))),
  fun K => decide (PySem.W.mroIn K (cD K) (.type "object") = some true),
  fun K => (match PySem.W.findCls K (.ref (cC K)) mT "MOST_DIGITS" with
    | some (.val (.int i _)) => decide (i = 60)
    | _ => false),
  fun K => He5.wrapB K (cC K) "staticmethod" "staticmethod.__get__" "of",
  fun K => eqB (PySem.W.findIn K (.ref (cC K)) (PySem.dunder (Operator.info .Add).2)) (some (some (.ref (ma K (cC K) "__add__")))),
  fun K => PySem.W.isFn K (.ref (ma K (cC K) "__add__")),
  fun K => eqB (PySem.W.findIn K (.ref (cC K)) (PySem.dunder (Operator.info .Sub).2)) (some (some (.ref (ma K (cC K) "__sub__")))),
  fun K => PySem.W.isFn K (.ref (ma K (cC K) "__sub__")),
  fun K => eqB (PySem.W.findIn K (.ref (cC K)) (PySem.dunder (Operator.info .Mult).2)) (some (some (.ref (ma K (cC K) "__mul__")))),
  fun K => PySem.W.isFn K (.ref (ma K (cC K) "__mul__")),
  fun K => eqB (PySem.W.findIn K (.ref (cC K)) "__eq__") (some (some (.ref (ma K (cC K) "__eq__")))),
  fun K => PySem.W.isFn K (.ref (ma K (cC K) "__eq__")),
  fun K => eqB (PySem.W.findIn K (.ref (cC K)) "__neg__") (some (some (.ref (ma K (cC K) "__neg__")))),
  fun K => PySem.W.isFn K (.ref (ma K (cC K) "__neg__")),
  fun K => eqB (PySem.W.findIn K (.ref (cC K)) "__abs__") (some (some (.ref (ma K (cC K) "__abs__")))),
  fun K => PySem.W.isFn K (.ref (ma K (cC K) "__abs__")),
  fun K => eqB (PySem.W.findIn K (.ref (cC K)) "__str__") (some (some (.ref (ma K (cC K) "__str__")))),
  fun K => PySem.W.isFn K (.ref (ma K (cC K) "__str__")),
  fun K => eqB (PySem.W.findIn K (.ref (cC K)) "__repr__") (some (some (.ref (ma K (cC K) "__repr__")))),
  fun K => PySem.W.isFn K (.ref (ma K (cC K) "__repr__")),
  fun K => eqB (PySem.W.findIn K (.ref (cC K)) "__bool__") (some (some (.ref (ma K (cC K) "__bool__")))),
  fun K => PySem.W.isFn K (.ref (ma K (cC K) "__bool__")),
  fun K => PySem.W.makesIn K (cC K),
  fun K => eqB (PySem.W.findIn K (.ref (cC K)) "__init__") (some (some (.ref (ma K (cC K) "__init__")))),
  fun K => PySem.W.isFn K (.ref (ma K (cC K) "__init__")),
  fun K => PySem.W.keepIn K (.ref (cC K)),
  fun K => decide (PySem.W.kitOne K (.ref (cD K)) (.ref (cD K)) = some true),
  fun K => decide (PySem.W.kitOne K (.type "int") (.ref (cC K)) = some false),
  fun K => decide (PySem.W.exmOne K (.ref (cD K)) (.ref (cP K)) = some true),
  fun K => xfB K (cD K),
  fun K => PySem.W.selfFirst K (cC K),
  fun K => eqB (PySem.W.findIn K (.ref (cC K)) "__ne__") (some (some (.builtin "object.__ne__"))),
  fun K => decide (PySem.W.kitOne K (.ref (cC K)) (.type "list") = some false),
  fun K => decide (PySem.W.kitOne K (.ref (cC K)) (.type "tuple") = some false),
  fun K => PySem.W.readsIn K (cC K) mT,
  fun K => eqB (PySem.W.specialIn K (.ref (cC K)) "__getattribute__") (some (some (.builtin "type.__getattribute__"))),
  fun K => eqB (PySem.W.findIn K (.ref (cC K)) (dunderR (Operator.info .Add).2)) (some none),
  fun K => eqB (PySem.W.findIn K (.ref (cC K)) (dunderR (Operator.info .Sub).2)) (some none),
  fun K => eqB (PySem.W.findIn K (.ref (cC K)) (dunderR (Operator.info .Mult).2)) (some none),
  fun K => eqB (PySem.W.findIn K (.ref (cC K)) "over") (some (some (.ref (ma K (cC K) "over")))),
  fun K => PySem.W.isFn K (.ref (ma K (cC K) "over")),
  fun K => eqB (PySem.W.findIn K (.ref (cC K)) "compared") (some (some (.ref (ma K (cC K) "compared")))),
  fun K => PySem.W.isFn K (.ref (ma K (cC K) "compared")),
  fun K => eqB (PySem.W.findIn K (.ref (cC K)) "is_below") (some (some (.ref (ma K (cC K) "is_below")))),
  fun K => PySem.W.isFn K (.ref (ma K (cC K) "is_below")),
  fun K => PySem.W.notFirst K (cC K) (.ref (cC K)),
  fun K => (PySem.W.findIn K (.type "int") (PySem.dunder (Operator.info .Add).2)).isSome,
  fun K => (PySem.W.findIn K (.type "int") (dunderR (Operator.info .Add).2)).isSome,
  fun K => decide (PySem.W.subIn K (.type "int") (.ref (cC K)) = some false),
  fun K => (PySem.W.findIn K (.type "int") (PySem.dunder (Operator.info .Sub).2)).isSome,
  fun K => (PySem.W.findIn K (.type "int") (dunderR (Operator.info .Sub).2)).isSome,
  fun K => (PySem.W.findIn K (.type "int") (PySem.dunder (Operator.info .Mult).2)).isSome,
  fun K => (PySem.W.findIn K (.type "int") (dunderR (Operator.info .Mult).2)).isSome,
  fun K => PySem.W.notFirst K (cC K) (.type "int"),
  fun K => decide (PySem.W.kitOne K (.type "NoneType") (.ref (cC K)) = some false),
  fun K => (PySem.W.findIn K (.type "NoneType") (PySem.dunder (Operator.info .Add).2)).isSome,
  fun K => (PySem.W.findIn K (.type "NoneType") (dunderR (Operator.info .Add).2)).isSome,
  fun K => decide (PySem.W.subIn K (.type "NoneType") (.ref (cC K)) = some false),
  fun K => (PySem.W.findIn K (.type "NoneType") (PySem.dunder (Operator.info .Sub).2)).isSome,
  fun K => (PySem.W.findIn K (.type "NoneType") (dunderR (Operator.info .Sub).2)).isSome,
  fun K => (PySem.W.findIn K (.type "NoneType") (PySem.dunder (Operator.info .Mult).2)).isSome,
  fun K => (PySem.W.findIn K (.type "NoneType") (dunderR (Operator.info .Mult).2)).isSome,
  fun K => PySem.W.notFirst K (cC K) (.type "NoneType"),
  fun K => decide (PySem.W.kitOne K (.type "bool") (.ref (cC K)) = some false),
  fun K => (PySem.W.findIn K (.type "bool") (PySem.dunder (Operator.info .Add).2)).isSome,
  fun K => (PySem.W.findIn K (.type "bool") (dunderR (Operator.info .Add).2)).isSome,
  fun K => decide (PySem.W.subIn K (.type "bool") (.ref (cC K)) = some false),
  fun K => (PySem.W.findIn K (.type "bool") (PySem.dunder (Operator.info .Sub).2)).isSome,
  fun K => (PySem.W.findIn K (.type "bool") (dunderR (Operator.info .Sub).2)).isSome,
  fun K => (PySem.W.findIn K (.type "bool") (PySem.dunder (Operator.info .Mult).2)).isSome,
  fun K => (PySem.W.findIn K (.type "bool") (dunderR (Operator.info .Mult).2)).isSome,
  fun K => PySem.W.notFirst K (cC K) (.type "bool"),
  fun K => decide (PySem.W.kitOne K (.type "str") (.ref (cC K)) = some false),
  fun K => (PySem.W.findIn K (.type "str") (PySem.dunder (Operator.info .Add).2)).isSome,
  fun K => (PySem.W.findIn K (.type "str") (dunderR (Operator.info .Add).2)).isSome,
  fun K => decide (PySem.W.subIn K (.type "str") (.ref (cC K)) = some false),
  fun K => (PySem.W.findIn K (.type "str") (PySem.dunder (Operator.info .Sub).2)).isSome,
  fun K => (PySem.W.findIn K (.type "str") (dunderR (Operator.info .Sub).2)).isSome,
  fun K => (PySem.W.findIn K (.type "str") (PySem.dunder (Operator.info .Mult).2)).isSome,
  fun K => (PySem.W.findIn K (.type "str") (dunderR (Operator.info .Mult).2)).isSome,
  fun K => PySem.W.notFirst K (cC K) (.type "str"),
  fun K => decide (PySem.W.kitOne K (.type "tuple") (.ref (cC K)) = some false),
  fun K => (PySem.W.findIn K (.type "tuple") (PySem.dunder (Operator.info .Add).2)).isSome,
  fun K => (PySem.W.findIn K (.type "tuple") (dunderR (Operator.info .Add).2)).isSome,
  fun K => decide (PySem.W.subIn K (.type "tuple") (.ref (cC K)) = some false),
  fun K => (PySem.W.findIn K (.type "tuple") (PySem.dunder (Operator.info .Sub).2)).isSome,
  fun K => (PySem.W.findIn K (.type "tuple") (dunderR (Operator.info .Sub).2)).isSome,
  fun K => (PySem.W.findIn K (.type "tuple") (PySem.dunder (Operator.info .Mult).2)).isSome,
  fun K => (PySem.W.findIn K (.type "tuple") (dunderR (Operator.info .Mult).2)).isSome,
  fun K => PySem.W.notFirst K (cC K) (.type "tuple"),
  fun K => decide (PySem.W.kitOne K (.type "list") (.ref (cC K)) = some false),
  fun K => (PySem.W.findIn K (.type "list") (PySem.dunder (Operator.info .Add).2)).isSome,
  fun K => (PySem.W.findIn K (.type "list") (dunderR (Operator.info .Add).2)).isSome,
  fun K => decide (PySem.W.subIn K (.type "list") (.ref (cC K)) = some false),
  fun K => (PySem.W.findIn K (.type "list") (PySem.dunder (Operator.info .Sub).2)).isSome,
  fun K => (PySem.W.findIn K (.type "list") (dunderR (Operator.info .Sub).2)).isSome,
  fun K => (PySem.W.findIn K (.type "list") (PySem.dunder (Operator.info .Mult).2)).isSome,
  fun K => (PySem.W.findIn K (.type "list") (dunderR (Operator.info .Mult).2)).isSome,
  fun K => PySem.W.notFirst K (cC K) (.type "list"),
  fun K => decide (PySem.W.kitOne K (.type "dict") (.ref (cC K)) = some false),
  fun K => (PySem.W.findIn K (.type "dict") (PySem.dunder (Operator.info .Add).2)).isSome,
  fun K => (PySem.W.findIn K (.type "dict") (dunderR (Operator.info .Add).2)).isSome,
  fun K => decide (PySem.W.subIn K (.type "dict") (.ref (cC K)) = some false),
  fun K => (PySem.W.findIn K (.type "dict") (PySem.dunder (Operator.info .Sub).2)).isSome,
  fun K => (PySem.W.findIn K (.type "dict") (dunderR (Operator.info .Sub).2)).isSome,
  fun K => (PySem.W.findIn K (.type "dict") (PySem.dunder (Operator.info .Mult).2)).isSome,
  fun K => (PySem.W.findIn K (.type "dict") (dunderR (Operator.info .Mult).2)).isSome,
  fun K => PySem.W.notFirst K (cC K) (.type "dict"),
  fun K => eqB (PySem.W.findIn K (.ref (cC K)) "sign") (some (some (.ref (ma K (cC K) "sign")))),
  fun K => eqB (PySem.W.specialIn K (.ref (ma K (cC K) "sign")) "__get__") (some (some (.builtin "property.__get__"))),
  fun K => decide (PySem.W.takesIn K (.ref (ma K (cC K) "sign")) = some true),
  fun K => recB K (cC K) "property" "sign",
  fun K => eqB (PySem.W.findIn K (.ref (cC K)) "is_whole") (some (some (.ref (ma K (cC K) "is_whole")))),
  fun K => eqB (PySem.W.specialIn K (.ref (ma K (cC K) "is_whole")) "__get__") (some (some (.builtin "property.__get__"))),
  fun K => decide (PySem.W.takesIn K (.ref (ma K (cC K) "is_whole")) = some true),
  fun K => recB K (cC K) "property" "is_whole"]
end K01
end

section -- K01yb
set_option linter.all false
set_option maxRecDepth 100000
set_option maxHeartbeats 16000000
namespace K01
open PySem PySem.Spec L2 Pk
open PyProof.Rows hiding St
open He (ga ma)
theorem told {P : Program} {w : World} {K : PySem.W.Frag} {h : Heap} {mg : Str → Option Value} {f : Addr} (X : K.In h) (G : h.Ns mainGlobals mg) (hf : mg ("law" : Str) = some (.ref f)) (c : Told looks fns K) :
    ∃ fd : FuncData, (∀ (s : Shared) (u : Value), BindsTo s fd ⟨[u], []⟩ [("_law_script", u)]) ∧ ∀ base : Heap, K.In base → FnG P w K mg base CX0 13 f fd ["_law_script"] (spLaw K) := by
  have fr : ∀ x ∈ frees, mg x = none := fun x hx => PySem.W.mg_none_of X G (eqB_ok (List.all_eq_true.mp (c.fact 0) x hx))
  have gl : ∀ x ∈ globs, mg x = some (.ref (ga K x)) := fun x hx => PySem.W.mg_of X G (eqB_ok (List.all_eq_true.mp (c.fact 1) x hx))
  have e := hf.symm.trans (gl "law" (by decide +kernel))
  cases e
  have B : Bi mg := ⟨fr _ (by decide +kernel), fr _ (by decide +kernel), fr _ (by decide +kernel), fr _ (by decide +kernel), fr _ (by decide +kernel), fr _ (by decide +kernel), fr _ (by decide +kernel), fr _ (by decide +kernel), fr _ (by decide +kernel), fr _ (by decide +kernel), fr _ (by decide +kernel), fr _ (by decide +kernel)⟩
  obtain ⟨fd_int, F_int⟩ := c.dd 0
  have F_int := He5.fun_of (st := sIsInt) F_int
  have b_int := F_int.binds (ps := ["value"]) fun _ _ _ _ _ _ us hl => match us, hl with | [_], _ => rfl
  have d_int : Df K mg "is_integer" (ga K "is_integer") := ⟨gl "is_integer" (by decide +kernel), F_int.kp⟩
  obtain ⟨fd_listed, F_listed⟩ := c.dd 1
  have F_listed := He5.fun_of (st := sListed) F_listed
  have b_listed := F_listed.binds (ps := ["value"]) fun _ _ _ _ _ _ us hl => match us, hl with | [_], _ => rfl
  have d_listed : Df K mg "is_listed" (ga K "is_listed") := ⟨gl "is_listed" (by decide +kernel), F_listed.kp⟩
  obtain ⟨fd_br, F_br⟩ := c.dd 2
  have F_br := He5.fun_of (st := sBRi) F_br
  have b_br := F_br.binds (ps := ["self", "part"]) fun _ _ _ _ _ _ us hl => match us, hl with | [_, _], _ => rfl
  obtain ⟨fd_ri, F_ri⟩ := c.dd 3
  obtain ⟨fd_sign, F_sign⟩ := c.dd 4
  have F_sign := He5.fun_of (st := sRSign) F_sign
  have b_sign := F_sign.binds (ps := ["self"]) fun _ _ _ _ _ _ us hl => match us, hl with | [_], _ => rfl
  obtain ⟨fd_whole, F_whole⟩ := c.dd 5
  have F_whole := He5.fun_of (st := sRWhole) F_whole
  have b_whole := F_whole.binds (ps := ["self"]) fun _ _ _ _ _ _ us hl => match us, hl with | [_], _ => rfl
  obtain ⟨fd_add, F_add⟩ := c.dd 6
  have F_add := He5.fun_of (st := sRAdd) F_add
  have b_add := F_add.binds (ps := ["self", "other"]) fun _ _ _ _ _ _ us hl => match us, hl with | [_, _], _ => rfl
  obtain ⟨fd_sub, F_sub⟩ := c.dd 7
  have F_sub := He5.fun_of (st := sRSub) F_sub
  have b_sub := F_sub.binds (ps := ["self", "other"]) fun _ _ _ _ _ _ us hl => match us, hl with | [_, _], _ => rfl
  obtain ⟨fd_mul, F_mul⟩ := c.dd 8
  have F_mul := He5.fun_of (st := sRMul) F_mul
  have b_mul := F_mul.binds (ps := ["self", "other"]) fun _ _ _ _ _ _ us hl => match us, hl with | [_, _], _ => rfl
  obtain ⟨fd_over, F_over⟩ := c.dd 9
  have F_over := He5.fun_of (st := sROver) F_over
  have b_over := F_over.binds (ps := ["self", "other"]) fun _ _ _ _ _ _ us hl => match us, hl with | [_, _], _ => rfl
  obtain ⟨fd_cmp, F_cmp⟩ := c.dd 10
  have F_cmp := He5.fun_of (st := sRCmp) F_cmp
  have b_cmp := F_cmp.binds (ps := ["self", "other"]) fun _ _ _ _ _ _ us hl => match us, hl with | [_, _], _ => rfl
  obtain ⟨fd_below, F_below⟩ := c.dd 11
  have F_below := He5.fun_of (st := sRBelow) F_below
  have b_below := F_below.binds (ps := ["self", "other"]) fun _ _ _ _ _ _ us hl => match us, hl with | [_, _], _ => rfl
  obtain ⟨fd_neg, F_neg⟩ := c.dd 12
  have F_neg := He5.fun_of (st := sRNeg) F_neg
  have b_neg := F_neg.binds (ps := ["self"]) fun _ _ _ _ _ _ us hl => match us, hl with | [_], _ => rfl
  obtain ⟨fd_abs, F_abs⟩ := c.dd 13
  have F_abs := He5.fun_of (st := sRAbs) F_abs
  have b_abs := F_abs.binds (ps := ["self"]) fun _ _ _ _ _ _ us hl => match us, hl with | [_], _ => rfl
  obtain ⟨fd_bool, F_bool⟩ := c.dd 14
  have F_bool := He5.fun_of (st := sRBool) F_bool
  have b_bool := F_bool.binds (ps := ["self"]) fun _ _ _ _ _ _ us hl => match us, hl with | [_], _ => rfl
  obtain ⟨fd_eq, F_eq⟩ := c.dd 15
  have F_eq := He5.fun_of (st := sREq) F_eq
  have b_eq := F_eq.binds (ps := ["self", "other"]) fun _ _ _ _ _ _ us hl => match us, hl with | [_, _], _ => rfl
  obtain ⟨fd_str, F_str⟩ := c.dd 16
  have F_str := He5.fun_of (st := sRStr) F_str
  have b_str := F_str.binds (ps := ["self"]) fun _ _ _ _ _ _ us hl => match us, hl with | [_], _ => rfl
  obtain ⟨fd_repr, F_repr⟩ := c.dd 17
  have F_repr := He5.fun_of (st := sRRepr) F_repr
  have b_repr := F_repr.binds (ps := ["self"]) fun _ _ _ _ _ _ us hl => match us, hl with | [_], _ => rfl
  obtain ⟨fd_of, F_of⟩ := c.dd 18
  have F_of := He5.fun_of (st := sROf) F_of
  have b_of := F_of.binds (ps := ["value"]) fun _ _ _ _ _ _ us hl => match us, hl with | [_], _ => rfl
  obtain ⟨fd_added, F_added⟩ := c.dd 19
  have F_added := He5.fun_of (st := sAdded) F_added
  have b_added := F_added.binds (ps := ["ratios"]) fun _ _ _ _ _ _ us hl => match us, hl with | [_], _ => rfl
  have d_added : Df K mg "added" (ga K "added") := ⟨gl "added" (by decide +kernel), F_added.kp⟩
  obtain ⟨fd_least, F_least⟩ := c.dd 20
  have F_least := He5.fun_of (st := sLeast) F_least
  have b_least := F_least.binds (ps := ["ratios"]) fun _ _ _ _ _ _ us hl => match us, hl with | [_], _ => rfl
  have d_least : Df K mg "least_of" (ga K "least_of") := ⟨gl "least_of" (by decide +kernel), F_least.kp⟩
  obtain ⟨fd_greatest, F_greatest⟩ := c.dd 21
  have F_greatest := He5.fun_of (st := sGreatest) F_greatest
  have b_greatest := F_greatest.binds (ps := ["ratios"]) fun _ _ _ _ _ _ us hl => match us, hl with | [_], _ => rfl
  have d_greatest : Df K mg "greatest_of" (ga K "greatest_of") := ⟨gl "greatest_of" (by decide +kernel), F_greatest.kp⟩
  obtain ⟨fd_as, F_as⟩ := c.dd 22
  have F_as := He5.fun_of (st := sAsRatio) F_as
  have b_as := F_as.binds (ps := ["value"]) fun _ _ _ _ _ _ us hl => match us, hl with | [_], _ => rfl
  have d_as : Df K mg "as_ratio" (ga K "as_ratio") := ⟨gl "as_ratio" (by decide +kernel), F_as.kp⟩
  obtain ⟨fd_asr, F_asr⟩ := c.dd 23
  have F_asr := He5.fun_of (st := sAsRatios) F_asr
  have b_asr := F_asr.binds (ps := ["value"]) fun _ _ _ _ _ _ us hl => match us, hl with | [_], _ => rfl
  have d_asr : Df K mg "as_ratios" (ga K "as_ratios") := ⟨gl "as_ratios" (by decide +kernel), F_asr.kp⟩
  obtain ⟨fd_ot, F_ot⟩ := c.dd 24
  have F_ot := He5.fun_of (st := sOther) F_ot
  have b_ot := F_ot.binds (ps := ["other"]) fun _ _ _ _ _ _ us hl => match us, hl with | [_], _ => rfl
  have d_ot : Df K mg "_other_ratio" (ga K "_other_ratio") := ⟨gl "_other_ratio" (by decide +kernel), F_ot.kp⟩
  obtain ⟨fd_fur, F_fur⟩ := c.dd 25
  have F_fur := He5.fun_of (st := sFurthest) F_fur
  have b_fur := F_fur.binds (ps := ["ratios", "order"]) fun _ _ _ _ _ _ us hl => match us, hl with | [_, _], _ => rfl
  have d_fur : Df K mg "_furthest_of" (ga K "_furthest_of") := ⟨gl "_furthest_of" (by decide +kernel), F_fur.kp⟩
  obtain ⟨fd_lr, F_lr⟩ := c.dd 26
  have F_lr := He5.fun_of (st := sListedR) F_lr
  have b_lr := F_lr.binds (ps := ["ratios"]) fun _ _ _ _ _ _ us hl => match us, hl with | [_], _ => rfl
  have d_lr : Df K mg "_listed_ratios" (ga K "_listed_ratios") := ⟨gl "_listed_ratios" (by decide +kernel), F_lr.kp⟩
  obtain ⟨fd_pen, F_pen⟩ := c.dd 27
  have F_pen := He5.fun_of (st := sPen) F_pen
  have b_pen := F_pen.binds (ps := ["_law_script"]) fun _ _ _ _ _ _ us hl => match us, hl with | [_], _ => rfl
  have d_pen : Df K mg "_law_pen" (ga K "_law_pen") := ⟨gl "_law_pen" (by decide +kernel), F_pen.kp⟩
  obtain ⟨fd_draw, F_draw⟩ := c.dd 28
  have F_draw := He5.fun_of (st := sDraw) F_draw
  have b_draw := F_draw.binds (ps := ["_law_pen_here", "_law_many"]) fun _ _ _ _ _ _ us hl => match us, hl with | [_, _], _ => rfl
  have d_draw : Df K mg "_law_draw" (ga K "_law_draw") := ⟨gl "_law_draw" (by decide +kernel), F_draw.kp⟩
  obtain ⟨fd_pick, F_pick⟩ := c.dd 29
  have F_pick := He5.fun_of (st := sPick) F_pick
  have b_pick := F_pick.binds (ps := ["_law_pen_here", "_law_some"]) fun _ _ _ _ _ _ us hl => match us, hl with | [_, _], _ => rfl
  have d_pick : Df K mg "_law_pick" (ga K "_law_pick") := ⟨gl "_law_pick" (by decide +kernel), F_pick.kp⟩
  obtain ⟨fd_integer, F_integer⟩ := c.dd 30
  have F_integer := He5.fun_of (st := sInteger) F_integer
  have b_integer := F_integer.binds (ps := ["_law_pen_here"]) fun _ _ _ _ _ _ us hl => match us, hl with | [_], _ => rfl
  have d_integer : Df K mg "_law_integer" (ga K "_law_integer") := ⟨gl "_law_integer" (by decide +kernel), F_integer.kp⟩
  obtain ⟨fd_low, F_low⟩ := c.dd 31
  have F_low := He5.fun_of (st := sLow) F_low
  have b_low := F_low.binds (ps := ["_law_top", "_law_bottom"]) fun _ _ _ _ _ _ us hl => match us, hl with | [_, _], _ => rfl
  have d_low : Df K mg "_law_low" (ga K "_law_low") := ⟨gl "_law_low" (by decide +kernel), F_low.kp⟩
  obtain ⟨fd_is, F_is⟩ := c.dd 32
  have F_is := He5.fun_of (st := sIs) F_is
  have b_is := F_is.binds (ps := ["_law_value", "_law_pair"]) fun _ _ _ _ _ _ us hl => match us, hl with | [_, _], _ => rfl
  have d_is : Df K mg "_law_is" (ga K "_law_is") := ⟨gl "_law_is" (by decide +kernel), F_is.kp⟩
  obtain ⟨fd_part, F_part⟩ := c.dd 33
  have F_part := He5.fun_of (st := sPart) F_part
  have b_part := F_part.binds (ps := ["_law_way", "_law_ratio", "_law_odd"]) fun _ _ _ _ _ _ us hl => match us, hl with | [_, _, _], _ => rfl
  have d_part : Df K mg "_law_part" (ga K "_law_part") := ⟨gl "_law_part" (by decide +kernel), F_part.kp⟩
  obtain ⟨fd_two, F_two⟩ := c.dd 34
  have F_two := He5.fun_of (st := sTwo) F_two
  have b_two := F_two.binds (ps := ["_law_one", "_law_first", "_law_other", "_law_second"]) fun _ _ _ _ _ _ us hl => match us, hl with | [_, _, _, _], _ => rfl
  have d_two : Df K mg "_law_two_right" (ga K "_law_two_right") := ⟨gl "_law_two_right" (by decide +kernel), F_two.kp⟩
  obtain ⟨fd_lists, F_lists⟩ := c.dd 35
  have F_lists := He5.fun_of (st := sLists) F_lists
  have b_lists := F_lists.binds (ps := ["_law_values", "_law_pairs"]) fun _ _ _ _ _ _ us hl => match us, hl with | [_, _], _ => rfl
  have d_lists : Df K mg "_law_lists_right" (ga K "_law_lists_right") := ⟨gl "_law_lists_right" (by decide +kernel), F_lists.kp⟩
  obtain ⟨fd_refused, F_refused⟩ := c.dd 36
  have F_refused := He5.fun_of (st := sRefused) F_refused
  have b_refused := F_refused.binds (ps := ["_law_pen_here", "_law_ratio"]) fun _ _ _ _ _ _ us hl => match us, hl with | [_, _], _ => rfl
  have d_refused : Df K mg "_law_refused_right" (ga K "_law_refused_right") := ⟨gl "_law_refused_right" (by decide +kernel), F_refused.kp⟩
  obtain ⟨fd_law, F_law⟩ := c.dd 37
  have F_law := He5.fun_of (st := sLaw) F_law
  have b_law := F_law.binds (ps := ["_law_script"]) fun _ _ _ _ _ _ us hl => match us, hl with | [_], _ => rfl
  have d_law : Df K mg "law" (ga K "law") := ⟨gl "law" (by decide +kernel), F_law.kp⟩
  have T : RCl K mg (cC K) := { cl := ⟨((c.fact 5)), ((c.fact 6)), ((c.fact 7)), (eqB_ok (c.fact 8))⟩, nT := (eqB_ok (c.fact 9)), nB := (eqB_ok (c.fact 10)), v_Ratio := ⟨_, (gl "Ratio" (by decide +kernel)), rfl⟩, ha := (eqB_ok (c.fact 11)), hn := (eqB_ok (c.fact 2)), ht := (of_decide_eq_true (c.fact 3)), hm := (of_decide_eq_true (c.fact 12)), me := (of_decide_eq_true (c.fact 13)), gcd := (PySem.W.mg_of X G (eqB_ok (c.fact 4))) }
  have Tb : BRC K mg (cD K) (ma K (cD K) "__init__") := { ox := ⟨oexB_ok ((c.fact 15)), (eqB_ok (c.fact 16)), (of_decide_eq_true (c.fact 14)), (of_decide_eq_true (c.fact 17)), ((c.fact 18))⟩, nP := (eqB_ok (c.fact 19)), gl := (gl "BadRatio" (by decide +kernel)), iC := (eqB_ok (c.fact 20)), tI := (of_decide_eq_true (c.fact 21)) }
  obtain ⟨u60, most⟩ := (intC_of (c.fact 27))
  obtain ⟨w1, w2⟩ := (He5.wrapB_ok (c.fact 28))
  have M_R : Mk K (cC K) (ma K (cC K) "__init__") := ⟨((c.fact 47)), (eqB_ok (c.fact 48)), ((c.fact 49)), ((c.fact 50))⟩
  have d_R : Df K mg "Ratio" (cC K) := ⟨(gl "Ratio" (by decide +kernel)), M_R.kp⟩
  obtain ⟨ds, hds, b_R⟩ := F_ri.binds1 (ps := ["self", "top", "bottom"]) 3 1 (List.cons_ne_nil _ _) rfl fun _ _ _ _ _ _ _ us its h1 h2 => match us, its, h1, h2 with | [_, _, _], [_], _, _ => ⟨_, rfl, rfl⟩
  cases hds
  obtain ⟨ds1, v_R1, b_R1⟩ := F_ri.binds1 (ps := ["self", "top", "bottom"]) 2 0 (List.cons_ne_nil _ _) rfl fun _ _ _ _ _ _ _ us its h1 h2 => match us, its, h1, h2 with | [_, _], [_], _, _ => ⟨_, rfl, rfl⟩
  obtain ⟨its, kbn⟩ := F_ri.kbindsD (ps := ["self", "top", "bottom"]) 1 ["bottom", "top"] (fun us its ws => us ++ ws.reverse) (List.cons_ne_nil _ _) (fun r1 r2 r3 => r1.append (vals_rev r3)) fun _ _ _ _ _ _ _ us its ws h1 h2 h3 => match us, its, ws, h1, h2, h3 with | [_], [_], [_, _], _, _, _ => ⟨_, rfl, rfl⟩
  have kb_added : KBinds K fd_added ["ratios"] ["ratios"] (fun us ws => us ++ ws) (fun vs zs => vs ++ zs) := by
    obtain ⟨oc, od, kV, doc, pm, an, cdv, ct, osl, rfl, lk, hcd⟩ := F_added.ex
    exact ⟨fun s us ws _ hl => match us, ws, hl with
      | [], [_], _ => .of_eq rfl
      | [_], [], _ => .of_eq rfl, fun r1 r2 => r1.append r2⟩
  have kb_greatest : KBinds K fd_greatest ["ratios"] ["ratios"] (fun us ws => us ++ ws) (fun vs zs => vs ++ zs) := by
    obtain ⟨oc, od, kV, doc, pm, an, cdv, ct, osl, rfl, lk, hcd⟩ := F_greatest.ex
    exact ⟨fun s us ws _ hl => match us, ws, hl with
      | [], [_], _ => .of_eq rfl
      | [_], [], _ => .of_eq rfl, fun r1 r2 => r1.append r2⟩
  refine ⟨fd_law, ?_, fun base _ => ?_⟩
  · obtain ⟨oc, od, kV, doc, pm, an, cdv, ct, osl, rfl, lk, hcd⟩ := F_law.ex
    exact fun s u => .of_eq rfl
  · have G_int := ok_int (P := P) (w := w) (base := base) F_int B
    have G_br := ok_br (P := P) (w := w) (mg := mg) (base := base) F_br Tb
    have G_R := ok_rinit F_ri T Tb G_br b_br G_int b_int d_int
    have kI := (of_decide_eq_true (c.fact 52))
    have G_as := ok_as F_as B T kI G_int b_int d_int M_R G_R b_R1 v_R1 d_R
    have G_ot := ok_ot F_ot Tb G_br b_br G_as b_as d_as
    have G_add := ok_add F_add T G_ot b_ot d_ot M_R G_R b_R d_R
    have G_sub := ok_sub F_sub T G_ot b_ot d_ot M_R G_R b_R d_R
    have G_mul := ok_mul F_mul T G_ot b_ot d_ot M_R G_R b_R d_R
    have G_over := ok_over F_over T Tb G_br b_br G_ot b_ot d_ot M_R G_R b_R d_R
    have G_cmp := ok_cmp F_cmp T G_ot b_ot d_ot
    have Mc : Meth K (cC K) "compared" _ := ⟨(eqB_ok (c.fact 66)), ((c.fact 67)), F_cmp.kp⟩
    have G_below := ok_below F_below T Mc G_cmp b_cmp
    have G_neg := ok_neg F_neg T M_R G_R b_R d_R
    have G_abs := ok_abs F_abs B T M_R G_R b_R d_R
    have G_sign := ok_sign (P := P) (w := w) (mg := mg) (base := base) F_sign T
    have G_whole := ok_iswhole (P := P) (w := w) (mg := mg) (base := base) F_whole T
    have G_bool := ok_bool (P := P) (w := w) (base := base) F_bool B T
    have G_eq := ok_eq F_eq T B kI G_int b_int d_int
    have G_str := ok_rstr (P := P) (w := w) (base := base) F_str T B
    have G_repr := ok_rrepr F_repr B G_str b_str (eqB_ok (c.fact 41)) ((c.fact 42))
    have G_of := ok_of F_of Tb G_br b_br G_as b_as d_as
    have G_listed := ok_listed (P := P) (w := w) (base := base) F_listed B
    have G_asr := ok_asr F_asr B G_listed b_listed d_listed G_as b_as d_as
    have G_lr := ok_lr F_lr Tb G_br b_br G_asr b_asr d_asr
    have G_added := ok_added F_added M_R G_R b_R1 v_R1 d_R G_lr b_lr d_lr ((c.fact 55)) (eqB_ok (c.fact 29)) ((c.fact 30)) G_add b_add
    have G_fur := ok_fur F_fur T Tb G_br b_br G_lr b_lr d_lr Mc G_cmp b_cmp
    have G_least := ok_least F_least G_fur b_fur d_fur
    have G_greatest := ok_greatest F_greatest G_fur b_fur d_fur
    have R : RT P w K mg base (cC K) _ _ _ _ _ _ _ fd_str fd_repr fd_bool fd_sign fd_whole := { fStr := (eqB_ok (c.fact 41)), iStr := ((c.fact 42)), G_str := G_str, b_str := b_str, fRepr := (eqB_ok (c.fact 43)), iRepr := ((c.fact 44)), G_repr := G_repr, b_repr := b_repr, fBool := (eqB_ok (c.fact 45)), iBool := ((c.fact 46)), G_bool := G_bool, b_bool := b_bool, sign := ⟨(eqB_ok (c.fact 133)), (eqB_ok (c.fact 134)), (of_decide_eq_true (c.fact 135)), recB_ok ((c.fact 136))⟩, G_sign := G_sign, b_sign := b_sign, whole := ⟨(eqB_ok (c.fact 137)), (eqB_ok (c.fact 138)), (of_decide_eq_true (c.fact 139)), recB_ok ((c.fact 140))⟩, G_whole := G_whole, b_whole := b_whole }
    have RXX : RX P w K mg base (cC K) (cD K) := { T := T, fB := _, Tb := Tb, PK := cP K, gP := (gl "PeekError" (by decide +kernel)), ex := (of_decide_eq_true (c.fact 53)), xf := (xfB_ok ((c.fact 54))), ec := ⟨(eqB_ok (c.fact 22)), (eqB_ok (c.fact 23)), (of_decide_eq_true (c.fact 14)), ((c.fact 24)), (eqB_ok (c.fact 25)), (eqB_ok (c.fact 2)), (of_decide_eq_true (c.fact 3)), (of_decide_eq_true (c.fact 26))⟩, me := (of_decide_eq_true (c.fact 51)), kI := (of_decide_eq_true (c.fact 52)), sf := ((c.fact 55)), gAdd := _, fdAdd := _, s_add := (eqB_ok (c.fact 29)), i_add := ((c.fact 30)), r_add := (eqB_ok (c.fact 61)), G_add := G_add, b_add := b_add, gSub := _, fdSub := _, s_sub := (eqB_ok (c.fact 31)), i_sub := ((c.fact 32)), r_sub := (eqB_ok (c.fact 62)), G_sub := G_sub, b_sub := b_sub, gMul := _, fdMul := _, s_mul := (eqB_ok (c.fact 33)), i_mul := ((c.fact 34)), r_mul := (eqB_ok (c.fact 63)), G_mul := G_mul, b_mul := b_mul, gOver := _, fdOver := _, m_over := ⟨(eqB_ok (c.fact 64)), ((c.fact 65)), F_over.kp⟩, G_over := G_over, b_over := b_over, gCmp := _, fdCmp := _, m_cmp := ⟨(eqB_ok (c.fact 66)), ((c.fact 67)), F_cmp.kp⟩, G_cmp := G_cmp, b_cmp := b_cmp, gBelow := _, fdBelow := _, m_below := ⟨(eqB_ok (c.fact 68)), ((c.fact 69)), F_below.kp⟩, G_below := G_below, b_below := b_below, mc := _, rd := ⟨((c.fact 59)), (eqB_ok (c.fact 60))⟩, qOf := _, gOf := _, fdOf := _, st := ⟨w1, w2, F_of.kp⟩, G_of := G_of, b_of := b_of, fR := _, fdR := _, M_R := M_R, G_R := G_R, b_R := b_R, ds := ds1, v_R1 := v_R1, b_R1 := b_R1, d_R := d_R, ne := (eqB_ok (c.fact 56)), nfC := ((c.fact 70)), gEq := _, fdEq := _, s_eq := (eqB_ok (c.fact 35)), i_eq := ((c.fact 36)), G_eq := G_eq, b_eq := b_eq, i_addI := ⟨(Option.isSome_iff_exists.mp (c.fact 71)), (Option.isSome_iff_exists.mp (c.fact 72)), (of_decide_eq_true (c.fact 73))⟩, i_subI := ⟨(Option.isSome_iff_exists.mp (c.fact 74)), (Option.isSome_iff_exists.mp (c.fact 75)), (of_decide_eq_true (c.fact 73))⟩, i_mulI := ⟨(Option.isSome_iff_exists.mp (c.fact 76)), (Option.isSome_iff_exists.mp (c.fact 77)), (of_decide_eq_true (c.fact 73))⟩, nfI := ((c.fact 78)), oN := ⟨(of_decide_eq_true (c.fact 79)), .inl (kit_ty (by decide +kernel)), ⟨(Option.isSome_iff_exists.mp (c.fact 80)), (Option.isSome_iff_exists.mp (c.fact 81)), (of_decide_eq_true (c.fact 82))⟩, ⟨(Option.isSome_iff_exists.mp (c.fact 83)), (Option.isSome_iff_exists.mp (c.fact 84)), (of_decide_eq_true (c.fact 82))⟩, ⟨(Option.isSome_iff_exists.mp (c.fact 85)), (Option.isSome_iff_exists.mp (c.fact 86)), (of_decide_eq_true (c.fact 82))⟩, ((c.fact 87))⟩, oB := ⟨(of_decide_eq_true (c.fact 88)), .inr ⟨kit_ty (by decide +kernel), kit_ty (by decide +kernel)⟩, ⟨(Option.isSome_iff_exists.mp (c.fact 89)), (Option.isSome_iff_exists.mp (c.fact 90)), (of_decide_eq_true (c.fact 91))⟩, ⟨(Option.isSome_iff_exists.mp (c.fact 92)), (Option.isSome_iff_exists.mp (c.fact 93)), (of_decide_eq_true (c.fact 91))⟩, ⟨(Option.isSome_iff_exists.mp (c.fact 94)), (Option.isSome_iff_exists.mp (c.fact 95)), (of_decide_eq_true (c.fact 91))⟩, ((c.fact 96))⟩, oS := ⟨(of_decide_eq_true (c.fact 97)), .inl (kit_ty (by decide +kernel)), ⟨(Option.isSome_iff_exists.mp (c.fact 98)), (Option.isSome_iff_exists.mp (c.fact 99)), (of_decide_eq_true (c.fact 100))⟩, ⟨(Option.isSome_iff_exists.mp (c.fact 101)), (Option.isSome_iff_exists.mp (c.fact 102)), (of_decide_eq_true (c.fact 100))⟩, ⟨(Option.isSome_iff_exists.mp (c.fact 103)), (Option.isSome_iff_exists.mp (c.fact 104)), (of_decide_eq_true (c.fact 100))⟩, ((c.fact 105))⟩, oT := ⟨(of_decide_eq_true (c.fact 106)), .inl (kit_ty (by decide +kernel)), ⟨(Option.isSome_iff_exists.mp (c.fact 107)), (Option.isSome_iff_exists.mp (c.fact 108)), (of_decide_eq_true (c.fact 109))⟩, ⟨(Option.isSome_iff_exists.mp (c.fact 110)), (Option.isSome_iff_exists.mp (c.fact 111)), (of_decide_eq_true (c.fact 109))⟩, ⟨(Option.isSome_iff_exists.mp (c.fact 112)), (Option.isSome_iff_exists.mp (c.fact 113)), (of_decide_eq_true (c.fact 109))⟩, ((c.fact 114))⟩, oL := ⟨(of_decide_eq_true (c.fact 115)), .inl (kit_ty (by decide +kernel)), ⟨(Option.isSome_iff_exists.mp (c.fact 116)), (Option.isSome_iff_exists.mp (c.fact 117)), (of_decide_eq_true (c.fact 118))⟩, ⟨(Option.isSome_iff_exists.mp (c.fact 119)), (Option.isSome_iff_exists.mp (c.fact 120)), (of_decide_eq_true (c.fact 118))⟩, ⟨(Option.isSome_iff_exists.mp (c.fact 121)), (Option.isSome_iff_exists.mp (c.fact 122)), (of_decide_eq_true (c.fact 118))⟩, ((c.fact 123))⟩, oD := ⟨(of_decide_eq_true (c.fact 124)), .inl (kit_ty (by decide +kernel)), ⟨(Option.isSome_iff_exists.mp (c.fact 125)), (Option.isSome_iff_exists.mp (c.fact 126)), (of_decide_eq_true (c.fact 127))⟩, ⟨(Option.isSome_iff_exists.mp (c.fact 128)), (Option.isSome_iff_exists.mp (c.fact 129)), (of_decide_eq_true (c.fact 127))⟩, ⟨(Option.isSome_iff_exists.mp (c.fact 130)), (Option.isSome_iff_exists.mp (c.fact 131)), (of_decide_eq_true (c.fact 127))⟩, ((c.fact 132))⟩, kL := (of_decide_eq_true (c.fact 57)), kT := (of_decide_eq_true (c.fact 58)), gNeg := _, fdNeg := _, s_neg := (eqB_ok (c.fact 37)), i_neg := ((c.fact 38)), G_neg := G_neg, b_neg := b_neg, gAbs := _, fdAbs := _, s_abs := (eqB_ok (c.fact 39)), i_abs := ((c.fact 40)), G_abs := G_abs, b_abs := b_abs, kbn := kbn, u60 := u60, most := most, gAdded := _, fdAdded := _, G_added := G_added, b_added := b_added, d_added := d_added, kb_added := kb_added, gLeast := _, fdLeast := _, G_least := G_least, b_least := b_least, d_least := d_least, gGreatest := _, fdGreatest := _, G_greatest := G_greatest, b_greatest := b_greatest, d_greatest := d_greatest, kb_greatest := kb_greatest }
    have G_pen := ok_pen (P := P) (w := w) (base := base) F_pen B
    have G_draw := ok_draw (P := P) (w := w) (base := base) F_draw B
    have G_pick := ok_pickL F_pick B G_draw b_draw d_draw
    have G_integer := ok_integer F_integer B G_draw b_draw d_draw G_pick b_pick d_pick
    have G_low := ok_low (P := P) (w := w) (base := base) F_low B
    have G_is := ok_is F_is B T R
    have G_part := ok_part F_part B RXX
    have G_two := ok_two F_two B RXX G_low b_low d_low G_is b_is d_is G_part b_part d_part
    have G_lists := ok_lists F_lists B RXX G_low b_low d_low G_is b_is d_is G_part b_part d_part
    have G_refused := ok_refused F_refused B RXX R G_part b_part d_part G_pick b_pick d_pick
    exact ok_law F_law B RXX G_pen b_pen d_pen G_integer b_integer d_integer G_draw b_draw d_draw G_pick b_pick d_pick G_low b_low d_low G_is b_is d_is G_two b_two d_two G_lists b_lists d_lists G_refused b_refused d_refused
end K01
end

section -- K01yc
set_option linter.all false
set_option maxRecDepth 100000
set_option maxHeartbeats 0
namespace K01
open PySem PySem.Spec L2 Pk
abbrev oRow : PySem.W.OpenRow := PySem.W.OpenLaw.row PySem.Challenge.rw_peekproof_k01_ratios_by_an_own_walk
abbrev vw : Program := PySem.W.view oRow.prog [0, 32]
def loose : List Str := ["__name__", "is_integer", "is_listed", "PeekError", "BadRatio", "BadText", "_DIGITS", "Ratio", "added", "least_of", "greatest_of", "as_ratio", "as_ratios", "ratio_of_word", "_is_whole_number", "_other_ratio", "_furthest_of", "_listed_ratios", "_law_pen", "_law_draw", "_law_pick", "_law_integer", "_law_low", "_law_is", "_law_part", "_law_two_right", "_law_lists_right", "_law_refused_right"]
abbrev hk : PySem.W.Hook := hookB 6 looks fns
def ob (s : PySem.W.SharedT) : Seen := seenG 6 looks fns (HandSHeadRun.getT s)
theorem ob_eq (s : PySem.W.SharedT) : ob s = hk.obs s.abs := by
  have e : HandSHeadRun.getT s = s.abs.heap.get? := funext (HandSHeadRun.getT_eq s)
  show seenG 6 looks fns (HandSHeadRun.getT s) = seenG 6 looks fns s.abs.heap.get?
  rw [e]
theorem run (w : World) : HandSHeadRun.RunEqI oRow vw hk ob 6000 loose w := by
  unfold HandSHeadRun.RunEqI
  kernel_rfl
end K01
end

section -- K01yd
set_option linter.all false
set_option maxRecDepth 100000
set_option maxHeartbeats 0
open PySem PySem.W PySem.Calls PyProof.Rows
theorem PySem.Challenge.cw_peekproof_k01_ratios_by_an_own_walk_holds : PySem.Challenge.rw_peekproof_k01_ratios_by_an_own_walk.Holds := by
  w_on; o_law
  refine HandSHeadRun.head_imp (r := K01.oRow) (q := K01.vw) (H := K01.hk) (ob := K01.ob) (M := 6000) (loose := K01.loose) (d := HandSHeadRun.topDef K01.oRow.prog 32) (kwd := []) K01.ob_eq K01.run
    (by kernel_rfl) (by kernel_rfl) (by kernel_rfl) (by rfl) (by first | assumption | decide +kernel) (by decide +kernel) ⟨rfl, rfl, rfl, rfl, rfl, by decide +kernel⟩ ?hw ?hc
  case hw => exact ⟨[.list []], by decide +kernel, by decide +kernel⟩
  case hc =>
    refine Pk.walkG (l := PySem.Challenge.rw_peekproof_k01_ratios_by_an_own_walk) (n := 63) (k := 13) (x := "_law_script") rfl (by decide) (by kernel_rfl) ⟨rfl, by decide, by decide⟩ ?F
    intro w mg fa h Y G hmg0
    obtain ⟨K, KX, c⟩ := Y
    have hmg : mg ("law" : PySem.Str) = some (.ref fa) := by
      have e : (HandSHeadRun.topDef K01.oRow.prog 32).name = ("law" : PySem.Str) := by kernel_rfl
      rw [← e]
      exact hmg0
    obtain ⟨fd, hb, hF⟩ := K01.told (P := (PySem.Challenge.rw_peekproof_k01_ratios_by_an_own_walk).prog) (w := w) KX G hmg c
    exact ⟨K, fd, K01.spLaw K, KX, hb, fun H a ns hS => ⟨a, ns, rfl, hS, fun _ => rfl⟩, hF⟩
end
