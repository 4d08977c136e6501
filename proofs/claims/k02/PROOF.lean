import PyProof.Rows.All
import Wide.All
import OpenK.AllK
import Wide.FinOn
import HandS.ForMost
import HandS.Exc
import HandS.TryOnly
import HandS.ExcOwn
import HandS.ExcInit
import HandS.ExcField
import HandS.ExcIs
import HandS.IsInst
import HandS.OwnEq
import HandS.FStr
import HandS.Wide
import HandS.Gcd
import HandS.ClsMeth
import HandS.WordsExc
import HandS.Defaults
import HandS.CallSlots
import HandS.RaiseMore
import HandS.Walk
import HandS.Codes
import HandS.Evl
import HandS.Steps
import HandS.Head0
import HandS.Head1
import HandS.Head2
import HandS.Head3
import HandS.HeadHook1
import HandS.HeadHook2
import HandS.HeadNt
import HandS.Replace
import PySem.Challenge.RW_peekproof_k02_texts_of_ratios_bent
set_option Elab.async false
section -- PkA
set_option linter.all false
set_option maxRecDepth 100000
set_option maxHeartbeats 2000000
/-! PkA: rules of our own for the laws of Peekproof: calls by one form, static methods, the exception that is kept, repr of data. -/
namespace Pk
open PySem PySem.Spec L2
open PyProof.Rows hiding St

/-! ### calls: what is asked may hang on the caller's slots -/
def CallS (X : Cx) (f : Value) (r : St → List V → Hp → VK → Prop) : Prop :=
  ∀ (pins : List (Addr × Obj)) (s : Shared) (σ : St) (H : Hp) (vs : List V) (us : List Value) (Q : VK), Inv X pins σ H s → Vals vs us → r σ vs H Q →
    wpAny (model X.prog X.w) X.A (call f us) (EP X pins σ Q) X.xe s
theorem calls_of {X : Cx} {f : Value} {r : List V → Hp → VK → Prop} (c : CallR X f r) : CallS X f (fun _ => r) :=
  fun pins s σ H vs us Q I rv q => c pins s σ H vs us Q I rv q
section
variable {X : Cx} {CX : CXT} {k : Nat} {f C : Addr} {fd : FuncData} {ps : List Str} {sp : Sp} {dvs : List V} {ds : List Value}
theorem calls_fn {E : XK} (F : FnOk X.prog X.w X.K X.mg X.base CX k f fd ps sp) (hr : Room k X.A) (hb : Binds X.K fd ps ds) (hd : Vals dvs ds) (hx : Passes CX X E) :
    CallS X (.ref f) (fun _ vs H Q => sp (vs ++ dvs) H Q E) :=
  fun _ _ _ _ _ _ _ I rv q => run_fn F hr hb hd hx I rv q
theorem calls_fnS {E : St → XK} (F : FnOk X.prog X.w X.K X.mg X.base CX k f fd ps sp) (hr : Room k X.A) (hb : Binds X.K fd ps ds) (hd : Vals dvs ds) (hx : ∀ σ, PassesAt CX X σ (E σ)) :
    CallS X (.ref f) (fun σ vs H Q => sp (vs ++ dvs) H Q (E σ)) :=
  fun _ _ σ _ _ _ _ I rv q => run_fnSD F hr hb hd (hx σ) I rv q
theorem calls_make {E : XK} (M : Mk X.K C f) (F : FnOk X.prog X.w X.K X.mg X.base CX k f fd ps sp) (hr : Room (k + 1) X.A) (hb : Binds X.K fd ps ds) (hd : Vals dvs ds) (hx : Passes CX X E) :
    CallS X (.ref C) (fun _ vs H Q => ∀ x dx, H x = none → H dx = none → dx ≠ x → sp (.ref x :: (vs ++ dvs)) (upd (upd H dx (.own x)) x (.ins C dx [])) (fun v H2 => v = .non ∧ Q (.ref x) H2) E) :=
  fun _ _ _ _ _ _ _ I rv q => run_make M F hr hb hd hx I rv q
end
/-- f(e, ..), f a name of the module -/
def tCS (r : St → List V → Hp → VK → Prop) (t : TA) : TE := fun σ H Q => t σ H fun vs H1 => r σ vs H1 Q
section
variable {X : Cx} {f : Addr} {r : St → List V → Hp → VK → Prop} {x : Str} {p pos apos : Pos} {e o : Expr} {es : List Expr} {t : TA} {ta : TE}
theorem pe_cs (c : CallS X (.ref f) r) (hm : X.mg x = some (.ref f)) (hk : PySem.W.keepIn X.K (.ref f) = true) (ha : PA X (e :: es) t) (hg : Gl X x := by rfl)
    (hdb : (x == ("__debug__" : Str)) = false := by decide) (he : starEach (e :: es) X.env = (false, eval e X.env) :: starEach es X.env := by rfl) (hpl : (backTo pos (starEach es X.env)).any (·.1) = false := by rfl) :
    PE X (.Call (.Name x p) (e :: es) [] pos) (tCS r t) := by
  refine ⟨fun pins s σ H Q I q => ?_⟩
  refine wpAny_Call_Name_kw (ld_glob I hg hm ?_ hdb)
  exact PySem.W.callWith_K (h₀ := X.base) I.ok.mod.kin hk (thn (ha.run pos pins s σ H _ I q) fun us s1 ⟨vs, H1, I1, rv, q1⟩ => ⟨I1.kIn, c pins s1 σ H1 vs us Q I1 rv q1⟩) he hpl
/-- what the text tells of a static method m of the class at C: its record at p, its def at g -/
structure StM (K : PySem.W.Frag) (C : Addr) (mc : Value) (m : Str) (p g : Addr) : Prop where
  look : PySem.W.findCls K (.ref C) mc m = some (.get (.builtin "staticmethod.__get__") (.ref p) .none (.ref C))
  rcd : ∃ more, PySem.W.recIn K p "staticmethod" = some (.ref g :: more)
  keep : PySem.W.keepIn K (.ref g) = true
theorem getstat_ok {C q g : Addr} {mc : Value} {m : Str} {pins : List (Addr × Obj)} {σ : St} {H : Hp} {s : Shared} {A : Around} {E : Value → Shared → Prop} {pl : Sem Bool} {Q : Value × List Value → Shared → Prop}
    (I : Inv X pins σ H s) (rd : ClX.CRead X.K C mc) (k : StM X.K C mc m q g) (h : ∀ s', Inv X pins σ H s' → Q (.ref g, []) s') : wpAny (model X.prog X.w) A (getMethod (.ref C) m pl) Q E s := by
  obtain ⟨more, hp⟩ := k.rcd
  refine PySem.W.method_cls I.kIn rd.ga (PySem.W.cls_bind I.kIn rd.rd k.look ?_)
  refine wpAny_call (PySem.W.sm_get (s := { s with toks := s.toks + 1 }) I.kIn hp (PySem.W.handed_on rfl ?_))
  exact h _ (I.tok _)
/-- C.m(e, ..), m a static method -/
def tSt (C : Addr) (r : St → List V → Hp → VK → Prop) (ta : TE) (t : TA) : TE := fun σ H Q => ta σ H fun x H1 => x = .ref C ∧ t σ H1 fun vs H2 => r σ vs H2 Q
theorem pe_stat {C q g : Addr} {mc : Value} {m : Str} {pl : Sem Bool} (ho : PE X o ta) (rd : ClX.CRead X.K C mc) (k : StM X.K C mc m q g) (c : CallS X (.ref g) r) (ha : PA X (e :: es) t)
    (he : starEach (e :: es) X.env = (false, eval e X.env) :: starEach es X.env := by rfl) (hpl : (backTo pos (starEach es X.env)).any (·.1) = false := by rfl)
    (ht : eval (.Call (.Attribute o m apos) (e :: es) [] pos) X.env = (do let z ← eval o X.env; standAt apos.atName; let (fn, fs) ← holding [z] (getMethod z m pl); callWith pos fn fs (backTo pos (starEach (e :: es) X.env)) (backToKw pos (keywordEach [] X.env))) := by rfl) :
    PE X (.Call (.Attribute o m apos) (e :: es) [] pos) (tSt C r ta t) := by
  refine ⟨fun pins s σ H Q I w => ?_⟩
  refine PySem.W.methodCall_KW (pl := pl) (thn (ho.run pins s σ H _ I w) fun u s1 ⟨x, H1, I1, rx, ex, w1⟩ => ?_) ht
  subst ex
  obtain rfl : u = Value.ref C := rx
  refine getstat_ok I1 rd k fun s2 I2 => ?_
  exact PySem.W.callWith_K (first := []) (h₀ := X.base) I2.ok.mod.kin k.keep (thn (ha.run pos pins s2 σ H1 _ I2 w1) fun us s3 ⟨vs, H2, I3, rv, w2⟩ => ⟨I3.kIn, c pins s3 σ H2 vs us Q I3 rv w2⟩) he hpl
end

/-! ### a callee, run where a built-in calls it -/
def RunAt (X : Cx) (A : Around) (f : Addr) (r : List V → Hp → VK → Prop) : Prop :=
  ∀ (pins : List (Addr × Obj)) (s : Shared) (σ : St) (H : Hp) (vs : List V) (us : List Value) (Q : VK), Inv X pins σ H s → Vals vs us → r vs H Q → wpAny (model X.prog X.w) A (call (.ref f) us) (EP X pins σ Q) X.xe s
theorem env0_at {X : Cx} {A : Around} {pins : List (Addr × Obj)} {σ : St} {H : Hp} {s : Shared} (I : Inv X pins σ H s) (hA : A.frames = X.A.frames) : Env0 X.prog X.w X.K X.mg X.base A X.stack s H := by
  have e := I.env0
  exact ⟨hA.trans e.frames, e.mod, e.bs, e.bsz, e.funs, e.frf, e.hok, e.bare⟩
section
variable {X : Cx} {CX : CXT} {k : Nat} {f C : Addr} {fd : FuncData} {ps : List Str} {sp : Sp} {E : XK} {A : Around}
theorem endOf {pins : List (Addr × Obj)} {σ : St} {H : Hp} {s : Shared} {Q : VK} (hx : Passes CX X E) (I : Inv X pins σ H s) {r : Result} {s' : Shared} (q : CR CX X.stack X.prog X.w H s Q E r s') :
    (∃ u, r = .ok (.ret u) ∧ EP X pins σ Q u s') ∨ ∃ e, r = .error e ∧ X.xe e s' := by
  cases r with
  | error e => exact .inr ⟨e, rfl, hx pins σ H s e s' I q⟩
  | ok fl =>
    cases fl with
    | ret u => exact .inl ⟨u, rfl, I.after q⟩
    | next => exact (show False from q).elim
    | brk => exact (show False from q).elim
    | cont => exact (show False from q).elim
theorem runAt_fn (F : FnOk X.prog X.w X.K X.mg X.base CX k f fd ps sp) (hr : Room k A) (hA : A.frames = X.A.frames) (hb : Binds X.K fd ps []) (hx : Passes CX X E) : RunAt X A f (fun vs H Q => sp vs H Q E) := by
  intro pins s σ H vs us Q I rv q
  have hl : us.length = ps.length := rv.length.symm.trans (F.len _ _ _ _ q)
  have b := hb s us I.kIn (by rw [List.append_nil]; exact hl)
  rw [List.append_nil] at b
  refine wpAny_call (codeAny_mono (F.run A X.stack s H ⟨us, []⟩ us vs Q E hr (env0_at I hA) b rv q) fun r s' w => ?_)
  rcases endOf hx I w with ⟨u, rfl, z⟩ | ⟨e, rfl, z⟩
  · exact z
  · exact z
end
/-! ### defs that are known where nothing is being shown: repr -/
/-- as FnOk, where no repr is under way -/
structure FnG (P : Program) (w : World) (K : PySem.W.Frag) (mg : Str → Option Value) (base : Heap) (CX : CXT) (k : Nat) (f : Addr) (fd : FuncData) (ps : List Str) (sp : Sp) : Prop where
  len : ∀ vs H Q E, sp vs H Q E → vs.length = ps.length
  go : ∀ (A : Around) (l : List Env) (s : Shared) (H : Hp) (args : Args) (us : List Value) (vs : List V) (Q : VK) (E : XK), Room k A → A.guards = some [] → Env0 P w K mg base A l s H → BindsTo s fd args (ps.zip us) → Vals vs us →
    sp vs H Q E → codeAny (model P w) A (.call (.ref f) args) (CR CX l P w H s Q E) s
section
variable {P : Program} {w : World} {K : PySem.W.Frag} {mg : Str → Option Value} {base : Heap} {CX : CXT} {k j : Nat} {f : Addr} {fd : FuncData} {ps : List Str} {sp : Sp}
theorem FnG.of (F : FnOk P w K mg base CX k f fd ps sp) : FnG P w K mg base CX k f fd ps sp := ⟨F.len, fun A l s H args us vs Q E hr _ e0 hb rv q => F.run A l s H args us vs Q E hr e0 hb rv q⟩
theorem FnG.mono (F : FnG P w K mg base CX j f fd ps sp) (h : j ≤ k) : FnG P w K mg base CX k f fd ps sp := ⟨F.len, fun A l s H args us vs Q E hr => F.go A l s H args us vs Q E (hr.mono h)⟩
/-- the rule for such a def -/
theorem fnG_of {x qual : Str} {st : Stmt} {N : List Str} (F : Fun K x qual st f fd) (S : FnScope N ps (defScope st)) (len : ∀ vs H Q E, sp vs H Q E → vs.length = ps.length)
    (body : ∀ (cdv : Value) (A : Around) (l : List Env) (s : Shared) (H : Hp) (vs : List V) (Q : VK) (E : XK), Room k (A.deeper (envOfC qual (defScope st) s.heap.objs.size f cdv)) → A.guards = some [] → sp vs H Q E →
      ∃ t, PSs (cxOf CX P w K mg base N qual (defScope st) f cdv A l s H E) (defBody st) t ∧ t { nx := fun _ G => Q .non G, rt := Q } (start N vs) H) : FnG P w K mg base CX (k + 1) f fd ps sp := by
  obtain ⟨oc, od, kV, doc, pm, an, cdv, ct, osl, rfl, lk, hcd⟩ := F.ex
  refine ⟨len, fun A l s H args us vs Q E hr hg e0 hb rv q => ?_⟩
  have old : ∀ b o, base.get? b = some o → s.heap.get? b = some o := fun b o e => (e0.bs b o e).1
  refine codeAny_call_function hr.depth (e0.mod.kin.keeps old _ _ lk) rfl S.co S.gen rfl (PySem.W.codeRec_of (e0.mod.kin.keeps old) hcd) (hb _ _ _ _ ?_)
  refine wpAny_newFunctionEnv_cells S.kind (fun ⟨n, v⟩ hy => ?_) fun env he s1 x => ?_
  · rcases S.par n (List.of_mem_zip hy).1 with z | z
    · exact .inl z
    · exact .inr ⟨z, PySem.W.cellsFrom_some _ _ _ (.inl z)⟩
  subst he
  refine ⟨(e0.mod.nolimit.keeps old).keeps x.toInCall.keep, codeAny_func ?_⟩
  obtain ⟨t, ht, hq⟩ := body cdv A l s H vs Q E (hr.deeper _) hg q
  refine wpAny_mono (ht.run [] s1 (start N vs) H _ (inv_start S hr.hd e0 (len _ _ _ _ q) rv x) hq) (fun fl s' z => ?_) fun e s' z => z
  cases fl with
  | ret u =>
    obtain ⟨v, σ1, G, J, ru, y⟩ := z
    exact ⟨v, G, J.os, J.bare, J.base, J.hok, ru, y⟩
  | next =>
    obtain ⟨σ1, G, J, y⟩ := z
    exact ⟨.non, G, J.os, J.bare, J.base, J.hok, rfl, y⟩
  | brk =>
    obtain ⟨_, _, _, y⟩ := z
    exact (show False from y).elim
  | cont =>
    obtain ⟨_, _, _, y⟩ := z
    exact (show False from y).elim
end
section
variable {X : Cx} {CX : CXT} {k : Nat} {f C : Addr} {fd : FuncData} {ps : List Str} {sp : Sp} {A : Around}
theorem callsG {E : XK} {dvs : List V} {ds : List Value} (F : FnG X.prog X.w X.K X.mg X.base CX k f fd ps sp) (hr : Room k X.A) (hg : X.A.guards = some []) (hb : Binds X.K fd ps ds) (hd : Vals dvs ds) (hx : Passes CX X E) :
    CallS X (.ref f) (fun _ vs H Q => sp (vs ++ dvs) H Q E) := by
  intro pins s σ H vs us Q I rv q
  have r2 := rv.append hd
  have hl : (us ++ ds).length = ps.length := r2.length.symm.trans (F.len _ _ _ _ q)
  refine wpAny_call (codeAny_mono (F.go X.A X.stack s H ⟨us, []⟩ (us ++ ds) (vs ++ dvs) Q E hr hg I.env0 (hb s us I.kIn hl) r2 q) fun r s' w => ?_)
  rcases endOf hx I w with ⟨u, rfl, z⟩ | ⟨e, rfl, z⟩
  · exact z
  · exact z
/-- repr(x), x data: None, a bool, an int, a text in lists and tuples -/
def rReprD (K : PySem.W.Frag) : List V → Hp → VK → Prop := fun vs H Q => ∃ (a : Addr) (d : PyData), vs = [.ref a] ∧ Dp K H (.ref a) d ∧ d.showable = true ∧ d.hasDict = false ∧ d.depth ≤ 40 ∧ d.shown.length ≤ sizeLine ∧ Q (.str d.shown) H
theorem call_reprD (hg : X.A.guards = some []) (hu : X.A.units + 64 < cLine) : CallR X (.builtin "repr") (rReprD X.K) := by
  intro pins s σ H vs us Q I rv q
  obtain ⟨a, d, rfl, hd, h1, h2, h3, h4, q⟩ := q
  cases rv with
  | cons ra rn =>
    cases rn
    obtain ⟨as, rd⟩ := Dp.reads I d _ _ hd ra
    cases ra
    refine PySem.repr_of_reads' rd h1 (PyData.noDict_hsm h2) hg (by omega) (fun _ _ e => e) (fun h' u tk kp => ?_) h4
    exact ⟨.str d.shown, H, I.kept (t' := tk) kp, ⟨u, rfl⟩, q⟩
/-- repr(o), str(o) by o's own method: what it promises, a text -/
def rOwnT (C : Addr) (r : List V → Hp → VK → Prop) : List V → Hp → VK → Prop := fun vs H Q => ∃ (a dx : Addr) (fs : List (Str × V)), vs = [.ref a] ∧ H a = some (.ins C dx fs) ∧ r [.ref a] H fun v G => ∃ y, v = .str y ∧ Q (.str y) G
theorem backT {pins : List (Addr × Obj)} {σ : St} {Q : VK} {u : Value} {s' : Shared} (z : EP X pins σ (fun v G => ∃ y, v = V.str y ∧ Q (.str y) G) u s') : PySem.W.StrBack (EP X pins σ Q) u s' := by
  obtain ⟨v, G, J, ru, y, rfl, q⟩ := z
  obtain ⟨t, rfl⟩ := ru
  exact ⟨.str y, G, J, ⟨t, rfl⟩, q⟩
theorem call_reprO {r : List V → Hp → VK → Prop} (hu : X.A.in1.units < cLine) (hs : PySem.W.findIn X.K (.ref C) "__repr__" = some (some (.ref f))) (hf : PySem.W.isFn X.K (.ref f) = true) (c : RunAt X X.A.in1 f r) : CallR X (.builtin "repr") (rOwnT C r) := by
  intro pins s σ H vs us Q I rv q
  obtain ⟨a, dx, fs, rfl, ha, q⟩ := q
  cases rv with
  | cons ra rn =>
    cases rn
    obtain ⟨mA, O, _⟩ := ins_get I.hok ha
    obtain ⟨od, J, _⟩ := O.look
    obtain ⟨m, hF⟩ := I.fr
    cases (show _ = Value.ref a from ra)
    exact PySem.W.repr_K hu hF I.ok.mod.kin J hs hf (thn (c pins s σ H [.ref a] [.ref a] _ I (.cons rfl .nil) q) fun u s1 z => backT z)
theorem call_strO {r : List V → Hp → VK → Prop} (hu : X.A.in1.in1.units < cLine) (hs : PySem.W.findIn X.K (.ref C) "__str__" = some (some (.ref f))) (hf : PySem.W.isFn X.K (.ref f) = true) (c : RunAt X X.A.in1.in1 f r) : CallR X (.type "str") (rOwnT C r) := by
  intro pins s σ H vs us Q I rv q
  obtain ⟨a, dx, fs, rfl, ha, q⟩ := q
  cases rv with
  | cons ra rn =>
    cases rn
    obtain ⟨mA, O, _⟩ := ins_get I.hok ha
    obtain ⟨od, J, _⟩ := O.look
    cases (show _ = Value.ref a from ra)
    exact PySem.W.kso_call hu I.kIn J hs hf (thn (c pins s σ H [.ref a] [.ref a] _ I (.cons rfl .nil) q) fun u s1 z => backT z)
/-- x == y by x's own __eq__, which answers True or False -/
def rOwnEq (C : Addr) (r : List V → Hp → VK → Prop) : R2 := fun x y H Q => ∃ (a dx b dy : Addr) (fs gs : List (Str × V)), x = .ref a ∧ H a = some (.ins C dx fs) ∧ y = .ref b ∧ H b = some (.ins C dy gs) ∧ r [.ref a, .ref b] H fun v G => ∃ c, v = .bl c ∧ Q (.bl c) G
theorem op_eqO {r : List V → Hp → VK → Prop} (hu : X.A.units < cLine) (hs : PySem.W.findIn X.K (.ref C) "__eq__" = some (some (.ref f))) (hf : PySem.W.isFn X.K (.ref f) = true) (c : RunAt X X.A f r) : OpR X (compareOp .Eq) (rOwnEq C r) := by
  intro pins s σ H x y v u Q I rx ry q
  obtain ⟨a, dx, b, dy, fs, gs, rfl, ha, rfl, hb, q⟩ := q
  obtain ⟨mA, O, _⟩ := ins_get I.hok ha
  obtain ⟨od, J, _⟩ := O.look
  obtain ⟨mB, O2, _⟩ := ins_get I.hok hb
  obtain ⟨od2, J2, _⟩ := O2.look
  obtain ⟨m, hF⟩ := I.fr
  cases (show v = Value.ref a from rx)
  cases (show u = Value.ref b from ry)
  show wpAny _ X.A (richCompare .Eq (.ref a) (.ref b)) _ _ _
  refine PySem.W.cmp_K (op := .Eq) (tb := .ref C) hu hF I.ok.mod.kin J J2.type (by simp [PySem.W.notFirst]) hs hf (thn (c pins s σ H [.ref a, .ref b] [.ref a, .ref b] _ I (.cons rfl (.cons rfl .nil)) q) fun z s1 hz => ?_)
  obtain ⟨v, G, I1, rz, c, rfl, q1⟩ := hz
  cases rz
  exact ⟨.bl c, G, I1, rfl, q1⟩
end
end Pk
end

section -- PkB
set_option linter.all false
set_option maxRecDepth 100000
set_option maxHeartbeats 2000000
/-! PkB: an exception that is caught and kept in a local name. -/
namespace Pk
open PySem PySem.Spec L2
open PyProof.Rows hiding St

/-- at a: an exception of this class, with this dict, that is done with -/
def exq (cls : Value) (d : Option Addr) (a : Addr) : HO := .ext fun h => ∃ (oe : Obj) (vs : Array Value), h.get? a = some oe ∧ oe.cls = cls ∧ oe.dict = d ∧ oe.data = .fields vs
theorem exq_ok {P : Program} {w : World} {H : Hp} {h : Heap} {a : Addr} {cls : Value} {d : Option Addr} {oe : Obj} {vs : Array Value} (e : h.get? a = some oe) (z : Zc cls d oe) (hd : oe.data = .fields vs) : ObjOk P w H h a (exq cls d a) :=
  ⟨⟨oe, vs, e, z.1, z.2, hd⟩, ⟨oe, e⟩, fun h1 h2 p k => by
    obtain ⟨o, us, q, r⟩ := p
    exact ⟨o, us, k _ q, r⟩⟩
theorem exq_at {P : Program} {w : World} {H : Hp} {h : Heap} {a : Addr} {cls : Value} {d : Option Addr} (hok : HOk P w H h) (q : H a = some (exq cls d a)) : ∃ (oe : Obj) (vs : Array Value), h.get? a = some oe ∧ oe.cls = cls ∧ oe.dict = d ∧ oe.data = .fields vs := by
  have x : ObjOk P w H h a (.ext fun h => ∃ (oe : Obj) (vs : Array Value), h.get? a = some oe ∧ oe.cls = cls ∧ oe.dict = d ∧ oe.data = .fields vs) := hok a _ q
  exact x.1
section
variable {X : Cx} {pins : List (Addr × Obj)} {σ : L2.St} {H : Hp} {s : Shared} {a : Addr} {o : HO}
/-- an object of ours that was not tracked is tracked from here on -/
theorem inv_hold (I : L2.Inv X pins σ H s) (na : H a = none) (n0 : X.s_0.heap.get? a = none) (nL : a ≠ X.env.locals) (nC : ∀ x c, X.env.cells.lookup x = some c → c ≠ a) (nP : ∀ p ∈ X.pn ++ pins, p.1 ≠ a)
    (new : ObjOk X.prog X.w (upd H a o) s.heap a o) : L2.Inv X pins σ (upd H a o) s := by
  have ne : ∀ {b : Addr} {u : HO}, H b = some u → b ≠ a := fun q => ne_of_none q na
  have ne0 : ∀ {b : Addr} {u : Obj}, X.s_0.heap.get? b = some u → b ≠ a := fun {b u} q z => by
    rw [z, n0] at q
    cases q
  refine ⟨I.ok, I.os, I.bare, ⟨I.base.keep, I.base.slot, fun b u q n hx => ?_, I.base.there, fun b xs q => ?_, fun b u xs q => ?_, fun b q ps => ?_⟩, I.loc, I.cell, ?_, fun x c q => ?_, fun p hp => ?_, fun b u q => ?_, I.len⟩
  · rw [upd_ne (ne0 q)]
    exact I.base.free b u q n hx
  · have z := I.base.tups b xs q
    rw [upd_ne (ne z)]
    exact z
  · have z := I.base.frzs b u xs q
    rw [upd_ne (ne z)]
    exact z
  · obtain ⟨m, z⟩ := I.base.tbls b q ps
    exact ⟨m, by rw [upd_ne (ne z)]; exact z⟩
  · rw [upd_ne (Ne.symm nL)]
    exact I.free
  · rw [upd_ne (nC x c q)]
    exact I.freeC x c q
  · obtain ⟨e, n, r⟩ := I.pin p hp
    exact ⟨e, by rw [upd_ne (nP p hp)]; exact n, r⟩
  · by_cases hb : b = a
    · subst hb
      rw [upd_same] at q
      cases q
      exact new
    · rw [upd_ne hb] at q
      exact (I.hok b u q).stay (fun _ _ _ z => z) (fun c z => by rw [upd_ne (ne z)]; exact z) fun c xs z => by rw [upd_ne (ne z)]; exact z
theorem inv_suite0 (I : L2.Inv X pins σ H s) (a : Addr) : L2.Inv (X.suite a (X.pn ++ pins)) [] σ H s :=
  ⟨I.ok.suite a (X.pn ++ pins), I.os, I.bare, I.base, I.loc, I.cell, I.free, I.freeC, fun p hp => I.pin p (by rw [List.append_nil] at hp; exact hp), I.hok, I.len⟩
theorem inv_unsuite0 {more : List (Addr × Obj)} (I : L2.Inv (X.suite a (X.pn ++ pins)) more σ H s) (ok : X.Ok) : L2.Inv X pins σ H s :=
  ⟨ok, I.os, I.bare, I.base, I.loc, I.cell, I.free, I.freeC, fun p hp => I.pin p (List.mem_append_left more hp), I.hok, I.len⟩
end
/-- what the clause wishes of an exception of the body; slot i is its name's -/
def wKeep (K : PySem.W.Frag) (c : Value) (i : Nat) (ts : Addr → Value → Option Addr → TS) (D : Ends) : WX := fun cls d σ H => PySem.W.exmOne K cls c = some true ∧
  ∀ a, H a = none → ts a cls d { nx := fun σ1 H1 => D.nx (σ1.set i none) H1, rt := D.rt, bk := fun σ1 H1 => D.bk (σ1.set i none) H1, ct := fun σ1 H1 => D.ct (σ1.set i none) H1 } (σ.set i (some (.ref a))) (upd H a (exq cls d a))
section
variable {X : Cx} {x n : Str} {c : Value} {i : Nat} {body suite : List Stmt} {b₀ : Stmt} {np pos pos1 : Pos} {tb : WX → TS} {ts : Addr → Value → Option Addr → TS}
/-- try: body / except x as n: suite, every exception of the body being an x; it stays tracked -/
theorem ps_try_keep (hs : X.stack = X.env :: X.outer) (hf : X.env.frame = some X.env.locals) (hex : X.ex = []) (hN : X.N.Nodup) (hi : X.N[i]? = some n) (hln : X.env.kindOf n = some .local) (hc : Gl X x) (hm : X.mg x = some c)
    (hb : ∀ (W : WX) (pn : List (Addr × Obj)) (xe : Value → Shared → Prop), Takes (X.tr pn xe) W → PassesOwn (model X.prog X.w) X.A X.env xe → PSs (X.tr pn xe) body (tb W))
    (hsu : ∀ (a : Addr) (cls : Value) (d : Option Addr) (pn : List (Addr × Obj)), PSs (X.suite a pn) (b₀ :: suite) (ts a cls d)) (hdb : (x == ("__debug__" : Str)) = false := by decide) :
    PS X (.Try body [.ExceptHandler (some (.Name x np)) (some n) (b₀ :: suite) pos1] [] [] pos) (fun D σ H => tb (wKeep X.K c i ts D) D σ H) := by
  refine ⟨fun pins s σ H D I h => ?_⟩
  have ok := I.ok
  have hfr : X.A.frames = some (X.env :: X.outer) := by rw [ok.frames, hs]
  refine wpAny_Try_except ?_
  refine wpAny_mono ((hb (wKeep X.K c i ts D) (X.pn ++ pins) (fun e s₁ => wpAny (model X.prog X.w) X.A (noteFrame e X.env) (fun _ s₂ => wpAny (model X.prog X.w) X.A (setFlight e none) (fun _ s₃ =>
    wpAny (model X.prog X.w) X.A (handleBy e X.env [.ExceptHandler (some (.Name x np)) (some n) (b₀ :: suite) pos1]) (SP X pins D) X.xe s₃) X.xe s₂) X.xe s₁) (fun u s' xx => ?_) PassesOwn.looking).run [] s σ H D (I.toTry _) h) (fun f s1 hsp => ?_) (fun e s1 he => he)
  · obtain ⟨a, B, sI, pins', σ', H', cls, d, rfl, J', nb, up, sky, na, os, ag, hb1, hyes⟩ := xx
    have J : L2.Inv X pins σ' H' sI := J'.ofTry ok
    rw [show (X.tr (X.pn ++ pins) _).stack = X.env :: X.outer from hs] at sky
    show wpAny (model X.prog X.w) X.A (noteFrame (.ref a) X.env) _ _ _
    refine Sky.land Zc.steady hfr hf sky fun h3 fl3 up3 => ?_
    have J3 := J.landed nb fl3.1 (s' := { s' with heap := h3 }) (up.trans up3) os ag
    obtain ⟨oe3, vs3, he3, hz3, hd3⟩ := fl3.there
    have nfr : a ∉ frs X.stack := fun hm1 => by
      rw [hs] at hm1
      obtain ⟨_, o1, e1, z⟩ := fl3.2.2.1.mem hm1
      rw [he3] at e1
      cases e1
      exact z _ hd3
    have nL : a ≠ X.env.locals := fun z => nfr (by rw [hs]; exact List.mem_filterMap.mpr ⟨X.env, List.mem_cons_self, by rw [hf, z]⟩)
    have nI : sI.heap.get? a = none := by
      cases q : sI.heap.get? a with
      | none => rfl
      | some o1 =>
        have z := nb a o1 q nfr
        rw [fl3.2.1] at z
        cases z
    have n0 : X.s_0.heap.get? a = none := by
      cases q : X.s_0.heap.get? a with
      | none => rfl
      | some o1 =>
        obtain ⟨o2, z⟩ := J.base.there a o1 q (by rw [hex]; exact List.not_mem_nil)
        rw [nI] at z
        cases z
    have nC : ∀ y v, X.env.cells.lookup y = some v → v ≠ a := fun y v q z => by
      obtain ⟨_, o1, e1, _⟩ := J.cell y v q
      rw [z, nI] at e1
      cases e1
    have nP : ∀ p ∈ X.pn ++ pins, p.1 ≠ a := fun p hp z => by
      have e1 := (J.pin p hp).1
      rw [z, nI] at e1
      cases e1
    refine wpAny_handleBy_cons (codeAny_handlers_test ?_) (by intro q; cases q)
    have LT : PySem.W.Looks (model X.prog X.w) h3 (typeOf (.ref a)) cls := fun A Q E s k q => wpAny_typeOf_ref (k _ _ he3) (by rw [hz3.1]; exact q)
    have S3 := inv_suite0 J3 a
    refine ld_glob (X := X.suite a (X.pn ++ pins)) S3 hc hm ((PySem.W.exm_one (M := model X.prog X.w) J3.kIn LT hb1).here ?_) hdb
    refine codeAny_handlers_suite_as ?_
    refine HandSPX.lands_againZ fl3 fun h4 fl4 up4 => ?_
    have J4 := J.landed nb fl4.1 (s' := { s' with heap := h4 }) ((up.trans up3).trans up4) os ag
    obtain ⟨oe4, vs4, he4, hz4, hd4⟩ := fl4.there
    have S4 := inv_suite0 (inv_hold J4 na n0 nL nC nP (exq_ok he4 hz4 hd4)) a
    refine store_ok (X := X.suite a (X.pn ++ pins)) (v := .ref a) S4 hN hi (.inl hln) rfl (fun s5 S5 => ?_) (.inr hln)
    refine wpAny_mono ((hsu a cls d (X.pn ++ pins)).run [] s5 _ _ _ S5 (hyes a na)) (fun f s6 hsp => ?_) (fun _ _ z => False.elim z)
    have fin : ∀ {σ6 : L2.St} {H6 : Hp} {Q : Shared → Prop}, L2.Inv (X.suite a (X.pn ++ pins)) [] σ6 H6 s6 → (∀ s7, L2.Inv X pins (σ6.set i none) H6 s7 → Q s7) →
        wpAny (model X.prog X.w) X.A (do bindName X.env n .none; unbindBehindTheSuite X.env n pos1) (fun _ s7 => Q s7) X.xe s6 := fun S6 hq => gone_ok (inv_unsuite0 S6 ok) hN hi hln hq
    cases f with
    | next =>
      obtain ⟨σ6, H6, S6, q6⟩ := hsp
      exact fin S6 fun s7 J7 => ⟨_, _, J7, q6⟩
    | brk =>
      obtain ⟨σ6, H6, S6, q6⟩ := hsp
      exact fin S6 fun s7 J7 => ⟨_, _, J7, q6⟩
    | cont =>
      obtain ⟨σ6, H6, S6, q6⟩ := hsp
      exact fin S6 fun s7 J7 => ⟨_, _, J7, q6⟩
    | ret u =>
      obtain ⟨v6, σ6, H6, S6, r6, q6⟩ := hsp
      exact fin S6 fun s7 J7 => ⟨_, _, _, J7, r6, q6⟩
  · cases f with
    | next =>
      obtain ⟨σ1, H1, J1, q⟩ := hsp
      exact wpAny_execs_nil ⟨σ1, H1, J1.ofTry ok, q⟩
    | brk =>
      obtain ⟨σ1, H1, J1, q⟩ := hsp
      exact ⟨σ1, H1, J1.ofTry ok, q⟩
    | cont =>
      obtain ⟨σ1, H1, J1, q⟩ := hsp
      exact ⟨σ1, H1, J1.ofTry ok, q⟩
    | ret u =>
      obtain ⟨v, σ1, H1, J1, r, q⟩ := hsp
      exact ⟨v, σ1, H1, J1.ofTry ok, r, q⟩
end
end Pk
end

section -- PkC
set_option linter.all false
set_option maxRecDepth 100000
set_option maxHeartbeats 4000000
/-! PkC: what is asked of a kept exception: its fields, its class. -/
namespace Pk
open PySem PySem.Spec L2
open PyProof.Rows hiding St
section
variable {X : Cx} {e : Expr} {te : TE} {pos : Pos} {n : Str}
/-- e.n, e a kept exception of the class at C -/
def tXq (K : PySem.W.Frag) (C : Addr) (n : Str) (te : TE) : TE := fun σ H Q => te σ H fun x H1 => ∃ (a dd : Addr) (fs : List (Str × V)) (v : V), x = .ref a ∧ H1 a = some (exq (.ref C) (some dd) a) ∧ H1 dd = some (.xd fs) ∧ fs.lookup n = some v ∧ Q v H1
theorem pe_xq {C : Addr} (T : XfC X.K C) (hno : PySem.W.findIn X.K (.ref C) n = some none) (he : PE X e te) (hb : attributeBase e n X.env (eval e X.env) = eval e X.env := by rfl) : PE X (.Attribute e n pos) (tXq X.K C n te) := by
  refine ⟨fun pins s σ H Q I h => attr_of hb (thn (he.run pins s σ H _ I h) fun u s1 ⟨x, H1, I1, rx, a, dd, fs, v, ex, ea, ed, l, q⟩ => ?_)⟩
  subst ex
  obtain rfl : u = Value.ref a := rx
  obtain ⟨oe, vs, ho, hcl, hdc, hda⟩ := exq_at I1.hok ea
  have hx : ObjOk X.prog X.w H1 s1.heap dd (.xd fs) := I1.hok dd _ ed
  obtain ⟨mA, hns, hr⟩ := hx
  obtain ⟨od, hod, hl⟩ := lookIn_ns hns
  obtain ⟨y, hy, ry⟩ := RelO.some_of (v := v) (o := mA n) (by rw [← l]; exact hr n)
  have J : PySem.W.InstAt s1.heap a oe C (some od) := ⟨ho, hcl, (by unfold PySem.W.notCls; rw [hda] <;> rfl), (by rw [hdc]; exact hod)⟩
  exact HandSPX.exc_get I1.kIn J T.ga T.gg T.exC (PySem.W.findObj_own T.hdC hno rfl (by rw [hl, hy])) (handed_of ry) ⟨v, H1, I1.tok _, ry, q⟩
end
end Pk
namespace PySem.W
open PySem PySem.Spec PySem.Calls PyProof.Rows
section
variable {prog : Program} {w : World} {A : Around} {E : Value → Shared → Prop} {s : Shared} {K : Frag} {x D : Addr} {ox : Obj} {od : Option Obj}
theorem pk_find_data {name : Str} {a g : Value} (hc : (clsIn K D).isSome = true) (ha : findIn K (.ref D) name = some (some a)) (hg : specialIn K a "__get__" = some (some g)) (ht : takesIn K a = some true) : findObj K D od name = some (.bind g a) := by
  obtain ⟨cd, hcd⟩ := Option.isSome_iff_exists.mp hc
  unfold findObj
  rw [hcd, Option.bind_some, ha, Option.bind_some]
  simp only [hg, ht, Option.bind_some]
theorem pk_class (C : L2.ExcC K D) {Q : Option Value → Shared → Prop} (X : K.In s.heap) (I : InstAt s.heap x ox D od) (h : Q (some (.ref D)) { s with toks := s.toks + 1 }) : wpAny (model prog w) A (getAttr? (.ref x) "__class__") Q E s := by
  have hf : findObj K D od "__class__" = some (.bind (.builtin "getset_descriptor.__get__") (.builtin "object.__class__")) := pk_find_data (by obtain ⟨cd, hc, _⟩ := any_some C.hd; rw [hc] <;> rfl) C.ha C.hn C.ht
  obtain ⟨hp, g, d, t, os⟩ := s
  have T0 := I.type (M := model prog w)
  have T1 := looks_findIn (M := model prog w) X C.hg
  have T2 := looks_findIn (M := model prog w) X C.hk
  have T3 := looks_find (M := model prog w) X I hf
  have sub : Looks (model prog w) hp (isInstance (.ref x) (.type "BaseException")) true := T0.andThen (looks_subIn X C.hs)
  have b2 : (Value.builtin "BaseException.__getattribute__" == Value.builtin "object.__getattribute__") = false := by decide +kernel
  have b1 : (onTheHeap (Value.ref D) && Value.builtin "BaseException.__getattribute__" == Value.builtin "object.__getattribute__") = false := by rw [b2]; rfl
  have b0 : (false && onTheHeap (Value.builtin "BaseException.__getattribute__")) = false := rfl
  unfold getAttr? getAttrBy? getAttrBy
  refine wpAny_bind (wpAny_mkText (wpAny_bind (wpAny_attempt (wpAny_holding (wpAny_bind (T0.at (wpAny_bind (T1.at ?_))))))))
  show wpAny _ _ (if (onTheHeap (Value.ref D) && Value.builtin "BaseException.__getattribute__" == Value.builtin "object.__getattribute__") = true then _ else _) _ _ _
  rw [b1, if_neg Bool.false_ne_true]
  unfold getAttrByItsOwn hookBefore
  refine wpAny_bind ?_
  rw [if_pos (show onTheHeap (Value.ref D) = true from rfl)]
  refine T2.at (wpAny_bind (wpAny_attempt (wpAny_holding ?_)))
  unfold callGetattribute
  rw [b0, if_neg Bool.false_ne_true]
  unfold boundAndCalled
  rw [PySem.F.excAttr_ValueError.ga.bind (.ref x)]
  refine wpAny_bind (wpAny_pure ?_)
  show wpAny _ _ (call (.builtin "BaseException.__getattribute__") [.ref x, .str "__class__" t]) _ _ _
  refine wpAny_call (codeAny_call_builtin PySem.F.excAttr_ValueError.ga.plain PySem.F.entry_bexc_ga ?_)
  refine @check_slot (model prog w) _ _ ⟨hp, g, d, t + 1, os⟩ "BaseException.__getattribute__" "BaseException" "__getattribute__" (.ref x) [.str "__class__" t] [] _ (by decide +kernel) (by decide +kernel) sub (PySem.F.args_bexc_ga (.ref x) (.str "__class__" t)) ?_
  unfold Builtin.«object.__getattribute__»
  refine wpAny_bind (wpAny_of_eq (a := ((Value.ref x : Value), [Value.str "__class__" t])) (by first | rfl | (simp only [slotArgs]; rfl)) (wpAny_bind (wpAny_pure (wpAny_bind (T0.at (wpAny_bind (T3.at ?_)))))))
  show wpAny _ _ (holding [Value.builtin "object.__class__"] (call (.builtin "getset_descriptor.__get__") [.builtin "object.__class__", .ref x, .ref D]) >>= ret) _ _ _
  refine wpAny_bind (wpAny_holding (wpAny_call (class_get (s := ⟨hp, g, d, t + 1, os⟩) (ox := ox) (od := od) X I C.hm (wpAny_pure ?_))))
  show wpAny _ _ (handedOut (.ref D)) _ _ _
  rw [handedOut_of (v := .ref D) rfl]
  first
    | exact wpAny_pure (wpAny_pure h)
    | exact wpAny_pure h
    | exact wpAny_pure (wpAny_bind (wpAny_pure (wpAny_pure h)))
theorem pk_kit (C : L2.ExcC K D) : KitX K (.ref x) (.ref D) (fun h => InstAt h x ox D od) where
  ty := fun _ _ _ I => I.type
  it := fun M h X I => by
    obtain ⟨cd, hcd, _⟩ := any_some C.hd
    unfold clsIn at hcd
    split at hcd
    · rename_i c1 d1 cd1 sl1 ho
      exact fun A1 Q1 E1 s1 k q => by unfold isType loadHead; exact wpAny_bind (wpAny_loadPart (k _ _ (X _ _ ho)) (wpAny_pure q))
    · cases hcd
  ne := fun h tp dd its n sl X htp => by
    obtain ⟨cd, hcd, _⟩ := any_some C.hd
    refine Bool.eq_false_iff.mpr fun q => ?_
    have e : D = tp := Value.ref.inj (beq_iff_eq.mp q)
    subst e
    unfold clsIn at hcd
    split at hcd
    · rename_i c1 d1 cd1 sl1 ho
      have z := (X _ _ ho).symm.trans htp
      cases z
    · cases hcd
  ca := fun X I k => pk_class C X I k
end
end PySem.W

namespace Pk
open PySem PySem.Spec L2
open PyProof.Rows hiding St
/-- isinstance(e, c), e a kept exception -/
def rIsQ (K : PySem.W.Frag) : List V → Hp → VK → Prop := fun xs H Q => ∃ (a C : Addr) (d : Option Addr) (c : V) (cv : Value) (b : Bool), xs = [.ref a, c] ∧ (∀ o, d = some o → ∃ fs, H o = some (.xd fs)) ∧ H a = some (exq (.ref C) d a) ∧ ClsV c cv ∧ ExcC K C ∧
  PySem.W.kitOne K (.ref C) cv = some b ∧ Q (.bl b) H
theorem call_isQ {X : Cx} : CallR X (.builtin "isinstance") (rIsQ X.K) := by
  intro pins s σ H xs us Q I r h
  obtain ⟨a, C, d, c, cv, b, rfl, hdd, ha, hc, T, e, q⟩ := h
  cases r with
  | cons rx rr =>
    cases rr with
    | cons rt rr =>
      cases rr
      cases rx
      have ec := hc.eq rt
      subst ec
      obtain ⟨oe, vs, ho, hcl, hdc, hda⟩ := exq_at I.hok ha
      have no : PySem.W.notCls oe = true := by unfold PySem.W.notCls; rw [hda] <;> rfl
      cases d with
      | none =>
        have J : PySem.W.InstAt s.heap a oe C none := ⟨ho, hcl, no, by rw [hdc]; trivial⟩
        exact PySem.W.kia_one (PySem.W.pk_kit T) I.kIn J e (fun z => nomatch z) fun tk => ⟨.bl b, H, I.tok tk, rfl, q⟩
      | some dd =>
        obtain ⟨fs, hf⟩ := hdd dd rfl
        have hx : ObjOk X.prog X.w H s.heap dd (.xd fs) := I.hok dd _ hf
        obtain ⟨mA, hns, _⟩ := hx
        obtain ⟨od, hod, _⟩ := lookIn_ns hns
        have J : PySem.W.InstAt s.heap a oe C (some od) := ⟨ho, hcl, no, by rw [hdc]; exact hod⟩
        exact PySem.W.kia_one (PySem.W.pk_kit T) I.kIn J e (fun z => nomatch z) fun tk => ⟨.bl b, H, I.tok tk, rfl, q⟩
end Pk
end

section -- PkD
set_option linter.all false
set_option maxRecDepth 100000
set_option maxHeartbeats 2000000
/-! PkD: numbers of any size; short words for readings; what a def of the module is. -/
namespace Pk
open PySem PySem.Spec L2
open PyProof.Rows hiding St

/-! ### numbers -/
/-- a divisor that is not 0, below 2 ^ 9000 -/
def CDivZ (_ j : Int) : Prop := j ≠ 0 ∧ j.natAbs.log2 < 9000
/-- a power that stays small enough -/
def CPowW (i j : Int) : Prop := 0 ≤ j ∧ j ≤ 1000 ∧ i.natAbs < 2 ^ 200
section
variable {X : Cx}
theorem op_fdivZ : OpR X (binaryOp .FloorDiv) (rI CDivZ fun i j => .int (i.fdiv j)) := opI fun _ _ _ _ _ _ _ hc q => floordiv_int hc.1 q (.inl (PyProof.noPylong_of_log2 hc.2))
theorem bits_small {i : Int} (h : i.natAbs < 2 ^ 200) : Builtin.Int.intBits i ≤ 200 := by
  have l := PySem.Flt.log2_lt_of (by decide : 0 < 200) h
  unfold Builtin.Int.intBits
  split
  · exact Nat.zero_le _
  · exact l
theorem op_powW : OpR X (binaryOp .Pow) (rI CPowW fun i j => .int (i ^ j.toNat)) := opI fun i j _ _ _ _ _ hc q => by
  obtain ⟨h0, h1, h2⟩ := hc
  have hb := bits_small h2
  refine pow_int h0 ?_ q
  have a1 : (Builtin.Int.intBits i : Int) ≤ 200 := by omega
  have a2 : (Builtin.Int.intBits i : Int) * j ≤ 200 * 1000 := Int.mul_le_mul a1 h1 h0 (by decide)
  exact Int.le_trans a2 (by decide)
end
theorem log2_lt {n a b : Nat} (h : n < 2 ^ a) (h0 : 0 < a) (hb : a ≤ b) : n.log2 < b := Nat.lt_of_lt_of_le (PySem.Flt.log2_lt_of h0 h) hb
theorem divZ {i j : Int} {a : Nat} (hj : j ≠ 0) (h : j.natAbs < 2 ^ a) (h0 : 0 < a) (hb : a ≤ 9000) : CDivZ i j := ⟨hj, log2_lt h h0 hb⟩
theorem fdiv_pos {i j : Int} (h : 0 < j) : i.fdiv j = i / j := Int.fdiv_eq_ediv_of_nonneg i (by omega)

/-! ### readings: an if whose test is known -/
theorem if_t {c : Bool} {A B : Prop} (hc : c = true) (h : A) : if c = true then A else B := by rw [if_pos hc]; exact h
theorem if_f {c : Bool} {A B : Prop} (hc : c = false) (h : B) : if c = true then A else B := by rw [hc]; exact iteF h
theorem if_b {c : Bool} {A B : Prop} (h1 : c = true → A) (h2 : c = false → B) : if c = true then A else B := by
  cases c with
  | true => exact iteT (h1 rfl)
  | false => exact iteF (h2 rfl)
/-- .. whose negation is tested -/
theorem if_nt {c : Bool} {A B : Prop} (hc : c = true) (h : B) : if (!c) = true then A else B := by subst hc; exact iteF h
theorem if_nf {c : Bool} {A B : Prop} (hc : c = false) (h : A) : if (!c) = true then A else B := by subst hc; exact iteT h

/-- a built-in class by its name -/
theorem pe_tyname {X : Cx} {x : Str} {pos : Pos} (n : String) (hm : X.mg x = none) (hv : bootBuiltins x = some (.type n)) (hg : Gl X x := by rfl) (hn : x ≠ "__name__" := by decide) (hdb : (x == ("__debug__" : Str)) = false := by decide) : PE X (.Name x pos) (tC (.ty n)) :=
  pe_bltn (v := .ty n) (u := .type n) hg hm hv rfl hn hdb

/-- a name of the module, by its value -/
theorem pe_gv {X : Cx} {x : Str} {pos : Pos} {v : V} (h : ∃ u, X.mg x = some u ∧ RelV v u) (hg : Gl X x := by rfl) (hdb : (x == ("__debug__" : Str)) = false := by decide) : PE X (.Name x pos) (tC v) := by
  obtain ⟨u, hm, r⟩ := h
  exact pe_glob hg hm r hdb

/-! ### heaps -/
theorem same_new {H : Hp} {p : Addr} {o : HO} (h : H p = none) : Same H (upd H p o) := fun a u e => by rw [upd_ne (ne_of_none e h)]; exact e
/-- a def of the module -/
structure Df (K : PySem.W.Frag) (mg : Str → Option Value) (x : Str) (f : Addr) : Prop where
  gl : mg x = some (.ref f)
  kp : PySem.W.keepIn K (.ref f) = true
theorem same_mut {H H2 : Hp} {p : Addr} {o : HO} (e : Same H H2) (h : H p = none) : Same H (upd H2 p o) := fun a u ha => by rw [upd_ne (ne_of_none ha h)]; exact e a u ha
theorem take_succ' {α : Type} {xs : List α} {i : Nat} {y : α} (h : xs[i]? = some y) : xs.take (i + 1) = xs.take i ++ [y] := by
  rw [List.take_succ, h] <;> rfl
/-- [e for x in ..] whose element is known turn by turn, and changes nothing -/
theorem lc_map {J : It} {n : Nat} {G : Hp → Prop} {Y : Nat → Hp → V → Hp → Prop} (w : Walk J n G Y) (hYH : ∀ i H x H2, Y i H x H2 → H2 = H) (xs : List V) (hn : xs.length = n) (hz : n < sizeLine)
    {σ : L2.St} {vs : List Nat} {j : Nat} {te : TE} {H1 : Hp} {D : Addr} {Qd : Hp → Prop} (hG : ∀ H, Same H1 H → G H) (hD : H1 D = none) (hw : ∀ x, wipe ((wipe σ vs).set j (some x)) vs = wipe σ vs)
    (he : ∀ i x y H, Same H1 H → Y i H x H → xs[i]? = some y → ∀ Qe : VK, (∀ H4, Same H H4 → Qe y H4) → te ((wipe σ vs).set j (some x)) H Qe) (hd : ∀ H, Same H1 H → H D = some (.lst xs) → Qd H) :
    ∃ W : Nat → Nat → Hp → Prop, (∃ m, W 0 m (upd H1 D (.lst []))) ∧ ∀ i m H, W i m H →
      (J.stop i H ∧ Qd H) ∨ (J.go i H ∧ ∃ Nx : Hp → Prop, (∀ H', Nx H' → ∃ m', m' < m ∧ W (i + 1) m' H') ∧ ∀ x H', J.yld i H x H' → gName j x (wipe σ vs) H' fun σ2 H2 => wipe σ2 vs = wipe σ vs ∧ tYes σ2 H2 fun b H3 =>
        if b = true then te σ2 H3 fun y H4 => ∃ acc, H4 D = some (.lst acc) ∧ acc.length < sizeLine ∧ Nx (upd H4 D (.lst (acc ++ [y]))) else Nx H3) := by
  refine lc_it w (fun i H => Same H1 H ∧ H D = some (.lst (xs.take i))) ⟨same_new hD, upd_same⟩ (fun i H _ p => hG H p.1) (fun i x H H2 hi p y => ?_) (fun H p => hd H p.1 (by rw [p.2, List.take_of_length_le (Nat.le_of_eq hn)]))
  have e := hYH i H x H2 y
  subst e
  obtain ⟨z, hz1⟩ : ∃ z, xs[i]? = some z := ⟨xs[i]'(by omega), List.getElem?_eq_getElem (by omega)⟩
  refine ⟨hw x, ?_⟩
  refine iteT (B := Same H1 H2 ∧ H2 D = some (HO.lst (xs.take (i + 1)))) ?_
  refine he i x z H2 p.1 y hz1 _ fun H4 e4 => ⟨xs.take i, e4 _ _ p.2, ?_, same_mut (p.1.trans e4) hD, ?_⟩
  · rw [List.length_take]
    omega
  · rw [take_succ' hz1]
    exact upd_same
end Pk
end

section -- PkM
set_option linter.all false
set_option maxRecDepth 100000
set_option maxHeartbeats 2000000
/-! PkM: texts of numbers, as lists of signs. -/
namespace Pk
open PySem PySem.Spec L2
open PyProof.Rows hiding St
open TL (tl numL)

def numI (n : Int) : List Nat := if n < 0 then 45 :: numL n.natAbs else numL n.toNat
theorem tl_neg (m : Nat) : tl (Str.ofString (toString (Int.negSucc m))) = 45 :: numL (m + 1) := by
  rw [TL.tl_ofString]
  show (("-" ++ Nat.repr (m + 1) : String).toList).map Char.toNat = _
  rw [String.toList_append, List.map_append]
  have h := TL.tl_num (m + 1)
  rw [TL.tl_ofString] at h
  have h2 : (Nat.repr (m + 1)).toList.map Char.toNat = numL (m + 1) := h
  rw [h2]
  rfl
theorem tl_numI (n : Int) : tl (Str.ofString (toString n)) = numI n := by
  unfold numI
  cases n with
  | ofNat m =>
    have h0 : ¬ Int.ofNat m < 0 := fun z => absurd z (Int.not_lt.mpr (Int.natCast_nonneg m))
    rw [if_neg h0]
    exact TL.tl_num m
  | negSucc m =>
    rw [if_pos (Int.negSucc_lt_zero m), tl_neg]
    rfl
theorem numI_len {n : Int} {k : Nat} (hk : 0 < k) (h : n.natAbs < 10 ^ k) : (numI n).length ≤ k + 1 := by
  unfold numI
  split
  · rw [List.length_cons]
    exact Nat.succ_le_succ (TL.numL_len hk h)
  · have e : n.toNat = n.natAbs := by omega
    rw [e]
    exact Nat.le_succ_of_le (TL.numL_len hk h)
theorem two10 : 2 ^ 1000 ≤ 10 ^ 400 := by decide +kernel
theorem lt10 {n : Nat} (h : n.log2 < 1000) : n < 10 ^ 400 := by
  by_cases h0 : n = 0
  · subst h0
    exact Nat.pow_pos (by decide)
  · exact Nat.lt_of_lt_of_le ((Nat.log2_lt h0).mp h) two10
theorem numLen {n : Int} (h : n.natAbs.log2 < 1000) : (Str.ofString (toString n)).length ≤ 401 := by
  rw [TL.len_tl, tl_numI]
  exact numI_len (by decide) (lt10 h)
/-! ### digits -/
def isDig (c : Nat) : Bool := decide (48 ≤ c) && decide (c ≤ 57)
theorem tl_digits : tl (Str.ofString "0123456789") = [48, 49, 50, 51, 52, 53, 54, 55, 56, 57] := by decide +kernel
theorem mem_digits (c : Nat) : decide (c ∈ (Str.ofString "0123456789").cps.toList) = isDig c := by
  have e : (Str.ofString "0123456789").cps.toList = [48, 49, 50, 51, 52, 53, 54, 55, 56, 57] := tl_digits
  rw [e]
  unfold isDig
  rw [Bool.eq_iff_iff]
  simp only [decide_eq_true_eq, Bool.and_eq_true, List.mem_cons, List.not_mem_nil, or_false]
  omega
/-- the text of a whole number from 0 on, of at most 60 digits -/
def isWh (l : List Nat) : Bool := (decide (1 ≤ l.length) && decide (l.length ≤ 60)) && (l.all isDig && (decide (l = [48]) || !decide (l.head? = some 48)))
theorem all_map {l : List Nat} : (l.map isDig).all id = l.all isDig := by rw [List.all_map]; rfl
theorem wh_of (z : Str) (b : Bool) (hb : (!(decide ((1 : Int) ≤ (z.length : Int)) && decide ((z.length : Int) ≤ 60)) || !(((tl z).map isDig).all id)) = b) :
    isWh (tl z) = (!b && (decide (tl z = [48]) || !decide ((tl z).head? = some 48))) := by
  have e1 : decide ((1 : Int) ≤ (z.length : Int)) = decide (1 ≤ (tl z).length) := by rw [TL.len_tl]; rw [Bool.eq_iff_iff]; simp only [decide_eq_true_eq]; omega
  have e2 : decide ((z.length : Int) ≤ 60) = decide ((tl z).length ≤ 60) := by rw [TL.len_tl]; rw [Bool.eq_iff_iff]; simp only [decide_eq_true_eq]; omega
  rw [e1, e2, all_map] at hb
  unfold isWh
  cases h1 : decide (1 ≤ (tl z).length) <;> cases h2 : decide ((tl z).length ≤ 60) <;> cases h3 : (tl z).all isDig <;> rw [h1, h2, h3] at hb <;> subst hb <;> rfl
theorem wh_ne {z : Str} (hb : (!(decide ((1 : Int) ≤ (z.length : Int)) && decide ((z.length : Int) ≤ 60)) || !(((tl z).map isDig).all id)) = false) : 1 ≤ (tl z).length := by
  have h : decide ((1 : Int) ≤ (z.length : Int)) = true := by
    cases e : decide ((1 : Int) ≤ (z.length : Int)) with
    | true => rfl
    | false => rw [e] at hb; simp at hb
  have := of_decide_eq_true h
  rw [TL.len_tl] at this
  omega
theorem str_eq_iff {x y : Str} : x = y ↔ tl x = tl y := ⟨fun h => by rw [h], TL.ext_tl⟩
theorem dec_strT (x y : Str) : decide (V.str x = V.str y) = decide (tl x = tl y) := by
  rw [Bool.eq_iff_iff]
  simp only [decide_eq_true_eq, V.str.injEq]
  exact str_eq_iff
theorem tl_one (c : Nat) : tl ⟨#[c]⟩ = [c] := rfl
theorem tl_lit {s : String} {l : List Nat} (h : tl (Str.ofString s) = l := by decide +kernel) : tl (Str.ofString s) = l := h
theorem sz {n : Nat} (h : n ≤ 1000000) : n ≤ sizeLine := Nat.le_trans h (by decide)
theorem szl {n : Nat} (h : n < 1000000) : n < sizeLine := Nat.lt_of_lt_of_le h (by decide)
theorem len_empty : Str.empty.length = 0 := rfl
end Pk
end

section -- PkE
set_option linter.all false
set_option maxRecDepth 100000
set_option maxHeartbeats 2000000
/-! PkE: what evaluates to what, further; and what draws from the pen. -/
namespace Pk
open PySem PySem.Spec L2 Evl
open PyProof.Rows hiding St
open TL (tl numL)

/-! ### named readings -/
def rAddT : R2 := fun x y H Q => ∃ i j : Str, x = .str i ∧ y = .str j ∧ i.length + j.length ≤ sizeLine ∧ Q (.str (i ++ j)) H
def rIsN : R2 := fun x y H Q => y = .non ∧ Q (.bl (decide (x = .non))) H
def rNotN : R2 := fun x y H Q => y = .non ∧ Q (.bl (!decide (x = .non))) H
def rLenT : List V → Hp → VK → Prop := fun xs H Q => ∃ z : Str, xs = [.str z] ∧ z.length ≤ sizeLine ∧ Q (.int z.length) H
def rAbs : List V → Hp → VK → Prop := fun xs H Q => ∃ i : Int, xs = [.int i] ∧ Q (.int (if i < 0 then -i else i)) H
def rInt1 : List V → Hp → VK → Prop := fun xs H Q => (∃ i, xs = [.int i] ∧ Q (.int i) H) ∨ ∃ k, xs = [.bl k] ∧ Q (.int (if k then 1 else 0)) H
def rIntT : List V → Hp → VK → Prop := fun xs H Q => ∃ (a : Str) (n : Int), xs = [.str a] ∧ PySem.intText? a = some n ∧ a.length ≤ 640 ∧ Q (.int n) H
def rStrI : List V → Hp → VK → Prop := fun xs H Q => ∃ i : Int, xs = [.int i] ∧ i.natAbs.log2 < 1920 ∧ Q (.str (toString i)) H
section
variable {X : Cx}
theorem op_addT : OpR X (binaryOp .Add) rAddT := op_add_str
theorem op_isN' : OpR X (compareOp .Is) rIsN := op_isN
theorem op_notN' : OpR X (compareOp .IsNot) rNotN := op_notN
theorem call_lenT : CallR X (.builtin "len") rLenT := call_len_str
theorem call_lenL : CallR X (.builtin "len") (rLenS X.K) := call_len_seq
theorem call_absI : CallR X (.builtin "abs") rAbs := call_abs
theorem call_intI : CallR X (.type "int") rInt1 := call_int1
theorem call_intT : CallR X (.type "int") rIntT := call_int_str
theorem call_strI : CallR X (.type "str") rStrI := call_str_int
end
section
variable {K : PySem.W.Frag} {σ : L2.St} {H H' : Hp} {ta tb te tx : TE} {t u : TT} {x y z v : V} {r : R2}
theorem same_ex (e : Same H H') : Ex H H' := e
theorem rv_addT {a b : Str} (h : a.length + b.length ≤ 1000000) : RV rAddT (.str a) (.str b) H (.str (a ++ b)) := fun H1 _ _ q => ⟨a, b, rfl, rfl, sz h, q H1 (Ex.refl H1)⟩
theorem rv_isN : RV rIsN x .non H (.bl (decide (x = .non))) := fun H1 _ _ q => ⟨rfl, q H1 (Ex.refl H1)⟩
theorem rv_notN : RV rNotN x .non H (.bl (!decide (x = .non))) := fun H1 _ _ q => ⟨rfl, q H1 (Ex.refl H1)⟩
theorem rv_inS {c : Nat} {z : Str} : RV rInS (.str ⟨#[c]⟩) (.str z) H (.bl (decide (c ∈ z.cps.toList))) := fun H1 _ _ q => ⟨c, z, rfl, rfl, q H1 (Ex.refl H1)⟩
theorem rv_notInS {c : Nat} {z : Str} : RV rNotInS (.str ⟨#[c]⟩) (.str z) H (.bl (!decide (c ∈ z.cps.toList))) := fun H1 _ _ q => ⟨c, z, rfl, rfl, q H1 (Ex.refl H1)⟩
theorem rc_lenT {a : Str} (h : a.length ≤ 1000000) : RC rLenT [.str a] H (.int (a.length : Int)) := fun H1 _ _ q => ⟨a, rfl, sz h, q H1 (Ex.refl H1)⟩
theorem rc_abs {i : Int} : RC rAbs [.int i] H (.int (if i < 0 then -i else i)) := fun H1 _ _ q => ⟨i, rfl, q H1 (Ex.refl H1)⟩
theorem rc_int {i : Int} : RC rInt1 [.int i] H (.int i) := fun H1 _ _ q => .inl ⟨i, rfl, q H1 (Ex.refl H1)⟩
theorem rc_intT {a : Str} {n : Int} (h : PySem.intText? a = some n) (hl : a.length ≤ 640) : RC rIntT [.str a] H (.int n) := fun H1 _ _ q => ⟨a, n, rfl, h, hl, q H1 (Ex.refl H1)⟩
theorem rc_strI {i : Int} (h : i.natAbs.log2 < 1920) : RC rStrI [.int i] H (.str (Str.ofString (toString i))) := fun H1 _ _ q => ⟨i, rfl, h, q H1 (Ex.refl H1)⟩
theorem rc_gcd {a b : Int} : RC rGcd [.int a, .int b] H (.int ((Nat.gcd a.natAbs b.natAbs : Nat) : Int)) := fun H1 _ _ q => ⟨a, b, rfl, q H1 (Ex.refl H1)⟩
theorem ev_fld {a C dx : Addr} {fs : List (Str × V)} {f : Str} (h : Ev te σ H (.ref a)) (ha : H a = some (.ins C dx fs)) (c : Cls K C) (n : NoAttr K C f) (l : fs.lookup f = some v) : Ev (tFld K te f) σ H v := fun H1 e _ q =>
  h H1 e _ fun H2 e2 => ⟨a, C, dx, fs, v, rfl, e2 _ _ (e _ _ ha), c, n, l, q H2 e2⟩
theorem ev_cval {C : Addr} {mc w : Value} {f : Str} (h : Ev te σ H (.ref C)) (rd : ClX.CRead K C mc) (k : ClX.CVal K C mc f v w) : Ev (ClX.tCVal K te f) σ H v := fun H1 e _ q =>
  h H1 e _ fun H2 e2 => ⟨C, mc, v, w, rfl, rd, k, q H2 e2⟩
theorem et_chain {r r' : R2} {tc : TE} {a b : Bool} {w : V} (ha : Ev ta σ H x) (hb : Ev tb σ H y) (hr : RV r x y H (.bl a)) (hc : Ev tc σ H w) (hr' : RV r' y w H (.bl b)) : EvT (tTest (tChain r r' ta tb tc)) σ H (a && b) := fun H1 e Q q =>
  ha H1 e _ fun H2 e2 => hb H2 (e.trans e2) _ fun H3 e3 => hr H3 ((e.trans e2).trans e3) _ fun H4 e4 => ⟨a, rfl, by
    cases a with
    | false => exact iteF ⟨false, rfl, q H4 ((e2.trans e3).trans e4)⟩
    | true =>
      refine iteT (hc H4 (((e.trans e2).trans e3).trans e4) _ fun H5 e5 => hr' H5 ((((e.trans e2).trans e3).trans e4).trans e5) _ fun H6 e6 => ⟨b, rfl, ?_⟩)
      exact q H6 ((((e2.trans e3).trans e4).trans e5).trans e6)⟩
/-- a call of a def that promises a value -/
theorem ev_cs {r : L2.St → List V → Hp → VK → Prop} {ta : TA} {vs : List V} (h : EvA ta σ H vs) (hr : ∀ H1, Ex H H1 → ∀ Q : VK, (∀ H2, Ex H1 H2 → Q z H2) → r σ vs H1 Q) : Ev (tCS r ta) σ H z := fun H1 e Q q =>
  h H1 e _ fun H2 e2 => hr H2 (e.trans e2) Q fun H3 e3 => q H3 (e2.trans e3)
/-- all(..), any(..) of a list of truth values -/
theorem ev_all {ta : TE} {bs : List Bool} (h : EvL ta σ H (bs.map V.bl)) : Ev (tCB (rAll K) (tCons ta tNil)) σ H (.bl (bs.all id)) := fun H1 e Q q =>
  h H1 e _ fun p H2 _ e2 h2 => ⟨p, bs, rfl, sq_of h2, q H2 e2⟩
/-- a comprehension over a text -/
theorem el_lcS {z : Str} {tl : TE} {j : Nat} {vs : List Nat} (xs : List V) (h : Ev tl σ H (.str z)) (hn : xs.length = z.cps.size) (hz : z.cps.size < 1000000) (hw : ∀ x, wipe ((wipe σ vs).set j (some x)) vs = wipe σ vs)
    (he : ∀ (i c : Nat) (y : V), z.cps[i]? = some c → xs[i]? = some y → ∀ H1, Ex H H1 → Ev te ((wipe σ vs).set j (some (.str ⟨#[c]⟩))) H1 y) : EvL (tLc (iStr tl) (gName j) tYes te vs) σ H xs := fun H0 e Q q => h H0 e _ fun H1 e1 => ⟨z, rfl, fun Dl hD =>
  lc_map walk_str (fun _ _ _ _ y => y.1) xs hn (szl hz) (fun _ _ => trivial) hD hw (fun i x y H2 e2 yy hy Qe qe => by
    obtain ⟨_, c, hc, rfl⟩ := yy
    exact he i c y hc hy H2 ((e.trans e1).trans e2) H2 (Ex.refl H2) Qe qe) fun H2 e2 h2 => q Dl H2 (fresh_back e1 hD) (e1.trans e2) h2⟩
/-- a comprehension over a list -/
theorem el_lcM {a : Addr} {ys : List V} {tl : TE} {j : Nat} {vs : List Nat} (xs : List V) (h : Ev tl σ H (.ref a)) (ha : SqL K H a ys) (hn : xs.length = ys.length) (hz : ys.length < 1000000) (hw : ∀ x, wipe ((wipe σ vs).set j (some x)) vs = wipe σ vs)
    (he : ∀ (i : Nat) (x y : V), ys[i]? = some x → xs[i]? = some y → ∀ H1, Ex H H1 → Ev te ((wipe σ vs).set j (some x)) H1 y) : EvL (tLc (iList K tl) (gName j) tYes te vs) σ H xs := fun H0 e Q q => h H0 e _ fun H1 e1 => ⟨a, rfl, ⟨ys, ex_l (e.trans e1) ha⟩, fun Dl hD =>
  lc_map walk_list (fun _ _ _ _ y => y.1) xs hn (szl hz) (fun H2 e2 => ex_l ((e.trans e1).trans e2) ha) hD hw (fun i x y H2 e2 yy hy Qe qe => he i x y yy.2 hy H2 ((e.trans e1).trans e2) H2 (Ex.refl H2) Qe qe)
    fun H2 e2 h2 => q Dl H2 (fresh_back e1 hD) (e1.trans e2) h2⟩
/-- .. over a list that is made on the way -/
theorem el_lcN {ys : List V} {tl : TE} {j : Nat} {vs : List Nat} (xs : List V) (h : EvL tl σ H ys) (hn : xs.length = ys.length) (hz : ys.length < 1000000) (hw : ∀ x, wipe ((wipe σ vs).set j (some x)) vs = wipe σ vs)
    (he : ∀ (i : Nat) (x y : V), ys[i]? = some x → xs[i]? = some y → ∀ H1, Ex H H1 → Ev te ((wipe σ vs).set j (some x)) H1 y) : EvL (tLc (iList K tl) (gName j) tYes te vs) σ H xs := fun H0 e Q q => h H0 e _ fun a H1 _ e1 ha => ⟨a, rfl, ⟨ys, sq_of ha⟩, fun Dl hD =>
  lc_map walk_list (fun _ _ _ _ y => y.1) xs hn (szl hz) (fun H2 e2 => ex_l e2 (sq_of ha)) hD hw (fun i x y H2 e2 yy hy Qe qe => he i x y yy.2 hy H2 ((e.trans e1).trans e2) H2 (Ex.refl H2) Qe qe)
    fun H2 e2 h2 => q Dl H2 (fresh_back e1 hD) (e1.trans e2) h2⟩
/-- a split text: a new list of texts -/
def tSplit (ta tb : TE) : TE := tM1 (fun x xs H Q => ∃ a b, x = .str a ∧ xs = [.str b] ∧ (b.length == 0) = false ∧ a.length + 2 ≤ sizeLine ∧ rNewStrs (Txt.split a b) H Q) ta tb
theorem el_split {a b : Str} (ha : Ev ta σ H (.str a)) (hb : Ev tb σ H (.str b)) (h0 : (b.length == 0) = false) (hl : a.length ≤ 900000) : EvL (tSplit ta tb) σ H ((Txt.split a b).map V.str) := fun H1 e Q q =>
  ha H1 e _ fun H2 e2 => ⟨⟨a, rfl⟩, hb H2 (e.trans e2) _ fun H3 e3 => ⟨a, b, rfl, rfl, h0, sz (by omega), fun p hp => q p _ (fresh_back (e2.trans e3) hp) ((e2.trans e3).trans (Ex.new hp)) upd_same⟩⟩
theorem pe_splitN {X : Cx} {o e : Expr} {to te : TE} {apos pos : Pos} (ho : PE X o to) (he : PE X e te) (hs : starEach [e] X.env = [(false, eval e X.env)] := by rfl) (hb : attributeBase o "split" X.env (eval o X.env) = eval o X.env := by rfl) (hl : (apos.endLine == pos.line) = true := by rfl) :
    PE X (.Call (.Attribute o "split" apos) [e] [] pos) (tSplit to te) := pe_split ho he hs hb hl
/-- a text's method of one argument -/
theorem ev_starts {a b : Str} (ha : Ev ta σ H (.str a)) (hb : Ev tb σ H (.str b)) : Ev (tM1 (fun x xs H Q => ∃ a b, x = .str a ∧ xs = [.str b] ∧ Q (.bl (Txt.startswith a b)) H) ta tb) σ H (.bl (Txt.startswith a b)) := fun H1 e Q q =>
  ha H1 e _ fun H2 e2 => ⟨⟨a, rfl⟩, hb H2 (e.trans e2) _ fun H3 e3 => ⟨a, b, rfl, rfl, q H3 (e2.trans e3)⟩⟩
/-- a slice of a text -/
theorem ev_slS {a : Str} {lo hi : Option Int} {t1 t2 : TO} (ha : Ev ta σ H (.str a)) (h1 : EvO t1 σ H lo) (h2 : EvO t2 σ H hi) (hl : a.length ≤ 1000000) : Ev (tSl rSlS ta t1 t2) σ H (.str (cutS a lo hi)) := fun H1 e Q q =>
  ha H1 e _ fun H2 e2 => h1 H2 (e.trans e2) _ fun H3 e3 => h2 H3 ((e.trans e2).trans e3) _ fun H4 e4 => ⟨a, rfl, sz hl, q H4 ((e2.trans e3).trans e4)⟩
theorem el_catLL {xs ys : List V} (ha : EvL ta σ H xs) (hb : EvL tb σ H ys) (hl : xs.length + ys.length ≤ 1000000) : EvL (tOp rCat ta tb) σ H (xs ++ ys) := fun H1 e Q k =>
  ha H1 e _ fun p H2 n2 e2 hp => hb H2 (e.trans e2) _ fun q H3 _ e3 hq => ⟨p, q, xs, ys, rfl, rfl, e3 p _ hp, hq, sz hl, fun l hl => k l _ (fresh_back (e2.trans e3) hl) ((e2.trans e3).trans (Ex.new hl)) upd_same⟩
end
end Pk
end

section -- PkN
set_option linter.all false
set_option maxRecDepth 100000
set_option maxHeartbeats 2000000
/-! PkN: texts cut at a sign; the text of a ratio, read in two ways. -/
namespace Pk
open PySem PySem.Spec L2
open PyProof.Rows hiding St
open TL (tl numL)

/-! ### cut at one sign -/
abbrev cutAt (c : Nat) (l : List Nat) : List (List Nat) := TL.spl [c] 0 [] l
theorem spl_cons (c x : Nat) (acc r : List Nat) : TL.spl [c] 0 acc (x :: r) = if x = c then acc :: TL.spl [c] 0 [] r else TL.spl [c] 0 (acc ++ [x]) r := by
  have h : TL.pre [c] (x :: r) = decide (x = c) := by
    show ((x :: r).take 1 == [c]) = decide (x = c)
    rw [Bool.eq_iff_iff]
    simp
  by_cases e : x = c
  · rw [if_pos e, TL.spl_hit (by rw [h, decide_eq_true e])]
    rfl
  · rw [if_neg e, TL.spl_miss (by rw [h, decide_eq_false e])]
theorem spl_end (c : Nat) (acc : List Nat) : TL.spl [c] 0 acc [] = [acc] := TL.spl_nil _ _ _
/-- an own walk that cuts -/
def cutStep (c : Nat) (st : List (List Nat) × List Nat) (x : Nat) : List (List Nat) × List Nat := if x = c then (st.1 ++ [st.2], []) else (st.1, st.2 ++ [x])
theorem cut_walk (c : Nat) : ∀ (l : List Nat) (ws : List (List Nat)) (acc : List Nat), (l.foldl (cutStep c) (ws, acc)).1 ++ [(l.foldl (cutStep c) (ws, acc)).2] = ws ++ TL.spl [c] 0 acc l
  | [], ws, acc => by rw [spl_end]; rfl
  | x :: r, ws, acc => by
    rw [List.foldl_cons, spl_cons]
    by_cases e : x = c
    · have h : cutStep c (ws, acc) x = (ws ++ [acc], []) := if_pos e
      rw [h, cut_walk c r, if_pos e, List.append_assoc]
      rfl
    · have h : cutStep c (ws, acc) x = (ws, acc ++ [x]) := if_neg e
      rw [h, cut_walk c r, if_neg e]
theorem spl_len (c : Nat) : ∀ (l acc p : List Nat), p ∈ TL.spl [c] 0 acc l → p.length ≤ acc.length + l.length
  | [], acc, p, h => by
    rw [spl_end] at h
    have e := List.mem_singleton.mp h
    subst e
    exact Nat.le_add_right _ _
  | x :: r, acc, p, h => by
    rw [spl_cons] at h
    rw [List.length_cons]
    split at h
    · rcases List.mem_cons.mp h with e | h
      · subst e
        omega
      · have := spl_len c r [] p h
        rw [List.length_nil] at this
        omega
    · have := spl_len c r (acc ++ [x]) p h
      rw [List.length_append, List.length_cons, List.length_nil] at this
      omega
theorem spl_pos (c : Nat) : ∀ (l acc : List Nat), 1 ≤ (TL.spl [c] 0 acc l).length
  | [], acc => by rw [spl_end]; exact Nat.le_refl 1
  | x :: r, acc => by
    rw [spl_cons]
    split
    · rw [List.length_cons]
      omega
    · exact spl_pos c r _
theorem cut_none {c : Nat} {l : List Nat} (h : c ∉ l) : cutAt c l = [l] := by
  have := TL.spl_last1 (s := c) (S := []) (p := l) (acc := []) h
  rw [List.nil_append] at this
  exact this
theorem cut_some {c : Nat} {p q : List Nat} (h : c ∉ p) : cutAt c (p ++ c :: q) = p :: cutAt c q := by
  have := TL.spl_part1 (s := c) (S := []) (p := p) (rest := q) (acc := []) h
  rw [List.nil_append] at this
  exact this
theorem cut_at {c : Nat} : ∀ {l : List Nat}, c ∈ l → ∃ p q, l = p ++ c :: q ∧ c ∉ p
  | x :: r, h => by
    by_cases e : x = c
    · subst e
      exact ⟨[], r, rfl, List.not_mem_nil⟩
    · have h2 : c ∈ r := by
        rcases List.mem_cons.mp h with z | z
        · exact absurd z.symm e
        · exact z
      obtain ⟨p, q, h3, h4⟩ := cut_at h2
      refine ⟨x :: p, q, by rw [h3]; rfl, fun z => ?_⟩
      rcases List.mem_cons.mp z with z | z
      · exact e z.symm
      · exact h4 z
theorem cut_two {c : Nat} {l : List Nat} (h : c ∈ l) : 2 ≤ (cutAt c l).length := by
  obtain ⟨p, q, e, hp⟩ := cut_at h
  rw [e, cut_some hp, List.length_cons]
  exact Nat.succ_le_succ (spl_pos c q [])

/-! ### numbers -/
abbrev val (l : List Nat) : Nat := NumText.digitsVal l
theorem val_snoc (l : List Nat) (d : Nat) : val (l ++ [d]) = val l * 10 + (d - 48) := by
  show (l ++ [d]).foldl (fun acc c => acc * 10 + (c - 48)) 0 = l.foldl (fun acc c => acc * 10 + (c - 48)) 0 * 10 + (d - 48)
  rw [List.foldl_append]
  rfl
theorem isDig_iff {c : Nat} : isDig c = true ↔ 48 ≤ c ∧ c ≤ 57 := by
  unfold isDig
  rw [Bool.and_eq_true, decide_eq_true_eq, decide_eq_true_eq]
theorem fold_le : ∀ (l : List Nat) (a : Nat), a ≤ l.foldl (fun acc c => acc * 10 + (c - 48)) a
  | [], a => Nat.le_refl _
  | c :: r, a => by
    rw [List.foldl_cons]
    have := fold_le r (a * 10 + (c - 48))
    omega
theorem val_pos {c : Nat} {r : List Nat} (h : isDig c = true) (h0 : c ≠ 48) : 0 < val (c :: r) := by
  have := isDig_iff.mp h
  have := fold_le r (0 * 10 + (c - 48))
  show 0 < (c :: r).foldl (fun acc c => acc * 10 + (c - 48)) 0
  rw [List.foldl_cons]
  omega
/-- digits that do not begin with 0 are the text of their number -/
theorem numL_val : ∀ (n : Nat) (l : List Nat), l.length = n → l.all isDig = true → l.head? ≠ some 48 → l ≠ [] → numL (val l) = l
  | 0, l, hn, _, _, h0 => absurd (List.length_eq_zero_iff.mp hn) h0
  | n + 1, l, hn, hd, h48, h0 => by
    obtain ⟨a, d, rfl⟩ : ∃ a d, l = a ++ [d] := ⟨l.dropLast, l.getLast h0, (List.dropLast_concat_getLast h0).symm⟩
    rw [List.all_append, Bool.and_eq_true] at hd
    have hd2 : isDig d = true := by
      have := hd.2
      rw [List.all_cons, Bool.and_eq_true] at this
      exact this.1
    have dd := isDig_iff.mp hd2
    rw [val_snoc]
    cases a with
    | nil =>
      have e : val [] = 0 := rfl
      rw [e, TL.numL_lt (by omega)]
      show [48 + (0 * 10 + (d - 48))] = [d]
      have : 48 + (0 * 10 + (d - 48)) = d := by omega
      rw [this]
    | cons c r =>
      have hc : isDig c = true := by
        have := hd.1
        rw [List.all_cons, Bool.and_eq_true] at this
        exact this.1
      have h48' : c ≠ 48 := fun z => h48 (by rw [z]; rfl)
      have ih := numL_val n (c :: r) (by rw [List.length_append] at hn; simpa using hn) hd.1 (by simpa using h48') (List.cons_ne_nil _ _)
      have p := val_pos (r := r) hc h48'
      rw [TL.numL_step (by omega)]
      have e1 : (val (c :: r) * 10 + (d - 48)) / 10 = val (c :: r) := by omega
      have e2 : 48 + (val (c :: r) * 10 + (d - 48)) % 10 = d := by omega
      rw [e1, e2, ih]
theorem isWh_parts {l : List Nat} (h : isWh l = true) : 1 ≤ l.length ∧ l.length ≤ 60 ∧ l.all isDig = true ∧ (l = [48] ∨ l.head? ≠ some 48) := by
  unfold isWh at h
  simp only [Bool.and_eq_true, Bool.or_eq_true, decide_eq_true_eq, Bool.not_eq_true', decide_eq_false_iff_not] at h
  obtain ⟨⟨h1, h2⟩, h3, h4⟩ := h
  exact ⟨h1, h2, h3, h4⟩
theorem isWh_of {l : List Nat} (h1 : 1 ≤ l.length) (h2 : l.length ≤ 60) (h3 : l.all isDig = true) (h4 : l = [48] ∨ l.head? ≠ some 48) : isWh l = true := by
  unfold isWh
  simp only [Bool.and_eq_true, Bool.or_eq_true, decide_eq_true_eq, Bool.not_eq_true', decide_eq_false_iff_not]
  exact ⟨⟨h1, h2⟩, h3, h4⟩
theorem numL_wh {l : List Nat} (h : isWh l = true) : numL (val l) = l := by
  obtain ⟨h1, _, h3, h4⟩ := isWh_parts h
  rcases h4 with h4 | h4
  · subst h4
    decide +kernel
  · exact numL_val l.length l rfl h3 h4 (fun z => by rw [z] at h1; exact absurd h1 (by decide))
theorem wh_zero {l : List Nat} (h : isWh l = true) : val l = 0 ↔ l.head? = some 48 := by
  obtain ⟨h1, _, h3, h4⟩ := isWh_parts h
  constructor
  · intro z
    cases l with
    | nil => exact absurd h1 (by decide)
    | cons c r =>
      by_cases e : c = 48
      · rw [e]; rfl
      · have hc : isDig c = true := by
          rw [List.all_cons, Bool.and_eq_true] at h3
          exact h3.1
        have := val_pos (r := r) hc e
        omega
  · intro z
    rcases h4 with h4 | h4
    · subst h4
      rfl
    · exact absurd z h4
theorem val_lt : ∀ (n : Nat) (l : List Nat), l.length = n → l.all isDig = true → val l < 10 ^ n
  | 0, l, hn, _ => by
    have := List.length_eq_zero_iff.mp hn
    subst this
    decide
  | n + 1, l, hn, hd => by
    have h0 : l ≠ [] := fun z => by rw [z] at hn; exact absurd hn (by simp)
    obtain ⟨a, d, rfl⟩ : ∃ a d, l = a ++ [d] := ⟨l.dropLast, l.getLast h0, (List.dropLast_concat_getLast h0).symm⟩
    rw [List.all_append, Bool.and_eq_true] at hd
    have hd2 : isDig d = true := by
      have := hd.2
      rw [List.all_cons, Bool.and_eq_true] at this
      exact this.1
    have dd := isDig_iff.mp hd2
    have ih := val_lt n a (by rw [List.length_append] at hn; simpa using hn) hd.1
    rw [val_snoc, Nat.pow_succ]
    omega
theorem intT {s : Str} (h : isWh (tl s) = true) : PySem.intText? s = some ((val (tl s) : Nat) : Int) := by
  obtain ⟨h1, h2, h3, _⟩ := isWh_parts h
  have e : (⟨(tl s).toArray⟩ : Str) = s := TL.mk_tl s
  have := SX.int_S (a := tl s) h3 (fun z => by rw [z] at h1; exact absurd h1 (by decide)) (by omega)
  rw [show SX.S (tl s) = s from e] at this
  exact this
end Pk
end

section -- PkO
set_option linter.all false
set_option maxRecDepth 100000
set_option maxHeartbeats 2000000
/-! PkO: the text of a ratio, read in two ways; what it says is its text again. -/
namespace Pk
open PySem PySem.Spec L2
open PyProof.Rows hiding St
open TL (tl numL)

def isNeg (w : List Nat) : Bool := decide (w.head? = some 45)
def bare (w : List Nat) : List Nat := if isNeg w = true then w.tail else w
def sgn (neg : Bool) (n : Nat) : Int := if neg = true then -(n : Int) else (n : Int)
theorem sgn_abs (neg : Bool) (n : Nat) : (sgn neg n).natAbs = n := by
  unfold sgn
  split <;> omega
/-- one whole number, a sign ahead of it or none -/
def sgnd (neg : Bool) (a : List Nat) : Option Int := if (isWh a && !(neg && decide (a.head? = some 48))) = true then some (sgn neg (val a)) else none
def wholeOf (w : List Nat) : Option Int := sgnd (isNeg w) (bare w)
/-- the pair, by the first stroke -/
def pairOf (w : List Nat) : Option (Int × Int) := match TL.par [47] [] w with
  | none => (wholeOf w).map fun n => (n, 1)
  | some (p, q) => match wholeOf p, wholeOf q with
    | some t, some b => if (decide (b < 2) || !(Nat.gcd t.natAbs b.natAbs == 1)) = true then none else some (t, b)
    | _, _ => none
/-- the pair, by all strokes at once -/
def progOf (w : List Nat) : Option (Int × Int) := match cutAt 47 (bare w) with
  | [a] => if (isWh a && !(isNeg w && decide (val a = 0))) = true then some (sgn (isNeg w) (val a), 1) else none
  | [a, b] => if ((isWh a && isWh b) && !(isNeg w && decide (val a = 0)) && !(decide (val b < 2) || !(Nat.gcd (val a) (val b) == 1))) = true then some (sgn (isNeg w) (val a), (val b : Int)) else none
  | _ => none
theorem sgnd_eq (neg : Bool) (a : List Nat) : sgnd neg a = if (isWh a && !(neg && decide (val a = 0))) = true then some (sgn neg (val a)) else none := by
  unfold sgnd
  cases h : isWh a with
  | false => rfl
  | true =>
    have e : decide (a.head? = some 48) = decide (val a = 0) := by
      rw [Bool.eq_iff_iff, decide_eq_true_eq, decide_eq_true_eq]
      exact (wh_zero h).symm
    rw [e]
theorem not_wh {a : List Nat} {c : Nat} (h : c ∈ a) (hc : isDig c = false) : isWh a = false := by
  cases e : isWh a with
  | false => rfl
  | true =>
    obtain ⟨_, _, h3, _⟩ := isWh_parts e
    have := List.all_eq_true.mp h3 c h
    rw [hc] at this
    cases this
theorem mem_bare {w : List Nat} {c : Nat} (h : c ∈ w) (h0 : c ≠ 45) : c ∈ bare w := by
  unfold bare
  split
  · rename_i e
    cases w with
    | nil => cases h
    | cons x r =>
      have ex : x = 45 := by
        have := of_decide_eq_true e
        simpa using this
      rcases List.mem_cons.mp h with z | z
      · exact absurd (z.trans ex) h0
      · exact z
  · exact h
theorem bare_mem {w : List Nat} {c : Nat} (h : c ∈ bare w) : c ∈ w := by
  unfold bare at h
  split at h
  · exact List.mem_of_mem_tail h
  · exact h
theorem neg_app {p q : List Nat} : isNeg (p ++ 47 :: q) = isNeg p := by
  cases p with
  | nil => rfl
  | cons x r => rfl
theorem bare_app {p q : List Nat} : bare (p ++ 47 :: q) = bare p ++ 47 :: q := by
  unfold bare
  rw [neg_app]
  split
  · rename_i e
    cases p with
    | nil => cases e
    | cons x r => rfl
  · rfl
theorem wh_neg {q : List Nat} (h : isNeg q = true) : isWh q = false := by
  cases q with
  | nil => cases h
  | cons x r =>
    have ex : x = 45 := by
      have := of_decide_eq_true h
      simpa using this
    subst ex
    exact not_wh (c := 45) List.mem_cons_self (by decide)
theorem gcd_sgn {neg : Bool} {n m : Nat} : Nat.gcd (sgn neg n).natAbs ((m : Int)).natAbs = Nat.gcd n m := by rw [sgn_abs, Int.natAbs_natCast]
theorem pair_eq (w : List Nat) : pairOf w = progOf w := by
  by_cases h : 47 ∈ w
  · obtain ⟨p, q, rfl, hp⟩ := cut_at h
    have e1 : TL.par [47] [] (p ++ 47 :: q) = some (p, q) := by
      have := TL.par_part1 (s := 47) (S := []) (p := p) (rest := q) (acc := []) hp
      rw [List.nil_append] at this
      exact this
    have hb : 47 ∉ bare p := fun z => hp (bare_mem z)
    unfold pairOf progOf
    rw [e1, bare_app, cut_some hb, neg_app]
    by_cases hq : 47 ∈ q
    · have hw : wholeOf q = none := by
        unfold wholeOf
        rw [sgnd_eq, not_wh (mem_bare hq (by decide)) (by decide)]
        rfl
      dsimp only
      rw [hw]
      have h2 := cut_two hq
      obtain ⟨x, y, r, e⟩ : ∃ x y r, cutAt 47 q = x :: y :: r := by
        match hx : cutAt 47 q with
        | [] => rw [hx] at h2; exact absurd h2 (by decide)
        | [x] => rw [hx, List.length_cons, List.length_nil] at h2; exact absurd h2 (by decide)
        | x :: y :: r => exact ⟨x, y, r, rfl⟩
      rw [e]
      cases wholeOf p <;> rfl
    · rw [cut_none hq]
      dsimp only
      cases hn : isNeg q with
      | true =>
        rw [wh_neg hn, Bool.and_false, Bool.false_and, Bool.false_and, if_neg Bool.false_ne_true]
        have hw : wholeOf q = none ∨ ∃ n : Nat, wholeOf q = some (-(n : Int)) := by
          unfold wholeOf
          rw [hn]
          unfold sgnd
          split
          · exact .inr ⟨_, rfl⟩
          · exact .inl rfl
        rcases hw with hw | ⟨n, hw⟩
        · rw [hw]
          cases wholeOf p <;> rfl
        · rw [hw]
          cases wholeOf p with
          | none => rfl
          | some t =>
            dsimp only
            have : decide (-(n : Int) < 2) = true := decide_eq_true (by omega)
            rw [this, Bool.true_or, if_pos rfl]
      | false =>
        have hw : wholeOf q = if isWh q = true then some ((val q : Nat) : Int) else none := by
          unfold wholeOf bare
          rw [hn, if_neg Bool.false_ne_true, sgnd_eq, Bool.false_and, Bool.not_false, Bool.and_true]
          rfl
        rw [hw]
        unfold wholeOf
        rw [sgnd_eq]
        cases h1 : isWh q with
        | false =>
          rw [if_neg Bool.false_ne_true, Bool.and_false, Bool.false_and, Bool.false_and, if_neg Bool.false_ne_true]
          generalize (if (isWh (bare p) && !(isNeg p && decide (val (bare p) = 0))) = true then some (sgn (isNeg p) (val (bare p))) else none) = o
          cases o <;> rfl
        | true =>
          rw [if_pos rfl, Bool.and_true]
          cases h2 : (isWh (bare p) && !(isNeg p && decide (val (bare p) = 0))) with
          | false =>
            rw [if_neg Bool.false_ne_true, Bool.false_and, if_neg Bool.false_ne_true]
          | true =>
            rw [if_pos rfl, Bool.true_and]
            dsimp only
            rw [gcd_sgn]
            have e3 : decide (((val q : Nat) : Int) < 2) = decide (val q < 2) := by rw [Bool.eq_iff_iff, decide_eq_true_eq, decide_eq_true_eq]; omega
            rw [e3]
            cases (decide (val q < 2) || !((val (bare p)).gcd (val q) == 1)) <;> rfl
  · have e1 : TL.par [47] [] w = none := TL.par_none1 h
    unfold pairOf progOf
    rw [e1, cut_none fun z => h (bare_mem z)]
    dsimp only
    unfold wholeOf
    rw [sgnd_eq]
    split <;> rfl
/-- a ratio's text -/
def ratText (t b : Int) : Str := if b = 1 then Str.ofString (toString t) else ((Str.empty ++ Str.ofString (toString t)) ++ Str.ofString "/") ++ Str.ofString (toString b)
theorem tl_ratText (t b : Int) : tl (ratText t b) = if b = 1 then numI t else numI t ++ 47 :: numI b := by
  unfold ratText
  split
  · exact tl_numI t
  · have e : tl (Str.ofString "/") = [47] := by decide +kernel
    have e0 : tl Str.empty = [] := rfl
    rw [TL.tl_append, TL.tl_append, TL.tl_append, e, e0, tl_numI, tl_numI, List.nil_append, List.append_assoc]
    rfl
theorem numI_sgn {neg : Bool} {a : List Nat} (h : isWh a = true) (h0 : (neg && decide (val a = 0)) = false) : numI (sgn neg (val a)) = if neg = true then 45 :: a else a := by
  unfold sgn numI
  cases neg with
  | false =>
    rw [if_neg Bool.false_ne_true, if_neg (by omega), if_neg Bool.false_ne_true, Int.toNat_natCast, numL_wh h]
  | true =>
    rw [Bool.true_and] at h0
    have := of_decide_eq_false h0
    rw [if_pos rfl, if_pos (by omega), if_pos rfl, Int.natAbs_neg, Int.natAbs_natCast, numL_wh h]
theorem bare_back (w : List Nat) : (if isNeg w = true then 45 :: bare w else bare w) = w := by
  unfold bare
  split
  · rename_i e
    cases w with
    | nil => cases e
    | cons x r =>
      have ex : x = 45 := by
        have := of_decide_eq_true e
        simpa using this
      rw [ex]
      rfl
  · rfl
/-- what a text says, and that it is its text -/
theorem prog_text {w : List Nat} {t b : Int} (h : progOf w = some (t, b)) : tl (ratText t b) = w ∧ t.natAbs < 10 ^ 60 ∧ 1 ≤ b ∧ b.natAbs < 10 ^ 60 ∧ Nat.gcd t.natAbs b.natAbs = 1 := by
  have small : ∀ {a : List Nat}, isWh a = true → val a < 10 ^ 60 := fun {a} ha => by
    obtain ⟨_, h2, h3, _⟩ := isWh_parts ha
    exact Nat.lt_of_lt_of_le (val_lt a.length a rfl h3) (Nat.pow_le_pow_right (by decide) h2)
  unfold progOf at h
  split at h
  · rename_i a e
    split at h
    · rename_i c
      rw [Bool.and_eq_true] at c
      obtain ⟨c1, c2⟩ := c
      have c3 : (isNeg w && decide (val a = 0)) = false := Bool.not_eq_true' _ |>.mp c2
      cases h
      have hw : 47 ∉ bare w := fun z => by
        have := cut_two z
        rw [e, List.length_cons, List.length_nil] at this
        exact absurd this (by decide)
      have ea : bare w = a := by
        rw [cut_none hw] at e
        exact (List.cons.inj e).1
      refine ⟨?_, by rw [sgn_abs]; exact small c1, by decide, by decide, by rw [show (1 : Int).natAbs = 1 from rfl]; exact Nat.gcd_one_right _⟩
      rw [tl_ratText, if_pos rfl, numI_sgn c1 c3, ← ea]
      exact bare_back w
    · cases h
  · rename_i a b' e
    split at h
    · rename_i c
      rw [Bool.and_eq_true, Bool.and_eq_true, Bool.and_eq_true] at c
      obtain ⟨⟨⟨c1, c2⟩, c3⟩, c4⟩ := c
      have c3' : (isNeg w && decide (val a = 0)) = false := Bool.not_eq_true' _ |>.mp c3
      have c4' : (decide (val b' < 2) || !((val a).gcd (val b') == 1)) = false := by simpa using c4
      rw [Bool.or_eq_false_iff] at c4'
      have g1 := of_decide_eq_false c4'.1
      have g2 : (val a).gcd (val b') = 1 := by
        have := c4'.2
        rw [Bool.not_eq_false', beq_iff_eq] at this
        exact this
      cases h
      refine ⟨?_, by rw [sgn_abs]; exact small c1, by omega, by rw [Int.natAbs_natCast]; exact small c2, by rw [gcd_sgn]; exact g2⟩
      have hw : 47 ∈ bare w := by
        by_cases z : 47 ∈ bare w
        · exact z
        · rw [cut_none z] at e
          exact absurd (List.cons.inj e).2 (by simp)
      obtain ⟨p, q, e2, hp⟩ := cut_at hw
      rw [e2, cut_some hp] at e
      obtain ⟨e3, e4⟩ := List.cons.inj e
      have hq : 47 ∉ q := fun z => by
        have := cut_two z
        rw [e4, List.length_cons, List.length_nil] at this
        exact absurd this (by decide)
      rw [cut_none hq] at e4
      have e5 := (List.cons.inj e4).1
      subst e3
      subst e5
      have nb : numI ((val q : Nat) : Int) = q := by
        have := numI_sgn (neg := false) c2 rfl
        simpa [sgn] using this
      rw [tl_ratText, if_neg (by omega), numI_sgn c1 c3', nb]
      have := bare_back w
      rw [e2] at this
      cases hn : isNeg w with
      | true =>
        rw [hn, if_pos rfl] at this
        rw [if_pos rfl]
        exact this
      | false =>
        rw [hn, if_neg Bool.false_ne_true] at this
        rw [if_neg Bool.false_ne_true]
        exact this
    · cases h
  · cases h
end Pk
end

section -- PkP
set_option linter.all false
set_option maxRecDepth 100000
set_option maxHeartbeats 2000000
/-! PkP: slices, beginnings and cuts of texts, as lists; an instance that is made. -/
namespace Pk
open PySem PySem.Spec L2 Evl
open PyProof.Rows hiding St
open TL (tl numL)
theorem tl_from (z : Str) (k : Nat) : tl (cutS z (some (k : Int)) none) = (tl z).drop k := by
  show ((z.cps.toList.drop (HT.sIx z.length 0 (some (k : Int)))).take (HT.sIx z.length z.length none - HT.sIx z.length 0 (some (k : Int)))) = z.cps.toList.drop k
  rw [HT.sIx_nat, HT.sIx_none]
  have e : z.length = z.cps.toList.length := TL.len_tl z
  rw [e]
  rcases Nat.le_total k z.cps.toList.length with h | h
  · rw [Nat.min_eq_left h]
    exact List.take_of_length_le (by rw [List.length_drop]; exact Nat.le_refl _)
  · rw [Nat.min_eq_right h, List.drop_of_length_le (Nat.le_refl _), List.drop_of_length_le h, List.take_nil]
theorem tl_to (z : Str) (k : Nat) : tl (cutS z none (some (k : Int))) = (tl z).take k := by
  show ((z.cps.toList.drop (HT.sIx z.length 0 none)).take (HT.sIx z.length z.length (some (k : Int)) - HT.sIx z.length 0 none)) = z.cps.toList.take k
  rw [HT.sIx_nat, HT.sIx_none, List.drop_zero, Nat.sub_zero]
  have e : z.length = z.cps.toList.length := TL.len_tl z
  rw [e]
  rcases Nat.le_total k z.cps.toList.length with h | h
  · rw [Nat.min_eq_left h]
  · rw [Nat.min_eq_right h, List.take_of_length_le (Nat.le_refl _), List.take_of_length_le h]
theorem lit_one {s : String} {c : Nat} (h : Str.ofString s = ⟨#[c]⟩) (z : Str) : Txt.startswith z (Str.ofString s) = decide ((tl z).head? = some c) := by
  rw [h]
  have e := PySem.StrLaws.subAt_one z c 0
  unfold Txt.startswith
  rw [Bool.eq_iff_iff, Bool.and_eq_true, decide_eq_true_eq, decide_eq_true_eq]
  rw [List.head?_eq_getElem?]
  exact e
theorem split_tl {s : String} {c : Nat} (h : Str.ofString s = ⟨#[c]⟩) (hc : c < 256) (z : Str) : (Txt.split z (Str.ofString s)).map tl = cutAt c (tl z) := by
  rw [h]
  exact TL.split_spl z ⟨#[c]⟩ (by show ([c] : List Nat) ≠ []; simp) (TL.kind_ok (by simpa using hc))
theorem spl_count (c : Nat) : ∀ (l acc : List Nat), (TL.spl [c] 0 acc l).length ≤ l.length + 1
  | [], acc => by rw [spl_end]; exact Nat.le_refl 1
  | x :: r, acc => by
    rw [spl_cons, List.length_cons]
    split
    · rw [List.length_cons]
      have := spl_count c r []
      omega
    · have := spl_count c r (acc ++ [x])
      omega
theorem wh_small {a : List Nat} (h : isWh a = true) : val a < 10 ^ 60 := by
  obtain ⟨_, h2, h3, _⟩ := isWh_parts h
  exact Nat.lt_of_lt_of_le (val_lt a.length a rfl h3) (Nat.pow_le_pow_right (by decide) h2)
/-- what the parts of a word tell of its pair -/
theorem prog_none {w : List Nat} {P : List (List Nat)} (hP : P = cutAt 47 (bare w)) (h : (decide (2 < P.length) || !((P.map isWh).all id)) = true) : progOf w = none := by
  unfold progOf
  rw [← hP]
  match P, h with
  | [], _ => rfl
  | [a], h =>
    have h1 : isWh a = false := by simpa using h
    dsimp only
    rw [h1, Bool.false_and, if_neg Bool.false_ne_true]
  | [a, b], h =>
    have h1 : (isWh a && isWh b) = false := by
      cases ea : isWh a <;> cases eb : isWh b <;> simp [ea, eb] at h ⊢
    dsimp only
    rw [h1, Bool.false_and, Bool.false_and, if_neg Bool.false_ne_true]
  | a :: b :: c :: r, _ => rfl
theorem prog_some {w : List Nat} {P : List (List Nat)} (hP : P = cutAt 47 (bare w)) (h : (decide (2 < P.length) || !((P.map isWh).all id)) = false) :
    ∃ (a : List Nat) (b : Nat), P[0]? = some a ∧ isWh a = true ∧ (P.length = 2 → ∃ q, P[1]? = some q ∧ isWh q = true ∧ b = val q) ∧ (P.length ≠ 2 → b = 1) ∧ b < 10 ^ 60 ∧
      progOf w = if (isNeg w && decide (val a = 0)) = true then none else if (decide (P.length = 2) && (decide (b < 2) || !(Nat.gcd (val a) b == 1))) = true then none else some (sgn (isNeg w) (val a), (b : Int)) := by
  have h0 : 1 ≤ P.length := by rw [hP]; exact spl_pos 47 _ _
  unfold progOf
  rw [← hP]
  match P, h, h0 with
  | [], _, h0 => exact absurd h0 (by decide)
  | [a], h, _ =>
    have h1 : isWh a = true := by simpa using h
    refine ⟨a, 1, rfl, h1, fun z => absurd z (by simp), fun _ => rfl, by decide, ?_⟩
    dsimp only
    rw [h1, Bool.true_and]
    cases (isNeg w && decide (val a = 0)) <;> rfl
  | [a, q], h, _ =>
    have h1 : isWh a = true ∧ isWh q = true := by simpa using h
    refine ⟨a, val q, rfl, h1.1, fun _ => ⟨q, rfl, h1.2, rfl⟩, fun z => absurd rfl z, wh_small h1.2, ?_⟩
    dsimp only
    rw [h1.1, h1.2, Bool.true_and, Bool.true_and]
    cases (isNeg w && decide (val a = 0)) with
    | true => rfl
    | false =>
      show (if (true && !(decide (val q < 2) || !((val a).gcd (val q) == 1))) = true then some (sgn (isNeg w) (val a), ((val q : Nat) : Int)) else none) = if (true && (decide (val q < 2) || !((val a).gcd (val q) == 1))) = true then none else some (sgn (isNeg w) (val a), ((val q : Nat) : Int))
      cases (decide (val q < 2) || !((val a).gcd (val q) == 1)) <;> rfl
  | a :: b :: c :: r, h, _ => exact absurd h (by simp)
/-- a value that is a new instance of the class at C, with these fields -/
def EvI (C : Addr) (fs : List (Str × V)) (te : TE) (σ : L2.St) (H : Hp) : Prop := ∀ H1, Ex H H1 → ∀ Q : VK, (∀ x dx H2, H1 x = none → Ex H1 H2 → H2 x = some (.ins C dx fs) → Q (.ref x) H2) → te σ H1 Q
theorem s_retI {C : Addr} {fs : List (Str × V)} {te : TE} {σ : L2.St} {H : Hp} {D : Ends} (h : EvI C fs te σ H) (k : ∀ x dx H1, H x = none → Ex H H1 → H1 x = some (.ins C dx fs) → D.rt (.ref x) H1) : tRet te D σ H := h H (Ex.refl H) _ k
end Pk
end

section -- PkQ
set_option linter.all false
set_option maxRecDepth 100000
set_option maxHeartbeats 2000000
/-! PkQ: C.m(k = e), m a static method; repr of pairs; assignments of two. -/
namespace Pk
open PySem PySem.Spec L2 Evl
open PyProof.Rows hiding St
section
variable {X : Cx} {CX : CXT} {k : Nat} {C q g : Addr} {mc : Value} {m : Str} {fd : FuncData} {ps ks : List Str} {sp : Sp} {E : XK} {pl : Sem Bool} {o : Expr} {kws : List Keyword} {ta : TE} {tk : TA} {pos apos : Pos}
def tStK (C : Addr) (sp : Sp) (E : XK) (ta : TE) (tk : TA) : TE := fun σ H Q => ta σ H fun x H1 => x = .ref C ∧ tk σ H1 fun zs H2 => sp zs H2 Q E
/-- C.m(k = e, ..), m a static method, nothing by position -/
theorem pe_statK (ho : PE X o ta) (rd : ClX.CRead X.K C mc) (st : StM X.K C mc m q g) (F : FnOk X.prog X.w X.K X.mg X.base CX k g fd ps sp) (hr : Room k X.A) (hb : KBinds X.K fd ps ks (fun us ws => us ++ ws) (fun vs zs => vs ++ zs)) (hx : Passes CX X E) (hkw : PK X kws tk)
    (hall : (backToKw pos (keywordEach kws X.env)).all (·.1.isSome) = true := by rfl) (hks : (backToKw pos (keywordEach kws X.env)).filterMap (·.1) = ks := by rfl)
    (hpl : ((backTo pos (starEach [] X.env)).any (·.1) || (backToKw pos (keywordEach kws X.env)).any (·.1.isNone)) = false := by rfl)
    (ht : eval (.Call (.Attribute o m apos) [] kws pos) X.env = (do let z ← eval o X.env; standAt apos.atName; let (fn, fs) ← holding [z] (getMethod z m pl); callWith pos fn fs (backTo pos (starEach [] X.env)) (backToKw pos (keywordEach kws X.env))) := by rfl) :
    PE X (.Call (.Attribute o m apos) [] kws pos) (tStK C sp E ta tk) := by
  refine ⟨fun pins s σ H Q I w => ?_⟩
  refine PySem.W.methodCall_KW (pl := pl) (thn (ho.run pins s σ H _ I w) fun u s1 ⟨x, H1, I1, rx, ex, w1⟩ => ?_) ht
  subst ex
  obtain rfl : u = Value.ref C := rx
  refine getstat_ok I1 rd st fun s2 I2 => ?_
  refine PySem.W.callWith_KW0 (h₀ := X.base) (first := []) I2.ok.mod.kin st.keep hall (thn (hkw.run pos pins s2 σ H1 _ I2 w1) fun ws s3 ⟨zs, H2, I3, rz, w2⟩ => ⟨I3.kIn, ?_⟩) hpl
  rw [hks]
  exact run_fnk (us := []) (vs := []) F hr hb hx I3 .nil rz w2
end
/-! ### assignments of two -/
section
variable {K : PySem.W.Frag} {σ : L2.St} {H : Hp} {ta tb te : TE} {D : Ends} {tz : TS} {i j : Nat} {u : V} {xs : List V}
theorem s_parL (h : EvL ta σ H xs) (hb : Ev tb σ H u) (k : ∀ p H1, H p = none → Ex H H1 → H1 p = some (.lst xs) → D.nx ((σ.set i (some (.ref p))).set j (some u)) H1) : tPar i j (tCons ta (tCons tb tNil)) D σ H := h H (Ex.refl H) _ fun p H1 hp e h1 =>
  hb H1 e _ fun H2 e2 => ⟨_, _, rfl, k p H2 hp (e.trans e2) (e2 _ _ h1)⟩
theorem q_parL (h : EvL ta σ H xs) (hb : Ev tb σ H u) (k : ∀ p H1, H p = none → Ex H H1 → H1 p = some (.lst xs) → tz D ((σ.set i (some (.ref p))).set j (some u)) H1) : tSeq (tPar i j (tCons ta (tCons tb tNil))) tz D σ H := s_parL (D := { D with nx := tz D }) h hb k
/-- a list and a new one, together -/
theorem el_catVL {p : Addr} {ys : List V} (ha : Ev ta σ H (.ref p)) (hp : H p = some (.lst xs)) (hb : EvL tb σ H ys) (hl : xs.length + ys.length ≤ 1000000) : EvL (tOp rCat ta tb) σ H (xs ++ ys) := fun H1 e Q k =>
  ha H1 e _ fun H2 e2 => hb H2 (e.trans e2) _ fun q H3 _ e3 hq => ⟨p, q, xs, ys, rfl, rfl, ((e.trans e2).trans e3) _ _ hp, hq, sz hl, fun l hl => k l _ (fresh_back (e2.trans e3) hl) ((e2.trans e3).trans (Ex.new hl)) upd_same⟩
/-! ### the text of a pair of ints -/
def pd (t b : Int) : PyData := .tuple [.int t, .int b]
theorem pd_dp {a : Addr} {t b : Int} (h : SqT K H a [.int t, .int b]) : Dp K H (.ref a) (pd t b) := .tup h (.cons (.int t) (.cons (.int b) .nil))
theorem pd_ok {t b : Int} (ht : t.natAbs.log2 < 1000) (hb : b.natAbs.log2 < 1000) : (pd t b).showable = true ∧ (pd t b).hasDict = false ∧ (pd t b).depth ≤ 40 ∧ (pd t b).shown.length ≤ sizeLine := by
  have h1 : decide (t.natAbs.log2 < 1920) = true := decide_eq_true (by omega)
  have h2 : decide (b.natAbs.log2 < 1920) = true := decide_eq_true (by omega)
  refine ⟨?_, ?_, ?_, ?_⟩
  · simp only [pd, PyData.showable, PyData.showableAll, h1, h2, Bool.and_true]
  · simp only [pd, PyData.hasDict, PyData.hasDictAll, Bool.or_false]
  · simp only [pd, PyData.depth, PyData.depthAll]
    decide
  · have l1 := numLen ht
    have l2 := numLen hb
    have h := PySem.tupleText_len_le (PyData.shownAll [.int t, .int b])
    simp only [pd, PyData.shown]
    simp only [PyData.shownAll, PyData.shown, List.map_cons, List.map_nil, List.sum_cons, List.sum_nil, List.length_cons, List.length_nil] at h ⊢
    exact sz (by omega)
theorem rc_repr {a : Addr} {t b : Int} (ht : t.natAbs.log2 < 1000) (hb : b.natAbs.log2 < 1000) (h : SqT K H a [.int t, .int b]) : RC (rReprD K) [.ref a] H (.str (pd t b).shown) := fun H1 e _ q =>
  have o := pd_ok ht hb
  ⟨a, pd t b, rfl, pd_dp (ex_t e h), o.1, o.2.1, o.2.2.1, o.2.2.2, q H1 (Ex.refl H1)⟩
theorem ev_reprU {t b : Int} (ht : t.natAbs.log2 < 1000) (hb : b.natAbs.log2 < 1000) (h : EvU ta σ H [.int t, .int b]) : Ev (tCB (rReprD K) (tCons ta tNil)) σ H (.str (pd t b).shown) := fun H1 e Q q =>
  h H1 e _ fun p H2 _ e2 hp => rc_repr ht hb (st_of hp) H2 (Ex.refl H2) _ fun H3 e3 => q H3 (e2.trans e3)
end
end Pk
end

section -- PkR
set_option linter.all false
set_option maxRecDepth 100000
set_option maxHeartbeats 2000000
/-! PkR: a text, many times. -/
namespace Pk
open PySem PySem.Spec L2 Evl
open PyProof.Rows hiding St
open TL (tl numL)
def repS (a : Str) (n : Int) : Str := ⟨(List.replicate n.toNat a.cps).foldl (· ++ ·) #[]⟩
theorem rep_size (a : Array Nat) : ∀ (n : Nat) (acc : Array Nat), ((List.replicate n a).foldl (· ++ ·) acc).size = acc.size + n * a.size
  | 0, acc => by simp
  | n + 1, acc => by
    rw [List.replicate_succ, List.foldl_cons, rep_size a n, Array.size_append, Nat.succ_mul]
    omega
theorem repS_length (a : Str) (n : Int) : (repS a n).length = n.toNat * a.length := by
  show ((List.replicate n.toNat a.cps).foldl (· ++ ·) #[]).size = _
  rw [rep_size]
  show 0 + n.toNat * a.cps.size = n.toNat * a.cps.size
  omega
def rMulS : R2 := fun x y H Q => ∃ (a : Str) (n : Int), x = .str a ∧ y = .int n ∧ a.length = 1 ∧ 1 < n ∧ n ≤ 10000 ∧ Q (.str (repS a n)) H
theorem op_mulS {X : Cx} : OpR X (binaryOp .Mult) rMulS := by
  intro pins s σ H x y v u Q I rx ry h
  obtain ⟨a, n, rfl, rfl, ha, n1, n2, q⟩ := h
  obtain ⟨t, rfl⟩ := rx
  obtain ⟨t2, rfl⟩ := ry
  refine P.mul_str ?_ (fun _ _ => ?_) (fun _ _ => ?_) ?_
  · rw [decide_eq_false (by omega), decide_eq_false (by omega)]; rfl
  · rw [ha]
    have : (1 : Int) ≤ (2 ^ 63 - 1) / n := (Int.le_ediv_iff_mul_le (by omega)).mpr (by omega)
    show ¬ (((1 : Nat) : Int) > (2 ^ 63 - 1) / n)
    omega
  · rw [ha]
    unfold Builtin.Str.tooLong
    exact decide_eq_false (Nat.not_lt.mpr (sz (by omega)))
  · rw [if_neg (by omega), if_neg]
    · exact ⟨sz (by rw [show (⟨List.foldl (fun x1 x2 => x1 ++ x2) #[] (List.replicate n.toNat a.cps)⟩ : Str) = repS a n from rfl, repS_length, ha]; omega), .str (repS a n), H, I.tok _, ⟨_, rfl⟩, q⟩
    · rw [ha]
      have : ¬ n = 1 := by omega
      simp [this]
end Pk
end

section -- PkS
set_option linter.all false
set_option maxRecDepth 100000
set_option maxHeartbeats 2000000
/-! PkS: the end of a law whose def is known where no repr is under way; what is looked at behind the top. -/
namespace Pk
open PySem PySem.Spec PyProof.Rows L2
/-! ### the law, called -/
section
variable {P : Program} {w : World} {K : PySem.W.Frag} {mg mb : Str → Option Value} {k : Nat} {fa a : Addr} {fd : FuncData} {x : Str} {sp : Sp} {s : Shared} {vs : List Value} {ns : List Int} {H : Hp}
/-- what an answer leaves -/
def LeftG (s : Shared) (r : Result) (z : Shared) : Prop := r = .ok (.ret (.bool true)) ∧ OldK s.heap z.heap ∧ z.os = s.os ∧ AllBare z.gens
/-- from a heap in which at most the script stands, as it was written -/
theorem lawG_from (KX : K.In s.heap) (g1 : s.heap.Ns mainGlobals mg) (g2 : s.heap.Ns builtinsNs mb) (g3 : ∀ y : Str, y ≠ "__name__" → mb y = bootBuiltins y) (g4 : s.heap.NoLimit) (g5 : s.gens = #[]) (hr : Room k callerA)
    (F : ∀ base : Heap, K.In base → FnG P w K mg base CX0 k fa fd [x] sp) (bind : ∀ (s : Shared) (u : Value), BindsTo s fd ⟨[u], []⟩ [(x, u)]) (hsp : sp [.ref a] H (fun v _ => v = .bl true) E0)
    (hok : HOk P w H s.heap) (only : ∀ b u, H b = some u → K.lookup b = none ∧ (∀ o es ep, s.heap.get? b = some o → o.data ≠ .dict es ep) ∧ ∃ o ys, u = .frz o (.lst ys)) : codeAny (model P w) callerA (.call (.ref fa) ⟨[.ref a], []⟩) (LeftG s) s := by
  have inB : K.In (hidT s.heap H) := fun b o e => hidT_get (KX b o e) (by
    cases z : H b with
    | none => rfl
    | some u => rw [(only b u z).1] at e; cases e)
  have nsB : ∀ {b : Addr} {m : Str → Option Value}, s.heap.Ns b m → (hidT s.heap H).Ns b m := fun {b m} t => by
    obtain ⟨o, es, ep, h1, h2, h3⟩ := t
    refine ⟨o, es, ep, hidT_get h1 ?_, h2, h3⟩
    cases z : H b with
    | none => rfl
    | some u => exact absurd h2 ((only b u z).2.1 o es ep h1)
  have mod : Mod K mg (hidT s.heap H) := by
    obtain ⟨mc, h1, h2⟩ := g4
    exact ⟨inB, nsB g1, ⟨mb, nsB g2, g3⟩, ⟨mc, nsB h1, h2⟩⟩
  have env : Env0 P w K mg (hidT s.heap H) callerA [] s H := { frames := rfl, mod := mod, bs := fun _ _ e => of_hidT e, bsz := Nat.le_of_eq (hidT_size _ _), funs := trivial, frf := fun _ hb => absurd hb List.not_mem_nil, hok := hok, bare := .of_eq g5 }
  have call := (F _ inB).go callerA [] s H ⟨[.ref a], []⟩ [.ref a] [.ref a] _ _ hr rfl env (bind s (.ref a)) (.cons rfl .nil) hsp
  refine codeAny_mono call fun r z h => ?_
  match r, h with
  | .ok (.ret u), h =>
    obtain ⟨v, H2, os, bare, un, hok2, rel, rfl⟩ := h
    cases (show u = Value.bool true from rel)
    refine ⟨rfl, OldK.of_keep fun b o e => ?_, os, bare⟩
    cases q : H b with
    | none => exact un.keep b o e q List.not_mem_nil List.not_mem_nil
    | some u =>
      obtain ⟨_, _, ob, ys, rfl⟩ := only b u q
      have e1 := (hok b _ q).1
      have e2 := (hok2 b _ (un.frzs b ob _ q)).1
      rw [e] at e1
      rw [Option.some.inj e1]
      exact e2
theorem lawG_call (KX : K.In s.heap) (g1 : s.heap.Ns mainGlobals mg) (g2 : s.heap.Ns builtinsNs mb) (g3 : ∀ y : Str, y ≠ "__name__" → mb y = bootBuiltins y) (g4 : s.heap.NoLimit) (g5 : s.gens = #[]) (hr : Room k callerA)
    (F : ∀ base : Heap, K.In base → FnG P w K mg base CX0 k fa fd [x] sp) (bind : ∀ (s : Shared) (u : Value), BindsTo s fd ⟨[u], []⟩ [(x, u)]) (hsp : ∀ H : Hp, SqL K H a (ns.map V.int) → sp [.ref a] H (fun v _ => v = .bl true) E0)
    (ha : s.heap.get? a = some { cls := .type "list", data := .seq vs.toArray }) (hi : IntsAre vs ns) (hl : ns.length ≤ sizeLine) : codeAny (model P w) callerA (.call (.ref fa) ⟨[.ref a], []⟩) (LeftG s) s := by
  have rv := vals_ints hi
  have lv := hi.length
  have lz : (ns.map V.int).length ≤ sizeLine := by rw [List.length_map]; exact hl
  cases hk : K.lookup a with
  | some o =>
    obtain rfl : o = { cls := .type "list", data := .seq vs.toArray } := Option.some.inj ((KX a o hk).symm.trans ha)
    refine lawG_from (H := fun _ => none) KX g1 g2 g3 g4 g5 hr F bind (hsp _ (.inr ⟨_, vs.toArray, _, hk, rfl, rfl, rfl, by rw [List.size_toArray, lv]; exact hl, by simpa using rv⟩)) (fun b u z => nomatch z) fun b u z => nomatch z
  | none =>
    obtain ⟨T, hT⟩ : ∃ T : Hp, T = fun b => if b = a then some (.frz { cls := .type "list", data := .seq vs.toArray } (.lst (ns.map V.int))) else none := ⟨_, rfl⟩
    have at_ : T a = some (.frz { cls := .type "list", data := .seq vs.toArray } (.lst (ns.map V.int))) := by rw [hT]; exact if_pos rfl
    have off : ∀ b u, T b = some u → b = a ∧ u = .frz { cls := .type "list", data := .seq vs.toArray } (.lst (ns.map V.int)) := fun b u z => by
      by_cases q : b = a
      · subst q
        exact ⟨rfl, Option.some.inj (z.symm.trans at_)⟩
      · rw [hT] at z
        have z' : (none : Option HO) = some u := (if_neg q).symm.trans z
        cases z'
    refine lawG_from (H := T) KX g1 g2 g3 g4 g5 hr F bind (hsp T (.inl (.inr ⟨_, at_⟩))) (fun b u z => ?_) fun b u z => ?_
    · obtain ⟨rfl, rfl⟩ := off b u z
      exact ⟨ha, lz, vs, _, rv, ha⟩
    · obtain ⟨rfl, rfl⟩ := off b u z
      refine ⟨hk, fun o es ep e d => ?_, _, _, rfl⟩
      rw [ha] at e
      rw [← Option.some.inj e] at d
      cases d
end
theorem walkG {l : PySem.W.OpenLaw} {n k : Nat} {q : Program} {loose : List Str} {XP : (Str → Option Value) → Heap → Prop} {YP : World → Heap → Prop} {d : DefRec} {x : Str} (hn : l.most = some n) (hn2 : n ≤ sizeLine) (hdf : d.params.defaults = []) (hr : Room k callerA)
    (F : ∀ (w : World) (mg : Str → Option Value) (fa : Addr) (h : Heap), YP w h → h.Ns mainGlobals mg → mg d.name = some (.ref fa) → ∃ (K : PySem.W.Frag) (fd : FuncData) (sp : Sp), K.In h ∧ (∀ (s : Shared) (u : Value), BindsTo s fd ⟨[u], []⟩ [(x, u)]) ∧
      (∀ (H : Hp) (a : Addr) (ns : List Int), SqL K H a (ns.map V.int) → sp [.ref a] H (fun v _ => v = .bl true) E0) ∧ ∀ base : Heap, K.In base → FnG l.prog w K mg base CX0 k fa fd [x] sp) : PySem.W.WalkO q loose XP YP l.row.toRowW d [] (fun f vs => PySem.call f vs) := by
  refine Att.attach_call hn hdf fun w s₀ s₁ mg mb fa o pm cd doc a vs ns G Y _ _ _ hmg hobj hints hlen hg => ?_
  obtain ⟨K, fd, sp, KX, hb, hsp, hF⟩ := F w mg fa _ Y G.T.g hmg
  exact lawG_call KX G.T.g G.T.b G.T.builtins G.T.nolimit hg hr hF hb (fun H hS => hsp H a ns hS) hobj hints (Nat.le_trans hlen hn2)
/-! ### what is looked at -/
abbrev Seen : Type := Bool × List He5.FnW
def seenOf (B : List (PySem.W.Frag → Bool)) (fn : List He5.DefA) (K : PySem.W.Frag) : Seen := (B.all (fun b => b K) && fn.all (fun d => d.ok K), fn.map fun d => He5.fnA K (d.at_ K))
def toldOf (fn : List He5.DefA) : Seen := (true, fn.map He5.DefA.val)
def Told (B : List (PySem.W.Frag → Bool)) (fn : List He5.DefA) (K : PySem.W.Frag) : Prop := seenOf B fn K = toldOf fn
def seenG (n : Nat) (B : List (PySem.W.Frag → Bool)) (fn : List He5.DefA) (g : Addr → Option Obj) : Seen := seenOf B fn (He.frG g (He5.asA g n))
def hookB (n : Nat) (B : List (PySem.W.Frag → Bool)) (fn : List He5.DefA) : PySem.W.Hook where
  α := Seen
  obs := fun t => seenG n B fn t.heap.get?
  val := fun _ => toldOf fn
  says := fun _ h => ∃ K : PySem.W.Frag, K.In h ∧ Told B fn K
  of := fun _ _ e => ⟨_, He.frG_in, e⟩
  keeps := fun _ _ _ t k => t.elim fun K c => ⟨K, PySem.W.Frag.In.keeps c.1 k, c.2⟩
section
variable {B : List (PySem.W.Frag → Bool)} {fn : List He5.DefA} {K : PySem.W.Frag}
theorem Told.fact (c : Told B fn K) (i : Nat) {b : PySem.W.Frag → Bool} (h : B[i]? = some b := by rfl) : b K = true := by
  have c1 : (B.all (fun b => b K) && fn.all (fun d => d.ok K)) = true := congrArg Prod.fst c
  exact List.all_eq_true.mp (Bool.and_eq_true_iff.mp c1).1 b (List.mem_of_getElem? h)
theorem Told.dd (c : Told B fn K) (i : Nat) {d : He5.DefA} (h : fn[i]? = some d := by rfl) : ∃ fd, FunD K d.name d.qual d.params d.body d.scope (d.dvs K) (d.kws K) (d.at_ K) fd := by
  have c1 : (B.all (fun b => b K) && fn.all (fun d => d.ok K)) = true := congrArg Prod.fst c
  have e : fn.map (fun d => He5.fnA K (d.at_ K)) = fn.map He5.DefA.val := congrArg Prod.snd c
  have e2 := congrArg (fun l : List He5.FnW => l[i]?) e
  simp only [List.getElem?_map, h, Option.map_some] at e2
  exact He5.DefA.funD (Option.some.inj e2) (List.all_eq_true.mp (Bool.and_eq_true_iff.mp c1).2 d (List.mem_of_getElem? h))
end
end Pk
end

section -- K02a
set_option linter.all false
set_option maxRecDepth 100000
set_option maxHeartbeats 4000000
namespace K02
open PySem PySem.Spec L2 Pk
open PyProof.Rows hiding St
/-! ### the text by places -/
def top (i : Nat) : Stmt := PySem.Challenge.pw_peekproof_k02_texts_of_ratios_bent.main.body.getD i (.Pass ⟨0, 0, 0, 0⟩)
abbrev sIsInt : Stmt := top 3
abbrev sBTi : Stmt := inClass (top 7) 0
abbrev sRi : Stmt := inClass (top 10) 1
abbrev sREq : Stmt := inClass (top 10) 13
abbrev sRStr : Stmt := inClass (top 10) 14
abbrev sRRepr : Stmt := inClass (top 10) 15
abbrev sRRead : Stmt := inClass (top 10) 16
abbrev sRow : Stmt := top 12
abbrev sWh : Stmt := top 13
/-- the built-in names are free -/
structure Bi (mg : Str → Option Value) : Prop where
  n_isinstance : mg "isinstance" = none
  n_int : mg "int" = none
  n_bool : mg "bool" = none
  n_str : mg "str" = none
  n_list : mg "list" = none
  n_len : mg "len" = none
  n_all : mg "all" = none
  n_abs : mg "abs" = none
  n_range : mg "range" = none
  n_repr : mg "repr" = none
/-! ### ratios -/
/-- the divisor that both are divided by -/
def sg (t b : Int) : Int := if b < 0 then -((Nat.gcd t.natAbs b.natAbs : Nat) : Int) else ((Nat.gcd t.natAbs b.natAbs : Nat) : Int)
theorem sg_ne {t b : Int} (h : b ≠ 0) : sg t b ≠ 0 := by
  have h1 : 0 < Nat.gcd t.natAbs b.natAbs := Nat.gcd_pos_of_pos_right _ (by omega)
  unfold sg
  split <;> omega
theorem sg_abs (t b : Int) : (sg t b).natAbs = Nat.gcd t.natAbs b.natAbs := by
  unfold sg
  split <;> omega
theorem sg_log {t b : Int} (h : b ≠ 0) (hb : b.natAbs < 2 ^ 8000) : CDivZ t (sg t b) := by
  refine divZ (a := 8000) (sg_ne h) ?_ (by decide) (by decide)
  rw [sg_abs]
  exact Nat.lt_of_le_of_lt (Nat.gcd_le_right _ (by omega)) hb
/-- a ratio's fields, as __init__ stores them -/
def rf (t b : Int) : List (Str × V) := putF "bottom" (.int b) (putF "top" (.int t) [])
theorem tb_ne : ¬ (("top" : Str) = "bottom") := by decide +kernel
theorem rf_eq (t b : Int) : rf t b = ([("top", V.int t), ("bottom", V.int b)] : List (Str × V)) := by
  show (if ("top" : Str) = "bottom" then [(("top" : Str), V.int b)] else (("top" : Str), V.int t) :: putF "bottom" (V.int b) []) = ([("top", V.int t), ("bottom", V.int b)] : List (Str × V))
  rw [if_neg tb_ne] <;> rfl
theorem rf_top (t b : Int) : (rf t b).lookup ("top" : Str) = some (.int t) := by
  unfold rf
  rw [lookup_putF, if_neg tb_ne, lookup_putF, if_pos rfl]
theorem rf_bot (t b : Int) : (rf t b).lookup ("bottom" : Str) = some (.int b) := by
  unfold rf
  rw [lookup_putF, if_pos rfl]
/-- a ratio of this top and bottom stands at x -/
def RatAt (C : Addr) (H : Hp) (x : Addr) (t b : Int) : Prop := ∃ dx, H x = some (.ins C dx (rf t b))
/-- what the text tells of the class Ratio -/
structure RCl (K : PySem.W.Frag) (mg : Str → Option Value) (C : Addr) : Prop where
  cl : Cls K C
  nT : NoAttr K C "top"
  nB : NoAttr K C "bottom"
  v_Ratio : ∃ u, mg "Ratio" = some u ∧ RelV (.ref C) u
  ha : PySem.W.findIn K (.ref C) "__class__" = some (some (.builtin "object.__class__"))
  hn : PySem.W.specialIn K (.builtin "object.__class__") "__get__" = some (some (.builtin "getset_descriptor.__get__"))
  ht : PySem.W.takesIn K (.builtin "object.__class__") = some true
  hm : PySem.W.mroIn K C (.type "object") = some true
  me : PySem.W.kitOne K (.ref C) (.ref C) = some true
  gcd : mg "gcd" = some (.builtin "math.gcd")
/-! ### promises -/
/-- Ratio(top, bottom) -/
def spRi (C : Addr) : Sp := fun vs H Q _ => ∃ (x dx : Addr) (t b : Int), vs = [.ref x, .int t, .int b] ∧ H x = some (.ins C dx []) ∧ b ≠ 0 ∧ b.natAbs < 2 ^ 8000 ∧
  Q .non (upd (upd H x (.ins C dx (putF "top" (.int (t.fdiv (sg t b))) []))) x (.ins C dx (rf (t.fdiv (sg t b)) (b.fdiv (sg t b)))))

def spInt : Sp := fun vs H Q _ => ∃ i : Int, vs = [.int i] ∧ Q (.bl true) H
section
variable {P : Program} {w : World} {K : PySem.W.Frag} {mg : Str → Option Value} {base : Heap}
theorem scInt : FnScope ["value"] ["value"] (defScope sIsInt) := ⟨rfl, rfl, rfl, by decide +kernel, rfl, by decide +kernel, by decide +kernel⟩
theorem ok_int {f : Addr} {fd : FuncData} (F : Fun K "is_integer" "is_integer" sIsInt f fd) (T : Bi mg) : FnOk P w K mg base CX0 1 f fd ["value"] spInt := by
  refine F.ok scInt (fun vs H Q E h => ?_) (fun cdv A outer s H vs Q E hr h => ?_)
  · obtain ⟨i, rfl, _⟩ := h
    rfl
  · obtain ⟨i, rfl, k⟩ := h
    have nd := scInt.nd
    refine ⟨_, (pss_one (ps_ret (pe_and (pe_callB call_isi (by rfl) T.n_isinstance (by decide +kernel) (pa_cons (pv 0) (pa_cons (pe_tyname "int" T.n_int (by decide +kernel)) pa_nil))) (pe_one (pe_not (pe_callB call_isi (by rfl) T.n_isinstance (by decide +kernel) (pa_cons (pv 0) (pa_cons (pe_tyname "bool" T.n_bool (by decide +kernel)) pa_nil)))))))), ?_⟩
    refine ⟨_, rfl, _, _, _, _, true, rfl, ClsV.ty "int", .base (.int i), kit_ty (by decide +kernel), true, rfl, iteT ?_⟩
    refine ⟨_, rfl, _, _, _, _, false, rfl, ClsV.ty "bool", .base (.int i), kit_ty (by decide +kernel), false, rfl, ?_⟩
    exact k
theorem scRi : FnScope ["self", "top", "bottom", "shared"] ["self", "top", "bottom"] (defScope sRi) := ⟨rfl, rfl, rfl, by decide +kernel, rfl, by decide +kernel, by decide +kernel⟩
theorem ok_rinit {f fI C : Addr} {fd fdI : FuncData} (F : FunD K "__init__" "Ratio.__init__" (defArgs sRi) (defBody sRi) (defScope sRi) [.int 1] [] f fd) (T : RCl K mg C) (GI : FnOk P w K mg base CX0 1 fI fdI ["value"] spInt) (bI : Binds K fdI ["value"] []) (dI : Df K mg "is_integer" fI) :
    FnOk P w K mg base CX0 2 f fd ["self", "top", "bottom"] (spRi C) := by
  refine F.ok scRi (fun vs H Q E h => ?_) (fun cdv A outer s H vs Q E hr h => ?_)
  · obtain ⟨x, dx, t, b, rfl, _⟩ := h
    rfl
  · obtain ⟨x, dx, t, b, rfl, hx, hb, hl, k⟩ := h
    have nd := scRi.nd
    have ci := calls_fn (X := (cxOf CX0 P w K mg base ["self", "top", "bottom", "shared"] "Ratio.__init__" (defScope sRi) f cdv A outer s H E).nox) GI (hr.mono (by decide)) bI .nil pass0
    refine ⟨_, PSs.nox (pss_cons (ps_if (pt_not (pt_val (pe_cs ci dI.1 dI.2 (pa_cons (pv 1) pa_nil))))
(pss_one ps_never)
pss_nil)
(pss_cons (ps_if (PW.pt (pw_or (pt_not (pt_val (pe_cs ci dI.1 dI.2 (pa_cons (pv 2) pa_nil)))) (pw_or1 (pt_cmpR op_eq (pv 2) pe_int (nomark _)))))
(pss_one ps_never)
pss_nil)
(pss_cons (ps_set (i := 3) nd rfl (Or.inl rfl) (pe_callBfun cr_gcd (by rfl) T.gcd (pa_cons (pv 1) (pa_cons (pv 2) pa_nil))))
(pss_cons (ps_if (pt_cmpR op_lt (pv 2) pe_int (nomark _))
(pss_one (ps_set (i := 3) nd rfl (Or.inl rfl) (pe_un un_neg (pv 3))))
pss_nil)
(pss_cons (ps_fld (pv 0) (pe_op op_fdivZ (pv 1) (pv 3)) rfl)
(pss_one (ps_fld (pv 0) (pe_op op_fdivZ (pv 2) (pv 3)) rfl))))))), ?_⟩
    refine ⟨_, rfl, t, rfl, true, rfl, iteF ?_⟩
    refine ⟨_, rfl, b, rfl, true, rfl, iteF ?_⟩
    refine ⟨_, rfl, rfl, _, rfl, if_f (decide_eq_false fun z => hb (V.int.inj z)) ?_⟩
    refine ⟨_, rfl, _, rfl, t, b, rfl, ?_⟩
    refine ⟨_, rfl, _, _, rfl, rfl, _, rfl, ?_⟩
    -- self.top = top // shared; self.bottom = bottom // shared
    have go : ∀ g : Int, g = sg t b → tSeq (sFld K (tVar 0) (tOp (rI CDivZ fun i j => V.int (i.fdiv j)) (tVar 1) (tVar 3)) "top") (sFld K (tVar 0) (tOp (rI CDivZ fun i j => V.int (i.fdiv j)) (tVar 2) (tVar 3)) "bottom")
        { nx := fun _ G => Q .non G, rt := Q } [some (.ref x), some (.int t), some (.int b), some (.int g)] H := fun g hg => by
      subst hg
      refine ⟨_, rfl, _, rfl, _, _, rfl, rfl, sg_log hb hl, _, rfl, x, C, dx, _, rfl, hx, T.cl, T.nT, (by show 0 < 1000; decide), ?_⟩
      refine ⟨_, rfl, _, rfl, _, _, rfl, rfl, ⟨sg_ne hb, (sg_log (t := t) hb hl).2⟩, _, rfl, x, C, dx, _, rfl, upd_same, T.cl, T.nB, (by show 1 < 1000; decide), ?_⟩
      exact k
    refine if_b (fun c => ?_) (fun c => ?_)
    · have c' : b < 0 := of_decide_eq_true c
      exact ⟨_, rfl, _, rfl, go _ (by unfold sg; rw [if_pos c'])⟩
    · have c' : ¬ b < 0 := of_decide_eq_false c
      exact go _ (by unfold sg; rw [if_neg c'])
end
end K02
end

section -- K02b
set_option linter.all false
set_option maxRecDepth 100000
set_option maxHeartbeats 4000000
namespace K02
open PySem PySem.Spec L2 Pk
open PyProof.Rows hiding St
/-! ### Ratio's own methods -/
theorem tyRat {K : PySem.W.Frag} {mg : Str → Option Value} {C : Addr} (T : RCl K mg C) {H : Hp} {x : Addr} {t b : Int} (h : RatAt C H x t b) : TyX K H (.ref x) (.ref C) := by
  obtain ⟨dx, h⟩ := h
  exact .base (TyOf.ins h T.cl T.ha T.hn T.ht T.hm)
def ratEq (t b u c : Int) : Bool := decide (t = u) && decide (b = c)
/-- == of two ratios -/
def spEq (C : Addr) : Sp := fun vs H Q _ => ∃ (x y : Addr) (t b u c : Int), vs = [.ref x, .ref y] ∧ RatAt C H x t b ∧ RatAt C H y u c ∧ Q (.bl (ratEq t b u c)) H
def spStr (C : Addr) : Sp := fun vs H Q _ => ∃ (x : Addr) (t b : Int), vs = [.ref x] ∧ RatAt C H x t b ∧ t.natAbs.log2 < 1000 ∧ b.natAbs.log2 < 1000 ∧ Q (.str (ratText t b)) H
section
variable {P : Program} {w : World} {K : PySem.W.Frag} {mg : Str → Option Value} {base : Heap}
theorem scREq : FnScope ["self", "other"] ["self", "other"] (defScope sREq) := ⟨rfl, rfl, rfl, by decide +kernel, rfl, by decide +kernel, by decide +kernel⟩
theorem ok_req {f fI C : Addr} {fd fdI : FuncData} (F : Fun K "__eq__" "Ratio.__eq__" sREq f fd) (T : RCl K mg C) (B : Bi mg) (G_int : FnOk P w K mg base CX0 1 fI fdI ["value"] spInt) (b_int : Binds K fdI ["value"] []) (d_int : Df K mg "is_integer" fI) :
    FnOk P w K mg base CX0 2 f fd ["self", "other"] (spEq C) := by
  refine F.ok scREq (fun vs H Q E h => ?_) (fun cdv A outer s H vs Q E hr h => ?_)
  · obtain ⟨x, y, t, b, u, c, rfl, _⟩ := h
    rfl
  · obtain ⟨x, y, t, b, u, c, rfl, hx, hy, k⟩ := h
    have nd := scREq.nd
    refine ⟨_, (pss_cons (ps_if (pt_val (pe_callB call_isi (by rfl) B.n_isinstance (by decide +kernel) (pa_cons (pv 1) (pa_cons (pe_gv T.v_Ratio) pa_nil))))
(pss_one (ps_ret (pe_and (pe_cmpR op_eq (pe_fld (pv 0) rfl) (pe_fld (pv 1) rfl) (nomark _)) (pe_one (pe_cmpR op_eq (pe_fld (pv 0) rfl) (pe_fld (pv 1) rfl) (nomark _))))))
pss_nil)
(pss_one (ps_ret (pe_and (pe_cs (calls_fn G_int (hr.mono (by decide)) b_int .nil pass0) d_int.1 d_int.2 (pa_cons (pv 1) pa_nil)) (pe_and (pe_cmpR op_eq (pe_fld (pv 0) rfl) pe_int (nomark _)) (pe_one (pe_cmpR op_eq (pe_fld (pv 0) rfl) (pv 1) (nomark _)))))))), ?_⟩
    obtain ⟨dx, ex⟩ := id hx
    obtain ⟨dy, ey⟩ := id hy
    refine ⟨_, rfl, _, _, _, _, true, rfl, ClsV.own C, tyRat T hy, T.me, true, rfl, iteT ?_⟩
    refine ⟨_, rfl, x, C, dx, _, _, rfl, ex, T.cl, T.nT, rf_top _ _, _, rfl, y, C, dy, _, _, rfl, ey, T.cl, T.nT, rf_top _ _, rfl, _, rfl, ?_⟩
    have e1 : decide (V.int t = V.int u) = decide (t = u) := by simp
    have e2 : decide (V.int b = V.int c) = decide (b = c) := by simp
    rw [e1]
    by_cases z : t = u
    · have z1 : decide (t = u) = true := decide_eq_true z
      rw [z1]
      refine iteT ⟨_, rfl, x, C, dx, _, _, rfl, ex, T.cl, T.nB, rf_bot _ _, _, rfl, y, C, dy, _, _, rfl, ey, T.cl, T.nB, rf_bot _ _, rfl, ?_⟩
      rw [e2]
      unfold ratEq at k
      rw [z1] at k
      exact k
    · have z1 : decide (t = u) = false := decide_eq_false z
      rw [z1]
      unfold ratEq at k
      rw [z1] at k
      exact iteF k
theorem scRStr : FnScope ["self"] ["self"] (defScope sRStr) := ⟨rfl, rfl, rfl, by decide +kernel, rfl, by decide +kernel, by decide +kernel⟩
theorem ok_rstr {f C : Addr} {fd : FuncData} (F : Fun K "__str__" "Ratio.__str__" sRStr f fd) (T : RCl K mg C) (B : Bi mg) : FnOk P w K mg base CX0 1 f fd ["self"] (spStr C) := by
  refine F.ok scRStr (fun vs H Q E h => ?_) (fun cdv A outer s H vs Q E hr h => ?_)
  · obtain ⟨x, t, b, rfl, _⟩ := h
    rfl
  · obtain ⟨x, t, b, rfl, hx, ht, hb, k⟩ := h
    have nd := scRStr.nd
    refine ⟨_, (pss_cons (ps_if (pt_cmpR op_eq (pe_fld (pv 0) rfl) pe_int (nomark _))
(pss_one (ps_ret (pe_callTy call_str_int (by rfl) B.n_str (by decide +kernel) (pa_cons (pe_fld (pv 0) rfl) pa_nil))))
pss_nil)
(pss_one (ps_ret (pe_joined (.cons (pe_fmt (pe_fld (pv 0) rfl)) (.cons pe_str (.cons (pe_fmt (pe_fld (pv 0) rfl)) .nil))))))), ?_⟩
    obtain ⟨dx, ex⟩ := id hx
    refine ⟨_, rfl, x, C, dx, _, _, rfl, ex, T.cl, T.nB, rf_bot _ _, rfl, _, rfl, ?_⟩
    have e1 : decide (V.int b = V.int 1) = decide (b = 1) := by simp
    rw [e1]
    refine if_b (fun z => ?_) (fun z => ?_)
    · refine ⟨_, rfl, x, C, dx, _, _, rfl, ex, T.cl, T.nT, rf_top _ _, t, rfl, by omega, ?_⟩
      unfold ratText at k
      rw [if_pos (of_decide_eq_true z)] at k
      exact k
    · unfold ratText at k
      rw [if_neg (of_decide_eq_false z)] at k
      have l1 := numLen ht
      have l2 := numLen hb
      refine ⟨_, rfl, x, C, dx, _, _, rfl, ex, T.cl, T.nT, rf_top _ _, .inr ⟨t, rfl, by omega, _, rfl, ?_, _, rfl, ?_, ?_⟩⟩
      · rw [Str.length_append, len_empty]
        exact sz (by omega)
      · have l0 : (Str.ofString "/").length = 1 := by decide +kernel
        rw [Str.length_append, Str.length_append, len_empty, l0]
        exact sz (by omega)
      · refine ⟨_, rfl, x, C, dx, _, _, rfl, ex, T.cl, T.nB, rf_bot _ _, .inr ⟨b, rfl, by omega, _, rfl, ?_, k⟩⟩
        have l0 : (Str.ofString "/").length = 1 := by decide +kernel
        rw [Str.length_append, Str.length_append, Str.length_append, len_empty, l0]
        exact sz (by omega)
/-- repr: its text, too -/
theorem scRRepr : FnScope ["self"] ["self"] (defScope sRRepr) := ⟨rfl, rfl, rfl, by decide +kernel, rfl, by decide +kernel, by decide +kernel⟩
theorem ok_rrepr {f g C : Addr} {fd gd : FuncData} (F : Fun K "__repr__" "Ratio.__repr__" sRRepr f fd) (B : Bi mg) (G_str : FnOk P w K mg base CX0 1 g gd ["self"] (spStr C)) (b_str : Binds K gd ["self"] [])
    (fs : PySem.W.findIn K (.ref C) "__str__" = some (some (.ref g))) (is : PySem.W.isFn K (.ref g) = true) : FnOk P w K mg base CX0 5 f fd ["self"] (spStr C) := by
  refine F.ok scRRepr (fun vs H Q E h => ?_) (fun cdv A outer s H vs Q E hr h => ?_)
  · obtain ⟨x, t, b, rfl, _⟩ := h
    rfl
  · obtain ⟨x, t, b, rfl, hx, ht, hb, k⟩ := h
    have nd := scRRepr.nd
    have r3 := (hr.mono (by decide : 3 ≤ 4)).in1.in1
    refine ⟨_, (pss_one (ps_ret (pe_callTy (call_strO (C := C) r3.units0 fs is (runAt_fn G_str r3 rfl b_str pass0)) (by rfl) B.n_str (by decide +kernel) (pa_cons (pv 0) pa_nil)))), ?_⟩
    obtain ⟨dx, ex⟩ := id hx
    exact ⟨_, rfl, x, dx, _, rfl, ex, x, t, b, rfl, hx, ht, hb, _, rfl, k⟩
end
end K02
end

section -- K02c
set_option linter.all false
set_option maxRecDepth 100000
set_option maxHeartbeats 4000000
namespace K02
open PySem PySem.Spec L2 Pk Evl
open PyProof.Rows hiding St
open TL (tl numL)
/-! ### a whole number's text -/
/-- what is read off the class Ratio itself -/
structure RC2 (K : PySem.W.Frag) (C : Addr) (mc : Value) (u : Value) : Prop where
  rd : ClX.CRead K C mc
  most : ClX.CVal K C mc "MOST_DIGITS" (.int 60) u
def spWh : Sp := fun vs H Q _ => ∃ z : Str, vs = [.str z] ∧ z.length ≤ 100000 ∧ ∀ H2, Same H H2 → Q (.bl (isWh (tl z))) H2
section
variable {P : Program} {w : World} {K : PySem.W.Frag} {mg : Str → Option Value} {base : Heap}
theorem scWh : FnScope ["word", "sign"] ["word"] (defScope sWh) := ⟨rfl, rfl, rfl, by decide +kernel, rfl, by decide +kernel, by decide +kernel⟩
theorem ok_wh {f C : Addr} {fd : FuncData} {mc u : Value} (F : Fun K "_is_whole_number" "_is_whole_number" sWh f fd) (T : RCl K mg C) (R : RC2 K C mc u) (B : Bi mg) (v_DIG : ∃ u, mg "_DIGITS" = some u ∧ RelV (.str "0123456789") u) :
    FnOk P w K mg base CX0 1 f fd ["word"] spWh := by
  refine F.ok scWh (fun vs H Q E h => ?_) (fun cdv A outer s H vs Q E hr h => ?_)
  · obtain ⟨z, rfl, _⟩ := h
    rfl
  · obtain ⟨z, rfl, hz, k⟩ := h
    have nd := scWh.nd
    refine ⟨_, (pss_cons (ps_if (PW.pt (pw_or (pt_not (pt_chain op_le op_le pe_int (pe_callB call_lenT (by rfl) B.n_len (by decide +kernel) (pa_cons (pv 0) pa_nil)) (ClX.pe_cval (pe_gv T.v_Ratio) rfl))) (pw_or1 (pt_not (pt_val (pe_callB (cr_all rfl) (by rfl) B.n_all (by decide +kernel) (pa_cons (pe_lc (own := [("sign", 1)]) (g := gName 1) (by rfl) nd (pi_str (pv 0)) (blkOk_by (own := [("sign", 1)]) (N := ["word", "sign"]) (sc := defScope sWh) (by decide +kernel)) (fun _ _ _ _ _ => pg_name (i := 1) nd rfl (Or.inl rfl)) (fun _ _ _ _ _ => pts_nil) (fun _ _ _ _ _ => (pe_cmpR op_inS (pv 1) (pe_gv v_DIG) rfl))) pa_nil)))))))
(pss_one (ps_ret pe_bl))
pss_nil)
(pss_one (ps_ret (pe_or (pe_cmpR op_eq (pv 0) pe_str (nomark _)) (pe_one (pe_cmpR op_ne (pe_ix ix_str (pv 0) pe_int (fun _ _ => rfl)) pe_str (nomark _))))))), ?_⟩
    have hl : (tl z).length ≤ 100000 := by rw [← TL.len_tl]; exact hz
    have t1 := et_chain (σ := start ["word", "sign"] [V.str z]) (H := H) (ta := tC (.int 1)) (tb := tCB rLenT (tCons (tVar 0) tNil)) (tc := ClX.tCVal K (tC (.ref C)) "MOST_DIGITS") ev_c (ev_cb (ea_cons (ev_var rfl) ea_nil) (rc_lenT (by omega))) (rv_I0 (g := fun i j => .bl (decide (i ≤ j)))) (ev_cval ev_c R.rd R.most) (rv_I0 (g := fun i j => .bl (decide (i ≤ j))))
    have t2 : EvT (tB (tCB (rAll K) (tCons (tLc (iStr (tVar 0)) (gName 1) tYes (tOp rInS (tVar 1) (tC (.str "0123456789"))) [1]) tNil))) (start ["word", "sign"] [V.str z]) H (((tl z).map isDig).all id) := by
      refine et_B (ev_all (bs := (tl z).map isDig) (el_lcS _ (ev_var rfl) ?_ ?_ (fun x => rfl) fun i c y hc hy H1 e1 => ?_))
      · simp [tl]
      · have : z.cps.size ≤ 100000 := hz
        omega
      · have e : y = V.bl (decide (c ∈ (Str.ofString "0123456789").cps.toList)) := by
          rw [List.getElem?_map, List.getElem?_map] at hy
          have hc' : (tl z)[i]? = some c := by simpa [tl] using hc
          rw [hc'] at hy
          rw [mem_digits]
          exact (Option.some.inj hy).symm
        rw [e]
        exact ev_op (ev_var rfl) ev_c rv_inS
    refine q_when (et_or (et_not t1) fun _ => et_not t2) (fun hb H1 e1 => ?_) (fun hb H1 e1 => ?_)
    · refine s_ret ev_c fun H2 e2 => ?_
      have e := wh_of z _ hb
      have q := k H2 (e1.trans e2)
      rw [e] at q
      exact q
    · have hn := wh_ne hb
      obtain ⟨c, l, hc⟩ : ∃ c l, tl z = c :: l := by
        cases h : tl z with
        | nil => rw [h] at hn; exact absurd hn (by decide)
        | cons c l => exact ⟨c, l, rfl⟩
      refine s_ret (ev_orV (ev_op (ev_var rfl) ev_c (rv_eq rfl)) fun _ => ev_op (ev_op (ev_var rfl) ev_c (rv_ixS (c := c) hz (atI_nat (j := 0) (by show (tl z)[0]? = some c; rw [hc] <;> rfl)))) ev_c (rv_ne rfl)) fun H2 e2 => ?_
      have e := wh_of z _ hb
      have q := k H2 (e1.trans e2)
      rw [e] at q
      have e3 : decide (V.str z = V.str "0") = decide (tl z = [48]) := by rw [dec_strT]; rfl
      have e4 : decide (V.str ⟨#[c]⟩ = V.str "0") = decide ((tl z).head? = some 48) := by
        rw [dec_strT, hc]
        show decide ([c] = [48]) = decide (some c = some 48)
        simp
      rw [e3, e4]
      exact q
end
end K02
end

section -- K02d
set_option linter.all false
set_option maxRecDepth 100000
set_option maxHeartbeats 4000000
namespace K02
open PySem PySem.Spec L2 Pk Evl
open PyProof.Rows hiding St
open TL (tl numL)
/-! ### the ratio of a word -/
def spRow (C : Addr) : Sp := fun vs H Q _ => ∃ z : Str, vs = [.str z] ∧ z.length ≤ 100000 ∧ (progOf (tl z) = none → ∀ H2, Same H H2 → Q .non H2) ∧
  (∀ t b, progOf (tl z) = some (t, b) → ∀ x H2, H x = none → Same H H2 → RatAt C H2 x t b → Q (.ref x) H2)
/-- Ratio(t, b), made -/
def rMk (C : Addr) : L2.St → List V → Hp → VK → Prop := fun _ vs H Q => ∀ x dx, H x = none → H dx = none → dx ≠ x → spRi C (.ref x :: (vs ++ [])) (upd (upd H dx (.own x)) x (.ins C dx [])) (fun v H2 => v = .non ∧ Q (.ref x) H2) E0
theorem ei_mk {C : Addr} {σ : L2.St} {H : Hp} {ta : TA} {t b : Int} (h : EvA ta σ H [.int t, .int b]) (h0 : b ≠ 0) (hb : b.natAbs < 2 ^ 8000) : EvI C (rf (t.fdiv (sg t b)) (b.fdiv (sg t b))) (tCS (rMk C) ta) σ H := fun H1 e Q q =>
  h H1 e _ fun H2 e2 x dx nx nd ne => by
    refine ⟨x, dx, t, b, rfl, upd_same, h0, hb, rfl, q x dx _ (fresh_back e2 nx) (e2.trans ?_) upd_same⟩
    intro a o ha
    rw [upd_ne (ne_of_none ha nx), upd_ne (ne_of_none ha nx), upd_ne (ne_of_none ha nx), upd_ne (ne_of_none ha nd)]
    exact ha
theorem sg_one {t b : Int} (h : 1 ≤ b) (g : Nat.gcd t.natAbs b.natAbs = 1) : sg t b = 1 := by
  unfold sg
  rw [if_neg (by omega), g]
  rfl
theorem fdiv_one (t : Int) : t.fdiv 1 = t := by rw [Int.fdiv_eq_ediv_of_nonneg t (by decide)]; exact Int.ediv_one t
section
variable {P : Program} {w : World} {K : PySem.W.Frag} {mg : Str → Option Value} {base : Heap}
theorem scRow : FnScope ["word", "is_negative", "parts", "top", "bottom", "part"] ["word"] (defScope sRow) := ⟨rfl, rfl, rfl, by decide +kernel, rfl, by decide +kernel, by decide +kernel⟩
theorem ok_row {f C fW fR : Addr} {fd fdW fdR : FuncData} (F : Fun K "ratio_of_word" "ratio_of_word" sRow f fd) (T : RCl K mg C) (B : Bi mg)
    (G_wh : FnOk P w K mg base CX0 1 fW fdW ["word"] spWh) (b_wh : Binds K fdW ["word"] []) (d_wh : Df K mg "_is_whole_number" fW)
    (M_R : Mk K C fR) (G_R : FnOk P w K mg base CX0 2 fR fdR ["self", "top", "bottom"] (spRi C)) (b_R : Binds K fdR ["self", "top", "bottom"] []) (d_R : Df K mg "Ratio" C) : FnOk P w K mg base CX0 4 f fd ["word"] (spRow C) := by
  refine F.ok scRow (fun vs H Q E h => ?_) (fun cdv A outer s H vs Q E hr h => ?_)
  · obtain ⟨z, rfl, _⟩ := h
    rfl
  · obtain ⟨z, rfl, hz, kN, kS⟩ := h
    have nd := scRow.nd
    refine ⟨_, (pss_cons (ps_set (i := 1) nd rfl (Or.inl rfl) (pe_m1 PySem.F.slot_str_startswith PySem.F.type_str_startswith mt_startswith (pv 0) pe_str))
(pss_cons (ps_set (i := 2) nd rfl (Or.inl rfl) (pe_splitN (pe_ifExp (pt_val (pv 1)) (pe_slice sl_str (pv 0) (po_some pe_int) po_none) (pv 0)) pe_str))
(pss_cons (ps_if (PW.pt (pw_or (pt_cmpR op_gt (pe_callB call_lenL (by rfl) B.n_len (by decide +kernel) (pa_cons (pv 2) pa_nil)) pe_int (nomark _)) (pw_or1 (pt_not (pt_val (pe_callB (cr_all rfl) (by rfl) B.n_all (by decide +kernel) (pa_cons (pe_lc (own := [("part", 5)]) (g := gName 5) (by rfl) nd (pi_list (pv 2)) (blkOk_by (own := [("part", 5)]) (N := ["word", "is_negative", "parts", "top", "bottom", "part"]) (sc := defScope sRow) (by decide +kernel)) (fun _ _ _ _ _ => pg_name (i := 5) nd rfl (Or.inl rfl)) (fun _ _ _ _ _ => pts_nil) (fun _ _ _ _ _ => (pe_cs (calls_fn G_wh (hr.mono (by decide)) b_wh .nil pass0) d_wh.1 d_wh.2 (pa_cons (pv 5) pa_nil)))) pa_nil)))))))
(pss_one (ps_ret pe_non))
pss_nil)
(pss_cons (ps_set (i := 3) nd rfl (Or.inl rfl) (pe_callTy call_intT (by rfl) B.n_int (by decide +kernel) (pa_cons (pe_ix ix_list (pv 2) pe_int (fun _ _ => rfl)) pa_nil)))
(pss_cons (ps_set (i := 4) nd rfl (Or.inl rfl) (pe_ifExp (pt_cmpR op_eq (pe_callB call_lenL (by rfl) B.n_len (by decide +kernel) (pa_cons (pv 2) pa_nil)) pe_int (nomark _)) (pe_callTy call_intT (by rfl) B.n_int (by decide +kernel) (pa_cons (pe_ix ix_list (pv 2) pe_int (fun _ _ => rfl)) pa_nil)) pe_int))
(pss_cons (ps_if (PW.pt (pw_and (pt_val (pv 1)) (pw_and1 (pt_cmpR op_eq (pv 3) pe_int (nomark _)))))
(pss_one (ps_ret pe_non))
pss_nil)
(pss_cons (ps_if (PW.pt (pw_and (pt_cmpR op_eq (pe_callB call_lenL (by rfl) B.n_len (by decide +kernel) (pa_cons (pv 2) pa_nil)) pe_int (nomark _)) (pw_and1 (PW.pt (pw_or (pt_cmpR op_lt (pv 4) pe_int (nomark _)) (pw_or1 (pt_cmpR op_ne (pe_callBfun cr_gcd (by rfl) T.gcd (pa_cons (pv 3) (pa_cons (pv 4) pa_nil))) pe_int (nomark _))))))))
(pss_one (ps_ret pe_non))
pss_nil)
(pss_one (ps_ret (pe_cs (calls_make M_R G_R (hr.mono (by decide)) b_R .nil pass0) d_R.1 d_R.2 (pa_cons (pe_ifExp (pt_val (pv 1)) (pe_un un_neg (pv 3)) (pv 3)) (pa_cons (pv 4) pa_nil)))))))))))), ?_⟩
    have lit1 : Str.ofString "-" = ⟨#[45]⟩ := by decide +kernel
    have lit2 : Str.ofString "/" = ⟨#[47]⟩ := by decide +kernel
    obtain ⟨neg, hneg⟩ : ∃ neg, Txt.startswith z "-" = neg := ⟨_, rfl⟩
    have eneg : neg = isNeg (tl z) := by rw [← hneg]; exact lit_one lit1 z
    obtain ⟨r, hr1⟩ : ∃ r, r = if neg = true then cutS z (some 1) none else z := ⟨_, rfl⟩
    have er : tl r = bare (tl z) := by
      unfold bare
      rw [hr1, ← eneg]
      cases neg with
      | true => rw [if_pos rfl, if_pos rfl, show (1 : Int) = ((1 : Nat) : Int) from rfl, tl_from]; exact List.drop_one
      | false => rw [if_neg Bool.false_ne_true, if_neg Bool.false_ne_true]
    refine q_asg (ev_starts (ev_var rfl) ev_c) fun H1 e1 => ?_
    rw [hneg]
    have hz' : z.length ≤ 1000000 := by omega
    have evr : Ev (tIf (tB (tVar 1)) (tSl rSlS (tVar 0) (tPart (tC (.int 1))) tNoPart) (tVar 0)) [some (.str z), some (.bl neg), none, none, none, none] H1 (.str r) := by
      refine ev_if (b := neg) (et_B (ev_var rfl)) (fun c => ?_) (fun c => ?_)
      · rw [hr1, if_pos c]
        exact ev_slS (ev_var rfl) (eo_some ev_c) eo_none hz'
      · rw [hr1, if_neg (by rw [c]; exact Bool.false_ne_true)]
        exact ev_var rfl
    have hrl : r.length ≤ 100000 := by
      rw [hr1]
      split
      · exact Nat.le_trans (cutS_length _ _ _) hz
      · exact hz
    refine q_asgL (el_split evr ev_c (by decide +kernel) (by omega)) fun p H2 hp e2 h2 => ?_
    obtain ⟨ps, hps⟩ : ∃ ps, ps = Txt.split r "/" := ⟨_, rfl⟩
    rw [← hps] at h2
    have hP : ps.map tl = cutAt 47 (bare (tl z)) := by rw [hps, split_tl lit2 (by decide), er]
    have hlen : ∀ s ∈ ps, s.length ≤ 100000 := fun s hs => by
      have hm : tl s ∈ TL.spl [47] 0 [] (bare (tl z)) := by
        have := List.mem_map_of_mem (f := tl) hs
        rw [hP] at this
        exact this
      have := spl_len 47 _ _ _ hm
      rw [List.length_nil, ← er, ← TL.len_tl, ← TL.len_tl] at this
      omega
    have hn : ps.length ≤ 200000 := by
      have h3 : ps.length = (cutAt 47 (bare (tl z))).length := by rw [← hP, List.length_map]
      have h4 := spl_count 47 (bare (tl z)) []
      rw [← er, ← TL.len_tl] at h4
      rw [h3, ← er]
      exact Nat.le_trans h4 (by omega)
    have t2 : EvT (tB (tCB (rAll K) (tCons (tLc (iList K (tVar 2)) (gName 5) tYes (tCS (fun _ vs H Q => spWh (vs ++ []) H Q E0) (tCons (tVar 5) tNil)) [5]) tNil))) [some (.str z), some (.bl neg), some (.ref p), none, none, none] H2 ((ps.map fun s => isWh (tl s)).all id) := by
      refine et_B (ev_all (bs := ps.map fun s => isWh (tl s)) (el_lcM _ (ev_var rfl) (sq_of h2) ?_ ?_ (fun x => rfl) fun i x y hx hy H1 e => ?_))
      · rw [List.length_map, List.length_map, List.length_map]
      · rw [List.length_map]
        omega
      · rw [List.getElem?_map] at hx hy
        rw [List.getElem?_map] at hy
        cases hs : ps[i]? with
        | none => rw [hs] at hx; cases hx
        | some s =>
          rw [hs] at hx hy
          cases hx
          cases hy
          have hm : s ∈ ps := List.mem_of_getElem? hs
          exact ev_cs (ea_cons (ev_var rfl) ea_nil) fun H5 e5 Q q => ⟨s, rfl, hlen s hm, fun H6 e6 => q H6 e6⟩
    have bmath : (decide ((2 : Int) < ((ps.map V.str).length : Int)) || !((ps.map fun s => isWh (tl s)).all id)) = (decide (2 < (ps.map tl).length) || !(((ps.map tl).map isWh).all id)) := by
      rw [List.length_map, List.length_map, List.map_map]
      have : decide ((2 : Int) < (ps.length : Int)) = decide (2 < ps.length) := by rw [Bool.eq_iff_iff, decide_eq_true_eq, decide_eq_true_eq]; omega
      rw [this]
      rfl
    refine q_when (et_or (et_test (ev_op (ev_len (ev_var rfl) (sq_of h2)) ev_c rv_I0)) fun _ => et_not t2) (fun hb H3 e3 => ?_) (fun hb H3 e3 => ?_)
    · refine s_ret ev_c fun H4 e4 => kN (prog_none hP ?_) H4 (((e1.trans e2).trans e3).trans e4)
      rw [← bmath]
      exact hb
    · have hb' : (decide (2 < (ps.map tl).length) || !(((ps.map tl).map isWh).all id)) = false := by
        rw [← bmath]
        exact hb
      obtain ⟨a0, b, g1, g2, g3, g4, g5, g6⟩ := prog_some (w := tl z) hP hb'
      have h3 := e3 _ _ h2
      obtain ⟨a, ga, ea⟩ : ∃ a, ps[0]? = some a ∧ tl a = a0 := by
        rw [List.getElem?_map] at g1
        cases hs : ps[0]? with
        | none => rw [hs] at g1; cases g1
        | some s => rw [hs] at g1; exact ⟨s, rfl, Option.some.inj g1⟩
      subst ea
      have la : a.length ≤ 60 := by rw [TL.len_tl]; exact (isWh_parts g2).2.1
      refine q_asg (ev_cb (ea_cons (ev_op (ev_var rfl) ev_c (rv_ixL (sq_of h3) (atI_nat (j := 0) (by rw [List.getElem?_map, ga] <;> rfl)))) ea_nil) (rc_intT (intT g2) (by omega))) fun H4 e4 => ?_
      have h4 := e4 _ _ h3
      have evb : Ev (tIf (tTest (tOp rEq (tCB (rLenS K) (tCons (tVar 2) tNil)) (tC (.int 2)))) (tCB rIntT (tCons (tOp (rIxL K) (tVar 2) (tC (.int 1))) tNil)) (tC (.int 1)))
          [some (.str z), some (.bl neg), some (.ref p), some (.int ((val (tl a) : Nat) : Int)), none, none] H4 (.int ((b : Nat) : Int)) := by
        refine ev_if (et_test (ev_op (ev_len (ev_var rfl) (sq_of h4)) ev_c (rv_eq rfl))) (fun c => ?_) (fun c => ?_)
        · have c2 : ps.length = 2 := by
            have := V.int.inj (of_decide_eq_true c)
            rw [List.length_map] at this
            omega
          obtain ⟨q0, q1, q2, q3⟩ := g3 (by rw [List.length_map]; exact c2)
          obtain ⟨q, gq, eq⟩ : ∃ q, ps[1]? = some q ∧ tl q = q0 := by
            rw [List.getElem?_map] at q1
            cases hs : ps[1]? with
            | none => rw [hs] at q1; cases q1
            | some s => rw [hs] at q1; exact ⟨s, rfl, Option.some.inj q1⟩
          subst eq
          have lq : q.length ≤ 60 := by rw [TL.len_tl]; exact (isWh_parts q2).2.1
          rw [q3]
          exact ev_cb (ea_cons (ev_op (ev_var rfl) ev_c (rv_ixL (sq_of h4) (atI_nat (j := 1) (by rw [List.getElem?_map, gq] <;> rfl)))) ea_nil) (rc_intT (intT q2) (by omega))
        · have c2 : ps.length ≠ 2 := fun w => by
            have := of_decide_eq_false c
            rw [List.length_map, w] at this
            exact this rfl
          rw [g4 (by rw [List.length_map]; exact c2)]
          exact ev_c
      refine q_asg evb fun H5 e5 => ?_
      have h5 := e5 _ _ h4
      have cm : (neg && decide (V.int ((val (tl a) : Nat) : Int) = V.int 0)) = (neg && decide (val (tl a) = 0)) := by
        have : decide (V.int ((val (tl a) : Nat) : Int) = V.int 0) = decide (val (tl a) = 0) := by
          rw [Bool.eq_iff_iff, decide_eq_true_eq, decide_eq_true_eq, V.int.injEq]
          omega
        rw [this]
      have dm : (decide (V.int ((ps.map V.str).length : Int) = V.int 2) && (decide (((b : Nat) : Int) < 2) || !decide (V.int ((Nat.gcd (((val (tl a) : Nat) : Int)).natAbs (((b : Nat) : Int)).natAbs : Nat) : Int) = V.int 1))) =
          (decide ((ps.map tl).length = 2) && (decide (b < 2) || !(Nat.gcd (val (tl a)) b == 1))) := by
        have x1 : decide (V.int ((ps.map V.str).length : Int) = V.int 2) = decide ((ps.map tl).length = 2) := by
          rw [Bool.eq_iff_iff, decide_eq_true_eq, decide_eq_true_eq, V.int.injEq, List.length_map, List.length_map]
          omega
        have x2 : decide (((b : Nat) : Int) < 2) = decide (b < 2) := by rw [Bool.eq_iff_iff, decide_eq_true_eq, decide_eq_true_eq]; omega
        have x3 : decide (V.int ((Nat.gcd (((val (tl a) : Nat) : Int)).natAbs (((b : Nat) : Int)).natAbs : Nat) : Int) = V.int 1) = (Nat.gcd (val (tl a)) b == 1) := by
          rw [Bool.eq_iff_iff, decide_eq_true_eq, beq_iff_eq, V.int.injEq, Int.natAbs_natCast, Int.natAbs_natCast]
          omega
        rw [x1, x2, x3]
      refine q_when (et_and (et_B (ev_var rfl)) fun _ => et_test (ev_op (ev_var rfl) ev_c (rv_eq rfl))) (fun c H6 e6 => ?_) (fun c H6 e6 => ?_)
      · refine s_ret ev_c fun H7 e7 => kN ?_ H7 (((((((e1.trans e2).trans e3).trans e4).trans e5).trans e6)).trans e7)
        rw [g6, ← eneg, ← cm, c, if_pos rfl]
      · have h6 := e6 _ _ h5
        refine q_when (et_and (et_test (ev_op (ev_len (ev_var rfl) (sq_of h6)) ev_c (rv_eq rfl))) fun _ => et_or (et_test (ev_op (ev_var rfl) ev_c rv_I0)) fun _ => et_test (ev_op (ev_cb (ea_cons (ev_var rfl) (ea_cons (ev_var rfl) ea_nil)) rc_gcd) ev_c (rv_ne rfl))) (fun d H7 e7 => ?_) (fun d H7 e7 => ?_)
        · refine s_ret ev_c fun H8 e8 => kN ?_ H8 ((((((((e1.trans e2).trans e3).trans e4).trans e5).trans e6)).trans e7).trans e8)
          rw [g6, ← eneg, ← cm, c, if_neg Bool.false_ne_true, ← dm, d, if_pos rfl]
        · rw [← eneg, ← cm, c, if_neg Bool.false_ne_true, ← dm, d, if_neg Bool.false_ne_true] at g6
          obtain ⟨_, _, b1, b2, gg⟩ := prog_text g6
          have evt : Ev (tIf (tB (tVar 1)) (tUn (rU fun i => V.int (-i)) (tVar 3)) (tVar 3)) [some (.str z), some (.bl neg), some (.ref p), some (.int ((val (tl a) : Nat) : Int)), some (.int ((b : Nat) : Int)), none] H7 (.int (sgn neg (val (tl a)))) := by
            refine ev_if (et_B (ev_var rfl)) (fun c => ?_) (fun c => ?_)
            · unfold sgn
              rw [if_pos c]
              exact ev_un (ev_var rfl) ru_neg
            · unfold sgn
              rw [if_neg (by rw [c]; exact Bool.false_ne_true)]
              exact ev_var rfl
          have bb : (((b : Nat) : Int)).natAbs < 2 ^ 8000 := Nat.lt_of_lt_of_le b2 (by decide +kernel)
          refine s_retI (ei_mk (ea_cons evt (ea_cons (ev_var rfl) ea_nil)) (by omega) bb) fun x dx H8 nx e8 hx => ?_
          rw [sg_one b1 gg, fdiv_one, fdiv_one] at hx
          exact kS _ _ g6 x H8 (fresh_back (((((((e1.trans e2).trans e3).trans e4).trans e5).trans e6)).trans e7) nx) ((((((((e1.trans e2).trans e3).trans e4).trans e5).trans e6)).trans e7).trans e8) ⟨dx, hx⟩
end
end K02
end

section -- K02e
set_option linter.all false
set_option maxRecDepth 100000
set_option maxHeartbeats 4000000
namespace K02
open PySem PySem.Spec L2 Pk Evl
open PyProof.Rows hiding St
open TL (tl numL)
/-! ### BadText, raised; Ratio.read -/
def spBT (K : PySem.W.Frag) (C : Addr) : Sp := fun vs H Q _ => ∃ (a : Addr) (x y : V), vs = [.ref a, x, y] ∧ H a = some (exo a C none) ∧ ∀ d, H d = none → d ≠ a → Q .non (upd (upd (upd H d (exd d [("line", x)])) a (exo a C (some d))) d (exd d [("word", y), ("line", x)]))
/-- what the text tells of BadText, at C, its __init__ at fI -/
structure BTC (K : PySem.W.Frag) (mg : Str → Option Value) (C fI : Addr) : Prop where
  ox : OexC K C
  nL : PySem.W.findIn K (.ref C) "line" = some none
  nW : PySem.W.findIn K (.ref C) "word" = some none
  gl : mg "BadText" = some (.ref C)
  iC : PySem.W.findIn K (.ref C) "__init__" = some (some (.ref fI))
  tI : PySem.W.typeIn K (.ref fI) = some (.type "function")
section
variable {P : Program} {w : World} {K : PySem.W.Frag} {mg : Str → Option Value} {base : Heap}
theorem scBT : FnScope ["self", "line", "word"] ["self", "line", "word"] (defScope sBTi) := ⟨rfl, rfl, rfl, by decide +kernel, rfl, by decide +kernel, by decide +kernel⟩
theorem ok_bt {f C : Addr} {fd : FuncData} (F : Fun K "__init__" "BadText.__init__" sBTi f fd) (T : BTC K mg C f) : FnOk P w K mg base CX0 1 f fd ["self", "line", "word"] (spBT K C) := by
  refine F.ok scBT (fun vs H Q E h => ?_) (fun cdv A outer s H vs Q E hr h => ?_)
  · obtain ⟨a, x, y, rfl, _⟩ := h
    rfl
  · obtain ⟨a, x, y, rfl, ha, k⟩ := h
    refine ⟨_, pss_cons (ps_ost (pv 0) (pv 1)) (pss_one (ps_ost (pv 0) (pv 2))), ?_⟩
    refine ⟨_, rfl, _, rfl, a, C, rfl, T.ox, T.nL, .inl ⟨ha, fun d nd ne => ?_⟩⟩
    refine ⟨_, rfl, _, rfl, a, C, rfl, T.ox, T.nW, .inr ⟨d, [("line", x)], upd_same, ?_, (by show 1 ≤ 900; decide), ?_⟩⟩
    · rw [upd_ne ne, upd_same]
    · exact k d nd ne
/-- what is left of a raised BadText -/
def RzT (C : Addr) (H : Hp) (E : XK) (k : Int) : Prop := ∀ d H2, H d = none → Same H H2 → H2 d = some (.xd [("word", .int k), ("line", .int 0)]) → E (.ref C) (some d) H2
theorem rzt_mk {C : Addr} {H : Hp} {E : XK} {k : Int} (h : RzT C H E k) {ta : TA} {σ : L2.St} (ha : EvA ta σ H [.int 0, .int k]) : tMkO C (spBT K C) [] ta σ H E := ha H (Ex.refl H) _ fun H1 e1 => by
  refine ⟨by show 2 ≤ 1000; decide, fun a na => ⟨a, .int 0, .int k, rfl, upd_same, fun d nd ne => ⟨rfl, d, [("word", .int k), ("line", .int 0)], ?_, upd_same, ?_, ?_⟩⟩⟩
  · rw [upd_ne (Ne.symm ne), upd_same]
  · rw [upd_ne ne] at nd
    exact nd
  · rw [upd_ne ne] at nd
    refine h d _ (fresh_back e1 nd) (fun b o hb => ?_) upd_same
    have hb1 := e1 b o hb
    rw [upd_ne (ne_of_none hb1 nd), del_ne (ne_of_none hb1 na), upd_ne (ne_of_none hb1 nd), upd_ne (ne_of_none hb1 na), upd_ne (ne_of_none hb1 nd), upd_ne (ne_of_none hb1 na)]
    exact hb1
theorem tnext_seq {u : TS} {D : Ends} {σ : L2.St} {H : Hp} (h : u D σ H) : tSeq Ends.nx u D σ H := h
def spRead (K : PySem.W.Frag) (C D : Addr) : Sp := fun vs H Q E => ∃ x, vs = [x] ∧ ((∃ T, TyX K H x T ∧ PySem.W.kitOne K T (.type "str") = some false ∧ RzT D H E 0) ∨
  ∃ (z : Str) (u : List Nat) (more : List (List Nat)), x = .str z ∧ z.length ≤ 90000 ∧ cutAt 32 (tl z) = u :: more ∧ (progOf u = none → RzT D H E 0) ∧
    ∀ t b, progOf u = some (t, b) → (more ≠ [] → RzT D H E 1) ∧ (more = [] → ∀ x H2, H x = none → Same H H2 → RatAt C H2 x t b → Q (.ref x) H2))
theorem scRead : FnScope ["text", "words", "ratio"] ["text"] (defScope sRRead) := ⟨rfl, rfl, rfl, by decide +kernel, rfl, by decide +kernel, by decide +kernel⟩
theorem RzT.ext {C : Addr} {H H2 : Hp} {E : XK} {k : Int} (h : RzT C H E k) (e : Same H H2) : RzT C H2 E k := fun d H3 n e2 hd => h d H3 (fresh_back e n) (e.trans e2) hd
theorem ok_read {f C D fI fW : Addr} {fd fdI fdW : FuncData} (F : Fun K "read" "Ratio.read" sRRead f fd) (B : Bi mg) (T : BTC K mg D fI) (G_bt : FnOk P w K mg base CX0 1 fI fdI ["self", "line", "word"] (spBT K D)) (b_bt : Binds K fdI ["self", "line", "word"] [])
    (G_row : FnOk P w K mg base CX0 4 fW fdW ["word"] (spRow C)) (b_row : Binds K fdW ["word"] []) (d_row : Df K mg "ratio_of_word" fW) : FnOk P w K mg base (L2.CX P w) 5 f fd ["text"] (spRead K C D) := by
  refine F.okX scRead (fun vs H Q E h => ?_) (fun cdv A outer s H vs Q E hr h => ?_)
  · obtain ⟨x, rfl, _⟩ := h
    rfl
  · obtain ⟨x, rfl, h⟩ := h
    have nd := scRead.nd
    refine ⟨_, (pss_cons (ps_if (pt_not (pt_val (pe_callB call_isi (by rfl) B.n_isinstance (by decide +kernel) (pa_cons (pv 0) (pa_cons (pe_tyname "str" B.n_str (by decide +kernel)) pa_nil)))))
(pss_one (ps_raise rfl (takes_of rfl rfl rfl rfl) (pmk_oex T.ox T.iC T.tI G_bt (hr.mono (by decide)) b_bt .nil pass0 rfl T.gl (pa_cons pe_int (pa_cons pe_int pa_nil)))))
pss_nil)
(pss_cons (ps_set (i := 1) nd rfl (Or.inl rfl) (pe_splitN (pv 0) pe_str))
(pss_cons (ps_set (i := 2) nd rfl (Or.inl rfl) (pe_cs (calls_fn G_row (hr.mono (by decide)) b_row .nil pass0) d_row.1 d_row.2 (pa_cons (pe_ix ix_list (pv 1) pe_int (fun _ _ => rfl)) pa_nil)))
(pss_cons (ps_if (pt_cmpR op_isN' (pv 2) pe_non (nomark _))
(pss_one (ps_raise rfl (takes_of rfl rfl rfl rfl) (pmk_oex T.ox T.iC T.tI G_bt (hr.mono (by decide)) b_bt .nil pass0 rfl T.gl (pa_cons pe_int (pa_cons pe_int pa_nil)))))
pss_nil)
(pss_cons (ps_if (pt_cmpR op_gt (pe_callB call_lenL (by rfl) B.n_len (by decide +kernel) (pa_cons (pv 1) pa_nil)) pe_int (nomark _))
(pss_one (ps_raise rfl (takes_of rfl rfl rfl rfl) (pmk_oex T.ox T.iC T.tI G_bt (hr.mono (by decide)) b_bt .nil pass0 rfl T.gl (pa_cons pe_int (pa_cons pe_int pa_nil)))))
pss_nil)
(pss_one (ps_ret (pv 2)))))))), ?_⟩
    rcases h with ⟨ty, t1, t2, z0⟩ | ⟨z, u, more, rfl, hz, hc, k0, k1⟩
    · refine ⟨_, rfl, _, _, _, _, false, rfl, ClsV.ty "str", t1, t2, false, rfl, iteT ?_⟩
      exact rzt_mk z0 (ea_cons ev_c (ea_cons ev_c ea_nil))
    · refine ⟨_, rfl, _, _, _, _, true, rfl, ClsV.ty "str", .base (.str z), kit_ty (by decide +kernel), true, rfl, iteF ?_⟩
      have lit : Str.ofString " " = ⟨#[32]⟩ := by decide +kernel
      refine q_asgL (el_split (ev_var rfl) ev_c (by decide +kernel) (by omega)) fun p H1 hp e1 h1 => ?_
      obtain ⟨ps, hps⟩ : ∃ ps, ps = Txt.split z " " := ⟨_, rfl⟩
      rw [← hps] at h1
      have hP : ps.map tl = u :: more := by rw [hps, split_tl lit (by decide), hc]
      obtain ⟨a, r, rfl, ea, er⟩ : ∃ a r, ps = a :: r ∧ tl a = u ∧ r.map tl = more := by
        cases ps with
        | nil => cases hP
        | cons a r => exact ⟨a, r, rfl, (List.cons.inj hP).1, (List.cons.inj hP).2⟩
      have la : a.length ≤ 100000 := by
        have hm : u ∈ TL.spl [32] 0 [] (tl z) := by
          have : u ∈ cutAt 32 (tl z) := by rw [hc]; exact List.mem_cons_self
          exact this
        have := spl_len 32 _ _ _ hm
        rw [List.length_nil, ← TL.len_tl, ← ea, ← TL.len_tl] at this
        omega
      subst ea
      -- ratio = ratio_of_word(words[0])
      refine ⟨_, rfl, p, _, 0, _, rfl, rfl, SqL.of h1, atI_nat (j := 0) rfl, a, rfl, la, fun hp0 H2 e2 => ?_, fun t b hpr x H2 nx e2 hx => ?_⟩
      · refine ⟨_, rfl, rfl, true, rfl, iteT ?_⟩
        exact rzt_mk ((k0 hp0).ext (Same.trans e1 e2)) (ea_cons ev_c (ea_cons ev_c ea_nil))
      · refine ⟨_, rfl, rfl, false, rfl, iteF (tnext_seq ?_)⟩
        obtain ⟨m1, m2⟩ := k1 t b hpr
        have h2 := e2 _ _ h1
        refine q_when (b := decide ((((a :: r).map V.str).length : Int) > 1)) (et_test (ev_op (ev_len (ev_var rfl) (sq_of h2)) ev_c rv_I0)) (fun c H3 e3 => ?_) (fun c H3 e3 => ?_)
        · have hm : more ≠ [] := fun w => by
            have c' := of_decide_eq_true c
            have : r = [] := List.map_eq_nil_iff.mp (er.trans w)
            subst this
            rw [List.length_map] at c'
            exact absurd c' (by show ¬ ((1 : Int) > 1); decide)
          exact rzt_mk ((m1 hm).ext ((Same.trans e1 e2).trans e3)) (ea_cons ev_c (ea_cons ev_c ea_nil))
        · have hm : more = [] := by
            have c' := of_decide_eq_false c
            rw [List.length_map, List.length_cons] at c'
            have : r = [] := List.length_eq_zero_iff.mp (by omega)
            subst this
            exact er.symm
          obtain ⟨dx, hx'⟩ := hx
          exact s_ret (ev_var rfl) fun H4 e4 => m2 hm x H4 (fresh_back e1 nx) (((Same.trans e1 e2).trans e3).trans e4) ⟨dx, e4 _ _ (e3 _ _ hx')⟩
end
end K02
end

section -- K02f
set_option linter.all false
set_option maxRecDepth 100000
set_option maxHeartbeats 4000000
namespace K02
open PySem PySem.Spec L2 Pk Evl
open PyProof.Rows hiding St
open TL (tl numL)
abbrev sPen : Stmt := top 16
abbrev sDraw : Stmt := top 17
abbrev sPick : Stmt := top 18
/-! ### the pen: a list of cells, the turn, what is left -/
def PenAt (H : Hp) (p : Addr) (k : Nat) : Prop := ∃ (c : Addr) (t l : Int) (ns : List Int), H p = some (.lst [.ref c, .int t, .int l]) ∧ H c = some (.lst (ns.map V.int)) ∧ c ≠ p ∧ ns.length ≤ 63 ∧ 0 ≤ t ∧ t + (k : Int) ≤ 2 ^ 40 ∧ 0 ≤ l
/-- what stands beside p stays -/
def Fr (p : Addr) (H H1 : Hp) : Prop := ∀ b o, b ≠ p → H b = some o → H1 b = some o
theorem Fr.of {p : Addr} {H H1 : Hp} (e : Ex H H1) : Fr p H H1 := fun b o _ h => e b o h
theorem Fr.trans {p : Addr} {H H1 H2 : Hp} (a : Fr p H H1) (b : Fr p H1 H2) : Fr p H H2 := fun x o n h => b x o n (a x o n h)
theorem Fr.upd {p : Addr} {H H1 : Hp} {o : HO} (a : Fr p H H1) : Fr p H (upd H1 p o) := fun x u n h => by rw [upd_ne n]; exact a x u n h
theorem PenAt.ext {H H1 : Hp} {p : Addr} {k : Nat} (h : PenAt H p k) (e : Ex H H1) : PenAt H1 p k := by
  obtain ⟨c, t, l, ns, a, b, r⟩ := h
  exact ⟨c, t, l, ns, e _ _ a, e _ _ b, r⟩
theorem PenAt.less {H : Hp} {p : Addr} {k m : Nat} (h : PenAt H p k) (e : m ≤ k) : PenAt H p m := by
  obtain ⟨c, t, l, ns, a, b, n, z, t0, tk, l0⟩ := h
  exact ⟨c, t, l, ns, a, b, n, z, t0, by omega, l0⟩
/-- _law_pen -/
def spPen (K : PySem.W.Frag) : Sp := fun vs H Q _ => ∃ (s : Addr) (ns : List Int), vs = [.ref s] ∧ SqL K H s (ns.map V.int) ∧ ∀ p H1, H p = none → Ex H H1 → PenAt H1 p (2 ^ 40) → Q (.ref p) H1
/-- _law_draw -/
def spDraw : Sp := fun vs H Q _ => ∃ (p : Addr) (n : Int) (k : Nat), vs = [.ref p, .int n] ∧ 0 < n ∧ n < 2 ^ 100 ∧ PenAt H p (k + 1) ∧ ∀ r H1, 0 ≤ r → r < n → Fr p H H1 → PenAt H1 p k → Q (.int r) H1
/-- _law_pick, out of a list, out of a text -/
def spPickL : Sp := fun vs H Q _ => ∃ (p a : Addr) (xs : List V) (k : Nat), vs = [.ref p, .ref a] ∧ H a = some (.lst xs) ∧ a ≠ p ∧ xs ≠ [] ∧ xs.length ≤ 1000 ∧ PenAt H p (k + 1) ∧ ∀ x H1, x ∈ xs → Fr p H H1 → PenAt H1 p k → Q x H1
def spPickS : Sp := fun vs H Q _ => ∃ (p : Addr) (z : Str) (k : Nat), vs = [.ref p, .str z] ∧ z.length ≠ 0 ∧ z.length ≤ 1000 ∧ PenAt H p (k + 1) ∧ ∀ c H1, c ∈ tl z → Fr p H H1 → PenAt H1 p k → Q (.str ⟨#[c]⟩) H1
section
variable {P : Program} {w : World} {K : PySem.W.Frag} {mg : Str → Option Value} {base : Heap}
theorem scPen : FnScope ["_law_script", "_law_cell"] ["_law_script"] (defScope sPen) := ⟨rfl, rfl, rfl, by decide +kernel, rfl, by decide +kernel, by decide +kernel⟩
theorem cut_ints (ns : List Int) (lo hi : Option Int) : ∃ ms : List Int, cutV (ns.map V.int) lo hi = ms.map V.int := ⟨(ns.drop (HT.sIx (ns.map V.int).length 0 lo)).take (HT.sIx (ns.map V.int).length (ns.map V.int).length hi - HT.sIx (ns.map V.int).length 0 lo), by
  unfold cutV
  rw [List.map_take, List.map_drop]⟩
theorem ret_lst_c {tl : TE} {tr : TA} {D : Ends} {σ : L2.St} {H : Hp} (h : tl σ H fun x H1 => tr σ H1 fun vs H2 => (x :: vs).length ≤ sizeLine ∧ ∀ p, H2 p = none → D.rt (.ref p) (upd H2 p (.lst (x :: vs)))) : tRet (tLst (tCons tl tr)) D σ H := h
theorem ok_pen {f : Addr} {fd : FuncData} (F : Fun K "_law_pen" "_law_pen" sPen f fd) (B : Bi mg) : FnOk P w K mg base CX0 1 f fd ["_law_script"] (spPen K) := by
  refine F.ok scPen (fun vs H Q E h => ?_) (fun cdv A outer s H vs Q E hr h => ?_)
  · obtain ⟨x, _, rfl, _⟩ := h
    rfl
  · obtain ⟨x, ns, rfl, hx, kq⟩ := h
    have nd := scPen.nd
    refine ⟨_, (pss_one (ps_ret (pe_lst (pa_cons (pe_lc (own := [("_law_cell", 1)]) (g := gName 1) (by rfl) nd (pi_list (pe_slice sl_list (pv 0) po_none (po_some pe_int))) (blkOk_by (own := [("_law_cell", 1)]) (N := ["_law_script", "_law_cell"]) (sc := defScope sPen) (by decide +kernel)) (fun _ _ _ _ _ => pg_name (i := 1) nd rfl (Or.inl rfl)) (fun _ _ _ _ _ => pts_nil) (fun _ _ _ _ _ => (pe_callTy call_intI (by rfl) B.n_int (by decide +kernel) (pa_cons (pv 1) pa_nil)))) (pa_cons pe_int (pa_cons pe_int pa_nil)))))), ?_⟩
    obtain ⟨ms, hms⟩ := cut_ints ns none (some 63)
    have hl : ms.length ≤ 63 := by
      have h1 := congrArg List.length hms
      rw [List.length_map] at h1
      rw [← h1]
      unfold cutV
      have h2 : HT.sIx (ns.map V.int).length (ns.map V.int).length (some ((63 : Nat) : Int)) ≤ 63 := by rw [HT.sIx_nat]; omega
      have h3 : HT.sIx (ns.map V.int).length (ns.map V.int).length (some 63) ≤ 63 := h2
      rw [List.length_take]
      omega
    have esl : EvL (tSl (rSlL K) (tVar 0) tNoPart (tPart (tC (.int 63)))) (L2.start ["_law_script", "_law_cell"] [V.ref x]) H (ms.map V.int) := by
      rw [← hms]
      exact el_sl (ev_var rfl) eo_none (eo_some ev_c) hx
    have el := el_lcN (K := K) (te := tCB rInt1 (tCons (tVar 1) tNil)) (j := 1) (vs := [1]) (ms.map V.int) esl rfl (by rw [List.length_map]; omega) (fun _ => rfl) (fun i a b h1 h2 H1 e => by
      rw [h1] at h2
      cases h2
      rw [List.getElem?_map] at h1
      cases h3 : ms[i]? with
      | none => rw [h3] at h1; cases h1
      | some j =>
        rw [h3] at h1
        cases h1
        exact ev_cb (ea_cons (ev_var rfl) ea_nil) rc_int)
    refine ret_lst_c (el H (Ex.refl H) _ fun c H1 hc e1 h1 => ⟨sz (by show 3 ≤ 1000000; decide), fun p hp => ?_⟩)
    have nc : c ≠ p := fun z => by rw [z, hp] at h1; cases h1
    refine kq p _ (fresh_back e1 hp) (e1.trans (Ex.new hp)) ⟨c, 0, 0, ms, upd_same, ?_, nc, hl, by decide, by decide, by decide⟩
    rw [upd_ne nc]
    exact h1
theorem mulWb {i j : Int} {a b : Nat} (hi : i.natAbs < 2 ^ a) (hj : j.natAbs < 2 ^ b) (h : 0 < a ∧ 0 < b ∧ a + b ≤ 100000) : CMulW i j := by
  have h1 := PySem.Flt.log2_lt_of h.1 hi
  have h2 := PySem.Flt.log2_lt_of h.2.1 hj
  unfold CMulW
  omega
theorem mulW40 {i j : Int} (hi : i.natAbs < 2 ^ 40) (h0 : 0 ≤ j) (h1 : j < 2 ^ 40) : CMulW i j := mulWb hi (b := 40) (by omega) (by decide)
theorem scDraw : FnScope ["_law_pen_here", "_law_many", "_law_left", "_law_turn", "_law_cell", "_law_mixed"] ["_law_pen_here", "_law_many"] (defScope sDraw) := ⟨rfl, rfl, rfl, by decide +kernel, rfl, by decide +kernel, by decide +kernel⟩
theorem nb_ints {H : Hp} : ∀ ns : List Int, DpAll K H (ns.map V.int) (ns.map PyData.int)
  | [] => .nil
  | n :: r => .cons (.int n) (nb_ints r)
theorem eqv_nil (ns : List Int) : PyData.eqv (.list (ns.map PyData.int)) (.list []) = decide (ns = []) := by
  cases ns <;> simp [PyData.eqv, PyData.eqvAll]
/-- pen[i], the pen known -/
theorem ev_pen {H : Hp} {p c : Addr} {t l : Int} {σ : L2.St} {i : Nat} {v : V} (s0 : σ[0]? = some (some (.ref p))) (hp : H p = some (.lst [.ref c, .int t, .int l])) (hv : ([.ref c, .int t, .int l] : List V)[i]? = some v) : Ev (tOp (rIxL K) (tVar 0) (tC (.int (i : Int)))) σ H v := ev_op (ev_var s0) ev_c (rv_ixL (sq_of hp) (atI_nat hv))
theorem ok_draw {f : Addr} {fd : FuncData} (F : Fun K "_law_draw" "_law_draw" sDraw f fd) (B : Bi mg) : FnOk P w K mg base CX0 1 f fd ["_law_pen_here", "_law_many"] spDraw := by
  refine F.ok scDraw (fun vs H Q E h => ?_) (fun cdv A outer s H vs Q E hr h => ?_)
  · obtain ⟨p, n, k, rfl, _⟩ := h
    rfl
  · obtain ⟨p, n, k, rfl, n0, nb, ⟨c, t, l, ns, hp, hc, ne, hn, t0, tk, l0⟩, kq⟩ := h
    have nd := scDraw.nd
    refine ⟨_, (pss_cons (ps_if (pt_cmpR op_gt (pe_ix ix_list (pv 0) pe_int (fun _ _ => rfl)) pe_int (nomark _))
(pss_cons (ps_set (i := 2) nd rfl (Or.inl rfl) (pe_ix ix_list (pv 0) pe_int (fun _ _ => rfl)))
(pss_cons (ps_asg (pe_op op_fdivZ (pe_callTy call_intI (by rfl) B.n_int (by decide +kernel) (pa_cons (pv 2) pa_nil)) (pv 1)) (pg_sub (pv 0) pe_int set_list))
(pss_one (ps_ret (pe_op op_mod (pe_callTy call_intI (by rfl) B.n_int (by decide +kernel) (pa_cons (pv 2) pa_nil)) (pv 1))))))
pss_nil)
(pss_cons (ps_set (i := 3) nd rfl (Or.inl rfl) (pe_ix ix_list (pv 0) pe_int (fun _ _ => rfl)))
(pss_cons (ps_asg (pe_op op_add (pv 3) pe_int) (pg_sub (pv 0) pe_int set_list))
(pss_cons (ps_set (i := 4) nd rfl (Or.inl rfl) (pe_op op_add (pe_op op_mulW pe_int (pv 3)) pe_int))
(pss_cons (ps_if (pt_cmpR (op_neD hr.units) (pe_ix ix_list (pv 0) pe_int (fun _ _ => rfl)) (pe_lst pa_nil) (nomark _))
(pss_one (ps_set (i := 4) nd rfl (Or.inl rfl) (pe_ix ix_list (pe_ix ix_list (pv 0) pe_int (fun _ _ => rfl)) (pe_op op_mod (pe_callTy call_intI (by rfl) B.n_int (by decide +kernel) (pa_cons (pv 3) pa_nil)) (pe_callB call_lenL (by rfl) B.n_len (by decide +kernel) (pa_cons (pe_ix ix_list (pv 0) pe_int (fun _ _ => rfl)) pa_nil))) (fun _ _ => rfl))))
pss_nil)
(pss_cons (ps_if (PW.pt (pw_and (pt_cmpR op_lt (pv 3) (pe_callB call_lenL (by rfl) B.n_len (by decide +kernel) (pa_cons (pe_ix ix_list (pv 0) pe_int (fun _ _ => rfl)) pa_nil)) (nomark _)) (pw_and1 (pt_cmpR op_ge (pe_callB call_absI (by rfl) B.n_abs (by decide +kernel) (pa_cons (pv 4) pa_nil)) (pe_op op_powW pe_int pe_int) (nomark _)))))
(pss_cons (ps_set (i := 2) nd rfl (Or.inl rfl) (pe_op op_sub (pe_callB call_absI (by rfl) B.n_abs (by decide +kernel) (pa_cons (pv 4) pa_nil)) (pe_op op_powW pe_int pe_int)))
(pss_cons (ps_asg (pe_op op_fdivZ (pe_callTy call_intI (by rfl) B.n_int (by decide +kernel) (pa_cons (pv 2) pa_nil)) (pv 1)) (pg_sub (pv 0) pe_int set_list))
(pss_one (ps_ret (pe_op op_mod (pe_callTy call_intI (by rfl) B.n_int (by decide +kernel) (pa_cons (pv 2) pa_nil)) (pv 1))))))
pss_nil)
(pss_cons (ps_set (i := 5) nd rfl (Or.inl rfl) (pe_op op_mod (pe_callTy call_intI (by rfl) B.n_int (by decide +kernel) (pa_cons (pe_op op_powW (pe_op op_add (pe_op op_add (pe_op op_mod (pe_callTy call_intI (by rfl) B.n_int (by decide +kernel) (pa_cons (pv 4) pa_nil)) pe_int) (pe_op op_mulW pe_int (pv 3))) pe_int) pe_int) pa_nil)) pe_int))
(pss_cons (ps_set (i := 5) nd rfl (Or.inl rfl) (pe_op op_mod (pe_callTy call_intI (by rfl) B.n_int (by decide +kernel) (pa_cons (pe_op op_powW (pe_op op_add (pe_op op_add (pe_op op_mulW (pv 5) (pe_op op_add (pe_op op_mulW pe_int (pv 3)) pe_int)) (pe_op op_mulW (pe_op op_mulW pe_int (pv 3)) (pv 3))) pe_int) pe_int) pa_nil)) pe_int))
(pss_one (ps_ret (pe_op op_mod (pe_callTy call_intI (by rfl) B.n_int (by decide +kernel) (pa_cons (pe_op op_fdivZ (pv 5) pe_int) pa_nil)) (pv 1)))))))))))), ?_⟩
    have dn : ∀ i : Int, CDivZ i n := fun i => divZ (a := 100) (by omega) (by omega) (by decide) (by decide)
    have pick : ∀ (σ : L2.St) (H1 : Hp) (t1 l1 : Int), σ[0]? = some (some (.ref p)) → σ[1]? = some (some (.int n)) → σ[2]? = some (some (.int l1)) → Fr p H H1 → H1 p = some (.lst [.ref c, .int t1, .int l]) → 0 ≤ t1 → t1 + (k : Int) ≤ 2 ^ 40 → 0 ≤ l1 →
        tSeq (tAsg (tOp (rI CDivZ fun i j => V.int (i.fdiv j)) (tCB rInt1 (tCons (tVar 2) tNil)) (tVar 1)) (gSub (tVar 0) (tC (.int 2)) rSetL)) (tRet (tOp (rI (fun _ j => 0 < j) fun i j => V.int (i % j)) (tCB rInt1 (tCons (tVar 2) tNil)) (tVar 1))) { nx := fun _ G => Q .non G, rt := Q } σ H1 := fun σ H1 t1 l1 s0 s1 s2 fr h1 t10 t1k l10 => by
      refine q_setL (j := 2) h1 (ev_op (ev_cb (ea_cons (ev_var s2) ea_nil) rc_int) (ev_var s1) (rv_I (dn l1))) (ev_var s0) ev_c (by show 2 < 3; decide) fun H2 e2 => ?_
      refine s_ret (ev_op (ev_cb (ea_cons (ev_var s2) ea_nil) rc_int) (ev_var s1) (rv_I n0)) fun H3 e3 => ?_
      refine kq _ H3 (Int.emod_nonneg _ (by omega)) (Int.emod_lt_of_pos _ n0) ((fr.trans (Fr.of e2)).upd.trans (Fr.of e3)) ⟨c, t1, l1.fdiv n, ns, e3 _ _ upd_same, e3 _ _ ?_, ne, hn, t10, t1k, Int.fdiv_nonneg l10 (by omega)⟩
      rw [upd_ne ne]
      exact e2 _ _ (fr _ _ ne hc)
    refine q_when (b := decide (l > 0)) (et_test (ev_op (ev_pen (i := 2) rfl hp rfl) ev_c rv_I0)) (fun c1 H1 e1 => ?_) (fun c1 H1 e1 => ?_)
    · refine q_asg (ev_pen (i := 2) rfl (e1 _ _ hp) rfl) fun H2 e2 => ?_
      exact pick _ H2 t l rfl rfl rfl (Fr.of (e1.trans e2)) (e2 _ _ (e1 _ _ hp)) t0 (by omega) l0
    · refine q_asg (ev_pen (i := 1) rfl (e1 _ _ hp) rfl) fun H2 e2 => ?_
      refine q_setL (j := 1) (e2 _ _ (e1 _ _ hp)) (ev_op (ev_var rfl) ev_c rv_I0) (ev_var rfl) ev_c (by show 1 < 3; decide) fun H3 e3 => ?_
      obtain ⟨Hx, hHx⟩ : ∃ Hx, Hx = upd H3 p (.lst (([.ref c, .int t, .int l] : List V).set 1 (.int (t + 1)))) := ⟨_, rfl⟩
      rw [← hHx]
      have fx : Fr p H Hx := by rw [hHx]; exact (Fr.of ((e1.trans e2).trans e3)).upd
      have hpx : Hx p = some (.lst [.ref c, .int (t + 1), .int l]) := by rw [hHx]; exact upd_same
      have hcx : Hx c = some (.lst (ns.map V.int)) := fx _ _ ne hc
      have t1 : t < 2 ^ 40 := by omega
      refine q_asg (ev_op (ev_op ev_c (ev_var rfl) (rv_I (mulW40 (by decide) t0 t1))) ev_c rv_I0) fun H4 e4 => ?_
      have dl : 0 ≤ t % (ns.length : Int) := by
        by_cases z : ns.length = 0
        · rw [z]; show 0 ≤ t % 0; rw [Int.emod_zero]; exact t0
        · exact Int.emod_nonneg _ (by omega)
      obtain ⟨u, hu1, hu2⟩ : ∃ u : Int, (ns ≠ [] → (ns.map V.int)[(t % (ns.length : Int)).toNat]? = some (.int u)) ∧ (ns = [] → u = 62017 * t + 389) := by
        by_cases z : ns = []
        · exact ⟨_, fun w => (w z).elim, fun _ => rfl⟩
        · have h1 : 0 < ns.length := List.length_pos_iff.mpr z
          have h2 : (t % (ns.length : Int)).toNat < ns.length := by
            have := Int.emod_lt_of_pos t (b := (ns.length : Int)) (by omega)
            omega
          exact ⟨ns[(t % (ns.length : Int)).toNat]'h2, fun _ => by rw [List.getElem?_map, List.getElem?_eq_getElem h2]; rfl, fun w => (z w).elim⟩
      refine q_ifAsg (v := .int u) (b := !decide (ns = [])) (et_test fun H5 e5 Q5 q5 => ?_) (fun b5 => ?_) (fun b5 => ?_) fun H6 e6 => ?_
      · refine ev_pen (i := 0) rfl (e4 _ _ hpx) rfl H5 e5 _ fun H6 e6 => ⟨(by decide), fun q hq => ?_⟩
        have nq : Ex H6 (upd H6 q (.lst [])) := Ex.new hq
        refine ⟨.list (ns.map PyData.int), .list [], .lst (sq_of (nq _ _ (e6 _ _ (e5 _ _ (e4 _ _ hcx))))) (nb_ints ns), .lst (sq_of upd_same) .nil, PySem.W.shaped_ints ns, PySem.W.shaped_ints [], ?_⟩
        rw [eqv_nil]
        exact q5 _ (e6.trans nq)
      · have z : ns ≠ [] := fun w => by rw [decide_eq_true w] at b5; cases b5
        refine ev_op (ev_pen (i := 0) rfl (e4 _ _ hpx) rfl) (ev_op (ev_cb (ea_cons (ev_var rfl) ea_nil) rc_int) (ev_len (ev_pen (i := 0) rfl (e4 _ _ hpx) rfl) (sq_of (e4 _ _ hcx))) (rv_I ?_)) (rv_ixL (sq_of (e4 _ _ hcx)) ?_)
        · rw [List.length_map]
          have : 0 < ns.length := List.length_pos_iff.mpr z
          show (0 : Int) < (ns.length : Int)
          omega
        · rw [List.length_map, ← Int.toNat_of_nonneg dl]
          exact atI_nat (hu1 z)
      · have z : ns = [] := by
          by_cases z : ns = []
          · exact z
          · rw [decide_eq_false z] at b5; cases b5
        rw [hu2 z]
        rfl
      · have e46 := e4.trans e6
        have hp6 := e46 _ _ hpx
        have hc6 := e46 _ _ hcx
        refine q_when (et_and (et_test (ev_op (ev_var rfl) (ev_len (ev_pen (i := 0) rfl hp6 rfl) (sq_of hc6)) rv_I0)) fun _ => et_test (ev_op (ev_cb (ea_cons (ev_var rfl) ea_nil) rc_abs) (ev_op ev_c ev_c (rv_I ⟨by decide, by decide, by decide⟩)) rv_I0)) (fun b H7 e7 => ?_) (fun b H7 e7 => ?_)
        · have b2 := of_decide_eq_true (Bool.and_eq_true_iff.mp b).2
          refine q_asg (ev_op (ev_cb (ea_cons (ev_var rfl) ea_nil) rc_abs) (ev_op ev_c ev_c (rv_I ⟨by decide, by decide, by decide⟩)) rv_I0) fun H8 e8 => ?_
          exact pick _ H8 (t + 1) _ rfl rfl rfl (fx.trans (Fr.of ((e46.trans e7).trans e8))) (e8 _ _ (e7 _ _ hp6)) (by omega) (by omega) (by omega)
        · have a1 : 0 ≤ u % 2147483549 ∧ u % 2147483549 < 2147483549 := ⟨Int.emod_nonneg _ (by decide), Int.emod_lt_of_pos _ (by decide)⟩
          refine q_asg (ev_op (ev_cb (ea_cons (ev_op (ev_op (ev_op (ev_op (ev_cb (ea_cons (ev_var rfl) ea_nil) rc_int) ev_c (rv_I (by decide : (0 : Int) < 2147483549))) (ev_op ev_c (ev_var rfl) (rv_I (mulW40 (by decide) t0 t1))) rv_I0) ev_c rv_I0) ev_c (rv_I ⟨by decide, by decide, by omega⟩)) ea_nil) rc_int) ev_c (rv_I (by decide : (0 : Int) < 2147483647))) fun H8 e8 => ?_
          obtain ⟨m, hm⟩ : ∃ m : Int, m = (u % 2147483549 + 71059 * t + 389) ^ (5 : Int).toNat % 2147483647 := ⟨_, rfl⟩
          rw [← hm]
          have m0 : 0 ≤ m ∧ m < 2147483647 := by rw [hm]; exact ⟨Int.emod_nonneg _ (by decide), Int.emod_lt_of_pos _ (by decide)⟩
          have w1 : 0 ≤ m * (2 * t + 1429) ∧ m * (2 * t + 1429) ≤ 2147483647 * (2 * 2 ^ 40 + 1429) := ⟨Int.mul_nonneg m0.1 (by omega), Int.mul_le_mul (by omega) (by omega) (by omega) (by decide)⟩
          have w2 : 0 ≤ 62017 * t * t ∧ 62017 * t * t ≤ (62017 * 2 ^ 40) * 2 ^ 40 := ⟨Int.mul_nonneg (by omega) t0, Int.mul_le_mul (by omega) (by omega) t0 (by decide)⟩
          refine q_asg (ev_op (ev_cb (ea_cons (ev_op (ev_op (ev_op (ev_op (ev_var rfl) (ev_op (ev_op ev_c (ev_var rfl) (rv_I (mulW40 (by decide) t0 t1))) ev_c rv_I0) (rv_I (mulWb (a := 31) (b := 50) (by omega) (by omega) (by decide)))) (ev_op (ev_op ev_c (ev_var rfl) (rv_I (mulW40 (by decide) t0 t1))) (ev_var rfl) (rv_I (mulWb (a := 60) (b := 50) (by omega) (by omega) (by decide)))) rv_I0) ev_c rv_I0) ev_c (rv_I ⟨by decide, by decide, by omega⟩)) ea_nil) rc_int) ev_c (rv_I (by decide : (0 : Int) < 2147483579))) fun H9 e9 => ?_
          refine s_ret (ev_op (ev_cb (ea_cons (ev_op (ev_var rfl) ev_c (rv_I ⟨by decide, by decide⟩)) ea_nil) rc_int) (ev_var rfl) (rv_I n0)) fun H10 e10 => ?_
          have ee := (((e46.trans e7).trans e8).trans e9).trans e10
          exact kq _ H10 (Int.emod_nonneg _ (by omega)) (Int.emod_lt_of_pos _ n0) (fx.trans (Fr.of ee)) ⟨c, t + 1, l, ns, ee _ _ hpx, ee _ _ hcx, ne, hn, by omega, by omega, l0⟩
theorem scPick : FnScope ["_law_pen_here", "_law_some"] ["_law_pen_here", "_law_some"] (defScope sPick) := ⟨rfl, rfl, rfl, by decide +kernel, rfl, by decide +kernel, by decide +kernel⟩
/-- a draw, called -/
theorem ok_pickL {f fD : Addr} {fd fdD : FuncData} (F : Fun K "_law_pick" "_law_pick" sPick f fd) (B : Bi mg) (G_draw : FnOk P w K mg base CX0 1 fD fdD ["_law_pen_here", "_law_many"] spDraw) (b_draw : Binds K fdD ["_law_pen_here", "_law_many"] []) (d_draw : Df K mg "_law_draw" fD) :
    FnOk P w K mg base CX0 2 f fd ["_law_pen_here", "_law_some"] spPickL := by
  refine F.ok scPick (fun vs H Q E h => ?_) (fun cdv A outer s H vs Q E hr h => ?_)
  · obtain ⟨p, a, xs, k, rfl, _⟩ := h
    rfl
  · obtain ⟨p, a, xs, k, rfl, ha, ne, hx, hz, hp, kq⟩ := h
    refine ⟨_, (pss_one (ps_ret (pe_ix ix_list (pv 1) (pe_cs (calls_fn G_draw (hr.mono (by decide)) b_draw .nil pass0) d_draw.1 d_draw.2 (pa_cons (pv 0) (pa_cons (pe_callB call_lenL (by rfl) B.n_len (by decide +kernel) (pa_cons (pv 1) pa_nil)) pa_nil))) (fun _ _ => rfl)))), ?_⟩
    have h0 : 0 < xs.length := List.length_pos_iff.mpr hx
    refine ⟨_, rfl, _, rfl, _, rfl, a, xs, rfl, Or.inl (sq_of ha), p, _, k, rfl, (by omega), ?_, hp, fun r H1 r0 r1 fr hp1 => ?_⟩
    · exact Int.lt_of_le_of_lt (b := 1000) (by omega) (by decide)
    · obtain ⟨j, rfl⟩ := Int.eq_ofNat_of_zero_le r0
      have hj : j < xs.length := by omega
      exact ⟨a, xs, _, _, rfl, rfl, sq_of (fr a _ ne ha), atI_nat (List.getElem?_eq_getElem hj), kq _ _ (List.getElem_mem hj) fr hp1⟩
theorem ok_pickS {f fD : Addr} {fd fdD : FuncData} (F : Fun K "_law_pick" "_law_pick" sPick f fd) (B : Bi mg) (G_draw : FnOk P w K mg base CX0 1 fD fdD ["_law_pen_here", "_law_many"] spDraw) (b_draw : Binds K fdD ["_law_pen_here", "_law_many"] []) (d_draw : Df K mg "_law_draw" fD) :
    FnOk P w K mg base CX0 2 f fd ["_law_pen_here", "_law_some"] spPickS := by
  refine F.ok scPick (fun vs H Q E h => ?_) (fun cdv A outer s H vs Q E hr h => ?_)
  · obtain ⟨p, z, k, rfl, _⟩ := h
    rfl
  · obtain ⟨p, z, k, rfl, hx, hz, hp, kq⟩ := h
    refine ⟨_, (pss_one (ps_ret (pe_ix ix_str (pv 1) (pe_cs (calls_fn G_draw (hr.mono (by decide)) b_draw .nil pass0) d_draw.1 d_draw.2 (pa_cons (pv 0) (pa_cons (pe_callB call_lenT (by rfl) B.n_len (by decide +kernel) (pa_cons (pv 1) pa_nil)) pa_nil))) (fun _ _ => rfl)))), ?_⟩
    refine ⟨_, rfl, _, rfl, _, rfl, z, rfl, sz (by omega), p, _, k, rfl, (by omega), ?_, hp, fun r H1 r0 r1 fr hp1 => ?_⟩
    · exact Int.lt_of_le_of_lt (b := 1000) (by omega) (by decide)
    · obtain ⟨j, rfl⟩ := Int.eq_ofNat_of_zero_le r0
      have hj : j < z.cps.toList.length := by
        have : z.length = z.cps.toList.length := Array.length_toList.symm
        omega
      exact ⟨z, _, _, rfl, rfl, sz (by omega), atI_nat (List.getElem?_eq_getElem hj), kq _ _ (List.getElem_mem hj) fr hp1⟩
end
end K02
end

section -- K02g
set_option linter.all false
set_option maxRecDepth 100000
set_option maxHeartbeats 4000000
namespace K02
open PySem PySem.Spec L2 Pk Evl
open PyProof.Rows hiding St
open TL (tl numL)
abbrev sCommon : Stmt := top 19
abbrev sDigits : Stmt := top 20
abbrev sNumbers : Stmt := top 21
/-! ### the greatest common divisor, by turns -/
def spCommon : Sp := fun vs H Q _ => ∃ a b : Int, vs = [.int a, .int b] ∧ a.natAbs < 2 ^ 200 ∧ b.natAbs < 2 ^ 200 ∧ ∀ H1, Ex H H1 → Q (.int ((Nat.gcd a.natAbs b.natAbs : Nat) : Int)) H1
/-- where the turns are -/
def Tn (g i x y : Nat) : Prop := Nat.gcd x y = g ∧ ((i = 0 ∧ x < 2 ^ 200 ∧ y < 2 ^ 200) ∨ ∃ j, i = j + 1 ∧ y < x ∧ x * y * 2 ^ j ≤ 2 ^ 400)
theorem mod_half {x y : Nat} (hy : 0 < y) (h : y ≤ x) : 2 * (x % y) ≤ x := by
  have h1 := Nat.mod_lt x hy
  have h2 := Nat.mod_add_div x y
  have h3 : 1 ≤ x / y := (Nat.one_le_div_iff hy).mpr h
  have h4 : y * 1 ≤ y * (x / y) := Nat.mul_le_mul_left y h3
  omega
theorem Tn.step {g i x y : Nat} (h : Tn g i x y) (hy : 0 < y) : Tn g (i + 1) y (x % y) := by
  obtain ⟨hg, h⟩ := h
  refine ⟨?_, .inr ⟨i, rfl, Nat.mod_lt x hy, ?_⟩⟩
  · rw [← hg, Nat.gcd_comm x y, Nat.gcd_rec y x, Nat.gcd_comm]
  · rcases h with ⟨rfl, hx, hy2⟩ | ⟨j, rfl, hl, hb⟩
    · have h1 := Nat.mod_lt x hy
      have h2 : y * (x % y) ≤ 2 ^ 200 * 2 ^ 200 := Nat.mul_le_mul (by omega) (by omega)
      have h3 : (2 : Nat) ^ 200 * 2 ^ 200 = 2 ^ 400 := by rw [← Nat.pow_add]
      rw [Nat.pow_zero, Nat.mul_one]
      omega
    · have h1 := mod_half hy (Nat.le_of_lt hl)
      have h2 : y * (x % y) * 2 ^ (j + 1) = y * (2 * (x % y)) * 2 ^ j := by rw [Nat.pow_succ]; simp only [Nat.mul_assoc, Nat.mul_comm, Nat.mul_left_comm]
      rw [h2]
      refine Nat.le_trans (Nat.mul_le_mul_right _ (Nat.mul_le_mul_left y h1)) ?_
      rw [Nat.mul_comm y x]
      exact hb
theorem Tn.last {g x y : Nat} (h : Tn g 600 x y) : y = 0 := by
  obtain ⟨_, h⟩ := h
  rcases h with ⟨h0, _⟩ | ⟨j, hj, hl, hb⟩
  · cases h0
  · have e : j = 599 := by omega
    subst e
    by_cases hy : y = 0
    · exact hy
    · have h1 : 1 ≤ x * y := Nat.mul_pos (by omega) (by omega)
      have h2 : 1 * 2 ^ 599 ≤ x * y * 2 ^ 599 := Nat.mul_le_mul_right _ h1
      have h3 : (2 : Nat) ^ 400 < 2 ^ 599 := Nat.pow_lt_pow_right (by decide) (by decide)
      omega
theorem q_par {i j : Nat} {ta : TA} {σ : L2.St} {H : Hp} {v u : V} {tz : TS} {D : Ends} (h : EvA ta σ H [v, u]) (k : ∀ H1, Ex H H1 → tz D ((σ.set i (some v)).set j (some u)) H1) : tSeq (tPar i j ta) tz D σ H := h H (Ex.refl H) _ fun H1 e => ⟨v, u, rfl, k H1 e⟩
theorem s_par {i j : Nat} {ta : TA} {σ : L2.St} {H : Hp} {v u : V} {D : Ends} (h : EvA ta σ H [v, u]) (k : ∀ H1, Ex H H1 → D.nx ((σ.set i (some v)).set j (some u)) H1) : tPar i j ta D σ H := h H (Ex.refl H) _ fun H1 e => ⟨v, u, rfl, k H1 e⟩
section
variable {P : Program} {w : World} {K : PySem.W.Frag} {mg : Str → Option Value} {base : Heap}
theorem scCommon : FnScope ["_law_one", "_law_other", "_law_turn"] ["_law_one", "_law_other"] (defScope sCommon) := ⟨rfl, rfl, rfl, by decide +kernel, rfl, by decide +kernel, by decide +kernel⟩
theorem abs_nat (a : Int) : (if a < 0 then -a else a) = ((a.natAbs : Nat) : Int) := by split <;> omega
theorem ok_common {f : Addr} {fd : FuncData} (F : Fun K "_law_common" "_law_common" sCommon f fd) (B : Bi mg) : FnOk P w K mg base CX0 1 f fd ["_law_one", "_law_other"] spCommon := by
  refine F.ok scCommon (fun vs H Q E h => ?_) (fun cdv A outer s H vs Q E hr h => ?_)
  · obtain ⟨a, b, rfl, _⟩ := h
    rfl
  · obtain ⟨a, b, rfl, ha, hb, kq⟩ := h
    have nd := scCommon.nd
    refine ⟨_, (pss_cons (ps_par (i := 0) (j := 1) (by rfl) nd rfl rfl (by decide) rfl rfl (pa_cons (pe_callB call_absI (by rfl) B.n_abs (by decide +kernel) (pa_cons (pv 0) pa_nil)) (pa_cons (pe_callB call_absI (by rfl) B.n_abs (by decide +kernel) (pa_cons (pv 1) pa_nil)) pa_nil)) (by rfl))
(pss_cons (ps_for PassesOwn.never rfl (pi_range1 (by rfl) B.n_range (pa_cons pe_int pa_nil)) (pg_name (i := 2) nd rfl (Or.inl rfl))
(pss_cons (ps_if (pt_cmpR op_eq (pv 1) pe_int (nomark _))
(pss_one ps_break)
pss_nil)
(pss_one (ps_par (i := 0) (j := 1) (by rfl) nd rfl rfl (by decide) rfl rfl (pa_cons (pv 1) (pa_cons (pe_op op_mod (pe_callTy call_intI (by rfl) B.n_int (by decide +kernel) (pa_cons (pv 0) pa_nil)) (pv 1)) pa_nil)) (by rfl)))))
(pss_one (ps_ret (pv 0))))), ?_⟩
    obtain ⟨g, hg⟩ : ∃ g, g = Nat.gcd a.natAbs b.natAbs := ⟨_, rfl⟩
    rw [← hg] at kq
    refine q_par (ea_cons (ev_cb (ea_cons (ev_var rfl) ea_nil) rc_abs) (ea_cons (ev_cb (ea_cons (ev_var rfl) ea_nil) rc_abs) ea_nil)) fun H1 e1 => ?_
    rw [abs_nat, abs_nat]
    refine q_forR1 (ea_cons ev_c ea_nil) (by decide) (fun i σ H2 => ∃ (x y : Nat) (o : Option V), σ = [some (.int (x : Int)), some (.int (y : Int)), o] ∧ Tn g i x y ∧ Ex H H2) (fun H2 e2 => ⟨_, _, _, rfl, ⟨hg.symm, .inl ⟨rfl, ha, hb⟩⟩, e1.trans e2⟩) (fun i σ H2 hi pv => ?_) fun σ H2 pv => ?_
    · obtain ⟨x, y, o, rfl, T, e2⟩ := pv
      refine q_when (et_test (ev_op (ev_var rfl) ev_c (rv_eq rfl))) (fun c H3 e3 => ?_) (fun c H3 e3 => ?_)
      · have hy : y = 0 := by
          have := V.int.inj (of_decide_eq_true c)
          omega
        subst hy
        have hx : x = g := by rw [← T.1, Nat.gcd_zero_right]
        subst hx
        exact s_ret (ev_var rfl) fun H4 e4 => kq H4 ((e2.trans e3).trans e4)
      · have hy : 0 < y := by
          have c' := of_decide_eq_false c
          by_cases z : y = 0
          · exact (c' (by rw [z]; rfl)).elim
          · omega
        refine s_par (ea_cons (ev_var rfl) (ea_cons (ev_op (ev_cb (ea_cons (ev_var rfl) ea_nil) rc_int) (ev_var rfl) (rv_I (by show (0 : Int) < (y : Int); omega))) ea_nil)) fun H4 e4 => ⟨y, x % y, _, rfl, T.step hy, (e2.trans e3).trans e4⟩
    · obtain ⟨x, y, o, rfl, T, e2⟩ := pv
      have hy : y = 0 := T.last
      subst hy
      have hx : x = g := by rw [← T.1, Nat.gcd_zero_right]
      subst hx
      exact s_ret (ev_var rfl) fun H4 e4 => kq H4 (e2.trans e4)
/-! ### digits, numbers -/
def spDigits : Sp := fun vs H Q _ => ∃ (p : Addr) (n : Int) (k : Nat), vs = [.ref p, .int n] ∧ 1 ≤ n ∧ n ≤ 60 ∧ PenAt H p (k + 100) ∧ ∀ z H1, isWh (tl z) = true → (tl z).head? ≠ some 48 → Fr p H H1 → PenAt H1 p k → Q (.str z) H1
theorem scDigits : FnScope ["_law_pen_here", "_law_many", "_law_found"] ["_law_pen_here", "_law_many"] (defScope sDigits) := ⟨rfl, rfl, rfl, by decide +kernel, rfl, by decide +kernel, by decide +kernel⟩
theorem all_numL (n : Nat) : (numL n).all isDig = true := by
  rw [List.all_eq_true]
  intro c hc
  exact isDig_iff.mpr (TL.numL_digits n c hc)
/-- str(10 ** 5 + r)[1:] -/
theorem five {r : Int} (h0 : 0 ≤ r) (h1 : r < 100000) : ∃ l : List Nat, tl (cutS (Str.ofString (toString (100000 + r))) (some 1) none) = l ∧ l.all isDig = true ∧ 1 ≤ l.length ∧ l.length ≤ 10 := by
  refine ⟨_, rfl, ?_⟩
  rw [show (1 : Int) = ((1 : Nat) : Int) from rfl, tl_from, tl_numI]
  obtain ⟨m, hm⟩ : ∃ m : Nat, 100000 + r = (m : Int) := ⟨(100000 + r).toNat, by omega⟩
  rw [hm]
  have e : numI (m : Int) = numL m := by
    unfold numI
    rw [if_neg (by omega), Int.toNat_natCast]
  rw [e]
  have l1 : (numL m).length ≤ 10 := TL.numL_len (by decide) (by omega)
  have l2 : 2 ≤ (numL m).length := by
    rw [TL.numL_step (by omega), List.length_append]
    have : 0 < (numL (m / 10)).length := List.length_pos_iff.mpr (TL.numL_ne _)
    show 2 ≤ _ + 1
    omega
  refine ⟨?_, ?_, ?_⟩
  · rw [List.all_eq_true]
    intro c hc
    exact List.all_eq_true.mp (all_numL m) c (List.mem_of_mem_drop hc)
  · rw [List.length_drop]; omega
  · rw [List.length_drop]; omega
theorem tl_19 : tl (Str.ofString "123456789") = [49, 50, 51, 52, 53, 54, 55, 56, 57] := by decide +kernel
theorem ok_digits {f fD fP : Addr} {fd fdD fdP : FuncData} (F : Fun K "_law_digits" "_law_digits" sDigits f fd) (B : Bi mg)
    (G_draw : FnOk P w K mg base CX0 1 fD fdD ["_law_pen_here", "_law_many"] spDraw) (b_draw : Binds K fdD ["_law_pen_here", "_law_many"] []) (d_draw : Df K mg "_law_draw" fD)
    (G_pickS : FnOk P w K mg base CX0 2 fP fdP ["_law_pen_here", "_law_some"] spPickS) (b_pickS : Binds K fdP ["_law_pen_here", "_law_some"] []) (d_pickS : Df K mg "_law_pick" fP) : FnOk P w K mg base CX0 3 f fd ["_law_pen_here", "_law_many"] spDigits := by
  refine F.ok scDigits (fun vs H Q E h => ?_) (fun cdv A outer s H vs Q E hr h => ?_)
  · obtain ⟨p, n, k, rfl, _⟩ := h
    rfl
  · obtain ⟨p, n, k, rfl, n1, n2, hp, kq⟩ := h
    have nd := scDigits.nd
    refine ⟨_, (pss_cons (ps_set (i := 2) nd rfl (Or.inl rfl) (pe_cs (calls_fn G_pickS (hr.mono (by decide)) b_pickS .nil pass0) d_pickS.1 d_pickS.2 (pa_cons (pv 0) (pa_cons pe_str pa_nil))))
(pss_cons (ps_while PassesOwn.never (pt_cmpR op_lt (pe_callB call_lenT (by rfl) B.n_len (by decide +kernel) (pa_cons (pv 2) pa_nil)) (pv 1) (nomark _))
(pss_one (ps_set (i := 2) nd rfl (Or.inl rfl) (pe_op op_addT (pv 2) (pe_slice sl_str (pe_callTy call_strI (by rfl) B.n_str (by decide +kernel) (pa_cons (pe_op op_add (pe_op op_powW pe_int pe_int) (pe_cs (calls_fn G_draw (hr.mono (by decide)) b_draw .nil pass0) d_draw.1 d_draw.2 (pa_cons (pv 0) (pa_cons (pe_op op_powW pe_int pe_int) pa_nil)))) pa_nil)) (po_some pe_int) po_none)))))
(pss_one (ps_ret (pe_slice sl_str (pv 2) po_none (po_some (pv 1))))))), ?_⟩
    refine ⟨_, rfl, p, Str.ofString "123456789", k + 99, rfl, (by decide +kernel), (by decide +kernel), hp, fun c H1 hc fr1 hp1 => ?_⟩
    rw [tl_19] at hc
    have c9 : 49 ≤ c ∧ c ≤ 57 := by
      simp only [List.mem_cons, List.not_mem_nil, or_false] at hc
      omega
    refine q_while (fun m σ H2 => ∃ (z : Str) (r : List Nat), σ = [some (.ref p), some (.int n), some (.str z)] ∧ tl z = c :: r ∧ (tl z).all isDig = true ∧ z.length ≤ 80 ∧ n ≤ (z.length : Int) + m ∧ Fr p H H2 ∧ PenAt H2 p (k + m)) 99 ⟨_, [], rfl, rfl, ?_, (by show 1 ≤ 80; decide), ?_, fr1, hp1⟩ (fun m σ H2 W => ?_)
    · show (isDig c && true) = true
      rw [isDig_iff.mpr ⟨by omega, by omega⟩]
      rfl
    · show n ≤ 1 + 99
      omega
    · obtain ⟨z, r, rfl, hz, hd, hl, hm, fr2, hp2⟩ := W
      refine ⟨_, et_test (ev_op (ev_cb (ea_cons (ev_var rfl) ea_nil) (rc_lenT (by omega))) (ev_var rfl) (rv_I0 (g := fun i j => V.bl (decide (i < j))))), fun b H3 e3 => ?_, fun b H3 e3 => ?_⟩
      · have b' := of_decide_eq_true b
        obtain ⟨j, rfl⟩ : ∃ j, m = j + 1 := ⟨m - 1, by omega⟩
        refine ⟨fun σ H2 => ∃ (z : Str) (r : List Nat), σ = [some (.ref p), some (.int n), some (.str z)] ∧ tl z = c :: r ∧ (tl z).all isDig = true ∧ z.length ≤ 80 ∧ n ≤ (z.length : Int) + j ∧ Fr p H H2 ∧ PenAt H2 p (k + j), fun σ2 H4 W => ⟨j, Nat.lt_succ_self j, W⟩, ?_⟩
        refine ⟨_, rfl, _, _, rfl, rfl, ⟨by decide, by decide, by decide⟩, _, rfl, _, _, rfl, rfl, ⟨by decide, by decide, by decide⟩, p, _, k + j, rfl, (by decide), (by decide), hp2.ext e3, fun x H4 x0 x1 fr4 hp4 => ?_⟩
        obtain ⟨l, h5, hd5, l1, l2⟩ := five x0 x1
        have hs : ((10 : Int) ^ (5 : Int).toNat + x) = 100000 + x := rfl
        refine ⟨_, _, rfl, rfl, _, rfl, ?_, _, rfl, _, rfl, ?_, _, _, rfl, rfl, ?_, z ++ cutS (Str.ofString (toString (100000 + x))) (some 1) none, r ++ l, rfl, ?_, ?_, ?_, ?_, (fr2.trans (Fr.of e3)).trans fr4, hp4⟩
        · rw [hs]
          exact log2_lt (a := 20) (by omega) (by decide) (by decide)
        · rw [hs]
          exact sz (Nat.le_trans (numLen (log2_lt (a := 20) (by omega) (by decide) (by decide))) (by decide))
        · have : (cutS (Str.ofString (toString (100000 + x))) (some 1) none).length ≤ 10 := by rw [TL.len_tl, h5]; exact l2
          exact sz (by show z.length + (cutS (Str.ofString (toString (100000 + x))) (some 1) none).length ≤ 1000000; omega)
        · rw [TL.tl_append, hz, h5]; rfl
        · rw [TL.tl_append, List.all_append, hd, h5, hd5]; rfl
        · rw [TL.len_tl, TL.tl_append, List.length_append, h5, ← TL.len_tl]; omega
        · rw [TL.len_tl, TL.tl_append, List.length_append, h5, ← TL.len_tl]
          push_cast
          omega
      · have b' := of_decide_eq_false b
        refine s_ret (ev_slS (ev_var rfl) eo_none (eo_some (ev_var rfl)) (by omega)) fun H4 e4 => ?_
        obtain ⟨N, rfl⟩ := Int.eq_ofNat_of_zero_le (Int.le_trans (by decide : (0 : Int) ≤ 1) n1)
        have e5 := tl_to z N
        have hN : 1 ≤ N := by omega
        refine kq _ H4 (isWh_of ?_ ?_ ?_ (Or.inr ?_)) ?_ ((fr2.trans (Fr.of e3)).trans (Fr.of e4)) (((hp2.ext e3).ext e4).less (by omega))
        · rw [e5, List.length_take, ← TL.len_tl]; omega
        · rw [e5, List.length_take]; omega
        · rw [e5, List.all_eq_true]
          intro y hy
          exact List.all_eq_true.mp hd y (List.mem_of_mem_take hy)
        · rw [e5, hz]
          obtain ⟨M, rfl⟩ : ∃ M, N = M + 1 := ⟨N - 1, by omega⟩
          show some c ≠ some 48
          intro w
          have := Option.some.inj w
          omega
        · rw [e5, hz]
          obtain ⟨M, rfl⟩ : ∃ M, N = M + 1 := ⟨N - 1, by omega⟩
          show some c ≠ some 48
          intro w
          have := Option.some.inj w
          omega
end
end K02
end

section -- K02h
set_option linter.all false
set_option maxRecDepth 100000
set_option maxHeartbeats 4000000
namespace K02
open PySem PySem.Spec L2 Pk Evl
open PyProof.Rows hiding St
open TL (tl numL)
/-! ### a pair of numbers -/
def spNum : Sp := fun vs H Q _ => ∃ (p : Addr) (k : Nat), vs = [.ref p] ∧ PenAt H p (k + 300) ∧ ∀ q t b H1, q ≠ p → H q = none → H1 q = some (.tup [.int t, .int b]) → 1 ≤ b → t.natAbs < 10 ^ 60 → b.natAbs < 10 ^ 60 → Nat.gcd t.natAbs b.natAbs = 1 → Fr p H H1 → PenAt H1 p k → Q (.ref q) H1
theorem pen_ne {H : Hp} {p q : Addr} {k : Nat} (h : PenAt H p k) (hq : H q = none) : q ≠ p := fun z => by
  obtain ⟨c, t, l, ns, a, _⟩ := h
  rw [z, a] at hq
  cases hq
/-- a list of constants and slots, picked from -/
theorem pick_run {p : Addr} {k : Nat} {vs : List V} {σ : L2.St} {H : Hp} {ta : TA} {Q : VK} (s0 : σ[0]? = some (some (.ref p))) (ha : EvA ta σ H vs) (h0 : vs ≠ []) (hz : vs.length ≤ 1000) (hp : PenAt H p (k + 1)) (hq : ∀ x H1, x ∈ vs → Fr p H H1 → PenAt H1 p k → Q x H1) :
    tCS (fun _ vs H Q => spPickL (vs ++ []) H Q E0) (tCons (tVar 0) (tCons (tLst ta) tNil)) σ H Q := ⟨_, s0, ha H (Ex.refl H) _ fun H1 e1 => ⟨sz (by omega), fun q nq => by
  have e2 := e1.trans (Ex.new (o := .lst vs) nq)
  exact ⟨p, q, vs, k, rfl, upd_same, pen_ne (hp.ext e1) nq, h0, hz, hp.ext e2, fun x H2 hx fr h2 => hq x H2 hx ((Fr.of e2).trans fr) h2⟩⟩⟩
theorem num_run {p : Addr} {k : Nat} {vs : List V} {σ : L2.St} {H : Hp} {ta : TA} {Q : VK} (s0 : σ[0]? = some (some (.ref p))) (ha : EvA ta σ H vs) (h0 : vs ≠ []) (hz : vs.length ≤ 1000) (hv : ∀ x ∈ vs, ∃ n : Int, x = .int n ∧ 1 ≤ n ∧ n ≤ 60) (hp : PenAt H p (k + 101))
    (hq : ∀ (N : Nat) H1, 1 ≤ N → N < 10 ^ 60 → Fr p H H1 → PenAt H1 p k → Q (.int (N : Int)) H1) :
    tCB rIntT (tCons (tCS (fun _ vs H Q => spDigits (vs ++ []) H Q E0) (tCons (tVar 0) (tCons (tCS (fun _ vs H Q => spPickL (vs ++ []) H Q E0) (tCons (tVar 0) (tCons (tLst ta) tNil))) tNil))) tNil) σ H Q :=
  ⟨_, s0, pick_run (k := k + 100) s0 ha h0 hz hp fun x H1 hx fr hp1 => by
    obtain ⟨n, rfl, n1, n2⟩ := hv x hx
    refine ⟨p, n, k, rfl, n1, n2, hp1, fun z H2 wh h48 fr2 hp2 => ⟨z, _, rfl, intT wh, ?_, hq _ H2 ?_ (wh_small wh) (fr.trans fr2) hp2⟩⟩
    · have := (isWh_parts wh).2.1
      rw [TL.len_tl]
      omega
    · have := wh_zero wh
      have h1 : ¬ val (tl z) = 0 := fun w => h48 (this.mp w)
      omega⟩
section
variable {P : Program} {w : World} {K : PySem.W.Frag} {mg : Str → Option Value} {base : Heap}
theorem scNumbers : FnScope ["_law_pen_here", "_law_top", "_law_bottom", "_law_common_here"] ["_law_pen_here"] (defScope sNumbers) := ⟨rfl, rfl, rfl, by decide +kernel, rfl, by decide +kernel, by decide +kernel⟩
/-- both divided by their greatest common divisor -/
theorem over_gcd {t b : Int} (hb : 1 ≤ b) {g : Nat} (hg : g = Nat.gcd t.natAbs b.natAbs) : 0 < g ∧ 1 ≤ b.fdiv (g : Int) ∧ (t.fdiv (g : Int)).natAbs ≤ t.natAbs ∧ (b.fdiv (g : Int)).natAbs ≤ b.natAbs ∧ Nat.gcd (t.fdiv (g : Int)).natAbs (b.fdiv (g : Int)).natAbs = 1 := by
  have g0 : 0 < g := by rw [hg]; exact Nat.gcd_pos_of_pos_right _ (by omega)
  obtain ⟨t', ht⟩ : (g : Int) ∣ t := Int.ofNat_dvd_left.mpr (hg ▸ Nat.gcd_dvd_left _ _)
  obtain ⟨b', hb'⟩ : (g : Int) ∣ b := Int.ofNat_dvd_left.mpr (hg ▸ Nat.gcd_dvd_right _ _)
  have e1 : t.fdiv (g : Int) = t' := by rw [ht]; exact Int.mul_fdiv_cancel_left _ (by omega)
  have e2 : b.fdiv (g : Int) = b' := by rw [hb']; exact Int.mul_fdiv_cancel_left _ (by omega)
  have n1 : t.natAbs = g * t'.natAbs := by rw [ht, Int.natAbs_mul, Int.natAbs_natCast]
  have n2 : b.natAbs = g * b'.natAbs := by rw [hb', Int.natAbs_mul, Int.natAbs_natCast]
  have b1 : 1 ≤ b' := by
    by_cases z : 1 ≤ b'
    · exact z
    · have : (g : Int) * b' ≤ 0 := Int.mul_nonpos_of_nonneg_of_nonpos (by omega) (by omega)
      omega
  rw [e1, e2]
  refine ⟨g0, b1, ?_, ?_, ?_⟩
  · rw [n1]; exact Nat.le_mul_of_pos_left _ g0
  · rw [n2]; exact Nat.le_mul_of_pos_left _ g0
  · rw [n1, n2, Nat.gcd_mul_left] at hg
    have h1 : g * 1 = g * Nat.gcd t'.natAbs b'.natAbs := by rw [Nat.mul_one]; exact hg
    exact (Nat.eq_of_mul_eq_mul_left g0 h1).symm
theorem ten60 : (10 : Nat) ^ 60 < 2 ^ 200 := by decide +kernel
theorem ok_numbers {f fG fP fC : Addr} {fd fdG fdP fdC : FuncData} (F : Fun K "_law_numbers" "_law_numbers" sNumbers f fd) (B : Bi mg)
    (G_digits : FnOk P w K mg base CX0 3 fG fdG ["_law_pen_here", "_law_many"] spDigits) (b_digits : Binds K fdG ["_law_pen_here", "_law_many"] []) (d_digits : Df K mg "_law_digits" fG)
    (G_pickL : FnOk P w K mg base CX0 2 fP fdP ["_law_pen_here", "_law_some"] spPickL) (b_pickL : Binds K fdP ["_law_pen_here", "_law_some"] []) (d_pickL : Df K mg "_law_pick" fP)
    (G_common : FnOk P w K mg base CX0 1 fC fdC ["_law_one", "_law_other"] spCommon) (b_common : Binds K fdC ["_law_one", "_law_other"] []) (d_common : Df K mg "_law_common" fC) : FnOk P w K mg base CX0 4 f fd ["_law_pen_here"] spNum := by
  refine F.ok scNumbers (fun vs H Q E h => ?_) (fun cdv A outer s H vs Q E hr h => ?_)
  · obtain ⟨p, k, rfl, _⟩ := h
    rfl
  · obtain ⟨p, k, rfl, hp, kq⟩ := h
    have nd := scNumbers.nd
    refine ⟨_, (pss_cons (ps_set (i := 1) nd rfl (Or.inl rfl) (pe_callTy call_intT (by rfl) B.n_int (by decide +kernel) (pa_cons (pe_cs (calls_fn G_digits (hr.mono (by decide)) b_digits .nil pass0) d_digits.1 d_digits.2 (pa_cons (pv 0) (pa_cons (pe_cs (calls_fn G_pickL (hr.mono (by decide)) b_pickL .nil pass0) d_pickL.1 d_pickL.2 (pa_cons (pv 0) (pa_cons (pe_lst (pa_cons pe_int (pa_cons pe_int (pa_cons pe_int (pa_cons pe_int (pa_cons pe_int (pa_cons pe_int (pa_cons pe_int pa_nil)))))))) pa_nil))) pa_nil))) pa_nil)))
(pss_cons (ps_set (i := 2) nd rfl (Or.inl rfl) (pe_callTy call_intT (by rfl) B.n_int (by decide +kernel) (pa_cons (pe_cs (calls_fn G_digits (hr.mono (by decide)) b_digits .nil pass0) d_digits.1 d_digits.2 (pa_cons (pv 0) (pa_cons (pe_cs (calls_fn G_pickL (hr.mono (by decide)) b_pickL .nil pass0) d_pickL.1 d_pickL.2 (pa_cons (pv 0) (pa_cons (pe_lst (pa_cons pe_int (pa_cons pe_int (pa_cons pe_int (pa_cons pe_int (pa_cons pe_int (pa_cons pe_int (pa_cons pe_int pa_nil)))))))) pa_nil))) pa_nil))) pa_nil)))
(pss_cons (ps_set (i := 1) nd rfl (Or.inl rfl) (pe_cs (calls_fn G_pickL (hr.mono (by decide)) b_pickL .nil pass0) d_pickL.1 d_pickL.2 (pa_cons (pv 0) (pa_cons (pe_lst (pa_cons (pv 1) (pa_cons (pe_un un_neg (pv 1)) (pa_cons (pv 1) (pa_cons pe_int (pa_cons pe_int pa_nil)))))) pa_nil))))
(pss_cons (ps_set (i := 2) nd rfl (Or.inl rfl) (pe_cs (calls_fn G_pickL (hr.mono (by decide)) b_pickL .nil pass0) d_pickL.1 d_pickL.2 (pa_cons (pv 0) (pa_cons (pe_lst (pa_cons (pv 2) (pa_cons (pv 2) (pa_cons pe_int pa_nil)))) pa_nil))))
(pss_cons (ps_set (i := 3) nd rfl (Or.inl rfl) (pe_cs (calls_fn G_common (hr.mono (by decide)) b_common .nil pass0) d_common.1 d_common.2 (pa_cons (pv 1) (pa_cons (pv 2) pa_nil))))
(pss_one (ps_ret (pe_tup (pa_cons (pe_op op_fdivZ (pv 1) (pv 3)) (pa_cons (pe_op op_fdivZ (pv 2) (pv 3)) pa_nil)))))))))), ?_⟩
    have seven : ∀ x ∈ ([.int 1, .int 1, .int 2, .int 5, .int 30, .int 59, .int 60] : List V), ∃ n : Int, x = .int n ∧ 1 ≤ n ∧ n ≤ 60 := fun x hx => by
      simp only [List.mem_cons, List.not_mem_nil, or_false] at hx
      rcases hx with rfl | rfl | rfl | rfl | rfl | rfl | rfl <;> exact ⟨_, rfl, by decide, by decide⟩
    have ea7 : ∀ {σ : L2.St} {H : Hp}, EvA (tCons (tC (.int 1)) (tCons (tC (.int 1)) (tCons (tC (.int 2)) (tCons (tC (.int 5)) (tCons (tC (.int 30)) (tCons (tC (.int 59)) (tCons (tC (.int 60)) tNil))))))) σ H ([.int 1, .int 1, .int 2, .int 5, .int 30, .int 59, .int 60] : List V) := ea_cons ev_c (ea_cons ev_c (ea_cons ev_c (ea_cons ev_c (ea_cons ev_c (ea_cons ev_c (ea_cons ev_c ea_nil))))))
    refine num_run (k := k + 199) rfl ea7 (List.cons_ne_nil _ _) (by decide) seven hp fun N H1 N0 N1 fr1 hp1 => ?_
    refine num_run (k := k + 98) rfl ea7 (List.cons_ne_nil _ _) (by decide) seven hp1 fun M H2 M0 M1 fr2 hp2 => ?_
    refine pick_run (k := k + 97) rfl (ea_cons (ev_var rfl) (ea_cons (ev_un (ev_var rfl) ru_neg) (ea_cons (ev_var rfl) (ea_cons ev_c (ea_cons ev_c ea_nil))))) (List.cons_ne_nil _ _) (by show 5 ≤ 1000; decide) hp2 fun x H3 hx fr3 hp3 => ?_
    obtain ⟨t, rfl, ht⟩ : ∃ t : Int, x = .int t ∧ t.natAbs < 10 ^ 60 := by
      simp only [List.mem_cons, List.not_mem_nil, or_false] at hx
      rcases hx with rfl | rfl | rfl | rfl | rfl
      · exact ⟨_, rfl, by omega⟩
      · exact ⟨_, rfl, by omega⟩
      · exact ⟨_, rfl, by omega⟩
      · exact ⟨_, rfl, by decide⟩
      · exact ⟨_, rfl, by decide⟩
    refine pick_run (k := k + 96) rfl (ea_cons (ev_var rfl) (ea_cons (ev_var rfl) (ea_cons ev_c ea_nil))) (List.cons_ne_nil _ _) (by show 3 ≤ 1000; decide) hp3 fun y H4 hy fr4 hp4 => ?_
    obtain ⟨b, rfl, b0, hb⟩ : ∃ b : Int, y = .int b ∧ 1 ≤ b ∧ b.natAbs < 10 ^ 60 := by
      simp only [List.mem_cons, List.not_mem_nil, or_false] at hy
      rcases hy with rfl | rfl | rfl
      · exact ⟨_, rfl, by omega, by omega⟩
      · exact ⟨_, rfl, by omega, by omega⟩
      · exact ⟨_, rfl, by decide, by decide⟩
    refine ⟨_, rfl, _, rfl, t, b, rfl, Nat.lt_trans ht ten60, Nat.lt_trans hb ten60, fun H5 e5 => ?_⟩
    obtain ⟨g, hg⟩ : ∃ g, g = Nat.gcd t.natAbs b.natAbs := ⟨_, rfl⟩
    rw [← hg]
    obtain ⟨g0, q1, q2, q3, q4⟩ := over_gcd b0 hg
    have hgl : CDivZ t (g : Int) ∧ CDivZ b (g : Int) := by
      have h1 : g ≤ b.natAbs := by rw [hg]; exact Nat.gcd_le_right _ (by omega)
      have h2 : ((g : Int)).natAbs < 2 ^ 200 := by rw [Int.natAbs_natCast]; exact Nat.lt_of_le_of_lt h1 (Nat.lt_trans hb ten60)
      exact ⟨divZ (by omega) h2 (by decide) (by decide), divZ (by omega) h2 (by decide) (by decide)⟩
    refine s_retU (eu_tup (ea_cons (ev_op (ev_var rfl) (ev_var rfl) (rv_I hgl.1)) (ea_cons (ev_op (ev_var rfl) (ev_var rfl) (rv_I hgl.2)) ea_nil)) (by show 2 ≤ 100000; decide)) fun q H6 nq e6 hq => ?_
    have fr : Fr p H H5 := ((fr1.trans fr2).trans (fr3.trans fr4)).trans (Fr.of e5)
    have hp5 := hp4.ext e5
    have qp := pen_ne hp5 nq
    have nq0 : H q = none := by
      cases z : H q with
      | none => rfl
      | some o => rw [fr q o qp z] at nq; cases nq
    exact kq q _ _ H6 qp nq0 hq q1 (by omega) (by omega) q4 (fr.trans (Fr.of e6)) ((hp5.ext e6).less (by omega))
end
end K02
end

section -- K02i
set_option linter.all false
set_option maxRecDepth 100000
set_option maxHeartbeats 4000000
namespace K02
open PySem PySem.Spec L2 Pk Evl
open PyProof.Rows hiding St
open TL (tl numL)
abbrev sWhole : Stmt := top 22
abbrev sPair : Stmt := top 23
/-! ### where a sign stands first -/
def rSix : V → List V → Hp → VK → Prop := fun x xs H Q => ∃ a b i rest, x = .str a ∧ xs = [.str b] ∧ Builtin.Str.occurrences a b 0 a.length 1 = i :: rest ∧ Q (.int (i : Nat)) H
theorem mt_six {X : Cx} : MtR X "str.index" rSix := mt_sindex
theorem first_at {z : Str} {c : Nat} {p q : List Nat} (e : tl z = p ++ c :: q) (h : c ∉ p) : ∃ rest, Builtin.Str.occurrences z ⟨#[c]⟩ 0 z.length 1 = p.length :: rest := by
  have hit : z.cps.toList[p.length]? = some c := by
    have e' : z.cps.toList = p ++ c :: q := e
    rw [e', List.getElem?_append_right (Nat.le_refl _), Nat.sub_self]
    rfl
  rcases StrLaws.occ_head z ⟨#[c]⟩ 1 (Nat.le_refl _) with ⟨_, hn⟩ | ⟨i, r, ho, hi, hn⟩
  · exact absurd ((StrLaws.subAt_one z c p.length).mpr hit) (hn p.length)
  · have hi' : z.cps.toList[i]? = some c := (StrLaws.subAt_one z c i).mp hi
    have h1 : ¬ i < p.length := fun w => by
      have e' : z.cps.toList = p ++ c :: q := e
      rw [e', List.getElem?_append_left w] at hi'
      exact h (List.mem_of_getElem? hi')
    have h2 : ¬ p.length < i := fun w => hn p.length w ((StrLaws.subAt_one z c p.length).mpr hit)
    have h3 : i = p.length := by omega
    subst h3
    exact ⟨r, ho⟩
section
variable {σ : L2.St} {H : Hp} {ta tb : TE}
theorem ev_six {a b : Str} {c : Nat} {p q : List Nat} (ha : Ev ta σ H (.str a)) (hb : Ev tb σ H (.str b)) (eb : b = ⟨#[c]⟩) (e : tl a = p ++ c :: q) (h : c ∉ p) : Ev (tM1 rSix ta tb) σ H (.int (p.length : Nat)) := fun H1 e1 Q q1 =>
  ha H1 e1 _ fun H2 e2 => ⟨⟨a, rfl⟩, hb H2 (e1.trans e2) _ fun H3 e3 => by
    obtain ⟨rest, ho⟩ := first_at e h
    subst eb
    exact ⟨a, _, _, rest, rfl, rfl, ho, q1 H3 (e2.trans e3)⟩⟩
theorem rv_notIn {c : Nat} {a z : Str} (h : a = ⟨#[c]⟩) : RV rNotInS (.str a) (.str z) H (.bl (!decide (c ∈ z.cps.toList))) := by subst h; exact rv_notInS
end
theorem q_forS {z : Str} {tx : TE} {σ : L2.St} {H : Hp} {j : Nat} {tu tz : TS} {D : Ends} (h : Ev tx σ H (.str z)) (Pv : Nat → L2.St → Hp → Prop) (h0 : ∀ H1, Ex H H1 → Pv 0 σ H1)
    (hs : ∀ i c σ' H', z.cps[i]? = some c → Pv i σ' H' → tu { D with nx := Pv (i + 1), ct := Pv (i + 1), bk := tz D } (σ'.set j (some (.str ⟨#[c]⟩))) H') (hd : ∀ σ' H', Pv z.cps.size σ' H' → tz D σ' H') : tSeq (tFor (iStr tx) (gName j) tu) tz D σ H :=
  h H (Ex.refl H) _ fun H1 e => ⟨z, rfl, for_it (D := { D with nx := tz D }) walk_str Pv (h0 H1 e) (fun _ _ _ _ _ => trivial) (fun i x σ' H2 H3 hi pv y => by
    obtain ⟨rfl, c, hc, rfl⟩ := y
    exact hs i c σ' _ hc pv) hd⟩
theorem dig_at (c : Nat) (h : isDig c = true) : ∃ p q, tl (Str.ofString "0123456789") = p ++ c :: q ∧ c ∉ p ∧ p.length = c - 48 := by
  have all : ∀ d < 10, ([48, 49, 50, 51, 52, 53, 54, 55, 56, 57] : List Nat) = ([48, 49, 50, 51, 52, 53, 54, 55, 56, 57] : List Nat).take d ++ (48 + d) :: ([48, 49, 50, 51, 52, 53, 54, 55, 56, 57] : List Nat).drop (d + 1) ∧ 48 + d ∉ ([48, 49, 50, 51, 52, 53, 54, 55, 56, 57] : List Nat).take d ∧ (([48, 49, 50, 51, 52, 53, 54, 55, 56, 57] : List Nat).take d).length = d := by decide
  have h' := isDig_iff.mp h
  obtain ⟨a, b, e⟩ := all (c - 48) (by omega)
  have hc : 48 + (c - 48) = c := by omega
  rw [hc] at a b
  exact ⟨_, _, by rw [tl_digits]; exact a, b, e⟩
def ov : Option Int → V
  | none => .non
  | some i => .int i
def spWhole : Sp := fun vs H Q _ => ∃ z : Str, vs = [.str z] ∧ z.length ≤ 100000 ∧ ∀ H1, Ex H H1 → Q (ov (wholeOf (tl z))) H1
section
variable {P : Program} {w : World} {K : PySem.W.Frag} {mg : Str → Option Value} {base : Heap}
theorem scWhole : FnScope ["_law_word", "_law_plain", "_law_number", "_law_sign"] ["_law_word"] (defScope sWhole) := ⟨rfl, rfl, rfl, by decide +kernel, rfl, by decide +kernel, by decide +kernel⟩
theorem lit_ne (z : Str) : decide (V.str z = V.str (Str.ofString "")) = decide (tl z = []) := by
  rw [dec_strT]
  have : tl (Str.ofString "") = [] := by decide +kernel
  rw [this]
theorem at0 {z : Str} {c : Nat} {r : List Nat} (e : tl z = c :: r) : atI z.cps.toList 0 = some c := by
  have e' : z.cps.toList = c :: r := e
  rw [e']
  exact atI_nat (j := 0) rfl
theorem bare_length (w : List Nat) : (bare w).length = if isNeg w = true then w.length - 1 else w.length := by
  unfold bare
  split
  · rw [List.length_tail]
  · rfl
theorem take_snoc {l : List Nat} {i c : Nat} (h : l[i]? = some c) : l.take (i + 1) = l.take i ++ [c] := Pk.take_succ' h
theorem ok_whole {f : Addr} {fd : FuncData} (F : Fun K "_law_whole" "_law_whole" sWhole f fd) (B : Bi mg) : FnOk P w K mg base CX0 1 f fd ["_law_word"] spWhole := by
  refine F.ok scWhole (fun vs H Q E h => ?_) (fun cdv A outer s H vs Q E hr h => ?_)
  · obtain ⟨z, rfl, _⟩ := h
    rfl
  · obtain ⟨z, rfl, hz, kq⟩ := h
    have nd := scWhole.nd
    refine ⟨_, (pss_cons (ps_set (i := 1) nd rfl (Or.inl rfl) (pv 0))
(pss_cons (ps_if (PW.pt (pw_and (pt_cmpR op_ne (pv 0) pe_str (nomark _)) (pw_and1 (pt_cmpR op_eq (pe_ix ix_str (pv 0) pe_int (fun _ _ => rfl)) pe_str (nomark _)))))
(pss_one (ps_set (i := 1) nd rfl (Or.inl rfl) (pe_slice sl_str (pv 0) (po_some pe_int) po_none)))
pss_nil)
(pss_cons (ps_if (PW.pt (pw_or (pt_cmpR op_lt (pe_callB call_lenT (by rfl) B.n_len (by decide +kernel) (pa_cons (pv 1) pa_nil)) pe_int (nomark _)) (pw_or1 (pt_cmpR op_gt (pe_callB call_lenT (by rfl) B.n_len (by decide +kernel) (pa_cons (pv 1) pa_nil)) pe_int (nomark _)))))
(pss_one (ps_ret pe_non))
pss_nil)
(pss_cons (ps_set (i := 2) nd rfl (Or.inl rfl) pe_int)
(pss_cons (ps_for PassesOwn.never rfl (pi_str (pv 1)) (pg_name (i := 3) nd rfl (Or.inl rfl))
(pss_cons (ps_if (pt_cmpR op_notInS (pv 3) pe_str rfl)
(pss_one (ps_ret pe_non))
pss_nil)
(pss_one (ps_set (i := 2) nd rfl (Or.inl rfl) (pe_op op_add (pe_op op_mulW pe_int (pv 2)) (pe_m1 PySem.F.slot_str_index PySem.F.type_str_index mt_six pe_str (pv 3)))))))
(pss_cons (ps_if (PW.pt (pw_and (pt_cmpR op_eq (pe_ix ix_str (pv 1) pe_int (fun _ _ => rfl)) pe_str (nomark _)) (pw_and1 (PW.pt (pw_or (pt_cmpR op_gt (pe_callB call_lenT (by rfl) B.n_len (by decide +kernel) (pa_cons (pv 1) pa_nil)) pe_int (nomark _)) (pw_or1 (pt_cmpR op_ne (pv 1) (pv 0) (nomark _))))))))
(pss_one (ps_ret pe_non))
pss_nil)
(pss_one (ps_ret (pe_ifExp (pt_cmpR op_eq (pv 1) (pv 0) (nomark _)) (pv 2) (pe_un un_neg (pv 2))))))))))), ?_⟩
    obtain ⟨neg, hneg⟩ : ∃ neg, neg = isNeg (tl z) := ⟨_, rfl⟩
    obtain ⟨r, hr1⟩ : ∃ r, r = if neg = true then cutS z (some 1) none else z := ⟨_, rfl⟩
    have er : tl r = bare (tl z) := by
      unfold bare
      rw [hr1, ← hneg]
      cases neg with
      | true => rw [if_pos rfl, if_pos rfl, show (1 : Int) = ((1 : Nat) : Int) from rfl, tl_from]; exact List.drop_one
      | false => rw [if_neg Bool.false_ne_true, if_neg Bool.false_ne_true]
    have hrl : r.length ≤ 100000 := by
      rw [hr1]
      split
      · exact Nat.le_trans (cutS_length _ _ _) hz
      · exact hz
    have eW : wholeOf (tl z) = sgnd neg (tl r) := by unfold wholeOf; rw [hneg, er]
    rw [eW] at kq
    have nfalse : isWh (tl r) = false → sgnd neg (tl r) = none := fun h => by unfold sgnd; rw [h]; rfl
    refine q_asg (ev_var rfl) fun H1 e1 => ?_
    have test : EvT (tAnd (tTest (tOp rNe (tVar 0) (tC (.str "")))) (tTest (tOp rEq (tOp rIxS (tVar 0) (tC (.int 0))) (tC (.str "-"))))) [some (.str z), some (.str z), none, none] H1 neg := by
      cases hw : tl z with
      | nil =>
        refine et_is (et_and (b := false) (et_test (ev_op (ev_var rfl) ev_c (rv_ne rfl))) fun c => ?_) ?_
        · rw [lit_ne, hw] at c
          cases c
        · rw [hneg, hw, Bool.and_false]
          rfl
      | cons c rest =>
        refine et_is (et_and (et_test (ev_op (ev_var rfl) ev_c (rv_ne rfl))) fun _ => et_test (ev_op (ev_op (ev_var rfl) ev_c (rv_ixS hz (at0 hw))) ev_c (rv_eq rfl))) ?_
        rw [lit_ne, hw, dec_strT, hneg, hw]
        have : tl (Str.ofString "-") = [45] := by decide +kernel
        rw [this, tl_one]
        unfold isNeg
        show (!decide (c :: rest = []) && decide ([c] = [45])) = decide (some c = some 45)
        rw [Bool.eq_iff_iff]
        simp
    refine q_ifAsg (v := .str r) test (fun c => ?_) (fun c => ?_) fun H2 e2 => ?_
    · rw [hr1, if_pos c]
      exact ev_slS (ev_var rfl) (eo_some ev_c) eo_none (by omega)
    · rw [hr1, c, if_neg Bool.false_ne_true]
      rfl
    · refine q_when (et_or (et_test (ev_op (ev_cb (ea_cons (ev_var rfl) ea_nil) (rc_lenT (by omega))) ev_c (rv_I0 (g := fun i j => V.bl (decide (i < j)))))) fun _ => et_test (ev_op (ev_cb (ea_cons (ev_var rfl) ea_nil) (rc_lenT (by omega))) ev_c (rv_I0 (g := fun i j => V.bl (decide (i > j)))))) (fun c H3 e3 => ?_) (fun c H3 e3 => ?_)
      · refine s_ret ev_c fun H4 e4 => ?_
        have no : isWh (tl r) = false := by
          cases h : isWh (tl r) with
          | false => rfl
          | true =>
            have h' := isWh_parts h
            rw [← TL.len_tl] at h'
            simp only [Bool.or_eq_true, decide_eq_true_eq] at c
            omega
        have g := kq H4 (((e1.trans e2).trans e3).trans e4)
        rw [nfalse no] at g
        exact g
      · have l12 : 1 ≤ r.length ∧ r.length ≤ 60 := by
          simp only [Bool.or_eq_false_iff, decide_eq_false_iff_not] at c
          omega
        have e123 := (e1.trans e2).trans e3
        refine q_asg ev_c fun H4 e4 => ?_
        refine q_forS (ev_var rfl) (fun i σ H' => ∃ o, σ = [some (.str z), some (.str r), some (.int ((val ((tl r).take i) : Nat) : Int)), o] ∧ ((tl r).take i).all isDig = true ∧ Ex H H') (fun H5 e5 => ⟨_, rfl, rfl, (e123.trans e4).trans e5⟩) (fun i d σ H5 hd pv => ?_) (fun σ H5 pv => ?_)
        · obtain ⟨o, rfl, ha, e5⟩ := pv
          have hd' : (tl r)[i]? = some d := by
            show r.cps.toList[i]? = some d
            rw [Array.getElem?_toList]
            exact hd
          have hm : d ∈ tl r := List.mem_of_getElem? hd'
          refine q_when (et_test (ev_op (ev_var rfl) ev_c rv_notInS)) (fun c H6 e6 => ?_) (fun c H6 e6 => ?_)
          · rw [mem_digits] at c
            have hnd : isDig d = false := by cases hx : isDig d with
              | false => rfl
              | true => rw [hx] at c; cases c
            refine s_ret ev_c fun H7 e7 => ?_
            have g := kq H7 ((e5.trans e6).trans e7)
            rw [nfalse (not_wh hm hnd)] at g
            exact g
          · rw [mem_digits] at c
            have hyd : isDig d = true := by cases hx : isDig d with
              | true => rfl
              | false => rw [hx] at c; cases c
            obtain ⟨p, q, hpq, hnp, hpl⟩ := dig_at d hyd
            have vb : val ((tl r).take i) < 10 ^ 60 := by
              have h1 := val_lt _ _ rfl ha
              have h2 : ((tl r).take i).length ≤ 60 := by rw [List.length_take, ← TL.len_tl]; omega
              exact Nat.lt_of_lt_of_le h1 (Nat.pow_le_pow_right (by decide) h2)
            refine s_asg (ev_op (ev_op ev_c (ev_var rfl) (rv_I (mulWb (a := 4) (b := 200) (by decide) (by rw [Int.natAbs_natCast]; exact Nat.lt_trans vb ten60) (by decide)))) (ev_six ev_c (ev_var rfl) rfl hpq hnp) rv_I0) fun H7 e7 => ⟨some (.str ⟨#[d]⟩), ?_, ?_, (e5.trans e6).trans e7⟩
            · rw [take_snoc hd', val_snoc, hpl]
              have : (10 : Int) * ((val ((tl r).take i) : Nat) : Int) + ((d - 48 : Nat) : Int) = ((val ((tl r).take i) * 10 + (d - 48) : Nat) : Int) := by omega
              rw [this]
              rfl
            · rw [take_snoc hd', List.all_append, ha, List.all_cons, hyd]
              rfl
        · obtain ⟨o, rfl, ha, e5⟩ := pv
          have hsz : (tl r).take r.cps.size = tl r := List.take_of_length_le (by rw [← TL.len_tl]; exact Nat.le_refl _)
          rw [hsz] at ha ⊢
          obtain ⟨c0, rest, hcr⟩ : ∃ c0 rest, tl r = c0 :: rest := by
            cases h : tl r with
            | nil => rw [TL.len_tl, h] at l12; exact absurd l12.1 (by decide)
            | cons c0 rest => exact ⟨c0, rest, rfl⟩
          have same : decide (V.str r = V.str z) = !neg := by
            rw [dec_strT, er]
            have hl := bare_length (tl z)
            cases hn : isNeg (tl z) with
            | false =>
              rw [hneg, hn]
              unfold bare
              rw [hn, if_neg Bool.false_ne_true]
              exact decide_eq_true rfl
            | true =>
              rw [hneg, hn]
              refine decide_eq_false fun w => ?_
              rw [hn, if_pos rfl] at hl
              have h1 := congrArg List.length w
              have h2 : 1 ≤ (tl z).length := by
                cases hz2 : tl z with
                | nil => rw [hz2] at hn; cases hn
                | cons => show 1 ≤ _ + 1; omega
              omega
          have eq48 : decide (V.str ⟨#[c0]⟩ = V.str (Str.ofString "0")) = decide ((tl r).head? = some 48) := by
            rw [dec_strT, hcr, tl_one]
            have : tl (Str.ofString "0") = [48] := by decide +kernel
            rw [this, Bool.eq_iff_iff]
            simp
          refine q_when (et_and (et_test (ev_op (ev_op (ev_var rfl) ev_c (rv_ixS (by omega) (at0 hcr))) ev_c (rv_eq rfl))) fun _ => et_or (et_test (ev_op (ev_cb (ea_cons (ev_var rfl) ea_nil) (rc_lenT (by omega))) ev_c (rv_I0 (g := fun i j => V.bl (decide (i > j)))))) fun _ => et_test (ev_op (ev_var rfl) (ev_var rfl) (rv_ne rfl))) (fun c H6 e6 => ?_) (fun c H6 e6 => ?_)
          · rw [eq48, same, Bool.not_not] at c
            refine s_ret ev_c fun H7 e7 => ?_
            have g := kq H7 ((e5.trans e6).trans e7)
            have no : sgnd neg (tl r) = none := by
              simp only [Bool.and_eq_true, Bool.or_eq_true, decide_eq_true_eq] at c
              unfold sgnd
              rw [if_neg]
              rw [Bool.and_eq_true]
              rintro ⟨h1, h2⟩
              rcases c with ⟨c1, c2 | c2⟩
              · rcases (isWh_parts h1).2.2.2 with h3 | h3
                · rw [TL.len_tl, h3] at c2
                  exact absurd c2 (by decide)
                · exact h3 c1
              · rw [c2, decide_eq_true c1] at h2
                cases h2
            rw [no] at g
            exact g
          · rw [eq48, same, Bool.not_not] at c
            have yes : sgnd neg (tl r) = some (sgn neg (val (tl r))) := by
              unfold sgnd
              rw [if_pos]
              rw [Bool.and_eq_true]
              simp only [Bool.and_eq_false_iff, Bool.or_eq_false_iff, decide_eq_false_iff_not] at c
              have h1 : isWh (tl r) = true := by
                refine isWh_of (by rw [← TL.len_tl]; omega) (by rw [← TL.len_tl]; omega) ha ?_
                rcases c with c | ⟨c, _⟩
                · exact Or.inr c
                · by_cases h4 : (tl r).head? = some 48
                  · left
                    have h5 : (tl r).length = 1 := by rw [← TL.len_tl]; omega
                    rw [hcr] at h4 h5 ⊢
                    have h6 : rest = [] := List.length_eq_zero_iff.mp (by rw [List.length_cons] at h5; omega)
                    have h7 : c0 = 48 := Option.some.inj h4
                    rw [h6, h7]
                  · exact Or.inr h4
              refine ⟨h1, ?_⟩
              rcases c with c | ⟨_, c⟩
              · rw [decide_eq_false c, Bool.and_false]
                rfl
              · rw [c]
                rfl
            rw [yes] at kq
            refine s_ret (ev_if (b := !neg) (et_is (et_test (ev_op (ev_var rfl) (ev_var rfl) (rv_eq rfl))) same) (fun c2 => ?_) (fun c2 => ?_)) fun H7 e7 => kq H7 ((e5.trans e6).trans e7)
            · have hn : neg = false := by cases neg with
                | false => rfl
                | true => cases c2
              rw [hn]
              exact ev_var rfl
            · have hn : neg = true := by cases neg with
                | true => rfl
                | false => cases c2
              rw [hn]
              exact ev_un (ev_var rfl) ru_neg
end
end K02
end

section -- K02j
set_option linter.all false
set_option maxRecDepth 100000
set_option maxHeartbeats 4000000
namespace K02
open PySem PySem.Spec L2 Pk Evl
open PyProof.Rows hiding St
open TL (tl numL)
/-! ### the pair that a word tells -/
def spPair : Sp := fun vs H Q _ => ∃ z : Str, vs = [.str z] ∧ z.length ≤ 100000 ∧ (pairOf (tl z) = none → ∀ H1, Ex H H1 → Q .non H1) ∧ ∀ t b, pairOf (tl z) = some (t, b) → ∀ q H1, H q = none → Ex H H1 → H1 q = some (.tup [.int t, .int b]) → Q (.ref q) H1
theorem whole_small {w : List Nat} {n : Int} (h : wholeOf w = some n) : n.natAbs < 10 ^ 60 := by
  unfold wholeOf sgnd at h
  split at h
  · next c =>
    rw [Bool.and_eq_true] at c
    have := Option.some.inj h
    rw [← this, sgn_abs]
    exact wh_small c.1
  · cases h
section
variable {P : Program} {w : World} {K : PySem.W.Frag} {mg : Str → Option Value} {base : Heap}
theorem scPair : FnScope ["_law_word", "_law_spot", "_law_top", "_law_bottom"] ["_law_word"] (defScope sPair) := ⟨rfl, rfl, rfl, by decide +kernel, rfl, by decide +kernel, by decide +kernel⟩
theorem ev_whole {σ : L2.St} {H : Hp} {ta : TE} {z : Str} (h : Ev ta σ H (.str z)) (hz : z.length ≤ 100000) : Ev (tCS (fun _ vs H Q => spWhole (vs ++ []) H Q E0) (tCons ta tNil)) σ H (ov (wholeOf (tl z))) :=
  ev_cs (ea_cons h ea_nil) fun H1 e Q q => ⟨z, rfl, hz, fun H2 e2 => q H2 e2⟩
theorem ok_pair {f fW fC : Addr} {fd fdW fdC : FuncData} (F : Fun K "_law_pair" "_law_pair" sPair f fd) (B : Bi mg) (G_whole : FnOk P w K mg base CX0 1 fW fdW ["_law_word"] spWhole) (b_whole : Binds K fdW ["_law_word"] []) (d_whole : Df K mg "_law_whole" fW)
    (G_common : FnOk P w K mg base CX0 1 fC fdC ["_law_one", "_law_other"] spCommon) (b_common : Binds K fdC ["_law_one", "_law_other"] []) (d_common : Df K mg "_law_common" fC) : FnOk P w K mg base CX0 2 f fd ["_law_word"] spPair := by
  refine F.ok scPair (fun vs H Q E h => ?_) (fun cdv A outer s H vs Q E hr h => ?_)
  · obtain ⟨z, rfl, _⟩ := h
    rfl
  · obtain ⟨z, rfl, hz, k0, k1⟩ := h
    have nd := scPair.nd
    refine ⟨_, (pss_cons (ps_if (pt_cmpR op_notInS pe_str (pv 0) rfl)
(pss_one (ps_ret (pe_ifExp (pt_cmpR op_isN' (pe_cs (calls_fn G_whole (hr.mono (by decide)) b_whole .nil pass0) d_whole.1 d_whole.2 (pa_cons (pv 0) pa_nil)) pe_non (nomark _)) pe_non (pe_tup (pa_cons (pe_cs (calls_fn G_whole (hr.mono (by decide)) b_whole .nil pass0) d_whole.1 d_whole.2 (pa_cons (pv 0) pa_nil)) (pa_cons pe_int pa_nil))))))
pss_nil)
(pss_cons (ps_set (i := 1) nd rfl (Or.inl rfl) (pe_m1 PySem.F.slot_str_index PySem.F.type_str_index mt_six (pv 0) pe_str))
(pss_cons (ps_par (i := 2) (j := 3) (by rfl) nd rfl rfl (by decide) rfl rfl (pa_cons (pe_cs (calls_fn G_whole (hr.mono (by decide)) b_whole .nil pass0) d_whole.1 d_whole.2 (pa_cons (pe_slice sl_str (pv 0) po_none (po_some (pv 1))) pa_nil)) (pa_cons (pe_cs (calls_fn G_whole (hr.mono (by decide)) b_whole .nil pass0) d_whole.1 d_whole.2 (pa_cons (pe_slice sl_str (pv 0) (po_some (pe_op op_add (pv 1) pe_int)) po_none) pa_nil)) pa_nil)) (by rfl))
(pss_cons (ps_if (PW.pt (pw_or (pt_cmpR op_isN' (pv 2) pe_non (nomark _)) (pw_or (pt_cmpR op_isN' (pv 3) pe_non (nomark _)) (pw_or (pt_cmpR op_lt (pv 3) pe_int (nomark _)) (pw_or1 (pt_cmpR op_ne (pe_cs (calls_fn G_common (hr.mono (by decide)) b_common .nil pass0) d_common.1 d_common.2 (pa_cons (pv 2) (pa_cons (pv 3) pa_nil))) pe_int (nomark _)))))))
(pss_one (ps_ret pe_non))
pss_nil)
(pss_one (ps_ret (pe_tup (pa_cons (pv 2) (pa_cons (pv 3) pa_nil))))))))), ?_⟩
    have lit : Str.ofString "/" = ⟨#[47]⟩ := by decide +kernel
    refine q_when (et_test (ev_op ev_c (ev_var rfl) (rv_notIn lit))) (fun c H1 e1 => ?_) (fun c H1 e1 => ?_)
    · have nm : (47 : Nat) ∉ tl z := fun m => by
        have : decide ((47 : Nat) ∈ z.cps.toList) = true := decide_eq_true m
        rw [this] at c
        cases c
      have eP : pairOf (tl z) = (wholeOf (tl z)).map fun n => (n, 1) := by unfold pairOf; rw [TL.par_none1 nm]
      rw [eP] at k0 k1
      have ew := ev_whole (σ := [some (.str z), none, none, none]) (H := H1) (ta := tVar 0) (ev_var rfl) hz
      cases hw : wholeOf (tl z) with
      | none =>
        rw [hw] at ew k0
        exact s_ret (ev_if (b := true) (et_test (ev_op ew ev_c rv_isN)) (fun _ => ev_c) fun c2 => by cases c2) fun H2 e2 => k0 rfl H2 (e1.trans e2)
      | some n =>
        rw [hw] at ew k1
        have t1 : EvT (tTest (tOp Pk.rIsN (tCS (fun _ vs H Q => spWhole (vs ++ []) H Q E0) (tCons (tVar 0) tNil)) (tC .non))) [some (.str z), none, none, none] H1 false := et_is (et_test (ev_op ew ev_c rv_isN)) (decide_eq_false fun w => by cases w)
        refine t1 H1 (Ex.refl H1) _ fun H2 e2 => ?_
        refine iteF ?_
        exact (eu_tup (ea_cons ew (ea_cons ev_c ea_nil)) (by show 2 ≤ 100000; decide)) H2 e2 _ fun q H3 nq e3 hq => k1 n 1 rfl q H3 (fresh_back (e1.trans e2) nq) ((e1.trans e2).trans e3) hq
    · have m : (47 : Nat) ∈ tl z := by
        by_cases m : (47 : Nat) ∈ tl z
        · exact m
        · have : decide ((47 : Nat) ∈ z.cps.toList) = false := decide_eq_false m
          rw [this] at c
          cases c
      obtain ⟨p, q, hpq, np⟩ := cut_at m
      have eP : pairOf (tl z) = (match wholeOf p, wholeOf q with
        | some t, some b => if (decide (b < 2) || !(Nat.gcd t.natAbs b.natAbs == 1)) = true then none else some (t, b)
        | _, _ => none) := by
        unfold pairOf
        have : TL.par [47] [] (tl z) = some (p, q) := by rw [hpq]; exact TL.par_part1 (S := []) np
        rw [this] <;> rfl
      have p1 : tl (cutS z none (some ((p.length : Nat) : Int))) = p := by rw [tl_to, hpq, List.take_left]
      have p2 : tl (cutS z (some ((p.length : Int) + 1)) none) = q := by
        rw [show ((p.length : Int) + 1) = ((p.length + 1 : Nat) : Int) from rfl, tl_from, hpq]
        show (p ++ 47 :: q).drop (p.length + 1) = q
        rw [List.drop_append]
        simp
      refine q_asg (ev_six (ev_var rfl) ev_c lit hpq np) fun H2 e2 => ?_
      have e12 := e1.trans e2
      have ew1 := ev_whole (σ := [some (.str z), some (.int (p.length : Nat)), none, none]) (H := H2) (ev_slS (ev_var (i := 0) rfl) eo_none (eo_some (ev_var (i := 1) rfl)) (by omega)) (Nat.le_trans (cutS_length z none (some ((p.length : Nat) : Int))) hz)
      have ew2 := ev_whole (σ := [some (.str z), some (.int (p.length : Nat)), none, none]) (H := H2) (ev_slS (ev_var (i := 0) rfl) (eo_some (ev_op (ev_var (i := 1) rfl) (ev_c (v := .int 1)) (rv_I0 (g := fun i j => V.int (i + j))))) eo_none (by omega)) (Nat.le_trans (cutS_length z (some ((p.length : Int) + 1)) none) hz)
      rw [p1] at ew1
      rw [p2] at ew2
      refine q_par (ea_cons ew1 (ea_cons ew2 ea_nil)) fun H3 e3 => ?_
      have e123 := e12.trans e3
      cases hp : wholeOf p with
      | none =>
        have k0 := k0 (by rw [eP, hp])
        refine q_when (et_or (a := true) (b := false) (et_test (ev_op (ev_var rfl) ev_c rv_isN)) fun c2 => by cases c2) (fun c2 H4 e4 => ?_) (fun c2 => by cases c2)
        exact s_ret ev_c fun H5 e5 => k0 H5 ((e123.trans e4).trans e5)
      | some t =>
        cases hq : wholeOf q with
        | none =>
          have k0 := k0 (by rw [eP, hp, hq])
          refine q_when (et_or (a := false) (b := true) (et_is (et_test (ev_op (ev_var rfl) ev_c rv_isN)) (decide_eq_false fun w => by cases w)) fun _ => et_is (et_or (a := true) (b := false) (et_test (ev_op (ev_var rfl) ev_c rv_isN)) fun c2 => by cases c2) rfl) (fun c2 H4 e4 => ?_) (fun c2 => by cases c2)
          exact s_ret ev_c fun H5 e5 => k0 H5 ((e123.trans e4).trans e5)
        | some b =>
          have st := Nat.lt_trans (whole_small hp) ten60
          have sb := Nat.lt_trans (whole_small hq) ten60
          refine q_when (b := decide (b < 2) || !(Nat.gcd t.natAbs b.natAbs == 1)) (et_is (et_or (a := false) (et_is (et_test (ev_op (ev_var rfl) ev_c rv_isN)) (decide_eq_false fun w => by cases w)) fun _ => et_or (a := false) (et_is (et_test (ev_op (ev_var rfl) ev_c rv_isN)) (decide_eq_false fun w => by cases w)) fun _ => et_or (et_test (ev_op (ev_var rfl) ev_c (rv_I0 (g := fun i j => V.bl (decide (i < j)))))) fun _ => et_test (ev_op (ev_cs (z := .int ((Nat.gcd t.natAbs b.natAbs : Nat) : Int)) (ea_cons (ev_var rfl) (ea_cons (ev_var rfl) ea_nil)) fun H1 e Q q => ⟨t, b, rfl, st, sb, fun H2 e2 => q H2 e2⟩) ev_c (rv_ne rfl))) ?_) (fun c2 H4 e4 => ?_) (fun c2 H4 e4 => ?_)
          · rw [Bool.false_or, Bool.false_or]
            congr 2
            rw [Bool.eq_iff_iff, decide_eq_true_eq, beq_iff_eq, V.int.injEq]
            omega
          · have k0 := k0 (by rw [eP, hp, hq]; exact if_pos c2)
            exact s_ret ev_c fun H5 e5 => k0 H5 ((e123.trans e4).trans e5)
          · have k1 := k1 t b (by rw [eP, hp, hq]; exact if_neg (by rw [c2]; exact Bool.false_ne_true))
            exact s_retU (eu_tup (ea_cons (ev_var rfl) (ea_cons (ev_var rfl) ea_nil)) (by show 2 ≤ 100000; decide)) fun q' H5 nq e5 hq' => k1 q' H5 (fresh_back (e123.trans e4) nq) ((e123.trans e4).trans e5) hq'
end
end K02
end

section -- K02k
set_option linter.all false
set_option maxRecDepth 100000
set_option maxHeartbeats 4000000
namespace K02
open PySem PySem.Spec L2 Pk Evl
open PyProof.Rows hiding St
open TL (tl numL)
abbrev sHeard : Stmt := top 24
/-! ### what is heard of a text -/
structure Hd (K : PySem.W.Frag) (mg : Str → Option Value) (C D PK : Addr) (mc : Value) (q g : Addr) : Prop where
  rd : ClX.CRead K C mc
  st : StM K C mc "read" q g
  gP : mg "PeekError" = some (.ref PK)
  ex : PySem.W.exmOne K (.ref D) (.ref PK) = some true
  xf : XfC K D
  ec : ExcC K D
  me : PySem.W.kitOne K (.ref D) (.ref D) = some true
/-- nothing but a pair of numbers: which word is wrong -/
def NoT (k : Int) (H : Hp) (Q : VK) : Prop := ∀ q H2, H q = none → Same H H2 → H2 q = some (.tup [.int 0, .int k]) → Q (.ref q) H2
/-- the pair of the caught's words -/
def tRestH (K : PySem.W.Frag) (D : Addr) : TS := tRet (tIf (tB (tCB (rIsQ K) (tCons (tVar 1) (tCons (tC (.ref D)) tNil)))) (tTup (tCons (tXq K D "line" (tVar 1)) (tCons (tXq K D "word" (tVar 1)) tNil))) (tTup (tCons (tC (.str "other")) tNil)))
def spHeard (K : PySem.W.Frag) (C : Addr) : Sp := fun vs H Q _ => ∃ x, vs = [x] ∧ ((∃ T, TyX K H x T ∧ PySem.W.kitOne K T (.type "str") = some false ∧ NoT 0 H Q) ∨
  ∃ (z : Str) (u : List Nat) (more : List (List Nat)), x = .str z ∧ z.length ≤ 90000 ∧ cutAt 32 (tl z) = u :: more ∧ (progOf u = none → NoT 0 H Q) ∧
    ∀ t b, progOf u = some (t, b) → (more ≠ [] → NoT 1 H Q) ∧ (more = [] → ∀ l x H2, H l = none → Same H H2 → H2 l = some (.lst [.ref x]) → RatAt C H2 x t b → Q (.ref l) H2))
section
variable {P : Program} {w : World} {K : PySem.W.Frag} {mg : Str → Option Value} {base : Heap}
theorem scHeard : FnScope ["_law_text", "_law_caught", "error"] ["_law_text"] (defScope sHeard) := ⟨rfl, rfl, rfl, by decide +kernel, rfl, by decide +kernel, by decide +kernel⟩
theorem ok_heard {f C D PK q g : Addr} {mc : Value} {fd fdR : FuncData} (F : Fun K "_law_heard" "_law_heard" sHeard f fd) (B : Bi mg) {fI : Addr} (T : RCl K mg C) (Tb : BTC K mg D fI) (Th : Hd K mg C D PK mc q g)
    (G_read : FnOk P w K mg base (L2.CX P w) 5 g fdR ["text"] (spRead K C D)) (b_read : Binds K fdR ["text"] []) : FnOk P w K mg base CX0 6 f fd ["_law_text"] (spHeard K C) := by
  refine F.ok scHeard (fun vs H Q E h => ?_) (fun cdv A outer s H vs Q E hr h => ?_)
  · obtain ⟨z, rfl, _⟩ := h
    rfl
  · obtain ⟨x, rfl, h⟩ := h
    have nd := scHeard.nd
    refine ⟨_, (pss_cons (ps_set (i := 1) nd rfl (Or.inl rfl) pe_non)
(pss_cons (ps_try_keep (x := "PeekError") (n := "error") (c := .ref PK) (i := 2) (tb := fun W => tRet (tLst (tCons (tSt C (fun σ vs H Q => spRead K C D (vs ++ []) H Q (WE W σ)) (tC (.ref C)) (tCons (tVar 0) tNil)) tNil))) (ts := fun _ _ _ => tAsg (tVar 2) (gName 1)) rfl rfl rfl nd rfl rfl rfl Th.gP (fun W pn xe tk po => pss_one (ps_ret (pe_lst (pa_cons (pe_stat (pe_gv T.v_Ratio) Th.rd Th.st (calls_fnS G_read (hr.mono (by decide)) b_read .nil (fun σ => passAt tk σ)) (pa_cons (pv 0) pa_nil)) pa_nil)))) (fun a cls d pn => pss_one (ps_set (i := 1) nd rfl (Or.inl rfl) (pv 2))))
(pss_one (ps_ret (pe_ifExp (pt_val (pe_callB call_isQ (by rfl) B.n_isinstance (by decide +kernel) (pa_cons (pv 1) (pa_cons (pe_gv (v := .ref D) ⟨_, Tb.gl, rfl⟩) pa_nil)))) (pe_tup (pa_cons (pe_xq Th.xf Tb.nL (pv 1)) (pa_cons (pe_xq Th.xf Tb.nW (pv 1)) pa_nil))) (pe_tup (pa_cons pe_str pa_nil))))))), ?_⟩
    have fin : ∀ (k : Int) (a d : Addr) (H2 : Hp), NoT k H Q → H d = none → Same H H2 → H2 d = some (.xd [("word", .int k), ("line", .int 0)]) → H2 a = none →
        tRestH K D { nx := fun _ G => Q .non G, rt := Q } [some x, some (.ref a), none] (upd H2 a (exq (.ref D) (some d) a)) := fun k a d H2 no nd e hd na => by
      have ne : d ≠ a := ne_of_none hd na
      have h1 : (upd H2 a (exq (.ref D) (some d) a)) a = some (exq (.ref D) (some d) a) := upd_same
      have h2 : (upd H2 a (exq (.ref D) (some d) a)) d = some (.xd [("word", .int k), ("line", .int 0)]) := by rw [upd_ne ne]; exact hd
      refine ⟨_, rfl, a, D, some d, .ref D, .ref D, true, rfl, fun o ho => by cases ho; exact ⟨_, h2⟩, h1, ClsV.own D, Th.ec, Th.me, true, rfl, iteT ?_⟩
      refine ⟨_, rfl, a, d, _, .int 0, rfl, h1, h2, by rfl, _, rfl, a, d, _, .int k, rfl, h1, h2, by rfl, sz (by show 2 ≤ 1000000; decide), fun t nt => ?_⟩
      have nH : H t = none := fresh_back (H' := H2) e (by
        by_cases z : t = a
        · rw [z, h1] at nt; cases nt
        · rw [upd_ne z] at nt; exact nt)
      refine no t _ nH (fun b o hb => ?_) upd_same
      have hb2 := e b o hb
      rw [upd_ne (ne_of_none hb nH), upd_ne (ne_of_none hb2 na)]
      exact hb2
    have caught : ∀ (k : Int), NoT k H Q → RzT D H (WE (wKeep K (.ref PK) 2 (fun _ _ _ => tAsg (tVar 2) (gName 1)) { nx := tRestH K D { nx := fun _ G => Q .non G, rt := Q }, rt := Q }) [some x, some .non, none]) k := fun k no d H2 nd e hd =>
      ⟨Th.ex, fun a na => ⟨_, rfl, fin k a d H2 no nd e hd na⟩⟩
    have fr0 : ∀ {l : Addr} {H2 : Hp}, Same H H2 → H2 l = none → H l = none := fun e n => fresh_back e n
    rcases h with ⟨ty, t1, t2, z0⟩ | ⟨z, u, more, rfl, hz, hc, k0, k1⟩
    · exact ⟨rfl, _, rfl, x, rfl, .inl ⟨ty, t1, t2, caught 0 z0⟩⟩
    · refine ⟨rfl, _, rfl, .str z, rfl, .inr ⟨z, u, more, rfl, hz, hc, fun n => caught 0 (k0 n), fun t b hpr => ⟨fun m => caught 1 ((k1 t b hpr).1 m), fun m y H2 ny e2 hy => ⟨sz (by show 1 ≤ 1000000; decide), fun l nl => ?_⟩⟩⟩⟩
      obtain ⟨dx, hy'⟩ := hy
      refine (k1 t b hpr).2 m l y _ (fr0 e2 nl) (e2.trans (same_new nl)) upd_same ⟨dx, ?_⟩
      rw [upd_ne (ne_of_none hy' nl)]
      exact hy'
end
end K02
end

section -- K02l
set_option linter.all false
set_option maxRecDepth 100000
set_option maxHeartbeats 4000000
namespace K02
open PySem PySem.Spec L2 Pk Evl
open PyProof.Rows hiding St
open TL (tl numL)
abbrev sRR : Stmt := top 25
/-! ### what is read is right -/
/-- the methods of Ratio, as they are known -/
structure RM (P : Program) (w : World) (K : PySem.W.Frag) (mg : Str → Option Value) (base : Heap) (C D gI gS gR gE g : Addr) (fdI fdS fdR fdE fd : FuncData) : Prop where
  fStr : PySem.W.findIn K (.ref C) "__str__" = some (some (.ref gS))
  iStr : PySem.W.isFn K (.ref gS) = true
  G_str : FnOk P w K mg base CX0 1 gS fdS ["self"] (spStr C)
  b_str : Binds K fdS ["self"] []
  fRepr : PySem.W.findIn K (.ref C) "__repr__" = some (some (.ref gR))
  iRepr : PySem.W.isFn K (.ref gR) = true
  G_repr : FnOk P w K mg base CX0 5 gR fdR ["self"] (spStr C)
  b_repr : Binds K fdR ["self"] []
  fEq : PySem.W.findIn K (.ref C) "__eq__" = some (some (.ref gE))
  iEq : PySem.W.isFn K (.ref gE) = true
  G_eq : FnOk P w K mg base CX0 2 gE fdE ["self", "other"] (spEq C)
  b_eq : Binds K fdE ["self", "other"] []
  M_R : Mk K C gI
  G_R : FnOk P w K mg base CX0 2 gI fdI ["self", "top", "bottom"] (spRi C)
  b_R : Binds K fdI ["self", "top", "bottom"] []
  d_R : Df K mg "Ratio" C
  G_read : FnOk P w K mg base (L2.CX P w) 5 g fd ["text"] (spRead K C D)
  kb : KBinds K fd ["text"] ["text"] (fun us ws => us ++ ws) (fun vs zs => vs ++ zs)
def spRR : Sp := fun vs H Q _ => ∃ z : Str, vs = [.str z] ∧ z.length ≤ 40000 ∧ ∀ H1, Ex H H1 → Q (.bl true) H1
theorem scRR : FnScope ["_law_text", "_law_words", "_law_word", "_law_sign", "_law_pair_here", "_law_heard_here", "_law_found"] ["_law_text"] (defScope sRR) := ⟨rfl, rfl, rfl, by decide +kernel, rfl, by decide +kernel, by decide +kernel⟩
theorem space_sign {d : Nat} : decide (V.str ⟨#[d]⟩ = V.str (Str.ofString " ")) = decide (d = 32) := by
  rw [dec_strT, tl_one]
  have : tl (Str.ofString " ") = [32] := by decide +kernel
  rw [this, Bool.eq_iff_iff]
  simp
theorem cut_one {c : Nat} {l u : List Nat} (h : cutAt c l = [u]) : u = l := by
  have n : c ∉ l := fun m => by
    have := cut_two m
    rw [h] at this
    exact absurd this (by show ¬ 2 ≤ 1; decide)
  rw [cut_none n] at h
  exact (List.cons.inj h).1.symm
theorem rc_isi {K : PySem.W.Frag} {H : Hp} {x c : V} {t u : Value} {b : Bool} (hc : ClsV c u) (ty : ∀ H1, Ex H H1 → TyX K H1 x t) (k : PySem.W.kitOne K t u = some b) : RC (rIsi K) [x, c] H (.bl b) := fun H1 e _ q => ⟨x, c, t, u, b, rfl, hc, ty H1 e, k, q H1 (Ex.refl H1)⟩
theorem rc_own {C x dx : Addr} {H : Hp} {t b : Int} (hx : H x = some (.ins C dx (rf t b))) (lt : t.natAbs.log2 < 1000) (lb : b.natAbs.log2 < 1000) : RC (rOwnT C fun vs H Q => spStr C vs H Q E0) [.ref x] H (.str (ratText t b)) := fun H1 e _ q =>
  ⟨x, dx, _, rfl, e _ _ hx, x, t, b, rfl, ⟨dx, e _ _ hx⟩, lt, lb, _, rfl, q H1 (Ex.refl H1)⟩
section
variable {P : Program} {w : World} {K : PySem.W.Frag} {mg : Str → Option Value} {base : Heap}
theorem ok_rr {f fP fH C D PK q g gI gS gR gE : Addr} {mc : Value} {fd fdP fdH fdI fdS fdR fdE fdG : FuncData} (F : Fun K "_law_read_right" "_law_read_right" sRR f fd) (B : Bi mg) (T : RCl K mg C) (Th : Hd K mg C D PK mc q g) (R : RM P w K mg base C D gI gS gR gE g fdI fdS fdR fdE fdG)
    (G_pair : FnOk P w K mg base CX0 2 fP fdP ["_law_word"] spPair) (b_pair : Binds K fdP ["_law_word"] []) (d_pair : Df K mg "_law_pair" fP)
    (G_heard : FnOk P w K mg base CX0 6 fH fdH ["_law_text"] (spHeard K C)) (b_heard : Binds K fdH ["_law_text"] []) (d_heard : Df K mg "_law_heard" fH) : FnG P w K mg base CX0 9 f fd ["_law_text"] spRR := by
  refine fnG_of F scRR (fun vs H Q E h => ?_) (fun cdv A outer s H vs Q E hr hg h => ?_)
  · obtain ⟨z, rfl, _⟩ := h
    rfl
  · obtain ⟨z, rfl, hz, kq⟩ := h
    have nd := scRR.nd
    refine ⟨_, PSs.nox (pss_cons (ps_par (i := 1) (j := 2) (by rfl) nd rfl rfl (by decide) rfl rfl (pa_cons (pe_lst pa_nil) (pa_cons pe_str pa_nil)) (by rfl))
(pss_cons (ps_for PassesOwn.never rfl (pi_str (pv 0)) (pg_name (i := 3) nd rfl (Or.inl rfl))
(pss_one (ps_if (pt_cmpR op_eq (pv 3) pe_str (nomark _))
(pss_one (ps_par (i := 1) (j := 2) (by rfl) nd rfl rfl (by decide) rfl rfl (pa_cons (pe_op op_cat (pv 1) (pe_lst (pa_cons (pv 2) pa_nil))) (pa_cons pe_str pa_nil)) (by rfl)))
(pss_one (ps_set (i := 2) nd rfl (Or.inl rfl) (pe_op op_addT (pv 2) (pv 3)))))))
(pss_cons (ps_set (i := 1) nd rfl (Or.inl rfl) (pe_op op_cat (pv 1) (pe_lst (pa_cons (pv 2) pa_nil))))
(pss_cons (ps_par (i := 4) (j := 5) (by rfl) nd rfl rfl (by decide) rfl rfl (pa_cons (pe_cs (calls_fn G_pair (hr.mono (by decide)) b_pair .nil pass0) d_pair.1 d_pair.2 (pa_cons (pe_ix ix_list (pv 1) pe_int (fun _ _ => rfl)) pa_nil)) (pa_cons (pe_cs (calls_fn G_heard (hr.mono (by decide)) b_heard .nil pass0) d_heard.1 d_heard.2 (pa_cons (pv 0) pa_nil)) pa_nil)) (by rfl))
(pss_cons (ps_if (pt_cmpR op_isN' (pv 4) pe_non (nomark _))
(pss_one (ps_ret (pe_cmpR op_eq (pe_callB (call_reprD hg hr.units) (by rfl) B.n_repr (by decide +kernel) (pa_cons (pv 5) pa_nil)) (pe_callB (call_reprD hg hr.units) (by rfl) B.n_repr (by decide +kernel) (pa_cons (pe_tup (pa_cons pe_int (pa_cons pe_int pa_nil))) pa_nil)) (nomark _))))
pss_nil)
(pss_cons (ps_if (pt_cmpR op_gt (pe_callB call_lenL (by rfl) B.n_len (by decide +kernel) (pa_cons (pv 1) pa_nil)) pe_int (nomark _))
(pss_one (ps_ret (pe_cmpR op_eq (pe_callB (call_reprD hg hr.units) (by rfl) B.n_repr (by decide +kernel) (pa_cons (pv 5) pa_nil)) (pe_callB (call_reprD hg hr.units) (by rfl) B.n_repr (by decide +kernel) (pa_cons (pe_tup (pa_cons pe_int (pa_cons pe_int pa_nil))) pa_nil)) (nomark _))))
pss_nil)
(pss_cons (ps_if (PW.pt (pw_or (pt_not (pt_val (pe_callB call_isi (by rfl) B.n_isinstance (by decide +kernel) (pa_cons (pv 5) (pa_cons (pe_tyname "list" B.n_list (by decide +kernel)) pa_nil))))) (pw_or1 (pt_not (pt_val (pe_callB call_isi (by rfl) B.n_isinstance (by decide +kernel) (pa_cons (pe_ix ix_list (pv 5) pe_int (fun _ _ => rfl)) (pa_cons (pe_gv T.v_Ratio) pa_nil))))))))
(pss_one (ps_ret pe_bl))
pss_nil)
(pss_cons (ps_set (i := 6) nd rfl (Or.inl rfl) (pe_ix ix_list (pv 5) pe_int (fun _ _ => rfl)))
(pss_cons (ps_if (PW.pt (pw_or (pt_cmpR op_ne (pe_callB (call_reprD hg hr.units) (by rfl) B.n_repr (by decide +kernel) (pa_cons (pe_tup (pa_cons (pe_fld (pv 6) rfl) (pa_cons (pe_fld (pv 6) rfl) pa_nil))) pa_nil)) (pe_callB (call_reprD hg hr.units) (by rfl) B.n_repr (by decide +kernel) (pa_cons (pv 4) pa_nil)) (nomark _)) (pw_or (pt_cmpR op_ne (pe_callTy (call_strO (C := C) (hr.mono (by decide : 3 ≤ 8)).in1.in1.units0 R.fStr R.iStr (runAt_fn R.G_str (hr.mono (by decide : 3 ≤ 8)).in1.in1 rfl R.b_str pass0)) (by rfl) B.n_str (by decide +kernel) (pa_cons (pv 6) pa_nil)) (pv 0) (nomark _)) (pw_or1 (pt_cmpR op_ne (pe_callB (call_reprO (C := C) (hr.mono (by decide : 6 ≤ 8)).in1.units0 R.fRepr R.iRepr (runAt_fn R.G_repr (hr.mono (by decide : 6 ≤ 8)).in1 rfl R.b_repr pass0)) (by rfl) B.n_repr (by decide +kernel) (pa_cons (pv 6) pa_nil)) (pv 0) (nomark _))))))
(pss_one (ps_ret pe_bl))
pss_nil)
(pss_one (ps_ret (pe_and (pe_cmpR (op_eqO (C := C) hr.units0 R.fEq R.iEq (runAt_fn R.G_eq (hr.mono (by decide)) rfl R.b_eq pass0)) (pv 6) (pe_cs (calls_make R.M_R R.G_R (hr.mono (by decide)) R.b_R .nil pass0) R.d_R.1 R.d_R.2 (pa_cons (pe_ix ix_tup (pv 4) pe_int (fun _ _ => rfl)) (pa_cons (pe_ix ix_tup (pv 4) pe_int (fun _ _ => rfl)) pa_nil))) (nomark _)) (pe_one (pe_cmpR (op_eqO (C := C) hr.units0 R.fEq R.iEq (runAt_fn R.G_eq (hr.mono (by decide)) rfl R.b_eq pass0)) (pe_statK (pe_gv T.v_Ratio) Th.rd Th.st R.G_read (hr.mono (by decide)) R.kb passL (pk_cons (pv 0) pk_nil)) (pv 6) (nomark _))))))))))))))), ?_⟩
    refine q_parL (el_lst ea_nil (by decide)) ev_c fun p H1 np e1 h1 => ?_
    refine q_forS (ev_var rfl) (fun i σ H' => ∃ (wl : Addr) (ws : List Str) (acc : Str) (o : Option V), σ = [some (.str z), some (.ref wl), some (.str acc), o, none, none, none] ∧ H' wl = some (.lst (ws.map V.str)) ∧ ((tl z).take i).foldl (cutStep 32) ([], []) = (ws.map tl, tl acc) ∧ ws.length ≤ i ∧ acc.length ≤ i ∧ Ex H H')
      (fun H2 e2 => ⟨p, [], Str.ofString "", none, rfl, e2 _ _ h1, by rw [List.take_zero, show tl (Str.ofString "") = [] from by decide +kernel]; rfl, by decide, by decide +kernel, e1.trans e2⟩) (fun i d σ H2 hd pv => ?_) (fun σ H2 pv => ?_)
    · obtain ⟨wl, ws, acc, o, rfl, hw, hf, hl1, hl2, e2⟩ := pv
      have hd' : (tl z)[i]? = some d := by
        show z.cps.toList[i]? = some d
        rw [Array.getElem?_toList]
        exact hd
      have hi : i < 40000 := by
        have h3 := (List.getElem?_eq_some_iff.mp hd').1
        rw [← TL.len_tl] at h3
        omega
      have hstep : ((tl z).take (i + 1)).foldl (cutStep 32) ([], []) = cutStep 32 (ws.map tl, tl acc) d := by rw [take_snoc hd', List.foldl_append, hf]; rfl
      refine s_if (et_test (ev_op (ev_var rfl) ev_c (rv_eq rfl))) (fun c H3 e3 => ?_) (fun c H3 e3 => ?_)
      · rw [space_sign] at c
        have c' := of_decide_eq_true c
        refine s_parL (el_catVL (ev_var rfl) (e3 _ _ hw) (el_lst (ea_cons (ev_var rfl) ea_nil) (by show 1 ≤ 100000; decide)) (by rw [List.length_map]; show ws.length + 1 ≤ 1000000; omega)) ev_c fun q H4 nq e4 h4 => ⟨q, ws ++ [acc], Str.ofString "", some (.str ⟨#[d]⟩), rfl, ?_, ?_, ?_, by show 0 ≤ i + 1; omega, (e2.trans e3).trans e4⟩
        · rw [List.map_append]
          exact h4
        · rw [hstep]
          unfold cutStep
          rw [if_pos c', List.map_append]
          rfl
        · rw [List.length_append]
          show ws.length + 1 ≤ i + 1
          omega
      · rw [space_sign] at c
        have c' := of_decide_eq_false c
        refine s_asg (ev_op (ev_var rfl) (ev_var rfl) (rv_addT (by show acc.length + 1 ≤ 1000000; omega))) fun H4 e4 => ⟨wl, ws, acc ++ ⟨#[d]⟩, some (.str ⟨#[d]⟩), rfl, e4 _ _ (e3 _ _ hw), ?_, by omega, ?_, (e2.trans e3).trans e4⟩
        · rw [hstep]
          unfold cutStep
          rw [if_neg c', TL.tl_append]
        · rw [Str.length_append]
          show acc.length + 1 ≤ i + 1
          omega
    · obtain ⟨wl, ws, acc, o, rfl, hw, hf, hl1, hl2, e2⟩ := pv
      have hzs : z.cps.size = z.length := rfl
      rw [List.take_of_length_le (by rw [← TL.len_tl]; exact Nat.le_of_eq hzs.symm)] at hf
      have hcut : (ws ++ [acc]).map tl = cutAt 32 (tl z) := by
        have h3 := cut_walk 32 (tl z) [] []
        rw [hf] at h3
        rw [List.map_append]
        exact h3
      refine q_asgL (el_catVL (ev_var rfl) hw (el_lst (ea_cons (ev_var rfl) ea_nil) (by show 1 ≤ 100000; decide)) (by rw [List.length_map]; show ws.length + 1 ≤ 1000000; omega)) fun p2 H3 np2 e3 h3 => ?_
      have h3' : H3 p2 = some (.lst ((ws ++ [acc]).map V.str)) := by rw [List.map_append]; exact h3
      obtain ⟨a, r, hP⟩ : ∃ a r, ws ++ [acc] = a :: r := by
        cases hx : ws ++ [acc] with
        | nil => exact absurd hx (by simp)
        | cons a r => exact ⟨a, r, rfl⟩
      rw [hP] at h3' hcut
      have e23 := e2.trans e3
      have la : a.length ≤ 40000 := by
        have hm : tl a ∈ TL.spl [32] 0 [] (tl z) := by
          have : tl a ∈ cutAt 32 (tl z) := by rw [← hcut]; exact List.mem_cons_self
          exact this
        have := spl_len 32 _ _ _ hm
        rw [List.length_nil, ← TL.len_tl, ← TL.len_tl] at this
        omega
      have hpp := pair_eq (tl a)
      -- what is answered where a pair of ints is heard
      have told : ∀ (k : Int) (σ : L2.St) (H4 : Hp) (qa : Addr), k.natAbs.log2 < 1000 → σ[5]? = some (some (.ref qa)) → H4 qa = some (.tup [.int 0, .int k]) → Ex H H4 →
          tRet (tOp rEq (tCB (rReprD K) (tCons (tVar 5) tNil)) (tCB (rReprD K) (tCons (tTup (tCons (tC (.int 0)) (tCons (tC (.int k)) tNil))) tNil))) { nx := fun _ G => Q .non G, rt := Q } σ H4 := fun k σ H4 qa hk s5 h4 e4 => by
        refine s_ret (ev_is (ev_op (ev_cb (ea_cons (ev_var s5) ea_nil) (rc_repr (by decide) hk (st_of h4))) (ev_reprU (by decide) hk (eu_tup (ea_cons ev_c (ea_cons ev_c ea_nil)) (by show 2 ≤ 100000; decide))) (rv_eq rfl)) (w := .bl true) (by rw [decide_eq_true rfl])) fun H5 e5 => kq H5 (e4.trans e5)
      refine ⟨_, rfl, p2, _, 0, _, rfl, rfl, SqL.of h3', atI_nat (j := 0) rfl, a, rfl, by omega, fun pn H4 e4 => ?_, fun t b pt q1 H4 nq1 e4 hq1 => ?_⟩
      · refine ⟨_, rfl, .str z, rfl, .inr ⟨z, tl a, r.map tl, rfl, by omega, hcut.symm, fun _ qa H5 nqa e5 hqa => ⟨_, _, rfl, ?_⟩, fun t b pr => ?_⟩⟩
        · have e45 := (e23.trans e4).trans e5
          refine q_when (b := true) (et_is (et_test (ev_op (ev_var rfl) ev_c rv_isN)) (decide_eq_true rfl)) (fun _ H6 e6 => ?_) (fun c => by cases c)
          exact told 0 _ H6 qa (by decide) rfl (e6 _ _ hqa) (e45.trans e6)
        · rw [hpp] at pn
          rw [pn] at pr
          cases pr
      · obtain ⟨w1, w2, w3, w4, w5⟩ := prog_text (hpp ▸ pt)
        have lt : t.natAbs.log2 < 1000 := log2_lt (a := 200) (Nat.lt_trans w2 ten60) (by decide) (by decide)
        have lb : b.natAbs.log2 < 1000 := log2_lt (a := 200) (Nat.lt_trans w4 ten60) (by decide) (by decide)
        refine ⟨_, rfl, .str z, rfl, .inr ⟨z, tl a, r.map tl, rfl, by omega, hcut.symm, fun pr => ?_, fun t' b' pr => ?_⟩⟩
        · rw [hpp, pr] at pt
          cases pt
        · rw [hpp, pr] at pt
          cases pt
          refine ⟨fun hm qa H5 nqa e5 hqa => ⟨_, _, rfl, ?_⟩, fun hm l x H5 nl e5 hl hx => ⟨_, _, rfl, ?_⟩⟩
          · have e45 := (e23.trans e4).trans e5
            refine q_when (b := false) (et_is (et_test (ev_op (ev_var rfl) ev_c rv_isN)) (decide_eq_false fun z => by cases z)) (fun c => by cases c) (fun _ H6 e6 => ?_)
            refine q_when (b := true) (et_is (et_test (ev_op (ev_len (ev_var rfl) (sq_of (e6 _ _ (e5 _ _ (e4 _ _ h3'))))) ev_c rv_I0)) ?_) (fun _ H7 e7 => ?_) (fun c => by cases c)
            · refine decide_eq_true ?_
              have h7 : r ≠ [] := fun w => hm (by rw [w]; rfl)
              have h8 : 0 < r.length := List.length_pos_iff.mpr h7
              rw [List.length_map, List.length_cons]
              omega
            · exact told 1 _ H7 qa (by decide) rfl (e7 _ _ (e6 _ _ hqa)) ((e45.trans e6).trans e7)
          · obtain ⟨dx, hx⟩ := hx
            have hr0 : r = [] := List.map_eq_nil_iff.mp hm
            have hcut1 : cutAt 32 (tl z) = [tl a] := by rw [← hcut, hr0]; rfl
            have ez : ratText t b = z := TL.ext_tl (w1.trans (cut_one hcut1))
            have ta := Nat.lt_trans w2 ten60
            have tb := Nat.lt_trans w4 ten60
            have hq5 := e5 _ _ hq1
            have e45 := (e23.trans e4).trans e5
            refine q_when (b := false) (et_is (et_test (ev_op (ev_var rfl) ev_c rv_isN)) (decide_eq_false fun z => by cases z)) (fun c => by cases c) (fun _ H6 e6 => ?_)
            refine q_when (b := false) (et_is (et_test (ev_op (ev_len (ev_var rfl) (sq_of (e6 _ _ (e5 _ _ (e4 _ _ h3'))))) ev_c rv_I0)) ?_) (fun c => by cases c) (fun _ H7 e7 => ?_)
            · refine decide_eq_false ?_
              rw [List.length_map, List.length_cons, hr0]
              show ¬ (((1 : Nat) : Int) > 1)
              decide
            have e57 := Ex.trans e6 e7
            have hl7 := e57 _ _ hl
            have hx7 := e57 _ _ hx
            have hq7 := e57 _ _ hq5
            refine q_when (b := false) (et_is (et_or (a := false) (b := false) (et_is (et_not (et_B (b := true) (ev_cb (ea_cons (ev_var rfl) (ea_cons ev_c ea_nil)) (rc_isi (ClsV.ty "list") (fun H8 e8 => .base (.lst (e8 _ _ hl7))) (kit_ty (by decide +kernel)))))) rfl) fun _ => et_is (et_not (et_B (b := true) (ev_cb (ea_cons (ev_op (ev_var rfl) ev_c (rv_ixL (sq_of hl7) (atI_nat (j := 0) rfl))) (ea_cons ev_c ea_nil)) (rc_isi (ClsV.own C) (fun H8 e8 => tyRat T ⟨dx, e8 _ _ hx7⟩) T.me)))) rfl) rfl) (fun c => by cases c) (fun _ H8 e8 => ?_)
            refine q_asg (ev_op (ev_var rfl) ev_c (rv_ixL (sq_of (e8 _ _ hl7)) (atI_nat (j := 0) rfl))) fun H9 e9 => ?_
            have hx9 := e9 _ _ (e8 _ _ hx7)
            have hq9 := e9 _ _ (e8 _ _ hq7)
            refine q_when (b := false) (et_is (et_or (a := false) (b := false) (et_is (et_test (ev_op (ev_reprU lt lb (eu_tup (ea_cons (ev_fld (ev_var rfl) hx9 T.cl T.nT (rf_top _ _)) (ea_cons (ev_fld (ev_var rfl) hx9 T.cl T.nB (rf_bot _ _)) ea_nil)) (by show 2 ≤ 100000; decide))) (ev_cb (ea_cons (ev_var rfl) ea_nil) (rc_repr lt lb (st_of hq9))) (rv_ne rfl))) (by rw [decide_eq_true rfl]; rfl))
              fun _ => et_is (et_or (a := false) (b := false) (et_is (et_test (ev_op (ev_cb (ea_cons (ev_var rfl) ea_nil) (rc_own hx9 lt lb)) (ev_var rfl) (rv_ne rfl))) (by rw [ez, decide_eq_true rfl]; rfl)) fun _ => et_is (et_test (ev_op (ev_cb (ea_cons (ev_var rfl) ea_nil) (rc_own hx9 lt lb)) (ev_var rfl) (rv_ne rfl))) (by rw [ez, decide_eq_true rfl]; rfl)) rfl) rfl) (fun c => by cases c) (fun _ H10 e10 => ?_)
            have hx10 := e10 _ _ hx9
            have hq10 := e10 _ _ hq9
            have g1 := sg_one w3 w5
            have self : ratEq t b (t.fdiv (sg t b)) (b.fdiv (sg t b)) = true := by
              rw [g1, fdiv_one, fdiv_one]
              unfold ratEq
              rw [decide_eq_true rfl, decide_eq_true rfl]
              rfl
            have self2 : ratEq t b t b = true := by
              unfold ratEq
              rw [decide_eq_true rfl, decide_eq_true rfl]
              rfl
            refine s_ret (v := .bl true) (ev_is (ev_andV (a := true) (b := true) (fun H11 e11 Q11 q11 => ⟨_, rfl, ?_⟩) fun _ H11 e11 Q11 q11 => ?_) rfl) fun H12 e12 => kq H12 ((((((e45.trans e57).trans e8).trans e9).trans e10)).trans e12)
            · refine ei_mk (C := C) (t := t) (b := b) (ea_cons (ev_op (ev_var rfl) ev_c (rv_ixT (st_of (e11 _ _ hq10)) (atI_nat (j := 0) rfl))) (ea_cons (ev_op (ev_var rfl) ev_c (rv_ixT (st_of (e11 _ _ hq10)) (atI_nat (j := 1) rfl))) ea_nil)) (by omega) (Nat.lt_of_lt_of_le tb (Nat.pow_le_pow_right (by decide) (by decide))) H11 (Ex.refl H11) _ fun y dy H12 ny e12 hy => ?_
              refine ⟨x, dx, y, dy, _, _, rfl, e12 _ _ (e11 _ _ hx10), rfl, hy, x, y, t, b, _, _, rfl, ⟨dx, e12 _ _ (e11 _ _ hx10)⟩, ⟨dy, hy⟩, _, rfl, ?_⟩
              rw [self]
              exact q11 H12 e12
            · refine ⟨rfl, _, rfl, .str z, rfl, .inr ⟨z, tl a, [], rfl, by omega, hcut1, fun pr2 => ?_, fun t' b' pr2 => ⟨fun m => absurd rfl m, fun _ y H12 ny e12 hy => ?_⟩⟩⟩
              · rw [pr] at pr2
                cases pr2
              · rw [pr] at pr2
                cases pr2
                obtain ⟨dy, hy⟩ := hy
                refine ⟨_, rfl, y, dy, x, dx, _, _, rfl, hy, rfl, e12 _ _ (e11 _ _ hx10), y, x, t, b, t, b, rfl, ⟨dy, hy⟩, ⟨dx, e12 _ _ (e11 _ _ hx10)⟩, _, rfl, ?_⟩
                rw [self2]
                exact q11 H12 e12
end
end K02
end

section -- K02m
set_option linter.all false
set_option maxRecDepth 100000
set_option maxHeartbeats 4000000
namespace K02
open PySem PySem.Spec L2 Pk Evl
open PyProof.Rows hiding St
open TL (tl numL)
abbrev sBent : Stmt := top 26
abbrev sTurned : Stmt := top 27
/-! ### texts bent and turned: only their lengths matter -/
theorem draw_run {p : Addr} {k : Nat} {n : Int} {σ : L2.St} {H : Hp} {tn : TE} {Q : VK} (s0 : σ[0]? = some (some (.ref p))) (hn : Ev tn σ H (.int n)) (n0 : 0 < n) (nb : n < 2 ^ 100) (hp : PenAt H p (k + 1)) (hq : ∀ r H1, 0 ≤ r → r < n → Fr p H H1 → PenAt H1 p k → Q (.int r) H1) :
    tCS (fun _ vs H Q => spDraw (vs ++ []) H Q E0) (tCons (tVar 0) (tCons tn tNil)) σ H Q := ⟨_, s0, hn H (Ex.refl H) _ fun H1 e1 => ⟨p, n, k, rfl, n0, nb, hp.ext e1, fun r H2 r0 r1 fr h2 => hq r H2 r0 r1 ((Fr.of e1).trans fr) h2⟩⟩
theorem pickS_run {p : Addr} {k : Nat} {a : Str} {σ : L2.St} {H : Hp} {tn : TE} {Q : VK} (s0 : σ[0]? = some (some (.ref p))) (hn : Ev tn σ H (.str a)) (n0 : a.length ≠ 0) (n1 : a.length ≤ 1000) (hp : PenAt H p (k + 1)) (hq : ∀ c H1, c ∈ tl a → Fr p H H1 → PenAt H1 p k → Q (.str ⟨#[c]⟩) H1) :
    tCS (fun _ vs H Q => spPickS (vs ++ []) H Q E0) (tCons (tVar 0) (tCons tn tNil)) σ H Q := ⟨_, s0, hn H (Ex.refl H) _ fun H1 e1 => ⟨p, a, k, rfl, n0, n1, hp.ext e1, fun c H2 hc fr h2 => hq c H2 hc ((Fr.of e1).trans fr) h2⟩⟩
theorem q_asgP {te : TE} {i : Nat} {tz : TS} {D : Ends} {σ : L2.St} {H : Hp} (M : V → Hp → Prop) (h : ∀ Q : VK, (∀ v H1, M v H1 → Q v H1) → te σ H Q) (k : ∀ v H1, M v H1 → tz D (σ.set i (some v)) H1) : tSeq (tAsg te (gName i)) tz D σ H := h _ fun v H1 m => k v H1 m
/-- to a text of at most n signs -/
def EvS (te : TE) (σ : L2.St) (H : Hp) (n : Nat) : Prop := ∃ s : Str, s.length ≤ n ∧ Ev te σ H (.str s)
section
variable {K : PySem.W.Frag} {σ : L2.St} {H : Hp} {ta tb te : TE} {n m : Nat}
theorem es_add (ha : EvS ta σ H n) (hb : EvS tb σ H m) (h : n + m ≤ 1000000) : EvS (tOp rAddT ta tb) σ H (n + m) := by
  obtain ⟨a, la, ha⟩ := ha
  obtain ⟨b, lb, hb⟩ := hb
  exact ⟨a ++ b, by rw [Str.length_append]; omega, ev_op ha hb (rv_addT (by omega))⟩
theorem es_num {i : Int} (ha : Ev ta σ H (.int i)) (h : i.natAbs.log2 < 1000) : EvS (tCB rStrI (tCons ta tNil)) σ H 401 := ⟨_, numLen h, ev_cb (ea_cons ha ea_nil) (rc_strI (by omega))⟩
theorem es_lit {a : Str} (h : a.length ≤ n) : EvS (tC (.str a)) σ H n := ⟨a, h, ev_c⟩
theorem es_mul {a : Str} {i : Int} (ha : Ev ta σ H (.str a)) (hb : Ev tb σ H (.int i)) (h1 : a.length = 1) (h2 : 1 < i) (h3 : i ≤ 10000) : EvS (tOp rMulS ta tb) σ H 10000 :=
  ⟨repS a i, by rw [repS_length, h1]; omega, ev_op ha hb fun H1 _ _ q => ⟨a, i, rfl, rfl, h1, h2, h3, q H1 (Ex.refl H1)⟩⟩
/-- .. to such texts, one after another -/
def EvSs (ta : TA) (σ : L2.St) (H : Hp) (n k : Nat) : Prop := ∃ vs : List V, vs.length = k ∧ (∀ v ∈ vs, ∃ s : Str, v = .str s ∧ s.length ≤ n) ∧ EvA ta σ H vs
theorem ess_nil : EvSs tNil σ H n 0 := ⟨[], rfl, fun v h => absurd h List.not_mem_nil, ea_nil⟩
theorem ess_cons {tr : TA} {k : Nat} (h : EvS te σ H m) (hm : m ≤ n) (hr : EvSs tr σ H n k) : EvSs (tCons te tr) σ H n (k + 1) := by
  obtain ⟨s, ls, hs⟩ := h
  obtain ⟨vs, lv, hv, ha⟩ := hr
  refine ⟨.str s :: vs, by rw [List.length_cons, lv], fun v h => ?_, ea_cons hs ha⟩
  rcases List.mem_cons.mp h with rfl | h
  · exact ⟨s, rfl, by omega⟩
  · exact hv v h
end
def spBent : Sp := fun vs H Q _ => ∃ (p : Addr) (z : Str) (k : Nat), vs = [.ref p, .str z] ∧ z.length ≤ 10000 ∧ PenAt H p (k + 10) ∧ ∀ y H1, y.length ≤ 2 * z.length + 10 → Fr p H H1 → PenAt H1 p k → Q (.str y) H1
def spTurned : Sp := fun vs H Q _ => ∃ (p q : Addr) (t b : Int) (k : Nat), vs = [.ref p, .ref q] ∧ q ≠ p ∧ H q = some (.tup [.int t, .int b]) ∧ t.natAbs < 10 ^ 60 ∧ b.natAbs < 10 ^ 60 ∧ PenAt H p (k + 10) ∧ ∀ y H1, y.length ≤ 20000 → Fr p H H1 → PenAt H1 p k → Q (.str y) H1
section
variable {P : Program} {w : World} {K : PySem.W.Frag} {mg : Str → Option Value} {base : Heap}
theorem scBent : FnScope ["_law_pen_here", "_law_text", "_law_signs", "_law_sign", "_law_spot", "_law_way"] ["_law_pen_here", "_law_text"] (defScope sBent) := ⟨rfl, rfl, rfl, by decide +kernel, rfl, by decide +kernel, by decide +kernel⟩
theorem ok_bent {f fD fP : Addr} {fd fdD fdP : FuncData} (F : Fun K "_law_bent" "_law_bent" sBent f fd) (B : Bi mg)
    (G_draw : FnOk P w K mg base CX0 1 fD fdD ["_law_pen_here", "_law_many"] spDraw) (b_draw : Binds K fdD ["_law_pen_here", "_law_many"] []) (d_draw : Df K mg "_law_draw" fD)
    (G_pickS : FnOk P w K mg base CX0 2 fP fdP ["_law_pen_here", "_law_some"] spPickS) (b_pickS : Binds K fdP ["_law_pen_here", "_law_some"] []) (d_pickS : Df K mg "_law_pick" fP)
    (G_pickL : FnOk P w K mg base CX0 2 fP fdP ["_law_pen_here", "_law_some"] spPickL) (b_pickL : Binds K fdP ["_law_pen_here", "_law_some"] []) (d_pickL : Df K mg "_law_pick" fP) : FnOk P w K mg base CX0 3 f fd ["_law_pen_here", "_law_text"] spBent := by
  refine F.ok scBent (fun vs H Q E h => ?_) (fun cdv A outer s H vs Q E hr h => ?_)
  · obtain ⟨p, z, k, rfl, _⟩ := h
    rfl
  · obtain ⟨p, z, k, rfl, hz, hp, kq⟩ := h
    have nd := scBent.nd
    refine ⟨_, (pss_cons (ps_set (i := 2) nd rfl (Or.inl rfl) pe_str)
(pss_cons (ps_set (i := 3) nd rfl (Or.inl rfl) (pe_ifExp (pt_cmpR op_eq (pe_cs (calls_fn G_draw (hr.mono (by decide)) b_draw .nil pass0) d_draw.1 d_draw.2 (pa_cons (pv 0) (pa_cons pe_int pa_nil))) pe_int (nomark _)) (pe_cs (calls_fn G_pickS (hr.mono (by decide)) b_pickS .nil pass0) d_pickS.1 d_pickS.2 (pa_cons (pv 0) (pa_cons (pv 2) pa_nil))) (pe_cs (calls_fn G_pickS (hr.mono (by decide)) b_pickS .nil pass0) d_pickS.1 d_pickS.2 (pa_cons (pv 0) (pa_cons pe_str pa_nil)))))
(pss_cons (ps_par (i := 4) (j := 5) (by rfl) nd rfl rfl (by decide) rfl rfl (pa_cons (pe_cs (calls_fn G_draw (hr.mono (by decide)) b_draw .nil pass0) d_draw.1 d_draw.2 (pa_cons (pv 0) (pa_cons (pe_op op_add (pe_callB call_lenT (by rfl) B.n_len (by decide +kernel) (pa_cons (pv 1) pa_nil)) pe_int) pa_nil))) (pa_cons (pe_cs (calls_fn G_draw (hr.mono (by decide)) b_draw .nil pass0) d_draw.1 d_draw.2 (pa_cons (pv 0) (pa_cons pe_int pa_nil))) pa_nil)) (by rfl))
(pss_cons (ps_if (pt_cmpR op_lt (pv 5) pe_int (nomark _))
(pss_one (ps_ret (pe_op op_addT (pe_op op_addT (pe_slice sl_str (pv 1) po_none (po_some (pv 4))) (pv 3)) (pe_slice sl_str (pv 1) (po_some (pv 4)) po_none))))
pss_nil)
(pss_cons (ps_if (pt_cmpR op_lt (pv 5) pe_int (nomark _))
(pss_one (ps_ret (pe_op op_addT (pe_op op_addT (pe_slice sl_str (pv 1) po_none (po_some (pv 4))) (pv 3)) (pe_slice sl_str (pv 1) (po_some (pe_op op_add (pv 4) pe_int)) po_none))))
pss_nil)
(pss_cons (ps_if (pt_cmpR op_eq (pv 5) pe_int (nomark _))
(pss_one (ps_ret (pe_op op_addT (pe_slice sl_str (pv 1) po_none (po_some (pv 4))) (pe_slice sl_str (pv 1) (po_some (pe_op op_add (pv 4) pe_int)) po_none))))
pss_nil)
(pss_one (ps_ret (pe_op op_addT (pv 1) (pe_cs (calls_fn G_pickL (hr.mono (by decide)) b_pickL .nil pass0) d_pickL.1 d_pickL.2 (pa_cons (pv 0) (pa_cons (pe_lst (pa_cons pe_str (pa_cons pe_str (pa_cons pe_str (pa_cons (pe_op op_addT pe_str (pv 1)) (pa_cons (pe_op op_addT pe_str (pv 1)) (pa_cons pe_str (pa_cons pe_str pa_nil)))))))) pa_nil)))))))))))), ?_⟩
    refine q_asg ev_c fun H1 e1 => ?_
    have hp1 := hp.ext e1
    refine q_asgP (fun v H2 => ∃ s : Str, v = .str s ∧ s.length = 1 ∧ Fr p H H2 ∧ PenAt H2 p (k + 8)) (fun Q2 q2 => ?_) fun v H2 m => ?_
    · refine draw_run (k := k + 9) rfl ev_c (by decide) (by decide) hp1 fun r H2 r0 r1 fr2 hp2 => ⟨rfl, _, rfl, if_b (fun _ => ?_) (fun _ => ?_)⟩
      · exact pickS_run rfl (ev_var rfl) (by decide +kernel) (by decide +kernel) hp2 fun c H3 _ fr3 hp3 => q2 _ H3 ⟨_, rfl, rfl, ((Fr.of e1).trans fr2).trans fr3, hp3⟩
      · exact pickS_run rfl ev_c (by decide +kernel) (by decide +kernel) hp2 fun c H3 _ fr3 hp3 => q2 _ H3 ⟨_, rfl, rfl, ((Fr.of e1).trans fr2).trans fr3, hp3⟩
    · obtain ⟨sg1, rfl, l1, fr2, hp2⟩ := m
      refine draw_run (k := k + 7) rfl (ev_op (ev_cb (ea_cons (ev_var rfl) ea_nil) (rc_lenT (by omega))) ev_c (rv_I0 (g := fun i j => V.int (i + j)))) (by omega) (Int.lt_of_le_of_lt (b := 20000) (by omega) (by decide)) hp2 fun x H3 x0 x1 fr3 hp3 => ?_
      refine draw_run (k := k + 6) rfl ev_c (by decide) (by decide) hp3 fun y H4 y0 y1 fr4 hp4 => ⟨_, _, rfl, ?_⟩
      have fr := (fr2.trans fr3).trans fr4
      have l : ∀ lo hi, (cutS z lo hi).length ≤ z.length := fun lo hi => cutS_length _ _ _
      refine q_when (b := decide (y < 2)) (et_test (ev_op (ev_var rfl) ev_c rv_I0)) (fun _ H5 e5 => ?_) (fun _ H5 e5 => ?_)
      · have a1 := l none (some x)
        have a2 := l (some x) none
        exact s_ret (ev_op (ev_op (ev_slS (ev_var rfl) eo_none (eo_some (ev_var rfl)) (by omega)) (ev_var rfl) (rv_addT (by omega))) (ev_slS (ev_var rfl) (eo_some (ev_var rfl)) eo_none (by omega)) (rv_addT (by rw [Str.length_append]; omega))) fun H6 e6 =>
          kq _ H6 (by rw [Str.length_append, Str.length_append]; omega) ((fr.trans (Fr.of e5)).trans (Fr.of e6)) (((hp4.ext e5).ext e6).less (by omega))
      refine q_when (b := decide (y < 4)) (et_test (ev_op (ev_var rfl) ev_c rv_I0)) (fun _ H6 e6 => ?_) (fun _ H6 e6 => ?_)
      · have a1 := l none (some x)
        have a2 := l (some (x + 1)) none
        exact s_ret (ev_op (ev_op (ev_slS (ev_var rfl) eo_none (eo_some (ev_var rfl)) (by omega)) (ev_var rfl) (rv_addT (by omega))) (ev_slS (ev_var rfl) (eo_some (ev_op (ev_var rfl) ev_c (rv_I0 (g := fun i j => V.int (i + j))))) eo_none (by omega)) (rv_addT (by rw [Str.length_append]; omega))) fun H7 e7 =>
          kq _ H7 (by rw [Str.length_append, Str.length_append]; omega) (((fr.trans (Fr.of e5)).trans (Fr.of e6)).trans (Fr.of e7)) ((((hp4.ext e5).ext e6).ext e7).less (by omega))
      refine q_when (et_test (ev_op (ev_var rfl) ev_c (rv_eq rfl))) (fun _ H7 e7 => ?_) (fun _ H7 e7 => ?_)
      · have a1 := l none (some x)
        have a2 := l (some (x + 1)) none
        exact s_ret (ev_op (ev_slS (ev_var rfl) eo_none (eo_some (ev_var rfl)) (by omega)) (ev_slS (ev_var rfl) (eo_some (ev_op (ev_var rfl) ev_c (rv_I0 (g := fun i j => V.int (i + j))))) eo_none (by omega)) (rv_addT (by omega))) fun H8 e8 =>
          kq _ H8 (by rw [Str.length_append]; omega) ((((fr.trans (Fr.of e5)).trans (Fr.of e6)).trans (Fr.of e7)).trans (Fr.of e8)) (((((hp4.ext e5).ext e6).ext e7).ext e8).less (by omega))
      · have hp7 := ((hp4.ext e5).ext e6).ext e7
        have es : EvSs (tCons (tC (.str " ")) (tCons (tC (.str " 1")) (tCons (tC (.str " /")) (tCons (tOp rAddT (tC (.str "/")) (tVar 1)) (tCons (tOp rAddT (tC (.str " ")) (tVar 1)) (tCons (tC (.str "/1")) (tCons (tC (.str "/2")) tNil))))))) [some (.ref p), some (.str z), some (.str " !\"#$&'()*+,-./0123456789:;<=>?@ABCDEFGHIJKLMNOPQRSTUVWXYZ[\\]^_`abcdefghijklmnopqrstuvwxyz{|}~\n"), some (.str sg1), some (.int x), some (.int y)] H7 (z.length + 2) 7 := by
          have lit : ∀ (a : String), (Str.ofString a).length ≤ 2 → EvS (tC (.str (Str.ofString a))) [some (.ref p), some (.str z), some (.str " !\"#$&'()*+,-./0123456789:;<=>?@ABCDEFGHIJKLMNOPQRSTUVWXYZ[\\]^_`abcdefghijklmnopqrstuvwxyz{|}~\n"), some (.str sg1), some (.int x), some (.int y)] H7 2 := fun a h => es_lit h
          have one : ∀ (a : String), (Str.ofString a).length ≤ 1 → EvS (tOp rAddT (tC (.str (Str.ofString a))) (tVar 1)) [some (.ref p), some (.str z), some (.str " !\"#$&'()*+,-./0123456789:;<=>?@ABCDEFGHIJKLMNOPQRSTUVWXYZ[\\]^_`abcdefghijklmnopqrstuvwxyz{|}~\n"), some (.str sg1), some (.int x), some (.int y)] H7 (1 + z.length) := fun a h => es_add (es_lit h) ⟨z, Nat.le_refl _, ev_var rfl⟩ (by omega)
          exact ess_cons (lit " " (by decide +kernel)) (by omega) (ess_cons (lit " 1" (by decide +kernel)) (by omega) (ess_cons (lit " /" (by decide +kernel)) (by omega) (ess_cons (one "/" (by decide +kernel)) (by omega) (ess_cons (one " " (by decide +kernel)) (by omega) (ess_cons (lit "/1" (by decide +kernel)) (by omega) (ess_cons (lit "/2" (by decide +kernel)) (by omega) ess_nil))))))
        obtain ⟨vs, lv, hv, ha⟩ := es
        refine ⟨_, rfl, pick_run (k := k + 5) rfl ha (fun h => by rw [h] at lv; cases lv) (by omega) hp7 fun x8 H8 hx fr8 hp8 => ?_⟩
        obtain ⟨s8, rfl, l8⟩ := hv x8 hx
        exact ⟨_, _, rfl, rfl, sz (by omega), kq _ H8 (by rw [Str.length_append]; omega) ((((fr.trans (Fr.of e5)).trans (Fr.of e6)).trans (Fr.of e7)).trans fr8) (hp8.less (by omega))⟩
theorem scTurned : FnScope ["_law_pen_here", "_law_pair_here", "_law_times", "_law_long", "_law_some"] ["_law_pen_here", "_law_pair_here"] (defScope sTurned) := ⟨rfl, rfl, rfl, by decide +kernel, rfl, by decide +kernel, by decide +kernel⟩
theorem ok_turned {f fD fP : Addr} {fd fdD fdP : FuncData} (F : Fun K "_law_turned" "_law_turned" sTurned f fd) (B : Bi mg)
    (G_draw : FnOk P w K mg base CX0 1 fD fdD ["_law_pen_here", "_law_many"] spDraw) (b_draw : Binds K fdD ["_law_pen_here", "_law_many"] []) (d_draw : Df K mg "_law_draw" fD)
    (G_pickL : FnOk P w K mg base CX0 2 fP fdP ["_law_pen_here", "_law_some"] spPickL) (b_pickL : Binds K fdP ["_law_pen_here", "_law_some"] []) (d_pickL : Df K mg "_law_pick" fP) : FnOk P w K mg base CX0 3 f fd ["_law_pen_here", "_law_pair_here"] spTurned := by
  refine F.ok scTurned (fun vs H Q E h => ?_) (fun cdv A outer s H vs Q E hr h => ?_)
  · obtain ⟨p, q, t, b, k, rfl, _⟩ := h
    rfl
  · obtain ⟨p, q, t, b, k, rfl, qp, hq, ht, hb, hp, kq⟩ := h
    have nd := scTurned.nd
    refine ⟨_, (pss_cons (ps_par (i := 2) (j := 3) (by rfl) nd rfl rfl (by decide) rfl rfl (pa_cons (pe_op op_add pe_int (pe_cs (calls_fn G_draw (hr.mono (by decide)) b_draw .nil pass0) d_draw.1 d_draw.2 (pa_cons (pv 0) (pa_cons pe_int pa_nil)))) (pa_cons (pe_cs (calls_fn G_pickL (hr.mono (by decide)) b_pickL .nil pass0) d_pickL.1 d_pickL.2 (pa_cons (pv 0) (pa_cons (pe_lst (pa_cons pe_int (pa_cons pe_int (pa_cons pe_int (pa_cons pe_int (pa_cons pe_int pa_nil)))))) pa_nil))) pa_nil)) (by rfl))
(pss_cons (ps_set (i := 4) nd rfl (Or.inl rfl) (pe_lst (pa_cons (pe_op op_addT (pe_op op_addT (pe_callTy call_strI (by rfl) B.n_str (by decide +kernel) (pa_cons (pe_op op_mulW (pe_ix ix_tup (pv 1) pe_int (fun _ _ => rfl)) (pv 2)) pa_nil)) pe_str) (pe_callTy call_strI (by rfl) B.n_str (by decide +kernel) (pa_cons (pe_op op_mulW (pe_ix ix_tup (pv 1) pe_int (fun _ _ => rfl)) (pv 2)) pa_nil))) (pa_cons (pe_op op_addT (pe_op op_addT (pe_callTy call_strI (by rfl) B.n_str (by decide +kernel) (pa_cons (pe_un un_neg (pe_ix ix_tup (pv 1) pe_int (fun _ _ => rfl))) pa_nil)) pe_str) (pe_callTy call_strI (by rfl) B.n_str (by decide +kernel) (pa_cons (pe_un un_neg (pe_ix ix_tup (pv 1) pe_int (fun _ _ => rfl))) pa_nil))) pa_nil))))
(pss_cons (ps_set (i := 4) nd rfl (Or.inl rfl) (pe_op op_cat (pv 4) (pe_lst (pa_cons (pe_op op_addT pe_str (pe_callTy call_strI (by rfl) B.n_str (by decide +kernel) (pa_cons (pe_ix ix_tup (pv 1) pe_int (fun _ _ => rfl)) pa_nil))) (pa_cons (pe_op op_addT pe_str (pe_callTy call_strI (by rfl) B.n_str (by decide +kernel) (pa_cons (pe_ix ix_tup (pv 1) pe_int (fun _ _ => rfl)) pa_nil))) (pa_cons pe_str (pa_cons (pe_op op_addT pe_str (pe_callTy call_strI (by rfl) B.n_str (by decide +kernel) (pa_cons (pe_ix ix_tup (pv 1) pe_int (fun _ _ => rfl)) pa_nil))) (pa_cons (pe_op op_addT (pe_callTy call_strI (by rfl) B.n_str (by decide +kernel) (pa_cons (pe_ix ix_tup (pv 1) pe_int (fun _ _ => rfl)) pa_nil)) pe_str) (pa_cons (pe_op op_addT (pe_callTy call_strI (by rfl) B.n_str (by decide +kernel) (pa_cons (pe_ix ix_tup (pv 1) pe_int (fun _ _ => rfl)) pa_nil)) pe_str) pa_nil)))))))))
(pss_cons (ps_set (i := 4) nd rfl (Or.inl rfl) (pe_op op_cat (pv 4) (pe_lst (pa_cons (pe_op op_addT pe_str (pe_op op_mulS pe_str (pe_op op_sub (pv 3) pe_int))) (pa_cons (pe_op op_addT pe_str (pe_op op_mulS pe_str (pv 3))) (pa_cons (pe_op op_addT (pe_op op_addT pe_str pe_str) (pe_op op_mulS pe_str (pe_op op_sub (pv 3) pe_int))) (pa_cons (pe_op op_addT (pe_op op_addT pe_str (pe_op op_mulS pe_str (pe_op op_sub (pv 3) pe_int))) pe_str) (pa_cons pe_str pa_nil))))))))
(pss_one (ps_ret (pe_cs (calls_fn G_pickL (hr.mono (by decide)) b_pickL .nil pass0) d_pickL.1 d_pickL.2 (pa_cons (pv 0) (pa_cons (pv 4) pa_nil))))))))), ?_⟩
    refine draw_run (k := k + 9) rfl ev_c (by decide) (by decide) hp fun r H1 r0 r1 fr1 hp1 => ⟨_, _, rfl, rfl, ?_⟩
    refine pick_run (k := k + 8) (vs := [.int 58, .int 59, .int 60, .int 61, .int 5000]) rfl (ea_cons ev_c (ea_cons ev_c (ea_cons ev_c (ea_cons ev_c (ea_cons ev_c ea_nil))))) (List.cons_ne_nil _ _) (by show 5 ≤ 1000; decide) hp1 fun x H2 hx fr2 hp2 => ⟨_, _, rfl, ?_⟩
    obtain ⟨n, rfl, n0, n1⟩ : ∃ n : Int, x = .int n ∧ 58 ≤ n ∧ n ≤ 5000 := by
      simp only [List.mem_cons, List.not_mem_nil, or_false] at hx
      rcases hx with rfl | rfl | rfl | rfl | rfl <;> exact ⟨_, rfl, by decide, by decide⟩
    have hq2 := fr2 _ _ qp (fr1 _ _ qp hq)
    have t200 := Nat.lt_trans ht ten60
    have b200 := Nat.lt_trans hb ten60
    have ix0 : ∀ {σ : L2.St} {H3 : Hp}, σ[1]? = some (some (.ref q)) → H3 q = some (.tup [.int t, .int b]) → Ev (tOp (rIxT K) (tVar 1) (tC (.int 0))) σ H3 (.int t) := fun s1 h => ev_op (ev_var s1) ev_c (rv_ixT (st_of h) (atI_nat (j := 0) rfl))
    have ix1 : ∀ {σ : L2.St} {H3 : Hp}, σ[1]? = some (some (.ref q)) → H3 q = some (.tup [.int t, .int b]) → Ev (tOp (rIxT K) (tVar 1) (tC (.int 1))) σ H3 (.int b) := fun s1 h => ev_op (ev_var s1) ev_c (rv_ixT (st_of h) (atI_nat (j := 1) rfl))
    have lt : t.natAbs.log2 < 1000 := log2_lt (a := 200) t200 (by decide) (by decide)
    have lb : b.natAbs.log2 < 1000 := log2_lt (a := 200) b200 (by decide) (by decide)
    have small : ∀ i : Int, i.natAbs < 2 ^ 200 → (i * (2 + r)).natAbs.log2 < 1000 ∧ CMulW i (2 + r) := fun i hi => by
      have h4 : (2 + r).natAbs < 2 ^ 4 := by omega
      exact ⟨log2_lt (wide_lt hi h4) (by decide) (by decide), mulWb hi h4 (by decide)⟩
    have neg : ∀ i : Int, i.natAbs.log2 < 1000 → (-i).natAbs.log2 < 1000 := fun i hi => by rw [Int.natAbs_neg]; exact hi
    have l1 : ∀ a : String, (Str.ofString a).length ≤ 3 → ∀ {σ : L2.St} {H3 : Hp}, EvS (tC (.str (Str.ofString a))) σ H3 3 := fun a h σ H3 => es_lit h
    obtain ⟨v1, c1, p1, a1⟩ := ess_cons (n := 20000) (es_add (es_add (es_num (σ := [some (.ref p), some (.ref q), some (.int (2 + r)), some (.int n), none]) (H := H2) (ev_op (ix0 rfl hq2) (ev_var (i := 2) rfl) (rv_I (g := fun i j => V.int (i * j)) (small t t200).2)) (small t t200).1) (l1 "/" (by decide +kernel)) (by omega)) (es_num (ev_op (ix1 rfl hq2) (ev_var (i := 2) rfl) (rv_I (g := fun i j => V.int (i * j)) (small b b200).2)) (small b b200).1) (by omega)) (by omega)
      (ess_cons (es_add (es_add (es_num (ev_un (ix0 rfl hq2) ru_neg) (neg t lt)) (l1 "/" (by decide +kernel)) (by omega)) (es_num (ev_un (ix1 rfl hq2) ru_neg) (neg b lb)) (by omega)) (by omega) ess_nil)
    refine q_asgL (el_lst a1 (by omega)) fun x1 H3 nx1 e3 h3 => ?_
    have hq3 := e3 _ _ hq2
    obtain ⟨v2, c2, p2, a2⟩ := ess_cons (n := 20000) (es_add (l1 "+" (by decide +kernel)) (es_num (σ := [some (.ref p), some (.ref q), some (.int (2 + r)), some (.int n), some (.ref x1)]) (H := H3) (ix0 rfl hq3) lt) (by omega)) (by omega)
      (ess_cons (es_add (l1 "0" (by decide +kernel)) (es_num (ix0 rfl hq3) lt) (by omega)) (by omega) (ess_cons (l1 "-0" (by decide +kernel)) (by omega) (ess_cons (es_add (l1 "0/" (by decide +kernel)) (es_num (ix1 rfl hq3) lb) (by omega)) (by omega)
      (ess_cons (es_add (es_num (ix0 rfl hq3) lt) (l1 "/1" (by decide +kernel)) (by omega)) (by omega) (ess_cons (es_add (es_num (ix0 rfl hq3) lt) (l1 "/0" (by decide +kernel)) (by omega)) (by omega) ess_nil)))))
    refine q_asgL (el_catVL (ev_var rfl) h3 (el_lst a2 (by omega)) (by omega)) fun x2 H4 nx2 e4 h4 => ?_
    have sub : ∀ (j : Int) {σ : L2.St} {H3 : Hp}, σ[3]? = some (some (.int n)) → Ev (tOp (rI0 fun i j => V.int (i - j)) (tVar 3) (tC (.int j))) σ H3 (.int (n - j)) := fun j σ H3 s3 => ev_op (ev_var s3) ev_c rv_I0
    obtain ⟨v3, c3, p3, a3⟩ := ess_cons (n := 20000) (es_add (l1 "1" (by decide +kernel)) (es_mul (σ := [some (.ref p), some (.ref q), some (.int (2 + r)), some (.int n), some (.ref x2)]) (H := H4) (a := Str.ofString "0") ev_c (sub 1 rfl) (by decide +kernel) (by omega) (by omega)) (by omega)) (by omega)
      (ess_cons (es_add (l1 "-" (by decide +kernel)) (es_mul (a := Str.ofString "9") ev_c (ev_var (i := 3) rfl) (by decide +kernel) (by omega) (by omega)) (by omega)) (by omega)
      (ess_cons (es_add (es_add (l1 "1/" (by decide +kernel)) (l1 "1" (by decide +kernel)) (by omega)) (es_mul (a := Str.ofString "0") ev_c (sub 1 rfl) (by decide +kernel) (by omega) (by omega)) (by omega)) (by omega)
      (ess_cons (es_add (es_add (l1 "1" (by decide +kernel)) (es_mul (a := Str.ofString "0") ev_c (sub 2 rfl) (by decide +kernel) (by omega) (by omega)) (by omega)) (es_lit (n := 4) (a := Str.ofString "1/10") (by decide +kernel)) (by omega)) (by omega)
      (ess_cons (l1 "" (by decide +kernel)) (by omega) ess_nil))))
    refine q_asgL (el_catVL (ev_var rfl) h4 (el_lst a3 (by omega)) (by rw [List.length_append]; omega)) fun x3 H5 nx3 e5 h5 => ?_
    have fr : Fr p H H5 := ((((fr1.trans fr2).trans (Fr.of e3)).trans (Fr.of e4)).trans (Fr.of e5))
    have hp5 := ((hp2.ext e3).ext e4).ext e5
    have nx5 : x3 ≠ p := pen_ne ((hp2.ext e3).ext e4) nx3
    refine ⟨_, rfl, _, rfl, p, x3, _, k + 7, rfl, h5, nx5, fun h => ?_, ?_, hp5, fun v H6 hv fr6 hp6 => ?_⟩
    · have := congrArg List.length h
      rw [List.length_append, List.length_append] at this
      rw [c3] at this
      simp at this
    · rw [List.length_append, List.length_append]
      omega
    · obtain ⟨y, rfl, ly⟩ : ∃ y : Str, v = .str y ∧ y.length ≤ 20000 := by
        rcases List.mem_append.mp hv with h | h
        · rcases List.mem_append.mp h with h | h
          · exact p1 v h
          · exact p2 v h
        · exact p3 v h
      exact kq y H6 ly (fr.trans fr6) (hp6.less (by omega))
end
end K02
end

section -- K02n
set_option linter.all false
set_option maxRecDepth 100000
set_option maxHeartbeats 4000000
namespace K02
open PySem PySem.Spec L2 Pk Evl
open PyProof.Rows hiding St
open TL (tl numL)
abbrev sLaw : Stmt := top 28
/-! ### what is no text -/
def Odd (K : PySem.W.Frag) (p : Addr) (v : V) (H : Hp) : Prop := ∀ H1, Fr p H H1 → ∃ T, TyX K H1 v T ∧ PySem.W.kitOne K T (.type "str") = some false
theorem Odd.ext {K : PySem.W.Frag} {p : Addr} {v : V} {H H1 : Hp} (h : Odd K p v H) (e : Ex H H1) : Odd K p v H1 := fun H2 fr => h H2 ((Fr.of e).trans fr)
def EvO1 (K : PySem.W.Frag) (p : Addr) (te : TE) (σ : L2.St) (H : Hp) : Prop := ∀ H1, Ex H H1 → ∀ Q : VK, (∀ v H2, Ex H1 H2 → Odd K p v H2 → Q v H2) → te σ H1 Q
def EvOs (K : PySem.W.Frag) (p : Addr) (ta : TA) (σ : L2.St) (H : Hp) (n : Nat) : Prop := ∀ H1, Ex H H1 → ∀ Q : List V → Hp → Prop, (∀ vs H2, Ex H1 H2 → vs.length = n → (∀ v ∈ vs, Odd K p v H2) → Q vs H2) → ta σ H1 Q
section
variable {K : PySem.W.Frag} {p : Addr} {σ : L2.St} {H : Hp} {te : TE} {ta tr : TA} {n : Nat}
theorem eo_nil : EvOs K p tNil σ H 0 := fun H1 _ Q q => q [] H1 (Ex.refl H1) rfl fun v h => absurd h List.not_mem_nil
theorem eo_cons (h : EvO1 K p te σ H) (hr : EvOs K p tr σ H n) : EvOs K p (tCons te tr) σ H (n + 1) := fun H1 e Q q => h H1 e _ fun v H2 e2 o => hr H2 (e.trans e2) _ fun vs H3 e3 l os => q (v :: vs) H3 (e2.trans e3) (by rw [List.length_cons, l]) fun x hx => by
  rcases List.mem_cons.mp hx with rfl | hx
  · exact o.ext e3
  · exact os x hx
theorem eo_base {v : V} {T : Value} (ty : ∀ H1, TyX K H1 v T) (k : PySem.W.kitOne K T (.type "str") = some false) : EvO1 K p (tC v) σ H := fun H1 _ Q q => q v H1 (Ex.refl H1) fun H2 _ => ⟨T, ty H2, k⟩
theorem odd_new {a : Addr} {o : HO} {T : Value} {H1 H2 : Hp} (hp : ∃ u, H1 p = some u) (na : H1 a = none) (ha : H2 a = some o) (ty : ∀ H3, H3 a = some o → TyX K H3 (.ref a) T) (k : PySem.W.kitOne K T (.type "str") = some false) : Odd K p (.ref a) H2 := fun H3 fr => by
  obtain ⟨u, hu⟩ := hp
  exact ⟨T, ty H3 (fr a o (fun z => by rw [z, hu] at na; cases na) ha), k⟩
theorem eo_lst {xs : List V} (hp : ∃ u, H p = some u) (h : EvL te σ H xs) : EvO1 K p te σ H := fun H1 e Q q => h H1 e _ fun a H2 na e2 ha => q _ H2 e2 (odd_new (let ⟨u, hu⟩ := hp; ⟨u, e _ _ hu⟩) na ha (fun H3 h3 => .base (.lst h3)) (kit_ty (by decide +kernel)))
theorem eo_tup {xs : List V} (hp : ∃ u, H p = some u) (h : EvU te σ H xs) : EvO1 K p te σ H := fun H1 e Q q => h H1 e _ fun a H2 na e2 ha => q _ H2 e2 (odd_new (let ⟨u, hu⟩ := hp; ⟨u, e _ _ hu⟩) na ha (fun H3 h3 => .base (.tup h3)) (kit_ty (by decide +kernel)))
theorem eo_dict0 (hp : ∃ u, H p = some u) : EvO1 K p tDNewK σ H := fun H1 e Q q a na => q _ _ (Ex.new na) (odd_new (let ⟨u, hu⟩ := hp; ⟨u, e _ _ hu⟩) na upd_same (fun H3 h3 => .base (.dK h3)) (kit_ty (by decide +kernel)))
theorem eo_dict1 (hp : ∃ u, H p = some u) {s : Str} {i : Int} : EvO1 K p (tDisp [(tC (.str s), tC (.int i))]) σ H := fun H1 e Q q a na => ⟨upd_same, [(.inr s, .int i)], rfl, by show 1 ≤ 15; decide, by
  refine q _ _ (fun b o hb => ?_) (odd_new (o := .dK (mergeK [] [(.inr s, .int i)])) (let ⟨u, hu⟩ := hp; ⟨u, e _ _ hu⟩) na upd_same (fun H3 h3 => .base (.dK h3)) (kit_ty (by decide +kernel)))
  rw [upd_ne (ne_of_none hb na), upd_ne (ne_of_none hb na)]
  exact hb⟩
theorem eo_ins {C : Addr} {fs : List (Str × V)} {mg : Str → Option Value} (T : RCl K mg C) (kS : PySem.W.kitOne K (.ref C) (.type "str") = some false) (hp : ∃ u, H p = some u) (h : EvI C fs te σ H) : EvO1 K p te σ H := fun H1 e Q q => h H1 e _ fun a da H2 na e2 ha =>
  q _ H2 e2 (odd_new (let ⟨u, hu⟩ := hp; ⟨u, e _ _ hu⟩) na ha (fun H3 h3 => .base (TyOf.ins h3 T.cl T.ha T.hn T.ht T.hm)) kS)
end
theorem pick_odd {K : PySem.W.Frag} {p : Addr} {i k n : Nat} {σ : L2.St} {H : Hp} {ta : TA} {Q : VK} (s0 : σ[i]? = some (some (.ref p))) (os : EvOs K p ta σ H n) (h0 : 0 < n) (hz : n ≤ 1000) (hp : PenAt H p (k + 1)) (hq : ∀ x H1, (∀ H2, Ex H1 H2 → ∃ T, TyX K H2 x T ∧ PySem.W.kitOne K T (.type "str") = some false) → Q x H1) :
    tCS (fun _ vs H Q => spPickL (vs ++ []) H Q E0) (tCons (tVar i) (tCons (tLst ta) tNil)) σ H Q := ⟨_, s0, os H (Ex.refl H) _ fun vs H3 e3 lv ov => ⟨sz (by omega), fun pl npl => by
  have e4 := e3.trans (Ex.new (o := .lst vs) npl)
  refine ⟨p, pl, vs, k, rfl, upd_same, pen_ne (hp.ext e3) npl, fun h => by rw [h] at lv; simp at lv; omega, by omega, hp.ext e4, fun x H5 hx fr5 hp5 => ?_⟩
  exact hq x H5 fun H6 e6 => (ov x hx).ext (Ex.new npl) H6 (fr5.trans (Fr.of e6))⟩⟩
theorem ev_strMk {C : Addr} {te : TE} {σ : L2.St} {H : Hp} {t b : Int} (h : EvI C (rf t b) te σ H) (lt : t.natAbs.log2 < 1000) (lb : b.natAbs.log2 < 1000) : Ev (tCB (rOwnT C fun vs H Q => spStr C vs H Q E0) (tCons te tNil)) σ H (.str (ratText t b)) := fun H1 e Q q =>
  h H1 e _ fun y dy H2 ny e2 hy => ⟨y, dy, _, rfl, hy, y, t, b, rfl, ⟨dy, hy⟩, lt, lb, _, rfl, q H2 e2⟩
def spLaw (K : PySem.W.Frag) : Sp := fun vs H Q _ => ∃ (s : Addr) (ns : List Int), vs = [.ref s] ∧ SqL K H s (ns.map V.int) ∧ ∀ H1, Q (.bl true) H1
section
variable {P : Program} {w : World} {K : PySem.W.Frag} {mg : Str → Option Value} {base : Heap}
theorem scLaw : FnScope ["_law_script", "_law_pen_here", "_law_turn", "_law_pair_here", "_law_text", "_law_bent_here", "_law_odd"] ["_law_script"] (defScope sLaw) := ⟨rfl, rfl, rfl, by decide +kernel, rfl, by decide +kernel, by decide +kernel⟩
theorem ev_rr {σ : L2.St} {H : Hp} {te : TE} {z : Str} (h : Ev te σ H (.str z)) (hz : z.length ≤ 40000) : Ev (tCS (fun _ vs H Q => spRR (vs ++ []) H Q E0) (tCons te tNil)) σ H (.bl true) := ev_cs (ea_cons h ea_nil) fun H1 e Q q => ⟨z, rfl, hz, fun H2 e2 => q H2 e2⟩
theorem ratText_len {t b : Int} (ht : t.natAbs < 10 ^ 60) (hb : b.natAbs < 10 ^ 60) : (ratText t b).length ≤ 200 := by
  have h1 := numI_len (by decide) ht
  have h2 := numI_len (by decide) hb
  rw [TL.len_tl, tl_ratText]
  split
  · omega
  · rw [List.length_append, List.length_cons]
    omega
theorem ok_law {f fPen fNum fRR fB fT fPk fH C D g gI gS gR gE : Addr} {fd fdPen fdNum fdRR fdB fdT fdPk fdH fdI fdS fdR fdE fdG : FuncData} (F : Fun K "law" "law" sLaw f fd) (B : Bi mg) (T : RCl K mg C) (R : RM P w K mg base C D gI gS gR gE g fdI fdS fdR fdE fdG) (kS : PySem.W.kitOne K (.ref C) (.type "str") = some false)
    (G_pen : FnOk P w K mg base CX0 1 fPen fdPen ["_law_script"] (spPen K)) (b_pen : Binds K fdPen ["_law_script"] []) (d_pen : Df K mg "_law_pen" fPen)
    (G_num : FnOk P w K mg base CX0 4 fNum fdNum ["_law_pen_here"] spNum) (b_num : Binds K fdNum ["_law_pen_here"] []) (d_num : Df K mg "_law_numbers" fNum)
    (G_rr : FnG P w K mg base CX0 9 fRR fdRR ["_law_text"] spRR) (b_rr : Binds K fdRR ["_law_text"] []) (d_rr : Df K mg "_law_read_right" fRR)
    (G_bent : FnOk P w K mg base CX0 3 fB fdB ["_law_pen_here", "_law_text"] spBent) (b_bent : Binds K fdB ["_law_pen_here", "_law_text"] []) (d_bent : Df K mg "_law_bent" fB)
    (G_turned : FnOk P w K mg base CX0 3 fT fdT ["_law_pen_here", "_law_pair_here"] spTurned) (b_turned : Binds K fdT ["_law_pen_here", "_law_pair_here"] []) (d_turned : Df K mg "_law_turned" fT)
    (G_pickL : FnOk P w K mg base CX0 2 fPk fdPk ["_law_pen_here", "_law_some"] spPickL) (b_pickL : Binds K fdPk ["_law_pen_here", "_law_some"] []) (d_pickL : Df K mg "_law_pick" fPk)
    (G_heard : FnOk P w K mg base CX0 6 fH fdH ["_law_text"] (spHeard K C)) (b_heard : Binds K fdH ["_law_text"] []) (d_heard : Df K mg "_law_heard" fH) : FnG P w K mg base CX0 10 f fd ["_law_script"] (spLaw K) := by
  refine fnG_of F scLaw (fun vs H Q E h => ?_) (fun cdv A outer s H vs Q E hr hg h => ?_)
  · obtain ⟨s, ns, rfl, _⟩ := h
    rfl
  · obtain ⟨sc, ns, rfl, hs, kq⟩ := h
    have nd := scLaw.nd
    refine ⟨_, PSs.nox (pss_cons (ps_set (i := 1) nd rfl (Or.inl rfl) (pe_cs (calls_fn G_pen (hr.mono (by decide)) b_pen .nil pass0) d_pen.1 d_pen.2 (pa_cons (pv 0) pa_nil)))
(pss_cons (ps_for PassesOwn.never rfl (pi_range1 (by rfl) B.n_range (pa_cons pe_int pa_nil)) (pg_name (i := 2) nd rfl (Or.inl rfl))
(pss_cons (ps_set (i := 3) nd rfl (Or.inl rfl) (pe_cs (calls_fn G_num (hr.mono (by decide)) b_num .nil pass0) d_num.1 d_num.2 (pa_cons (pv 1) pa_nil)))
(pss_cons (ps_set (i := 4) nd rfl (Or.inl rfl) (pe_op op_addT (pe_callTy call_strI (by rfl) B.n_str (by decide +kernel) (pa_cons (pe_ix ix_tup (pv 3) pe_int (fun _ _ => rfl)) pa_nil)) (pe_ifExp (pt_cmpR op_eq (pe_ix ix_tup (pv 3) pe_int (fun _ _ => rfl)) pe_int (nomark _)) pe_str (pe_op op_addT pe_str (pe_callTy call_strI (by rfl) B.n_str (by decide +kernel) (pa_cons (pe_ix ix_tup (pv 3) pe_int (fun _ _ => rfl)) pa_nil))))))
(pss_cons (ps_if (PW.pt (pw_or (pt_cmpR op_ne (pe_callTy (call_strO (C := C) (hr.mono (by decide : 3 ≤ 9)).in1.in1.units0 R.fStr R.iStr (runAt_fn R.G_str (hr.mono (by decide : 3 ≤ 9)).in1.in1 rfl R.b_str pass0)) (by rfl) B.n_str (by decide +kernel) (pa_cons (pe_cs (calls_make R.M_R R.G_R (hr.mono (by decide)) R.b_R .nil pass0) R.d_R.1 R.d_R.2 (pa_cons (pe_ix ix_tup (pv 3) pe_int (fun _ _ => rfl)) (pa_cons (pe_ix ix_tup (pv 3) pe_int (fun _ _ => rfl)) pa_nil))) pa_nil)) (pv 4) (nomark _)) (pw_or1 (pt_not (pt_val (pe_cs (callsG G_rr (hr.mono (by decide)) hg b_rr .nil pass0) d_rr.1 d_rr.2 (pa_cons (pv 4) pa_nil)))))))
(pss_one (ps_ret pe_bl))
pss_nil)
(pss_cons (ps_set (i := 5) nd rfl (Or.inl rfl) (pe_cs (calls_fn G_bent (hr.mono (by decide)) b_bent .nil pass0) d_bent.1 d_bent.2 (pa_cons (pv 1) (pa_cons (pv 4) pa_nil))))
(pss_one (ps_if (PW.pt (pw_or (pt_not (pt_val (pe_cs (callsG G_rr (hr.mono (by decide)) hg b_rr .nil pass0) d_rr.1 d_rr.2 (pa_cons (pv 5) pa_nil)))) (pw_or (pt_not (pt_val (pe_cs (callsG G_rr (hr.mono (by decide)) hg b_rr .nil pass0) d_rr.1 d_rr.2 (pa_cons (pe_cs (calls_fn G_bent (hr.mono (by decide)) b_bent .nil pass0) d_bent.1 d_bent.2 (pa_cons (pv 1) (pa_cons (pv 5) pa_nil))) pa_nil)))) (pw_or1 (pt_not (pt_val (pe_cs (callsG G_rr (hr.mono (by decide)) hg b_rr .nil pass0) d_rr.1 d_rr.2 (pa_cons (pe_cs (calls_fn G_turned (hr.mono (by decide)) b_turned .nil pass0) d_turned.1 d_turned.2 (pa_cons (pv 1) (pa_cons (pv 3) pa_nil))) pa_nil))))))))
(pss_one (ps_ret pe_bl))
pss_nil)))))))
(pss_cons (ps_set (i := 6) nd rfl (Or.inl rfl) (pe_cs (calls_fn G_pickL (hr.mono (by decide)) b_pickL .nil pass0) d_pickL.1 d_pickL.2 (pa_cons (pv 1) (pa_cons (pe_lst (pa_cons pe_non (pa_cons pe_int (pa_cons pe_int (pa_cons pe_bl (pa_cons (pe_lst (pa_cons pe_str pa_nil)) (pa_cons (pe_tup (pa_cons pe_str pa_nil)) (pa_cons pe_dnewK (pa_cons (pe_disp (pps_cons pe_str pe_int pps_nil) rfl rfl (List.cons_ne_nil _ _) (by show 1 ≤ 15; decide)) (pa_cons (pe_cs (calls_make R.M_R R.G_R (hr.mono (by decide)) R.b_R .nil pass0) R.d_R.1 R.d_R.2 (pa_cons pe_int (pa_cons pe_int pa_nil))) (pa_cons (pe_lst pa_nil) pa_nil))))))))))) pa_nil))))
(pss_one (ps_ret (pe_cmpR op_eq (pe_callB (call_reprD hg hr.units) (by rfl) B.n_repr (by decide +kernel) (pa_cons (pe_cs (calls_fn G_heard (hr.mono (by decide)) b_heard .nil pass0) d_heard.1 d_heard.2 (pa_cons (pv 6) pa_nil)) pa_nil)) (pe_callB (call_reprD hg hr.units) (by rfl) B.n_repr (by decide +kernel) (pa_cons (pe_tup (pa_cons pe_int (pa_cons pe_int pa_nil))) pa_nil)) (nomark _))))))), ?_⟩
    refine ⟨_, rfl, sc, ns, rfl, hs, fun p H1 np e1 hp => ?_⟩
    refine q_forR1 (n := 3) (ea_cons ev_c ea_nil) (by decide) (fun i σ H' => ∃ (o2 o3 o4 o5 : Option V) (k : Nat), σ = [some (.ref sc), some (.ref p), o2, o3, o4, o5, none] ∧ k + 1000 * i = 5000 ∧ PenAt H' p k) (fun H2 e2 => ⟨_, _, _, _, 5000, rfl, rfl, (hp.less (by decide)).ext e2⟩) (fun i σ H2 hi pv => ?_) (fun σ H2 pv => ?_)
    · obtain ⟨o2, o3, o4, o5, k, rfl, hk, hp2⟩ := pv
      refine q_asgP (fun v H3 => ∃ (q : Addr) (t b : Int), v = .ref q ∧ q ≠ p ∧ H3 q = some (.tup [.int t, .int b]) ∧ 1 ≤ b ∧ t.natAbs < 10 ^ 60 ∧ b.natAbs < 10 ^ 60 ∧ Nat.gcd t.natAbs b.natAbs = 1 ∧ PenAt H3 p (k - 300)) (fun Q2 q2 => ⟨_, rfl, p, k - 300, rfl, hp2.less (by omega), fun q t b H3 qp nq hq b1 ht hb hgc fr3 hp3 => q2 _ H3 ⟨q, t, b, rfl, qp, hq, b1, ht, hb, hgc, hp3⟩⟩) fun v H3 m => ?_
      obtain ⟨q, t, b, rfl, qp, hq, b1, ht, hb, hgc, hp3⟩ := m
      have lt : t.natAbs.log2 < 1000 := log2_lt (a := 200) (Nat.lt_trans ht ten60) (by decide) (by decide)
      have lb : b.natAbs.log2 < 1000 := log2_lt (a := 200) (Nat.lt_trans hb ten60) (by decide) (by decide)
      have ltx := ratText_len ht hb
      have ix0 : ∀ {σ : L2.St} {H4 : Hp}, σ[3]? = some (some (.ref q)) → H4 q = some (.tup [.int t, .int b]) → Ev (tOp (rIxT K) (tVar 3) (tC (.int 0))) σ H4 (.int t) := fun s3 h => ev_op (ev_var s3) ev_c (rv_ixT (st_of h) (atI_nat (j := 0) rfl))
      have ix1 : ∀ {σ : L2.St} {H4 : Hp}, σ[3]? = some (some (.ref q)) → H4 q = some (.tup [.int t, .int b]) → Ev (tOp (rIxT K) (tVar 3) (tC (.int 1))) σ H4 (.int b) := fun s3 h => ev_op (ev_var s3) ev_c (rv_ixT (st_of h) (atI_nat (j := 1) rfl))
      have n1 := numLen lt
      have n2 := numLen lb
      have l1 : (Str.ofString "/").length = 1 := by decide +kernel
      have l0 : (Str.ofString "").length = 0 := by decide +kernel
      refine q_asg (v := .str (ratText t b)) ?_ fun H4 e4 => ?_
      · by_cases z : b = 1
        · refine ev_is (ev_op (ev_cb (ea_cons (ix0 rfl hq) ea_nil) (rc_strI (by omega))) (ev_if (b := true) (et_is (et_test (ev_op (ix1 rfl hq) ev_c (rv_eq rfl))) (decide_eq_true (by rw [z]))) (fun _ => ev_c) (fun c => by cases c)) (rv_addT (by omega))) (congrArg V.str (TL.ext_tl ?_))
          rw [tl_ratText, if_pos z, TL.tl_append, tl_numI]
          have : tl (Str.ofString "") = [] := by decide +kernel
          rw [this, List.append_nil]
        · refine ev_is (ev_op (ev_cb (ea_cons (ix0 rfl hq) ea_nil) (rc_strI (by omega))) (ev_if (b := false) (et_is (et_test (ev_op (ix1 rfl hq) ev_c (rv_eq rfl))) (decide_eq_false fun w => z (V.int.inj w))) (fun c => by cases c) (fun _ => ev_op ev_c (ev_cb (ea_cons (ix1 rfl hq) ea_nil) (rc_strI (by omega))) (rv_addT (by omega)))) (rv_addT (by rw [Str.length_append]; omega))) (congrArg V.str (TL.ext_tl ?_))
          rw [tl_ratText, if_neg z, TL.tl_append, TL.tl_append, tl_numI, tl_numI]
          have : tl (Str.ofString "/") = [47] := by decide +kernel
          rw [this]
          rfl
      have hq4 := e4 _ _ hq
      have hp4 := hp3.ext e4
      have g1 := sg_one b1 hgc
      have em : EvI C (rf t b) (tCS (rMk C) (tCons (tOp (rIxT K) (tVar 3) (tC (.int 0))) (tCons (tOp (rIxT K) (tVar 3) (tC (.int 1))) tNil))) [some (.ref sc), some (.ref p), some (.int (i : Int)), some (.ref q), some (.str (ratText t b)), o5, none] H4 := by
        have em := ei_mk (C := C) (σ := [some (.ref sc), some (.ref p), some (.int (i : Int)), some (.ref q), some (.str (ratText t b)), o5, none]) (H := H4) (t := t) (b := b) (ea_cons (ix0 rfl hq4) (ea_cons (ix1 rfl hq4) ea_nil)) (by omega) (Nat.lt_of_lt_of_le (Nat.lt_trans hb ten60) (Nat.pow_le_pow_right (by decide) (by decide)))
        rw [g1, fdiv_one, fdiv_one] at em
        exact em
      refine q_when (b := false) (et_is (et_or (a := false) (b := false) (et_is (et_test (ev_op (ev_strMk em lt lb) (ev_var rfl) (rv_ne rfl))) (by rw [decide_eq_true rfl]; rfl)) fun _ => et_is (et_not (et_B (ev_rr (ev_var rfl) (by omega)))) rfl) rfl) (fun c => by cases c) (fun _ H5 e5 => ?_)
      have hq5 := e5 _ _ hq4
      have hp5 := hp4.ext e5
      refine ⟨_, rfl, _, rfl, p, ratText t b, k - 310, rfl, by omega, hp5.less (by omega), fun y H6 ly fr6 hp6 => ?_⟩
      have hq6 := fr6 _ _ qp hq5
      refine ⟨_, rfl, y, rfl, by omega, fun H7 e7 => ⟨true, rfl, ?_⟩⟩
      refine iteF ?_
      refine ⟨_, rfl, _, rfl, p, y, k - 320, rfl, by omega, (hp6.ext e7).less (by omega), fun y2 H8 ly2 fr8 hp8 => ⟨y2, rfl, by omega, fun H9 e9 => ⟨true, rfl, ?_⟩⟩⟩
      refine iteF ?_
      have hq9 := e9 _ _ (fr8 _ _ qp (e7 _ _ hq6))
      refine ⟨_, rfl, _, rfl, p, q, t, b, k - 330, rfl, qp, hq9, ht, hb, (hp8.ext e9).less (by omega), fun y3 H10 ly3 fr10 hp10 => ⟨y3, rfl, by omega, fun H11 e11 => ⟨true, rfl, ?_⟩⟩⟩
      refine iteF ?_
      exact ⟨_, _, _, _, k - 1000, rfl, by omega, (hp10.ext e11).less (by omega)⟩
    · obtain ⟨o2, o3, o4, o5, k, rfl, hk, hp2⟩ := pv
      have hk' : k = 2000 := by
        have : Int.toNat 3 = 3 := rfl
        omega
      subst hk'
      have hu : ∃ u, H2 p = some u := by
        obtain ⟨c, tt, ll, ms, a, _⟩ := id hp2
        exact ⟨_, a⟩
      have os : ∀ σ : L2.St, EvOs K p (tCons (tC .non) (tCons (tC (.int 0)) (tCons (tC (.int 5)) (tCons (tC (.bl true)) (tCons (tLst (tCons (tC (.str "1")) tNil)) (tCons (tTup (tCons (tC (.str "1")) tNil)) (tCons tDNewK (tCons (tDisp [(tC (.str "1"), tC (.int 1))]) (tCons (tCS (rMk C) (tCons (tC (.int 1)) (tCons (tC (.int 2)) tNil))) (tCons (tLst tNil) tNil)))))))))) σ H2 10 := fun σ =>
        eo_cons (eo_base (fun _ => .base .non) (kit_ty (by decide +kernel))) (eo_cons (eo_base (fun _ => .base (.int _)) (kit_ty (by decide +kernel))) (eo_cons (eo_base (fun _ => .base (.int _)) (kit_ty (by decide +kernel))) (eo_cons (eo_base (fun _ => .base (.bl _)) (kit_ty (by decide +kernel)))
        (eo_cons (eo_lst hu (el_lst (ea_cons ev_c ea_nil) (by show 1 ≤ 100000; decide))) (eo_cons (eo_tup hu (eu_tup (ea_cons ev_c ea_nil) (by show 1 ≤ 100000; decide))) (eo_cons (eo_dict0 hu) (eo_cons (eo_dict1 hu)
        (eo_cons (eo_ins T kS hu (ei_mk (ea_cons ev_c (ea_cons ev_c ea_nil)) (by decide) (by decide))) (eo_cons (eo_lst hu (el_lst ea_nil (by decide))) eo_nil)))))))))
      refine pick_odd (k := 1999) rfl (os _) (by decide) (by decide) hp2 fun x H5 hx => ?_
      have eu : EvU (tCS (fun _ vs H Q => spHeard K C (vs ++ []) H Q E0) (tCons (tVar 6) tNil)) [some (.ref sc), some (.ref p), o2, o3, o4, o5, some x] H5 [.int 0, .int 0] := fun H6 e6 Q6 q6 => by
        obtain ⟨ty, t1, t2⟩ := hx H6 e6
        exact ⟨_, rfl, x, rfl, .inl ⟨ty, t1, t2, fun qa H7 nqa e7 hqa => q6 qa H7 nqa e7 hqa⟩⟩
      exact s_ret (ev_is (w := .bl true) (ev_op (ev_reprU (by decide) (by decide) eu) (ev_reprU (by decide) (by decide) (eu_tup (ea_cons ev_c (ea_cons ev_c ea_nil)) (by show 2 ≤ 100000; decide))) (rv_eq rfl)) (by rw [decide_eq_true rfl])) fun H12 e12 => kq H12
end
end K02
end

section -- K02y
set_option linter.all false
set_option maxRecDepth 100000
set_option maxHeartbeats 4000000
namespace K02
open PySem PySem.Spec L2 Pk
open PyProof.Rows hiding St
open He (ga ma)
/-! ### what is looked at behind the top -/
abbrev cC (K : PySem.W.Frag) : Addr := ga K "Ratio"
abbrev cD (K : PySem.W.Frag) : Addr := ga K "BadText"
abbrev cP (K : PySem.W.Frag) : Addr := ga K "PeekError"
abbrev mT : Value := .type "type"
abbrev gRead (K : PySem.W.Frag) : Addr := He5.wf K (cC K) "staticmethod" "read"
def dG (x : Str) (st : Stmt) : He5.DefA := ⟨fun K => ga K x, x, x, defArgs st, defBody st, defScope st, [], []⟩
def dM (x : Str) (st : Stmt) : He5.DefA := ⟨fun K => ma K (cC K) x, x, ("Ratio." : Str) ++ x, defArgs st, defBody st, defScope st, [], []⟩
def fns : List He5.DefA := [dG "is_integer" sIsInt, ⟨fun K => ma K (cD K) "__init__", "__init__", "BadText.__init__", defArgs sBTi, defBody sBTi, defScope sBTi, [], []⟩, ⟨fun K => ma K (cC K) "__init__", "__init__", "Ratio.__init__", defArgs sRi, defBody sRi, defScope sRi, [.int 1], []⟩,
  ⟨fun K => ma K (cC K) "__eq__", "__eq__", "Ratio.__eq__", defArgs sREq, defBody sREq, defScope sREq, [], []⟩, ⟨fun K => ma K (cC K) "__str__", "__str__", "Ratio.__str__", defArgs sRStr, defBody sRStr, defScope sRStr, [], []⟩,
  ⟨fun K => ma K (cC K) "__repr__", "__repr__", "Ratio.__repr__", defArgs sRRepr, defBody sRRepr, defScope sRRepr, [], []⟩, ⟨gRead, "read", "Ratio.read", defArgs sRRead, defBody sRRead, defScope sRRead, [], []⟩,
  dG "ratio_of_word" sRow, dG "_is_whole_number" sWh, dG "_law_pen" sPen, dG "_law_draw" sDraw, dG "_law_pick" sPick, dG "_law_common" sCommon, dG "_law_digits" sDigits, dG "_law_numbers" sNumbers, dG "_law_whole" sWhole, dG "_law_pair" sPair, dG "_law_heard" sHeard,
  dG "_law_read_right" sRR, dG "_law_bent" sBent, dG "_law_turned" sTurned, dG "law" sLaw]
def frees : List Str := ["isinstance", "int", "bool", "str", "list", "len", "all", "abs", "range", "repr"]
def globs : List Str := ["Ratio", "BadText", "PeekError", "is_integer", "ratio_of_word", "_is_whole_number", "_law_pen", "_law_draw", "_law_pick", "_law_common", "_law_digits", "_law_numbers", "_law_whole", "_law_pair", "_law_heard", "_law_read_right", "_law_bent", "_law_turned", "law"]
abbrev eqB (a b : Option (Option Value)) : Bool := decide (a = b)
abbrev methB (K : PySem.W.Frag) (C : Addr) (m : Str) : Bool := eqB (PySem.W.findIn K (.ref C) m) (some (some (.ref (ma K C m)))) && PySem.W.isFn K (.ref (ma K C m))
abbrev noB (K : PySem.W.Frag) (C : Addr) (f : Str) : Bool := eqB (PySem.W.findIn K (.ref C) f) (some none)
/-- an error class that is its own dict's: the object as the store of its fields asks -/
def oexB (K : PySem.W.Frag) (C : Addr) : Bool := match K.lookup C with
  | some ⟨.type t, _, .cls cd, sl⟩ => decide (t = "type") && (cd.hasDict && (!cd.hasDel && (decide (sl.size = 6) && (decide ((sl[4]?).join = some (.builtin "ValueError.__new__")) && (match cd.mro with
    | .ref c :: bm => decide (c = C) && PySem.HandSPX.refsVE bm
    | _ => false)))))
  | _ => false
def looks : List (PySem.W.Frag → Bool) := [
  fun K => frees.all fun x => eqB (PySem.W.nsIn K mainGlobals x) (some none),
  fun K => globs.all fun x => eqB (PySem.W.nsIn K mainGlobals x) (some (some (.ref (ga K x)))),
  fun K => eqB (PySem.W.nsIn K mainGlobals "gcd") (some (some (.builtin "math.gcd"))),
  fun K => match PySem.W.nsIn K mainGlobals "_DIGITS" with
    | some (some (.str y _)) => decide (y = "0123456789")
    | _ => false,
  fun K => PySem.W.plainGet K (cC K) Str.empty && (PySem.W.hasDictIn K (cC K) && (PySem.W.plainOver K (cC K) && eqB (PySem.W.findIn K (.ref (cC K)) "__setattr__") (some (some (.builtin "object.__setattr__"))))),
  fun K => noB K (cC K) "top" && (noB K (cC K) "bottom" && (noB K (cD K) "line" && noB K (cD K) "word")),
  fun K => eqB (PySem.W.findIn K (.ref (cC K)) "__class__") (some (some (.builtin "object.__class__"))) && (eqB (PySem.W.specialIn K (.builtin "object.__class__") "__get__") (some (some (.builtin "getset_descriptor.__get__"))) && (decide (PySem.W.takesIn K (.builtin "object.__class__") = some true) && decide (PySem.W.mroIn K (cC K) (.type "object") = some true))),
  fun K => decide (PySem.W.kitOne K (.ref (cC K)) (.ref (cC K)) = some true) && (decide (PySem.W.kitOne K (.ref (cC K)) (.type "str") = some false) && decide (PySem.W.kitOne K (.ref (cD K)) (.ref (cD K)) = some true)),
  fun K => oexB K (cD K),
  fun K => eqB (PySem.W.findIn K (.ref (cD K)) "__setattr__") (some (some (.builtin "object.__setattr__"))) && (decide (PySem.W.subIn K (.ref (cD K)) (.type "BaseException") = some true) && (decide (PySem.W.typeIn K (.ref (cD K)) = some (.type "type")) && PySem.W.keepIn K (.ref (cD K)))),
  fun K => eqB (PySem.W.findIn K (.ref (cD K)) "__init__") (some (some (.ref (ma K (cD K) "__init__")))) && decide (PySem.W.typeIn K (.ref (ma K (cD K) "__init__")) = some (.type "function")),
  fun K => PySem.W.readsIn K (cC K) mT && eqB (PySem.W.specialIn K (.ref (cC K)) "__getattribute__") (some (some (.builtin "type.__getattribute__"))),
  fun K => match PySem.W.findCls K (.ref (cC K)) mT "MOST_DIGITS" with
    | some (.val (.int i _)) => decide (i = 60)
    | _ => false,
  fun K => He5.wrapB K (cC K) "staticmethod" "staticmethod.__get__" "read",
  fun K => decide (PySem.W.exmOne K (.ref (cD K)) (.ref (cP K)) = some true),
  fun K => xfB K (cD K),
  fun K => eqB (PySem.W.findIn K (.ref (cD K)) "__getattribute__") (some (some (.builtin "BaseException.__getattribute__"))) && (noB K (cD K) "__getattr__" && (PySem.W.hasDictIn K (cD K) && (eqB (PySem.W.findIn K (.ref (cD K)) "__class__") (some (some (.builtin "object.__class__"))) && decide (PySem.W.mroIn K (cD K) (.type "object") = some true)))),
  fun K => methB K (cC K) "__str__" && (methB K (cC K) "__repr__" && methB K (cC K) "__eq__"),
  fun K => PySem.W.makesIn K (cC K) && (methB K (cC K) "__init__" && PySem.W.keepIn K (.ref (cC K)))]
theorem oexB_ok {K : PySem.W.Frag} {C : Addr} (h : oexB K C = true) : ∃ nm q N bs bm sn sub ab col dd k0 k1 k2 k3 k5, K.lookup C = some (excClassObj nm q C N bs bm true sn sub ab col dd k0 k1 k2 k3 k5 "ValueError.__new__") ∧ PySem.HandSPX.refsVE bm = true := by
  unfold oexB at h
  cases q : K.lookup C with
  | none => rw [q] at h; cases h
  | some o =>
    obtain ⟨oc, od, dt, sl⟩ := o
    rw [q] at h
    cases oc with
    | type t =>
      cases dt with
      | cls cd =>
        obtain ⟨nm, bs, mro, N, qn, hd, sn, sub, ab, col, hdel⟩ := cd
        obtain ⟨h1, h⟩ := Bool.and_eq_true_iff.mp h
        obtain ⟨h2, h⟩ := Bool.and_eq_true_iff.mp h
        obtain ⟨h3, h⟩ := Bool.and_eq_true_iff.mp h
        obtain ⟨h4, h⟩ := Bool.and_eq_true_iff.mp h
        obtain ⟨h5, h⟩ := Bool.and_eq_true_iff.mp h
        cases mro with
        | nil => cases h
        | cons v bm =>
          cases v with
          | ref c =>
            obtain ⟨h6, h7⟩ := Bool.and_eq_true_iff.mp h
            have e1 := of_decide_eq_true h1
            have e6 := of_decide_eq_true h6
            subst e1 e6
            have e2 : hd = true := h2
            have e3 : hdel = false := by cases hdel with
              | false => rfl
              | true => cases h3
            subst e2 e3
            obtain ⟨l, rfl⟩ : ∃ l, sl = ⟨l⟩ := ⟨sl.toList, rfl⟩
            have e4 : l.length = 6 := of_decide_eq_true h4
            match l, e4, h5, q with
            | [k0, k1, k2, k3, k4, k5], _, h5, q =>
              have e5 : k4 = some (.builtin "ValueError.__new__") := of_decide_eq_true h5
              subst e5
              exact ⟨nm, qn, N, bs, bm, sn, sub, ab, col, od, k0, k1, k2, k3, k5, rfl, h7⟩
          | _ => cases h
      | _ => cases h
    | _ => cases dt <;> cases h
end K02
end

section -- K02z
set_option linter.all false
set_option maxRecDepth 100000
set_option maxHeartbeats 4000000
namespace K02
open PySem PySem.Spec L2 Pk
open PyProof.Rows hiding St
open He (ga ma)
theorem an {a b : Bool} (h : (a && b) = true) : a = true ∧ b = true := Bool.and_eq_true_iff.mp h
theorem eqB_ok {a b : Option (Option Value)} (h : eqB a b = true) : a = b := of_decide_eq_true h
theorem str_of {K : PySem.W.Frag} {h : Heap} {mg : Str → Option Value} (X : K.In h) (G : h.Ns mainGlobals mg) {x z : Str} (c : (match PySem.W.nsIn K mainGlobals x with
    | some (some (.str y _)) => decide (y = z)
    | _ => false) = true) : ∃ u, mg x = some u ∧ RelV (.str z) u := by
  split at c
  · next y t e =>
    have ey := of_decide_eq_true c
    subst ey
    exact ⟨_, PySem.W.mg_of X G e, t, rfl⟩
  · cases c
theorem con_of {K : PySem.W.Frag} {C : Addr} {f : Str} (c : (match PySem.W.findCls K (.ref C) mT f with
    | some (.val (.int i _)) => decide (i = 60)
    | _ => false) = true) : ∃ u, ClX.CVal K C mT f (.int 60) u := by
  split at c
  · next i t e =>
    have ei := of_decide_eq_true c
    subst ei
    exact ⟨_, e, t, rfl⟩
  · cases c
set_option maxHeartbeats 8000000 in
theorem told {P : Program} {w : World} {K : PySem.W.Frag} {h : Heap} {mg : Str → Option Value} {f : Addr} (X : K.In h) (G : h.Ns mainGlobals mg) (hf : mg ("law" : Str) = some (.ref f)) (c : Told looks fns K) :
    ∃ fd : FuncData, (∀ (s : Shared) (u : Value), BindsTo s fd ⟨[u], []⟩ [("_law_script", u)]) ∧ ∀ base : Heap, K.In base → FnG P w K mg base CX0 10 f fd ["_law_script"] (spLaw K) := by
  have fr : ∀ x ∈ frees, mg x = none := fun x hx => PySem.W.mg_none_of X G (eqB_ok (List.all_eq_true.mp (c.fact 0) x hx))
  have gl : ∀ x ∈ globs, mg x = some (.ref (ga K x)) := fun x hx => PySem.W.mg_of X G (eqB_ok (List.all_eq_true.mp (c.fact 1) x hx))
  have e := hf.symm.trans (gl "law" (by decide +kernel))
  cases e
  have B : Bi mg := ⟨fr _ (by decide +kernel), fr _ (by decide +kernel), fr _ (by decide +kernel), fr _ (by decide +kernel), fr _ (by decide +kernel), fr _ (by decide +kernel), fr _ (by decide +kernel), fr _ (by decide +kernel), fr _ (by decide +kernel), fr _ (by decide +kernel)⟩
  obtain ⟨c41, q⟩ := an (c.fact 4)
  obtain ⟨c42, q⟩ := an q
  obtain ⟨c43, c44⟩ := an q
  obtain ⟨c51, q⟩ := an (c.fact 5)
  obtain ⟨c52, q⟩ := an q
  obtain ⟨c53, c54⟩ := an q
  obtain ⟨c61, q⟩ := an (c.fact 6)
  obtain ⟨c62, q⟩ := an q
  obtain ⟨c63, c64⟩ := an q
  obtain ⟨c71, q⟩ := an (c.fact 7)
  obtain ⟨c72, c73⟩ := an q
  obtain ⟨c91, q⟩ := an (c.fact 9)
  obtain ⟨c92, q⟩ := an q
  obtain ⟨c93, c94⟩ := an q
  obtain ⟨cA1, cA2⟩ := an (c.fact 10)
  obtain ⟨cB1, cB2⟩ := an (c.fact 11)
  obtain ⟨cG1, q⟩ := an (c.fact 16)
  obtain ⟨cG2, q⟩ := an q
  obtain ⟨cG3, q⟩ := an q
  obtain ⟨cG4, cG5⟩ := an q
  obtain ⟨q1, q⟩ := an (c.fact 17)
  obtain ⟨q2, q3⟩ := an q
  obtain ⟨cS1, cS2⟩ := an q1
  obtain ⟨cR1, cR2⟩ := an q2
  obtain ⟨cE1, cE2⟩ := an q3
  obtain ⟨cM1, q⟩ := an (c.fact 18)
  obtain ⟨q4, cM4⟩ := an q
  obtain ⟨cM2, cM3⟩ := an q4
  have T : RCl K mg (cC K) := { cl := ⟨c41, c42, c43, eqB_ok c44⟩, nT := eqB_ok c51, nB := eqB_ok c52, v_Ratio := ⟨_, gl "Ratio" (by decide +kernel), rfl⟩, ha := eqB_ok c61, hn := eqB_ok c62, ht := of_decide_eq_true c63, hm := of_decide_eq_true c64, me := of_decide_eq_true c71, gcd := PySem.W.mg_of X G (eqB_ok (c.fact 2)) }
  have Tb : BTC K mg (cD K) (ma K (cD K) "__init__") := { ox := ⟨oexB_ok (c.fact 8), eqB_ok c91, of_decide_eq_true c92, of_decide_eq_true c93, c94⟩, nL := eqB_ok c53, nW := eqB_ok c54, gl := gl "BadText" (by decide +kernel), iC := eqB_ok cA1, tI := of_decide_eq_true cA2 }
  have rd : ClX.CRead K (cC K) mT := ⟨cB1, eqB_ok cB2⟩
  obtain ⟨u60, most⟩ := con_of (c.fact 12)
  obtain ⟨w1, w2⟩ := He5.wrapB_ok (c.fact 13)
  obtain ⟨fInt, Fi⟩ := c.dd 0
  obtain ⟨fBt, Fb⟩ := c.dd 1
  obtain ⟨fRi, Fr⟩ := c.dd 2
  obtain ⟨fEq, Fe⟩ := c.dd 3
  obtain ⟨fSt, Fs⟩ := c.dd 4
  obtain ⟨fRp, Fp⟩ := c.dd 5
  obtain ⟨fRd, Fd⟩ := c.dd 6
  obtain ⟨fRow, Fw⟩ := c.dd 7
  obtain ⟨fWh, Fh⟩ := c.dd 8
  obtain ⟨fPen, Fpen⟩ := c.dd 9
  obtain ⟨fDraw, Fdraw⟩ := c.dd 10
  obtain ⟨fPick, Fpick⟩ := c.dd 11
  obtain ⟨fCom, Fcom⟩ := c.dd 12
  obtain ⟨fDig, Fdig⟩ := c.dd 13
  obtain ⟨fNum, Fnum⟩ := c.dd 14
  obtain ⟨fWhole, Fwhole⟩ := c.dd 15
  obtain ⟨fPair, Fpair⟩ := c.dd 16
  obtain ⟨fHeard, Fheard⟩ := c.dd 17
  obtain ⟨fRR, Frr⟩ := c.dd 18
  obtain ⟨fBent, Fbent⟩ := c.dd 19
  obtain ⟨fTurned, Fturned⟩ := c.dd 20
  obtain ⟨fLaw, Flaw⟩ := c.dd 21
  have Fi := He5.fun_of (st := sIsInt) Fi
  have Fb := He5.fun_of (st := sBTi) Fb
  have Fe := He5.fun_of (st := sREq) Fe
  have Fs := He5.fun_of (st := sRStr) Fs
  have Fp := He5.fun_of (st := sRRepr) Fp
  have Fd := He5.fun_of (st := sRRead) Fd
  have Fw := He5.fun_of (st := sRow) Fw
  have Fh := He5.fun_of (st := sWh) Fh
  have Fpen := He5.fun_of (st := sPen) Fpen
  have Fdraw := He5.fun_of (st := sDraw) Fdraw
  have Fpick := He5.fun_of (st := sPick) Fpick
  have Fcom := He5.fun_of (st := sCommon) Fcom
  have Fdig := He5.fun_of (st := sDigits) Fdig
  have Fnum := He5.fun_of (st := sNumbers) Fnum
  have Fwhole := He5.fun_of (st := sWhole) Fwhole
  have Fpair := He5.fun_of (st := sPair) Fpair
  have Fheard := He5.fun_of (st := sHeard) Fheard
  have Frr := He5.fun_of (st := sRR) Frr
  have Fbent := He5.fun_of (st := sBent) Fbent
  have Fturned := He5.fun_of (st := sTurned) Fturned
  have Flaw := He5.fun_of (st := sLaw) Flaw
  have b_int := Fi.binds (ps := ["value"]) fun _ _ _ _ _ _ us hl => match us, hl with | [_], _ => rfl
  have b_wh := Fh.binds (ps := ["word"]) fun _ _ _ _ _ _ us hl => match us, hl with | [_], _ => rfl
  have b_row := Fw.binds (ps := ["word"]) fun _ _ _ _ _ _ us hl => match us, hl with | [_], _ => rfl
  have b_str := Fs.binds (ps := ["self"]) fun _ _ _ _ _ _ us hl => match us, hl with | [_], _ => rfl
  have b_repr := Fp.binds (ps := ["self"]) fun _ _ _ _ _ _ us hl => match us, hl with | [_], _ => rfl
  have b_eq := Fe.binds (ps := ["self", "other"]) fun _ _ _ _ _ _ us hl => match us, hl with | [_, _], _ => rfl
  have b_bt := Fb.binds (ps := ["self", "line", "word"]) fun _ _ _ _ _ _ us hl => match us, hl with | [_, _, _], _ => rfl
  have b_read := Fd.binds (ps := ["text"]) fun _ _ _ _ _ _ us hl => match us, hl with | [_], _ => rfl
  have b_pen := Fpen.binds (ps := ["_law_script"]) fun _ _ _ _ _ _ us hl => match us, hl with | [_], _ => rfl
  have b_draw := Fdraw.binds (ps := ["_law_pen_here", "_law_many"]) fun _ _ _ _ _ _ us hl => match us, hl with | [_, _], _ => rfl
  have b_pick := Fpick.binds (ps := ["_law_pen_here", "_law_some"]) fun _ _ _ _ _ _ us hl => match us, hl with | [_, _], _ => rfl
  have b_com := Fcom.binds (ps := ["_law_one", "_law_other"]) fun _ _ _ _ _ _ us hl => match us, hl with | [_, _], _ => rfl
  have b_dig := Fdig.binds (ps := ["_law_pen_here", "_law_many"]) fun _ _ _ _ _ _ us hl => match us, hl with | [_, _], _ => rfl
  have b_num := Fnum.binds (ps := ["_law_pen_here"]) fun _ _ _ _ _ _ us hl => match us, hl with | [_], _ => rfl
  have b_whole := Fwhole.binds (ps := ["_law_word"]) fun _ _ _ _ _ _ us hl => match us, hl with | [_], _ => rfl
  have b_pair := Fpair.binds (ps := ["_law_word"]) fun _ _ _ _ _ _ us hl => match us, hl with | [_], _ => rfl
  have b_heard := Fheard.binds (ps := ["_law_text"]) fun _ _ _ _ _ _ us hl => match us, hl with | [_], _ => rfl
  have b_rr := Frr.binds (ps := ["_law_text"]) fun _ _ _ _ _ _ us hl => match us, hl with | [_], _ => rfl
  have b_bent := Fbent.binds (ps := ["_law_pen_here", "_law_text"]) fun _ _ _ _ _ _ us hl => match us, hl with | [_, _], _ => rfl
  have b_turned := Fturned.binds (ps := ["_law_pen_here", "_law_pair_here"]) fun _ _ _ _ _ _ us hl => match us, hl with | [_, _], _ => rfl
  have d_int : Df K mg "is_integer" (ga K "is_integer") := ⟨gl "is_integer" (by decide +kernel), Fi.kp⟩
  have d_wh : Df K mg "_is_whole_number" (ga K "_is_whole_number") := ⟨gl "_is_whole_number" (by decide +kernel), Fh.kp⟩
  have d_row : Df K mg "ratio_of_word" (ga K "ratio_of_word") := ⟨gl "ratio_of_word" (by decide +kernel), Fw.kp⟩
  have d_pen : Df K mg "_law_pen" (ga K "_law_pen") := ⟨gl "_law_pen" (by decide +kernel), Fpen.kp⟩
  have d_draw : Df K mg "_law_draw" (ga K "_law_draw") := ⟨gl "_law_draw" (by decide +kernel), Fdraw.kp⟩
  have d_pick : Df K mg "_law_pick" (ga K "_law_pick") := ⟨gl "_law_pick" (by decide +kernel), Fpick.kp⟩
  have d_com : Df K mg "_law_common" (ga K "_law_common") := ⟨gl "_law_common" (by decide +kernel), Fcom.kp⟩
  have d_dig : Df K mg "_law_digits" (ga K "_law_digits") := ⟨gl "_law_digits" (by decide +kernel), Fdig.kp⟩
  have d_num : Df K mg "_law_numbers" (ga K "_law_numbers") := ⟨gl "_law_numbers" (by decide +kernel), Fnum.kp⟩
  have d_whole : Df K mg "_law_whole" (ga K "_law_whole") := ⟨gl "_law_whole" (by decide +kernel), Fwhole.kp⟩
  have d_pair : Df K mg "_law_pair" (ga K "_law_pair") := ⟨gl "_law_pair" (by decide +kernel), Fpair.kp⟩
  have d_heard : Df K mg "_law_heard" (ga K "_law_heard") := ⟨gl "_law_heard" (by decide +kernel), Fheard.kp⟩
  have d_rr : Df K mg "_law_read_right" (ga K "_law_read_right") := ⟨gl "_law_read_right" (by decide +kernel), Frr.kp⟩
  have d_bent : Df K mg "_law_bent" (ga K "_law_bent") := ⟨gl "_law_bent" (by decide +kernel), Fbent.kp⟩
  have d_turned : Df K mg "_law_turned" (ga K "_law_turned") := ⟨gl "_law_turned" (by decide +kernel), Fturned.kp⟩
  have d_R : Df K mg "Ratio" (cC K) := ⟨gl "Ratio" (by decide +kernel), cM4⟩
  have M_R : Mk K (cC K) (ma K (cC K) "__init__") := ⟨cM1, eqB_ok cM2, cM3, cM4⟩
  obtain ⟨ds, hds, b_R⟩ := Fr.binds1 (ps := ["self", "top", "bottom"]) 3 1 (List.cons_ne_nil _ _) rfl fun _ _ _ _ _ _ _ us its h1 h2 => match us, its, h1, h2 with | [_, _, _], [_], _, _ => ⟨_, rfl, rfl⟩
  cases hds
  have kb : KBinds K fRd ["text"] ["text"] (fun us ws => us ++ ws) (fun vs zs => vs ++ zs) := by
    obtain ⟨oc, od, kV, doc, pm, an, cdv, ct, osl, rfl, lk, hcd⟩ := Fd.ex
    exact ⟨fun s us ws _ hl => match us, ws, hl with
      | [], [_], _ => .of_eq rfl
      | [_], [], _ => .of_eq rfl, fun r1 r2 => r1.append r2⟩
  have Th : Hd K mg (cC K) (cD K) (cP K) mT (ma K (cC K) "read") (gRead K) := ⟨rd, ⟨w1, w2, Fd.kp⟩, gl "PeekError" (by decide +kernel), of_decide_eq_true (c.fact 14), xfB_ok (c.fact 15), ⟨eqB_ok cG1, eqB_ok cG2, of_decide_eq_true c92, cG3, eqB_ok cG4, eqB_ok c62, of_decide_eq_true c63, of_decide_eq_true cG5⟩, of_decide_eq_true c73⟩
  have vD := str_of X G (z := "0123456789") (c.fact 3)
  refine ⟨fLaw, ?_, fun base _ => ?_⟩
  · obtain ⟨oc, od, kV, doc, pm, an, cdv, ct, osl, rfl, lk, hcd⟩ := Flaw.ex
    exact fun s u => .of_eq rfl
  · have G_int : FnOk P w K mg base CX0 1 _ fInt ["value"] spInt := ok_int Fi B
    have G_R := ok_rinit (P := P) (w := w) (base := base) Fr T G_int b_int d_int
    have G_wh := ok_wh (P := P) (w := w) (base := base) Fh T ⟨rd, most⟩ B vD
    have G_row := ok_row Fw T B G_wh b_wh d_wh M_R G_R b_R d_R
    have G_bt := ok_bt (P := P) (w := w) (mg := mg) (base := base) Fb Tb
    have G_read := ok_read Fd B Tb G_bt b_bt G_row b_row d_row
    have G_str := ok_rstr (P := P) (w := w) (base := base) Fs T B
    have G_repr := ok_rrepr Fp B G_str b_str (eqB_ok cS1) cS2
    have G_eq := ok_req Fe T B G_int b_int d_int
    have R : RM P w K mg base (cC K) (cD K) (ma K (cC K) "__init__") (ma K (cC K) "__str__") (ma K (cC K) "__repr__") (ma K (cC K) "__eq__") (gRead K) fRi fSt fRp fEq fRd := { fStr := eqB_ok cS1, iStr := cS2, G_str := G_str, b_str := b_str, fRepr := eqB_ok cR1, iRepr := cR2, G_repr := G_repr, b_repr := b_repr, fEq := eqB_ok cE1, iEq := cE2, G_eq := G_eq, b_eq := b_eq, M_R := M_R, G_R := G_R, b_R := b_R, d_R := d_R, G_read := G_read, kb := kb }
    have G_pen := ok_pen (P := P) (w := w) (base := base) Fpen B
    have G_draw := ok_draw (P := P) (w := w) (base := base) Fdraw B
    have G_pickL := ok_pickL Fpick B G_draw b_draw d_draw
    have G_pickS := ok_pickS Fpick B G_draw b_draw d_draw
    have G_com := ok_common (P := P) (w := w) (base := base) Fcom B
    have G_dig := ok_digits Fdig B G_draw b_draw d_draw G_pickS b_pick d_pick
    have G_num := ok_numbers Fnum B G_dig b_dig d_dig G_pickL b_pick d_pick G_com b_com d_com
    have G_whole := ok_whole (P := P) (w := w) (base := base) Fwhole B
    have G_pair := ok_pair Fpair B G_whole b_whole d_whole G_com b_com d_com
    have G_heard := ok_heard Fheard B T Tb Th G_read b_read
    have G_rr := ok_rr Frr B T Th R G_pair b_pair d_pair G_heard b_heard d_heard
    have G_bent := ok_bent Fbent B G_draw b_draw d_draw G_pickS b_pick d_pick G_pickL b_pick d_pick
    have G_turned := ok_turned Fturned B G_draw b_draw d_draw G_pickL b_pick d_pick
    exact ok_law Flaw B T R (of_decide_eq_true c72) G_pen b_pen d_pen G_num b_num d_num G_rr b_rr d_rr G_bent b_bent d_bent G_turned b_turned d_turned G_pickL b_pick d_pick G_heard b_heard d_heard
end K02
end

section -- K02w
set_option linter.all false
set_option maxRecDepth 100000
set_option maxHeartbeats 0
namespace K02
open PySem PySem.Spec L2 Pk
abbrev oRow : PySem.W.OpenRow := PySem.W.OpenLaw.row PySem.Challenge.rw_peekproof_k02_texts_of_ratios_bent
abbrev vw : Program := PySem.W.view oRow.prog [0, 28]
def loose : List Str := ["_wall", "__name__", "is_integer", "PeekError", "BadRatio", "BadText", "_DIGITS", "Ratio", "as_ratio", "ratio_of_word", "_is_whole_number", "_other_ratio", "_law_pen", "_law_draw", "_law_pick", "_law_common", "_law_digits", "_law_numbers", "_law_whole", "_law_pair", "_law_heard", "_law_read_right", "_law_bent", "_law_turned"]
abbrev hk : PySem.W.Hook := hookB 6 looks fns
def ob (s : PySem.W.SharedT) : Seen := seenG 6 looks fns (HandSHeadRun.getT s)
theorem ob_eq (s : PySem.W.SharedT) : ob s = hk.obs s.abs := by
  have e : HandSHeadRun.getT s = s.abs.heap.get? := funext (HandSHeadRun.getT_eq s)
  show seenG 6 looks fns (HandSHeadRun.getT s) = seenG 6 looks fns s.abs.heap.get?
  rw [e]
theorem run (w : World) : HandSHeadRun.RunEqI oRow vw hk ob 6000 loose w := by
  unfold HandSHeadRun.RunEqI
  kernel_rfl
end K02
end

section -- K02v
set_option linter.all false
set_option maxRecDepth 100000
set_option maxHeartbeats 0
open PySem PySem.W PySem.Calls PyProof.Rows
theorem PySem.Challenge.cw_peekproof_k02_texts_of_ratios_bent_holds : PySem.Challenge.rw_peekproof_k02_texts_of_ratios_bent.Holds := by
  w_on; o_law
  refine HandSHeadRun.head_imp (r := K02.oRow) (q := K02.vw) (H := K02.hk) (ob := K02.ob) (M := 6000) (loose := K02.loose) (d := HandSHeadRun.topDef K02.oRow.prog 28) (kwd := []) K02.ob_eq K02.run
    (by kernel_rfl) (by kernel_rfl) (by kernel_rfl) (by rfl) (by first | assumption | decide +kernel) (by decide +kernel) ⟨rfl, rfl, rfl, rfl, rfl, by decide +kernel⟩ ?hw ?hc
  case hw => exact ⟨[.list []], by decide +kernel, by decide +kernel⟩
  case hc =>
    refine Pk.walkG (l := PySem.Challenge.rw_peekproof_k02_texts_of_ratios_bent) (n := 63) (k := 10) (x := "_law_script") rfl (by decide) (by kernel_rfl) ⟨rfl, by decide, by decide⟩ ?F
    intro w mg fa h Y G hmg0
    obtain ⟨K, KX, c⟩ := Y
    have hmg : mg ("law" : PySem.Str) = some (.ref fa) := by
      have e : (HandSHeadRun.topDef K02.oRow.prog 28).name = ("law" : PySem.Str) := by kernel_rfl
      rw [← e]
      exact hmg0
    obtain ⟨fd, hb, hF⟩ := K02.told (P := (PySem.Challenge.rw_peekproof_k02_texts_of_ratios_bent).prog) (w := w) KX G hmg c
    exact ⟨K, fd, K02.spLaw K, KX, hb, fun H a ns hS => ⟨a, ns, rfl, hS, fun _ => rfl⟩, hF⟩
end
