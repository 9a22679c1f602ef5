import PyProof.Rows.All
import Wide.All
import OpenK.AllK
import Wide.FinOn
import HandS.ForMost
import HandS.Wide
import HandS.IsInst
import HandS.Zip
import HandS.Flow
import HandS.Star
import HandS.Property
import PyProof.InstNe
import HandS.OwnEq
import HandS.ClsMeth
import HandS.Records
import KE.KCallOwn
import KE.DataAny
import HandS.TupMul
import HandS.TupAny
import HandS.SortRule
import HandS.NamedTupSort
import KE.DataMinMax
import KE.SortData
import HandS.NoneIn
import HandS.Style
import HandS.TupSets
import HandS.Deep
import PySem.Challenge.RW_grainmeet_k11_associates
set_option Elab.async false
set_option linter.all false
set_option maxRecDepth 100000
namespace G
open PySem PySem.Spec PyProof.Rows L2
/-! ### operators of a class of the text -/
theorem pe_imp {X : Cx} {e : Expr} {t t' : TE} (h : PE X e t) (i : ∀ σ H Q, t' σ H Q → t σ H Q) : PE X e t' := ⟨fun pins s σ H Q I q => h.run pins s σ H Q I (i σ H Q q)⟩
/-- one op other, both of the class at C, by its own method -/
def rOwn (C : Addr) (sp : Sp) : R2 := fun x y H Q => ∃ a b dx dy fs gs, x = .ref a ∧ y = .ref b ∧ H a = some (.ins C dx fs) ∧ H b = some (.ins C dy gs) ∧ sp [.ref a, .ref b] H Q E0
def rOwn1 (C : Addr) (sp : Sp) : V → Hp → VK → Prop := fun x H Q => ∃ a dx fs, x = .ref a ∧ H a = some (.ins C dx fs) ∧ sp [.ref a] H Q E0
section
variable {X : Cx} {k : Nat} {C f : Addr} {fd : FuncData} {ps : List Str} {sp : Sp}
theorem op_own {op : Operator} (F : FnOk X.prog X.w X.K X.mg X.base CX0 k f fd ps sp) (hr : Room k X.A) (hc : PySem.W.selfFirst X.K C = true) (hs : PySem.W.findIn X.K (.ref C) (PySem.dunder op.info.2) = some (some (.ref f))) (hf : PySem.W.isFn X.K (.ref f) = true) (hb : Binds X.K fd ps []) : OpR X (binaryOp op) (rOwn C sp) := by
  intro pins s σ H x y v u Q I rx ry h
  obtain ⟨a, b, dx, dy, fs, gs, rfl, rfl, ha, hb', q⟩ := h
  cases rx
  cases ry
  obtain ⟨mA, J, _⟩ := ins_get I.hok ha
  obtain ⟨mB, J', _⟩ := ins_get I.hok hb'
  obtain ⟨od, J, _⟩ := J.look
  obtain ⟨od', J', _⟩ := J'.look
  obtain ⟨m, hF⟩ := I.fr
  refine PySem.W.binop_K hF I.ok.mod.kin J J'.type hc hs hf ?_
  refine wpAny_mono (run_fn (vs := [.ref a, .ref b]) F hr hb .nil pass0 I (.cons rfl (.cons rfl .nil)) q) (fun r s' hq => ?_) fun _ _ e => e
  obtain ⟨z, H', I', rz, q'⟩ := hq
  cases r <;> first | exact ⟨z, H', I', rz, q'⟩ | (cases z <;> first | (obtain ⟨t, e⟩ := rz; cases e) | cases rz)
theorem un_own (F : FnOk X.prog X.w X.K X.mg X.base CX0 k f fd ps sp) (hr : Room k X.A) (hs : PySem.W.findIn X.K (.ref C) "__neg__" = some (some (.ref f))) (hf : PySem.W.isFn X.K (.ref f) = true) (hb : Binds X.K fd ps []) : UnR X (unaryOp .USub) (rOwn1 C sp) := by
  intro pins s σ H x v Q I rx h
  obtain ⟨a, dx, fs, rfl, ha, q⟩ := h
  cases rx
  obtain ⟨mA, J, _⟩ := ins_get I.hok ha
  obtain ⟨od, J, _⟩ := J.look
  obtain ⟨m, hF⟩ := I.fr
  refine PySem.W.ksp_neg hF I.ok.mod.kin J hs hf ?_
  exact run_fn (vs := [.ref a]) F hr hb .nil pass0 I (.cons rfl .nil) q
end
end G
set_option Elab.async false
set_option linter.all false
set_option maxRecDepth 100000
namespace G
open PySem PySem.W PySem.Spec PyProof.Rows
section
variable {prog : Program} {w : World} {A : Around} {E : Value → Shared → Prop} {s : Shared} {K : Frag} {x C L f : Addr} {h₀ : Heap} {m : Str → Option Value} {ox : Obj} {od : Option Obj} {b : Value}
theorem ifBoundB_K {M : Model} {name : Str} {id T : String} {args : List Value} {Q : Option Value → Shared → Prop} (S : Slot T name id) (X : K.In s.heap) (I : InstAt s.heap x ox C od) (hs : findIn K (.ref C) name = some (some (.builtin id)))
    (h : wpAny M A (call (.builtin id) (.ref x :: args)) (fun v => Q (some v)) E s) : wpAny M A (callSpecialIfBound? (.ref x) name args) Q E s := by
  simp only [callSpecialIfBound?, bindSpecialIfBound?]
  refine wpAny_holding (wpAny_bind (wpAny_bind (wpAny_bind (I.type.here ((looks_findIn X hs).here ?_)))))
  simp only [S.bind]
  refine wpAny_bind (wpAny_askSetting (wpAny_ite ?_))
  have fin : wpAny M A (call (.builtin id) ([.ref x] ++ args) >>= fun v => pure (some v)) Q E s := wpAny_bind (wpAny_mono h (fun v s' h' => wpAny_pure h') fun _ _ h' => h')
  split
  · exact wpAny_bind (wpAny_pure (wpAny_pure fin))
  · exact wpAny_tryCatch (wpAny_bind (wpAny_pure (wpAny_pure fin)))
theorem objNe_K {Q : Fin → Shared → Prop} (X : K.In s.heap) (I : InstAt s.heap x ox C od) (hs : findIn K (.ref C) "__eq__" = some (some (.ref f))) (hf : isFn K (.ref f) = true) (hu : A.units < cLine)
    (h : wpAny (model prog w) A (call (.ref f) [.ref x, b]) (fun v s' => ∃ r, v = .bool r ∧ Q (.done (.ret (.bool (!r)))) s') E s) : wpAny (model prog w) A (Builtin.«object.__ne__» ⟨[.ref x, b], []⟩) Q E s := by
  unfold Builtin.«object.__ne__»
  repeat (first
    | with_reducible refine wpAny_cRoomFor hu ?_
    | (refine wpAny_bind (m := callSpecialIfBound? (.ref x) (Str.ofString "__eq__") [b])
        (ifBound_K X I hs hf (wpAny_mono h (fun r s' hr => by
          obtain ⟨r, rfl, hq⟩ := hr
          repeat (first | exact hq | exact wpAny_pure hq | exact wpAny_truthy_bool hq | (refine wpAny_bind (m := truthy (.bool _)) (wpAny_truthy_bool ?_)) | wp_step)) fun _ _ e => e)))
    | wp_step)
theorem ne_K {Q : Value → Shared → Prop} (hu : A.units + 1 < cLine) (FR : Fr h₀ L s.heap m) (X₀ : K.In h₀) (I : InstAt s.heap x ox C od) (hb : Looks (model prog w) s.heap (typeOf b) (.ref C)) (hm : mroIn K C (.type "object") = some true)
    (hne : findIn K (.ref C) "__ne__" = some (some (.builtin "object.__ne__"))) (hs : findIn K (.ref C) "__eq__" = some (some (.ref f))) (hf : isFn K (.ref f) = true)
    (h : wpAny (model prog w) A.in1 (call (.ref f) [.ref x, b]) (fun v s' => ∃ r, v = .bool r ∧ Q (.bool (!r)) s') E s) : wpAny (model prog w) A (richCompare .NotEq (.ref x) b) Q E s := by
  have X := X₀.keeps FR.keep
  have hin : Looks (model prog w) s.heap (isInstance (.ref x) (.type "object")) true := I.type.andThen (looks_mroIn X hm)
  have S := F.cmp_object.ne
  have one : wpAny (model prog w) A (tryCompare (.ref x) "__ne__" b) (fun r s' => ∃ v, r = some v ∧ Q v s') E s := by
    unfold tryCompare
    refine wpAny_bind (ifBoundB_K S X I hne (wpAny_call (codeAny_call_builtin S.plain F.cmpEntry_ne (check_slot F.cmpKind_ne F.cmpSplit_ne hin (F.cmpArgs_ne _ _) ?_))))
    refine objNe_K X I hs hf hu (wpAny_mono h (fun v s' hv => ?_) fun _ _ e => e)
    obtain ⟨r, rfl, hq⟩ := hv
    exact ⟨r, rfl, wpAny_pure ⟨_, rfl, hq⟩⟩
  unfold richCompare
  simp only [oneThing_ref]
  refine wpAny_holding (wpAny_bind (wpAny_cRoomFor (Nat.lt_of_succ_lt hu) ?_))
  refine wpAny_bind (I.type.here (wpAny_bind (hb.here ?_)))
  rw [cmpInfo_NotEq]
  dsimp only
  rw [show (Value.ref C != Value.ref C) = false from by simp]
  simp only [Bool.false_eq_true, if_false]
  refine wpAny_bind (wpAny_pure ?_)
  simp only [Bool.false_eq_true, if_false]
  refine wpAny_bind (wpAny_mono one (fun r s' z => ?_) fun _ _ e => e)
  obtain ⟨v, rfl, hq⟩ := z
  exact wpAny_pure hq
end
end G
namespace G
open PySem PySem.Spec PyProof.Rows L2
def rNeOwn (C : Addr) (sp : Sp) : R2 := fun x y H Q => ∃ a b dx dy fs gs, x = .ref a ∧ y = .ref b ∧ H a = some (.ins C dx fs) ∧ H b = some (.ins C dy gs) ∧ sp [.ref a, .ref b] H (fun v H' => ∃ r, v = .bl r ∧ Q (.bl (!r)) H') E0
section
variable {X : Cx} {k : Nat} {C f : Addr} {fd : FuncData} {ps : List Str} {sp : Sp}
theorem op_eqOwn (F : FnOk X.prog X.w X.K X.mg X.base CX0 k f fd ps sp) (hr : Room k X.A) (hs : PySem.W.findIn X.K (.ref C) "__eq__" = some (some (.ref f))) (hf : PySem.W.isFn X.K (.ref f) = true) (hb : Binds X.K fd ps []) : OpR X (compareOp .Eq) (rOwn C sp) := by
  intro pins s σ H x y v u Q I rx ry h
  obtain ⟨a, b, dx, dy, fs, gs, rfl, rfl, ha, hb', q⟩ := h
  cases rx
  cases ry
  obtain ⟨mA, J, _⟩ := ins_get I.hok ha
  obtain ⟨mB, J', _⟩ := ins_get I.hok hb'
  obtain ⟨od, J, _⟩ := J.look
  obtain ⟨od', J', _⟩ := J'.look
  obtain ⟨m, hF⟩ := I.fr
  unfold compareOp
  refine PySem.W.cmp_K (op := .Eq) (tb := .ref C) hr.units0 hF I.ok.mod.kin J J'.type (by simp [PySem.W.notFirst]) hs hf ?_
  refine wpAny_mono (run_fn (vs := [.ref a, .ref b]) F hr hb .nil pass0 I (.cons rfl (.cons rfl .nil)) q) (fun r s' hq => ?_) fun _ _ e => e
  obtain ⟨z, H', I', rz, q'⟩ := hq
  cases r <;> first | exact ⟨z, H', I', rz, q'⟩ | (cases z <;> first | (obtain ⟨t, e⟩ := rz; cases e) | cases rz)
theorem op_neOwn (F : FnOk X.prog X.w X.K X.mg X.base CX0 k f fd ps sp) (hr : Room (k + 1) X.A) (hm : PySem.W.mroIn X.K C (.type "object") = some true) (hne : PySem.W.findIn X.K (.ref C) "__ne__" = some (some (.builtin "object.__ne__"))) (hs : PySem.W.findIn X.K (.ref C) "__eq__" = some (some (.ref f))) (hf : PySem.W.isFn X.K (.ref f) = true) (hb : Binds X.K fd ps []) : OpR X (compareOp .NotEq) (rNeOwn C sp) := by
  intro pins s σ H x y v u Q I rx ry h
  obtain ⟨a, b, dx, dy, fs, gs, rfl, rfl, ha, hb', q⟩ := h
  cases rx
  cases ry
  obtain ⟨mA, J, _⟩ := ins_get I.hok ha
  obtain ⟨mB, J', _⟩ := ins_get I.hok hb'
  obtain ⟨od, J, _⟩ := J.look
  obtain ⟨od', J', _⟩ := J'.look
  obtain ⟨m, hF⟩ := I.fr
  unfold compareOp
  refine ne_K (hu_of hr) hF I.ok.mod.kin J J'.type hm hne hs hf ?_
  have e0 : Env0 X.prog X.w X.K X.mg X.base X.A.in1 X.stack s H := by
    have e := I.env0
    exact ⟨e.frames, e.mod, e.bs, e.bsz, e.funs, e.frf, e.hok, e.bare⟩
  have hl := F.len _ _ _ _ q
  have r2 : Vals [V.ref a, V.ref b] [Value.ref a, Value.ref b] := .cons rfl (.cons rfl .nil)
  refine wpAny_call (codeAny_mono (F.run X.A.in1 X.stack s H ⟨[.ref a, .ref b], []⟩ [.ref a, .ref b] [.ref a, .ref b] _ E0 hr.in1 e0 (by
    have := hb s [.ref a, .ref b] I.kIn (by simpa using hl)
    simpa using this) r2 q) fun r s' hq => ?_)
  cases r with
  | error e => exact False.elim hq
  | ok fl =>
    cases fl with
    | ret w =>
      obtain ⟨z, H', I', rz, r, ez, ex⟩ := I.after hq
      subst ez
      cases rz
      exact ⟨r, rfl, .bl (!r), H', I', rfl, ex⟩
    | next => exact False.elim hq
    | brk => exact False.elim hq
    | cont => exact False.elim hq
end
end G
set_option Elab.async false
set_option linter.all false
set_option maxRecDepth 100000
namespace G
open PySem PySem.Spec PyProof.Rows L2 ClX
/-- C.m is a staticmethod: its record at p, its def at g -/
structure SMet (K : PySem.W.Frag) (C : Addr) (mc : Value) (m : Str) (p g : Addr) : Prop where
  rd : PySem.W.readsIn K C mc = true
  ty : PySem.W.typeIn K (.ref C) = some mc
  ga : PySem.W.specialIn K (.ref C) "__getattribute__" = some (some (.builtin "type.__getattribute__"))
  at_ : PySem.W.findCls K (.ref C) mc m = some (.get (.builtin "staticmethod.__get__") (.ref p) .none (.ref C))
  rc : ∃ rest, PySem.W.recIn K p "staticmethod" = some (.ref g :: rest)
  kp : PySem.W.keepIn K (.ref g) = true
def tSMeth (C : Addr) (sp : Sp) (ta : TE) (t : TA) : TE := fun σ H Q => ta σ H fun x H1 => x = .ref C ∧ t σ H1 fun vs H2 => sp vs H2 Q E0
section
variable {X : Cx} {k : Nat} {C p g : Addr} {mc : Value} {m : Str} {fd : FuncData} {ps : List Str} {sp : Sp} {o e : Expr} {es : List Expr} {ta : TE} {t : TA} {apos pos : Pos} {pl : Sem Bool}
theorem getsm_ok {pins : List (Addr × Obj)} {σ : L2.St} {H : Hp} {s : Shared} {A : Around} {E : Value → Shared → Prop} {Q : Value × List Value → Shared → Prop} (I : Inv X pins σ H s) (c : SMet X.K C mc m p g)
    (h : ∀ s', Inv X pins σ H s' → Q (.ref g, []) s') : wpAny (model X.prog X.w) A (getMethod (.ref C) m pl) Q E s := by
  obtain ⟨rest, hp⟩ := c.rc
  obtain ⟨m', hF⟩ := I.fr
  exact PySem.W.method_cls I.kIn c.ga (PySem.W.cls_sm hF I.ok.mod.kin c.ty c.rd c.at_ hp rfl (h _ (I.tok _)))
theorem pe_smeth (he : PE X o ta) (c : SMet X.K C mc m p g) (F : FnOk X.prog X.w X.K X.mg X.base CX0 k g fd ps sp) (hr : Room k X.A) (hb : Binds X.K fd ps []) (ha : PA X (e :: es) t)
    (hst : starEach (e :: es) X.env = (false, eval e X.env) :: starEach es X.env := by rfl) (hpl : (backTo pos (starEach es X.env)).any (·.1) = false := by rfl)
    (ht : eval (.Call (.Attribute o m apos) (e :: es) [] pos) X.env = (do
      let ov ← eval o X.env
      standAt apos.atName
      let (f, first) ← holding [ov] (getMethod ov m pl)
      callWith pos f first (backTo pos (starEach (e :: es) X.env)) (backToKw pos (keywordEach [] X.env))) := by rfl) :
    PE X (.Call (.Attribute o m apos) (e :: es) [] pos) (tSMeth C sp ta t) := by
  refine ⟨fun pins s σ H Q I h => ?_⟩
  refine PySem.W.methodCall_KW (pl := pl) (thn (he.run pins s σ H _ I h) fun u s1 ⟨x, H1, I1, rx, ex, q⟩ => ?_) ht
  subst ex
  obtain rfl : u = Value.ref C := rx
  refine getsm_ok I1 c fun s2 I2 => ?_
  refine PySem.W.callWith_K (h₀ := X.base) I.ok.mod.kin c.kp (thn (ha.run pos pins s2 σ H1 _ I2 q) fun us s3 ⟨vs, H2, I3, r, q2⟩ => ⟨I3.kIn, ?_⟩) hst hpl
  have := run_fn (dvs := []) F hr hb .nil pass0 I3 r (by rw [List.append_nil]; exact q2)
  exact this
end
/-! ### the members of a class, with their promises -/
structure MethOk (P : Program) (w : World) (K : PySem.W.Frag) (mg : Str → Option Value) (base : Heap) (C : Addr) (m : Str) (k : Nat) (ps : List Str) (sp : Sp) : Prop where
  ex : ∃ (f : Addr) (fd : FuncData), FnOk P w K mg base CX0 k f fd ps sp ∧ Meth K C m f ∧ Binds K fd ps []
structure PropOk (P : Program) (w : World) (K : PySem.W.Frag) (mg : Str → Option Value) (base : Heap) (C : Addr) (m : Str) (k : Nat) (ps : List Str) (sp : Sp) : Prop where
  ex : ∃ (p g : Addr) (fd : FuncData), FnOk P w K mg base CX0 k g fd ps sp ∧ PropOf K C m p g ∧ Binds K fd ps []
structure StatOk (P : Program) (w : World) (K : PySem.W.Frag) (mg : Str → Option Value) (base : Heap) (C : Addr) (m : Str) (k : Nat) (ps : List Str) (sp : Sp) : Prop where
  ex : ∃ (mc : Value) (p g : Addr) (fd : FuncData), FnOk P w K mg base CX0 k g fd ps sp ∧ SMet K C mc m p g ∧ Binds K fd ps []
/-- what every class of the text has -/
structure ClsFacts (K : PySem.W.Frag) (mg : Str → Option Value) (x : Str) (C : Addr) : Prop where
  cl : Cls K C
  mgC : mg x = some (.ref C)
  sf : PySem.W.selfFirst K C = true
  mr : PySem.W.mroIn K C (.type "object") = some true
section
variable {X : Cx} {k : Nat} {C : Addr} {x m : Str} {ps : List Str} {sp : Sp} {o e : Expr} {es : List Expr} {ta : TE} {t : TA} {apos pos : Pos} {pl : Sem Bool}
theorem pe_methD {f : Addr} (he : PE X o ta) (c : Cls X.K C) (M : MethOk X.prog X.w X.K X.mg X.base C m k ps sp) (hr : Room k X.A) (ha : PA X (e :: es) t)
    (hst : starEach (e :: es) X.env = (false, eval e X.env) :: starEach es X.env := by rfl) (hpl : (backTo pos (starEach es X.env)).any (·.1) = false := by rfl)
    (ht : eval (.Call (.Attribute o m apos) (e :: es) [] pos) X.env = (do
      let ov ← eval o X.env
      standAt apos.atName
      let (f, first) ← holding [ov] (getMethod ov m pl)
      callWith pos f first (backTo pos (starEach (e :: es) X.env)) (backToKw pos (keywordEach [] X.env))) := by rfl) :
    PE X (.Call (.Attribute o m apos) (e :: es) [] pos) (tMeth C m sp [] E0 ta t) := by
  obtain ⟨f, fd, F, hm, hb⟩ := M.ex
  exact pe_meth he c hm F hr hb .nil pass0 ha hst hpl ht
theorem pe_methD0 (he : PE X o ta) (c : Cls X.K C) (M : MethOk X.prog X.w X.K X.mg X.base C m k ps sp) (hr : Room k X.A)
    (ht : eval (.Call (.Attribute o m apos) [] [] pos) X.env = (do
      let ov ← eval o X.env
      standAt apos.atName
      let (f, first) ← holding [ov] (getMethod ov m pl)
      callWith pos f first (backTo pos (starEach [] X.env)) (backToKw pos (keywordEach [] X.env))) := by rfl) :
    PE X (.Call (.Attribute o m apos) [] [] pos) (tMeth C m sp [] E0 ta tNil) := by
  obtain ⟨f, fd, F, hm, hb⟩ := M.ex
  exact pe_meth0 he c hm F hr hb .nil pass0 ht
theorem pe_propD (he : PE X e ta) (c : Cls X.K C) (M : PropOk X.prog X.w X.K X.mg X.base C m k ps sp) (hr : Room (k + 1) X.A) (hab : attributeBase e m X.env (eval e X.env) = eval e X.env := by rfl) : PE X (.Attribute e m pos) (tProp C sp [] E0 ta) := by
  obtain ⟨p, g, fd, F, hp, hb⟩ := M.ex
  exact pe_prop he c hp F hr hb .nil pass0 hab
theorem pe_statD (M : StatOk X.prog X.w X.K X.mg X.base C m k ps sp) (he : PE X o ta) (hr : Room k X.A) (ha : PA X (e :: es) t)
    (hst : starEach (e :: es) X.env = (false, eval e X.env) :: starEach es X.env := by rfl) (hpl : (backTo pos (starEach es X.env)).any (·.1) = false := by rfl)
    (ht : eval (.Call (.Attribute o m apos) (e :: es) [] pos) X.env = (do
      let ov ← eval o X.env
      standAt apos.atName
      let (f, first) ← holding [ov] (getMethod ov m pl)
      callWith pos f first (backTo pos (starEach (e :: es) X.env)) (backToKw pos (keywordEach [] X.env))) := by rfl) :
    PE X (.Call (.Attribute o m apos) (e :: es) [] pos) (tSMeth C sp ta t) := by
  obtain ⟨mc, p, g, fd, F, c, hb⟩ := M.ex
  exact pe_smeth he c F hr hb ha hst hpl ht
theorem op_ownD {op : Operator} (c : ClsFacts X.K X.mg x C) (M : MethOk X.prog X.w X.K X.mg X.base C m k ps sp) (hr : Room k X.A) (hm : PySem.dunder op.info.2 = m := by decide +kernel) : OpR X (binaryOp op) (rOwn C sp) := by
  obtain ⟨f, fd, F, h, hb⟩ := M.ex
  exact op_own F hr c.sf (by rw [hm]; exact h.at_) h.fn hb
theorem un_ownD (M : MethOk X.prog X.w X.K X.mg X.base C "__neg__" k ps sp) (hr : Room k X.A) : UnR X (unaryOp .USub) (rOwn1 C sp) := by
  obtain ⟨f, fd, F, h, hb⟩ := M.ex
  exact un_own F hr h.at_ h.fn hb
theorem op_eqOwnD (M : MethOk X.prog X.w X.K X.mg X.base C "__eq__" k ps sp) (hr : Room k X.A) : OpR X (compareOp .Eq) (rOwn C sp) := by
  obtain ⟨f, fd, F, h, hb⟩ := M.ex
  exact op_eqOwn F hr h.at_ h.fn hb
theorem op_neOwnD (c : ClsFacts X.K X.mg x C) (M : MethOk X.prog X.w X.K X.mg X.base C "__eq__" k ps sp) (hne : PySem.W.findIn X.K (.ref C) "__ne__" = some (some (.builtin "object.__ne__"))) (hr : Room (k + 1) X.A) : OpR X (compareOp .NotEq) (rNeOwn C sp) := by
  obtain ⟨f, fd, F, h, hb⟩ := M.ex
  exact op_neOwn F hr c.mr hne h.at_ h.fn hb
end
end G
set_option Elab.async false
set_option linter.all false
set_option maxRecDepth 100000
namespace G
open PySem PySem.SeqAt
open AutoSeq1 (wpAny_loadPart')
open MeetsSeq MeetsSeq2 MeetsSeq3 SeqRoads2
section
variable {prog : Program} {w : World} {A : Around} {R : Result → Shared → Prop}
/-- != of two lists of one length whose items are equal: from the place N - k on -/
theorem neLoop {l b : Addr} {N : Nat} {I : Nat → Shared → Prop} (hl : GQ.ListI prog w A (fun e s' => R (.error e) s') l b N I) (fin : ∀ s, I N s → R (.ok (.ret (.bool false))) s) : ∀ (k i : Nat), N - i = k → i ≤ N → ∀ s, I i s →
    wpAny (model prog w) A.in1 (Builtin.«list.__eq__.loop» ⟨[.ref l, .ref b, rawInt i, rawInt 3], []⟩) (GQ.FinOf prog w A R) (fun e s' => R (.error e) s') s
  | 0, i, hk, hi, s, h => by
    obtain ⟨xs, ys, n, m, g1, g2, z1, z2, _⟩ := hl _ _ h
    obtain rfl : i = N := by omega
    have last := fin s h
    obtain ⟨hp, g, d, tk, os⟩ := s
    wp_walk using wpAny_loadPart' g1, wpAny_loadPart' g2
    rw [show xs[((i : Nat) : Int).toNat]? = none from by simp; omega, show ys[((i : Nat) : Int).toNat]? = none from by simp; omega]
    wp_walk using wpAny_loadPart' g1, wpAny_loadPart' g2
    show R (.ok (.ret (.bool (xs.size != ys.size)))) _
    rw [z1, z2]
    simpa using last
  | k + 1, i, hk, hi, s, h => by
    obtain ⟨xs, ys, n, m, g1, g2, z1, z2, step⟩ := hl _ _ h
    have i1 : i < xs.size := by omega
    have i2 : i < ys.size := by omega
    have one := step i1 i2
    obtain ⟨hp, g, d, tk, os⟩ := s
    wp_walk using wpAny_loadPart' g1, wpAny_loadPart' g2
    rw [show xs[((i : Nat) : Int).toNat]? = some xs[i] from by simp [i1], show ys[((i : Nat) : Int).toNat]? = some ys[i] from by simp [i2]]
    refine wpAny_bind (wpAny_mono one (fun r s2 q2 => ?_) fun _ _ x => x)
    obtain ⟨er, q2⟩ := q2
    subst er
    have more := neLoop hl fin k (i + 1) (by omega) (by omega) s2 q2
    obtain ⟨hp2, g', d', tk', os'⟩ := s2
    wp_walk
    rw [show ((i : Int) + 1) = ((i + 1 : Nat) : Int) from by omega]
    refine ⟨plainId_quiet plain_eq_loop _, codeAny_builtin entry_eq_loop ?_⟩
    rw [Around.under_plainId plain_eq_loop _]
    exact more
theorem listNe {l b : Addr} {N : Nat} {I : Nat → Shared → Prop} (hl : GQ.ListI prog w A (fun e s' => R (.error e) s') l b N I) (fin : ∀ s, I N s → R (.ok (.ret (.bool false))) s) {s : Shared} (h : I 0 s) :
    wpAny (model prog w) A.in1 (Builtin.«list.__ne__» ⟨[.ref l, .ref b], []⟩) (GQ.FinOf prog w A R) (fun e s' => R (.error e) s') s := by
  obtain ⟨xs, ys, n, m, g1, g2, z1, z2, _⟩ := hl _ _ h
  have all := neLoop hl fin _ 0 rfl (Nat.zero_le _) s h
  obtain ⟨hp, g, d, tk, os⟩ := s
  have sub := AutoSeq1.sub_list_list
  have same : ¬ (xs.size != ys.size) = true := by simp [z1, z2]
  wp_walk using wpAny_loadPart' g1, wpAny_loadPart' g2
  refine ⟨plainId_quiet plain_eq_loop _, codeAny_builtin entry_eq_loop ?_⟩
  rw [Around.under_plainId plain_eq_loop _]
  exact all
end
end G
namespace G
open PySem PySem.Spec PyProof.Rows L2
def rNeG (D : L2.Eqv) : R2 := fun x y H Q => DList D x y H ∧ ∀ H', L2.Ext H H' → Q (.bl false) H'
theorem op_neG {X : Cx} {n : Nat} {D : L2.Eqv} (hD : Mon D) (h : EqG X n D) (hr : Room (n + 1) X.A) : OpR X (compareOp .NotEq) (rNeG D) := by
  intro pins s σ H x y v u Q I rx ry hq
  obtain ⟨⟨a, b, xs, ys, rfl, rfl, ha, hb, p⟩, q⟩ := hq
  cases rx
  cases ry
  have sb : Sub X (n + 1) X.A := ⟨hr, rfl⟩
  have li : GQ.ListI X.prog X.w X.A X.xe a b xs.length (fun _ s' => LoopI X pins σ H s') := fun i s' lp => by
    obtain ⟨H1, I1, e1⟩ := id lp
    obtain ⟨z, is1, k1, r1, g1⟩ := I1.hok a _ (e1 _ _ ha)
    obtain ⟨z', is2, k2, r2, g2⟩ := I1.hok b _ (e1 _ _ hb)
    exact ⟨is1.toArray, is2.toArray, k1, k2, g1, g2, by rw [List.size_toArray, ← r1.length], by rw [List.size_toArray, ← r2.length, ← p.1], fun h1 h2 => turnG hD h sb p r1 r2 i h1 h2 s' lp⟩
  have st : LoopI X pins σ H s := ⟨H, I, Ext.rfl'⟩
  obtain ⟨o1, o2, m1, m2, g1, g2, _⟩ := li 0 s st
  show wpAny (model X.prog X.w) X.A (richCompare .NotEq (.ref a) (.ref b)) (EP X pins σ Q) X.xe s
  refine wpAny_richCompare_same_room (op := .NotEq) ⟨_, g1, rfl⟩ ⟨_, g2, rfl⟩ F.slot_list_ne (GQ.call_here F.slot_list_ne ⟨_, g1, rfl⟩ F.entry_list_ne (F.args_list_ne_2 _ _) ?_) sb.room.units0
  refine listNe (R := wants (fun v s' => v ≠ .notImplemented ∧ EP X pins σ Q v s') X.xe) li (fun s' lp => ⟨(fun x => nomatch x), ?_⟩) st
  obtain ⟨H', I', e'⟩ := lp
  exact ⟨.bl false, H', I', rfl, q H' e'⟩
end G
set_option Elab.async false
set_option linter.all false
set_option maxRecDepth 100000
/-! ### truth, call and membership by a class's own methods -/
namespace G
open PySem PySem.Spec PySem.Calls PyProof.Rows L2
def rTru (C : Addr) (sp : Sp) : V → Hp → (Bool → Hp → Prop) → Prop := fun x H Q => ∃ a dx fs, x = .ref a ∧ H a = some (.ins C dx fs) ∧ sp [.ref a] H (fun v H' => ∃ b, v = .bl b ∧ Q b H') E0
def tOwnCall (C : Addr) (sp : Sp) (ta : TE) (t : TA) : TE := fun σ H Q => ta σ H fun x H1 => ∃ a dx fs, x = .ref a ∧ H1 a = some (.ins C dx fs) ∧ t σ H1 fun vs H2 => (∃ dy gs, H2 a = some (.ins C dy gs)) ∧ sp (.ref a :: vs) H2 Q E0
def rInOwn (C : Addr) (sp : Sp) : R2 := fun x y H Q => ∃ a dx fs, y = .ref a ∧ H a = some (.ins C dx fs) ∧ sp [.ref a, x] H (fun v H' => ∃ b, v = .bl b ∧ Q (.bl b) H') E0
theorem callWith_inst {M : Model} {A : Around} {E : Value → Shared → Prop} {s : Shared} {env : Env} {pos : Pos} {x : Addr} {e : Expr} {es : List Expr} {Q : Value → Shared → Prop} (hst : starEach (e :: es) env = (false, eval e env) :: starEach es env) (hpl : (backTo pos (starEach es env)).any (·.1) = false)
    (h : wpAny M A (spliced (backTo pos (starEach (e :: es) env))) (fun vs s₁ => PySem.W.Looks M s₁.heap (keeperOf (.ref x)) .caller ∧ wpAny M A (call (.ref x) vs) Q E s₁) E s) :
    wpAny M A (callWith pos (.ref x) [] (backTo pos (starEach (e :: es) env)) []) Q E s := by
  rw [hst] at h ⊢
  have plain : (((backTo pos ((false, eval e env) :: starEach es env)).any (·.1)) || ([] : List (Option Str × Sem Value)).any (·.1.isNone)) = false := by
    show ((false || (backTo pos (starEach es env)).any (·.1)) || false) = false
    rw [hpl]; rfl
  unfold callWith
  refine wpAny_bind (wpAny_holding (wpAny_mono (evalArgs_plain (Q := fun a s₁ => PySem.W.Looks M s₁.heap (keeperOf (.ref x)) .caller ∧ wpAny M A (call (.ref x) a.pos a.kw) Q E s₁) h) (fun a s₁ h₁ => wpAny_bind (wpAny_standAt ?_)) fun _ _ y => y))
  simp only [plain]
  refine wpAny_bind (h₁.1.here ?_)
  refine wpAny_bind (wpAny_mono (wpAny_operateT h₁.2) (fun r s₂ hr => wpAny_bind (wpAny_holding (wpAny_point (wpAny_pure hr)))) fun _ _ y => y)
section
variable {X : Cx} {k : Nat} {C : Addr} {ps : List Str} {sp : Sp}
theorem inst_of {pins : List (Addr × Obj)} {σ : L2.St} {H : Hp} {s : Shared} {a dx : Addr} {fs : List (Str × V)} (I : Inv X pins σ H s) (h : H a = some (.ins C dx fs)) : ∃ ox od, PySem.W.InstAt s.heap a ox C od ∧ ox.data = .plain := by
  obtain ⟨m, J, _⟩ := ins_get I.hok h
  obtain ⟨od, J, _⟩ := J.look
  exact ⟨_, _, J, rfl⟩
theorem tru_own (M : MethOk X.prog X.w X.K X.mg X.base C "__bool__" k ps sp) (hr : Room k X.A) : TruR X (rTru C sp) := by
  intro pins s σ H x v Q I rx h
  obtain ⟨f, fd, F, hm, hb⟩ := M.ex
  obtain ⟨a, dx, fs, rfl, ha, q⟩ := h
  cases rx
  obtain ⟨ox, od, J, _⟩ := inst_of I ha
  obtain ⟨m, hF⟩ := I.fr
  refine PySem.W.truthy_K hF I.ok.mod.kin J hm.at_ hm.fn (wpAny_mono (run_fn (vs := [.ref a]) F hr hb .nil pass0 I (.cons rfl .nil) q) (fun r s' hq => ?_) fun _ _ e => e)
  obtain ⟨z, H', I', rz, b, rfl, q'⟩ := hq
  cases rz
  exact ⟨H', I', q'⟩
theorem op_inOwn (M : MethOk X.prog X.w X.K X.mg X.base C "__contains__" k ps sp) (hr : Room k X.A) : OpR X (compareOp .In) (rInOwn C sp) := by
  intro pins s σ H x y v u Q I rx ry h
  obtain ⟨f, fd, F, hm, hb⟩ := M.ex
  obtain ⟨a, dx, fs, rfl, ha, q⟩ := h
  cases ry
  obtain ⟨ox, od, J, _⟩ := inst_of I ha
  obtain ⟨m, hF⟩ := I.fr
  refine PySem.W.in_K hF I.ok.mod.kin J hm.at_ hm.fn (wpAny_mono (run_fn (vs := [.ref a, x]) F hr hb .nil pass0 I (.cons rfl (.cons rx .nil)) q) (fun r s' hq => ?_) fun _ _ e => e)
  obtain ⟨z, H', I', rz, b, rfl, q'⟩ := hq
  cases rz
  exact wpAny_truthy_bool ⟨.bl b, H', I', rfl, q'⟩
theorem pe_ownCall {fe e : Expr} {es : List Expr} {ta : TE} {t : TA} {pos : Pos} (M : MethOk X.prog X.w X.K X.mg X.base C "__call__" k ps sp) (hr : Room k X.A) (hfn : ∀ f, Meth X.K C "__call__" f → PySem.W.fnIn X.K f = true) (he : PE X fe ta) (ha : PA X (e :: es) t)
    (ht : eval (.Call fe (e :: es) [] pos) X.env = (do
      let f ← eval fe X.env
      callWith pos f [] (backTo pos (starEach (e :: es) X.env)) (backToKw pos (keywordEach [] X.env))) := by rfl)
    (hst : starEach (e :: es) X.env = (false, eval e X.env) :: starEach es X.env := by rfl) (hpl : (backTo pos (starEach es X.env)).any (·.1) = false := by rfl) :
    PE X (.Call fe (e :: es) [] pos) (tOwnCall C sp ta t) := by
  refine ⟨fun pins s σ H Q I h => ?_⟩
  obtain ⟨f, fd, F, hm, hb⟩ := M.ex
  rw [ht]
  refine wpAny_bind (thn (he.run pins s σ H _ I h) fun u s1 ⟨x, H1, I1, rx, a, dx, fs, ex, h1, z⟩ => ?_)
  subst ex
  cases rx
  refine callWith_inst hst hpl (thn (ha.run pos pins s1 σ H1 _ I1 z) fun us s2 ⟨vs, H2, I2, r, ⟨dy, gs, h2⟩, q⟩ => ?_)
  obtain ⟨ox, od, J, hd⟩ := inst_of I2 h2
  refine ⟨PySem.W.kco_keeper J hd, wpAny_call (PySem.W.kco_code (f := f) (a := ⟨us, []⟩) I2.kIn J hd hm.at_ hm.fn (hfn f hm) ?_)⟩
  have r2 : Vals (V.ref a :: vs) (Value.ref a :: us) := .cons rfl r
  have hl := F.len _ _ _ _ q
  refine codeAny_mono (F.run X.A X.stack s2 H2 ⟨.ref a :: us, []⟩ (.ref a :: us) (.ref a :: vs) Q E0 hr I2.env0 (by
    have := hb s2 (.ref a :: us) I2.kIn (by rw [List.append_nil, ← r2.length]; exact hl)
    simpa using this) r2 q) fun r s' hq => ?_
  cases r with
  | error e => exact False.elim hq
  | ok fl =>
    cases fl with
    | ret w =>
      obtain ⟨z, H', I', rz, q'⟩ := I2.after hq
      exact ⟨z, H', I', rz, q'⟩
    | next => exact False.elim hq
    | brk => exact False.elim hq
    | cont => exact False.elim hq
end
end G
set_option Elab.async false
set_option linter.all false
set_option maxRecDepth 100000
/-! ### any of a row of ints -/
namespace G
open PySem PySem.Spec PyProof.Rows L2
theorem dpa_ints {K : PySem.W.Frag} {H : Hp} : ∀ c : List Int, DpAll K H (c.map V.int) (c.map PyData.int)
  | [] => .nil
  | x :: c => .cons (.int x) (dpa_ints c)
theorem plain_ints : ∀ c : List Int, PyData.plainAll (c.map PyData.int) = true
  | [] => rfl
  | x :: c => by
    show (PyData.plain (.int x) && PyData.plainAll (c.map PyData.int)) = true
    rw [plain_ints c]; rfl
def rAnyT (K : PySem.W.Frag) : List V → Hp → VK → Prop := fun vs H Q => ∃ (a : Addr) (c : List Int), vs = [V.ref a] ∧ SqT K H a (c.map V.int) ∧ Q (.bl (c.any (· != 0))) H
theorem cr_anyT {X : Cx} (hc : X.calm = true) : CallR X (.builtin "any") (rAnyT X.K) := by
  intro pins s σ H vs us Q I r h
  obtain ⟨a, c, rfl, hs, q⟩ := h
  obtain ⟨its, rv, hl, _⟩ := I.tuple hs
  rw [Vals.ref1 r]
  obtain ⟨as, hr⟩ := Dp.readsAll I _ _ _ (dpa_ints c) rv
  refine PySem.W.any_tuple_data (I.ok.hd hc) hl hr (plain_ints c) (fun x m => ?_) fun h' tk hk => ?_
  · obtain ⟨i, _, rfl⟩ := List.mem_map.mp m
    trivial
  · refine ⟨.bl _, H, I.kept hk, rfl, ?_⟩
    rw [List.any_map]
    exact q
end G
set_option Elab.async false
set_option linter.all false
set_option maxRecDepth 100000
/-! ### a static method without arguments -/
namespace G
open PySem PySem.Spec PyProof.Rows L2
theorem pe_statD0 {X : Cx} {k : Nat} {C : Addr} {m : Str} {ps : List Str} {sp : Sp} {o : Expr} {ta : TE} {apos pos : Pos} {pl : Sem Bool} (M : StatOk X.prog X.w X.K X.mg X.base C m k ps sp) (he : PE X o ta) (hr : Room k X.A)
    (ht : eval (.Call (.Attribute o m apos) [] [] pos) X.env = (do
      let ov ← eval o X.env
      standAt apos.atName
      let (f, first) ← holding [ov] (getMethod ov m pl)
      callWith pos f first (backTo pos (starEach [] X.env)) (backToKw pos (keywordEach [] X.env))) := by rfl) :
    PE X (.Call (.Attribute o m apos) [] [] pos) (tSMeth C sp ta tNil) := by
  obtain ⟨mc, q, g, fd, F, c, hb⟩ := M.ex
  refine ⟨fun pins s σ H Q I h => PySem.W.methodCall_KW (pl := pl) (thn (he.run pins s σ H _ I h) fun u s1 ⟨x, H1, I1, rx, ex, z⟩ => ?_) ht⟩
  subst ex
  obtain rfl : u = Value.ref C := rx
  refine getsm_ok I1 c fun s2 I2 => PySem.W.callWith_K0 (first := []) I2.kIn c.kp ?_
  exact run_fn (us := []) (vs := []) (dvs := []) F hr hb .nil pass0 I2 .nil z
end G
set_option linter.all false
namespace G
/-! ### fours by their halves -/
structure Q4 where
  a : Int
  b : Int
  c : Int
  d : Int
deriving DecidableEq
namespace Q4
def Par (u : Q4) : Prop := u.a % 2 = u.b % 2 ∧ u.a % 2 = u.c % 2 ∧ u.a % 2 = u.d % 2
def add (u v : Q4) : Q4 := ⟨u.a + v.a, u.b + v.b, u.c + v.c, u.d + v.d⟩
def sub (u v : Q4) : Q4 := ⟨u.a - v.a, u.b - v.b, u.c - v.c, u.d - v.d⟩
def neg (u : Q4) : Q4 := ⟨-u.a, -u.b, -u.c, -u.d⟩
def mir (u : Q4) : Q4 := ⟨u.a, -u.b, -u.c, -u.d⟩
def mul (u v : Q4) : Q4 :=
  ⟨(u.a * v.a - u.b * v.b - u.c * v.c - u.d * v.d) / 2, (u.a * v.b + u.b * v.a + u.c * v.d - u.d * v.c) / 2,
   (u.a * v.c - u.b * v.d + u.c * v.a + u.d * v.b) / 2, (u.a * v.d + u.b * v.c - u.c * v.b + u.d * v.a) / 2⟩
def size (u : Q4) : Int := (u.a * u.a + u.b * u.b + u.c * u.c + u.d * u.d) / 4
theorem Par.wit {u : Q4} (h : u.Par) : ∃ x y z, u.b = u.a + 2 * x ∧ u.c = u.a + 2 * y ∧ u.d = u.a + 2 * z := by
  obtain ⟨h1, h2, h3⟩ := h
  exact ⟨(u.b - u.a) / 2, (u.c - u.a) / 2, (u.d - u.a) / 2, by omega, by omega, by omega⟩
theorem Par.mk' {u : Q4} {x y z : Int} (h1 : u.b = u.a + 2 * x) (h2 : u.c = u.a + 2 * y) (h3 : u.d = u.a + 2 * z) : u.Par := ⟨by omega, by omega, by omega⟩
theorem half_eq {n m : Int} (h : n = 2 * m) : n / 2 = m := by omega
/-- the halves of a product, doubled -/
structure Dbl (u v : Q4) : Prop where
  a : 2 * (mul u v).a = u.a * v.a - u.b * v.b - u.c * v.c - u.d * v.d
  b : 2 * (mul u v).b = u.a * v.b + u.b * v.a + u.c * v.d - u.d * v.c
  c : 2 * (mul u v).c = u.a * v.c - u.b * v.d + u.c * v.a + u.d * v.b
  d : 2 * (mul u v).d = u.a * v.d + u.b * v.c - u.c * v.b + u.d * v.a
theorem mul_all {u v : Q4} (hu : u.Par) (hv : v.Par) : Dbl u v ∧ (mul u v).Par := by
  obtain ⟨x, y, z, h1, h2, h3⟩ := hu.wit
  obtain ⟨p, q, r, k1, k2, k3⟩ := hv.wit
  have ea : u.a * v.a - u.b * v.b - u.c * v.c - u.d * v.d = 2 * (-(u.a * v.a) - u.a * p - x * v.a - 2 * x * p - u.a * q - y * v.a - 2 * y * q - u.a * r - z * v.a - 2 * z * r) := by rw [h1, h2, h3, k1, k2, k3]; grind
  have eb : u.a * v.b + u.b * v.a + u.c * v.d - u.d * v.c = 2 * (u.a * v.a + u.a * p + x * v.a + u.a * r + y * v.a + 2 * y * r - u.a * q - z * v.a - 2 * z * q) := by rw [h1, h2, h3, k1, k2, k3]; grind
  have ec : u.a * v.c - u.b * v.d + u.c * v.a + u.d * v.b = 2 * (u.a * v.a + u.a * q + y * v.a - u.a * r - x * v.a - 2 * x * r + u.a * p + z * v.a + 2 * z * p) := by rw [h1, h2, h3, k1, k2, k3]; grind
  have ed : u.a * v.d + u.b * v.c - u.c * v.b + u.d * v.a = 2 * (u.a * v.a + u.a * r + z * v.a + u.a * q + x * v.a + 2 * x * q - u.a * p - y * v.a - 2 * y * p) := by rw [h1, h2, h3, k1, k2, k3]; grind
  have fa := half_eq ea
  have fb := half_eq eb
  have fc := half_eq ec
  have fd := half_eq ed
  refine ⟨⟨?_, ?_, ?_, ?_⟩, Par.mk' (x := u.a * v.a + u.a * p + x * v.a + x * p + u.a * r + y * v.a + y * r + y * q - z * q + z * r) (y := u.a * v.a + u.a * q + y * v.a + y * q + x * p - x * r + u.a * p + z * v.a + z * p + z * r) (z := u.a * v.a + u.a * r + z * v.a + z * r + u.a * q + x * v.a + x * q + x * p + y * q - y * p) ?_ ?_ ?_⟩
  · show 2 * (_ / 2) = _; rw [fa, ea]
  · show 2 * (_ / 2) = _; rw [fb, eb]
  · show 2 * (_ / 2) = _; rw [fc, ec]
  · show 2 * (_ / 2) = _; rw [fd, ed]
  · show _ / 2 = _ / 2 + _; rw [fa, fb]; grind
  · show _ / 2 = _ / 2 + _; rw [fa, fc]; grind
  · show _ / 2 = _ / 2 + _; rw [fa, fd]; grind
theorem ext {u v : Q4} (h1 : u.a = v.a) (h2 : u.b = v.b) (h3 : u.c = v.c) (h4 : u.d = v.d) : u = v := by
  cases u; cases v; simp_all
theorem size4 {u : Q4} (hu : u.Par) : 4 * size u = u.a * u.a + u.b * u.b + u.c * u.c + u.d * u.d := by
  obtain ⟨x, y, z, h1, h2, h3⟩ := hu.wit
  have e : u.a * u.a + u.b * u.b + u.c * u.c + u.d * u.d = 4 * (u.a * u.a + u.a * x + u.a * y + u.a * z + x * x + y * y + z * z) := by rw [h1, h2, h3]; grind
  show 4 * (_ / 4) = _
  omega
theorem add_par {u v : Q4} (hu : u.Par) (hv : v.Par) : (add u v).Par := by
  obtain ⟨h1, h2, h3⟩ := hu; obtain ⟨k1, k2, k3⟩ := hv
  refine ⟨?_, ?_, ?_⟩ <;> simp only [add] <;> omega
theorem sub_par {u v : Q4} (hu : u.Par) (hv : v.Par) : (sub u v).Par := by
  obtain ⟨h1, h2, h3⟩ := hu; obtain ⟨k1, k2, k3⟩ := hv
  refine ⟨?_, ?_, ?_⟩ <;> simp only [sub] <;> omega
theorem neg_par {u : Q4} (hu : u.Par) : (neg u).Par := by
  obtain ⟨h1, h2, h3⟩ := hu
  refine ⟨?_, ?_, ?_⟩ <;> simp only [neg] <;> omega
theorem mir_par {u : Q4} (hu : u.Par) : (mir u).Par := by
  obtain ⟨h1, h2, h3⟩ := hu
  refine ⟨?_, ?_, ?_⟩ <;> simp only [mir] <;> omega
def whole (n : Int) : Q4 := ⟨2 * n, 0, 0, 0⟩
theorem whole_par (n : Int) : (whole n).Par := by refine ⟨?_, ?_, ?_⟩ <;> simp only [whole] <;> omega
theorem two_eq {x y : Int} (h : 2 * x = 2 * y) : x = y := by omega
theorem assoc {u v w : Q4} (hu : u.Par) (hv : v.Par) (hw : w.Par) : mul (mul u v) w = mul u (mul v w) := by
  obtain ⟨A, pA⟩ := mul_all hu hv
  obtain ⟨B, pB⟩ := mul_all hv hw
  obtain ⟨C, _⟩ := mul_all pA hw
  obtain ⟨D, _⟩ := mul_all hu pB
  have a1 := A.a; have a2 := A.b; have a3 := A.c; have a4 := A.d
  have b1 := B.a; have b2 := B.b; have b3 := B.c; have b4 := B.d
  have c1 := C.a; have c2 := C.b; have c3 := C.c; have c4 := C.d
  have d1 := D.a; have d2 := D.b; have d3 := D.c; have d4 := D.d
  generalize mul (mul u v) w = S at *
  generalize mul u (mul v w) = T at *
  generalize mul u v = m at *
  generalize mul v w = n at *
  have ea : S.a = T.a := by
    have h1 : 4 * S.a = (2 * m.a) * w.a - (2 * m.b) * w.b - (2 * m.c) * w.c - (2 * m.d) * w.d := by
      have : 4 * S.a = 2 * (2 * S.a) := by omega
      rw [this, c1]; grind
    have h2 : 4 * T.a = u.a * (2 * n.a) - u.b * (2 * n.b) - u.c * (2 * n.c) - u.d * (2 * n.d) := by
      have : 4 * T.a = 2 * (2 * T.a) := by omega
      rw [this, d1]; grind
    have h3 : 4 * S.a = 4 * T.a := by
      rw [h1, h2, a1, a2, a3, a4, b1, b2, b3, b4]; grind
    omega
  have eb : S.b = T.b := by
    have h1 : 4 * S.b = (2 * m.a) * w.b + (2 * m.b) * w.a + (2 * m.c) * w.d - (2 * m.d) * w.c := by
      have : 4 * S.b = 2 * (2 * S.b) := by omega
      rw [this, c2]; grind
    have h2 : 4 * T.b = u.a * (2 * n.b) + u.b * (2 * n.a) + u.c * (2 * n.d) - u.d * (2 * n.c) := by
      have : 4 * T.b = 2 * (2 * T.b) := by omega
      rw [this, d2]; grind
    have h3 : 4 * S.b = 4 * T.b := by
      rw [h1, h2, a1, a2, a3, a4, b1, b2, b3, b4]; grind
    omega
  have ec : S.c = T.c := by
    have h1 : 4 * S.c = (2 * m.a) * w.c - (2 * m.b) * w.d + (2 * m.c) * w.a + (2 * m.d) * w.b := by
      have : 4 * S.c = 2 * (2 * S.c) := by omega
      rw [this, c3]; grind
    have h2 : 4 * T.c = u.a * (2 * n.c) - u.b * (2 * n.d) + u.c * (2 * n.a) + u.d * (2 * n.b) := by
      have : 4 * T.c = 2 * (2 * T.c) := by omega
      rw [this, d3]; grind
    have h3 : 4 * S.c = 4 * T.c := by
      rw [h1, h2, a1, a2, a3, a4, b1, b2, b3, b4]; grind
    omega
  have ed : S.d = T.d := by
    have h1 : 4 * S.d = (2 * m.a) * w.d + (2 * m.b) * w.c - (2 * m.c) * w.b + (2 * m.d) * w.a := by
      have : 4 * S.d = 2 * (2 * S.d) := by omega
      rw [this, c4]; grind
    have h2 : 4 * T.d = u.a * (2 * n.d) + u.b * (2 * n.c) - u.c * (2 * n.b) + u.d * (2 * n.a) := by
      have : 4 * T.d = 2 * (2 * T.d) := by omega
      rw [this, d4]; grind
    have h3 : 4 * S.d = 4 * T.d := by
      rw [h1, h2, a1, a2, a3, a4, b1, b2, b3, b4]; grind
    omega
  exact ext ea eb ec ed
theorem dist {u v w : Q4} (hu : u.Par) (hv : v.Par) (hw : w.Par) : mul u (add v w) = add (mul u v) (mul u w) := by
  obtain ⟨A, _⟩ := mul_all hu hv
  obtain ⟨B, _⟩ := mul_all hu hw
  obtain ⟨C, _⟩ := mul_all hu (add_par hv hw)
  have a1 := A.a; have a2 := A.b; have a3 := A.c; have a4 := A.d
  have b1 := B.a; have b2 := B.b; have b3 := B.c; have b4 := B.d
  have c1 := C.a; have c2 := C.b; have c3 := C.c; have c4 := C.d
  generalize mul u (add v w) = S at *
  generalize mul u v = m at *
  generalize mul u w = n at *
  refine ext ?_ ?_ ?_ ?_ <;> simp only [add] at * <;> grind
theorem dist' {u v w : Q4} (hu : u.Par) (hv : v.Par) (hw : w.Par) : mul (add u v) w = add (mul u w) (mul v w) := by
  obtain ⟨A, _⟩ := mul_all hu hw
  obtain ⟨B, _⟩ := mul_all hv hw
  obtain ⟨C, _⟩ := mul_all (add_par hu hv) hw
  have a1 := A.a; have a2 := A.b; have a3 := A.c; have a4 := A.d
  have b1 := B.a; have b2 := B.b; have b3 := B.c; have b4 := B.d
  have c1 := C.a; have c2 := C.b; have c3 := C.c; have c4 := C.d
  generalize mul (add u v) w = S at *
  generalize mul u w = m at *
  generalize mul v w = n at *
  refine ext ?_ ?_ ?_ ?_ <;> simp only [add] at * <;> grind
theorem mir_mul {u v : Q4} (hu : u.Par) (hv : v.Par) : mir (mul u v) = mul (mir v) (mir u) := by
  obtain ⟨A, _⟩ := mul_all hu hv
  obtain ⟨B, _⟩ := mul_all (mir_par hv) (mir_par hu)
  have a1 := A.a; have a2 := A.b; have a3 := A.c; have a4 := A.d
  have b1 := B.a; have b2 := B.b; have b3 := B.c; have b4 := B.d
  generalize mul (mir v) (mir u) = S at *
  generalize mul u v = m at *
  refine ext ?_ ?_ ?_ ?_ <;> simp only [mir] at * <;> grind
theorem sub_add {u v : Q4} : add (sub u v) v = u := by refine ext ?_ ?_ ?_ ?_ <;> simp only [add, sub] <;> omega
theorem neg_neg {u : Q4} : neg (neg u) = u := by refine ext ?_ ?_ ?_ ?_ <;> simp only [neg] <;> omega
theorem size_mul {u v : Q4} (hu : u.Par) (hv : v.Par) : size (mul u v) = size u * size v := by
  obtain ⟨A, pA⟩ := mul_all hu hv
  have s1 := size4 hu; have s2 := size4 hv; have s3 := size4 pA
  have a1 := A.a; have a2 := A.b; have a3 := A.c; have a4 := A.d
  generalize size (mul u v) = S at *
  generalize mul u v = m at *
  have e : 16 * S = 16 * (size u * size v) := by
    have h : 16 * S = (2 * m.a) * (2 * m.a) + (2 * m.b) * (2 * m.b) + (2 * m.c) * (2 * m.c) + (2 * m.d) * (2 * m.d) := by grind
    have h2 : 16 * (size u * size v) = (4 * size u) * (4 * size v) := by grind
    rw [h, h2, a1, a2, a3, a4, s1, s2]
    grind
  omega
theorem size_mir {u : Q4} : size (mir u) = size u := by simp only [size, mir, Int.neg_mul_neg]
theorem mul_mir {u : Q4} (hu : u.Par) : mul u (mir u) = whole (size u) := by
  obtain ⟨A, _⟩ := mul_all hu (mir_par hu)
  have s1 := size4 hu
  have a1 := A.a; have a2 := A.b; have a3 := A.c; have a4 := A.d
  generalize mul u (mir u) = S at *
  generalize size u = s at *
  refine ext ?_ ?_ ?_ ?_ <;> simp only [mir, whole] at * <;> grind
theorem mul_whole {u : Q4} (hu : u.Par) (n : Int) : mul u (whole n) = mul (whole n) u := by
  obtain ⟨A, _⟩ := mul_all hu (whole_par n)
  obtain ⟨B, _⟩ := mul_all (whole_par n) hu
  have a1 := A.a; have a2 := A.b; have a3 := A.c; have a4 := A.d
  have b1 := B.a; have b2 := B.b; have b3 := B.c; have b4 := B.d
  generalize mul u (whole n) = S at *
  generalize mul (whole n) u = m at *
  refine ext ?_ ?_ ?_ ?_ <;> simp only [whole] at * <;> grind
/-- all below 2 ^ n -/
def Bd (n : Nat) (u : Q4) : Prop := u.a.natAbs < 2 ^ n ∧ u.b.natAbs < 2 ^ n ∧ u.c.natAbs < 2 ^ n ∧ u.d.natAbs < 2 ^ n
theorem Bd.mono {n m : Nat} {u : Q4} (h : Bd n u) (hn : n ≤ m) : Bd m u := by
  have e : 2 ^ n ≤ 2 ^ m := Nat.pow_le_pow_right (by decide) hn
  exact ⟨Nat.lt_of_lt_of_le h.1 e, Nat.lt_of_lt_of_le h.2.1 e, Nat.lt_of_lt_of_le h.2.2.1 e, Nat.lt_of_lt_of_le h.2.2.2 e⟩
theorem mul_bd {i j : Int} {n : Nat} (h1 : i.natAbs < 2 ^ n) (h2 : j.natAbs < 2 ^ n) : (i * j).natAbs < 2 ^ n * 2 ^ n := by
  rw [Int.natAbs_mul]
  exact Nat.mul_lt_mul'' h1 h2
theorem pow4 (n : Nat) : 2 ^ (2 * n + 2) = 4 * (2 ^ n * 2 ^ n) := by
  rw [Nat.pow_add, Nat.two_mul, Nat.pow_add, Nat.mul_comm]
theorem Bd.mul {n : Nat} {u v : Q4} (h : Bd n u) (k : Bd n v) : Bd (2 * n + 2) (Q4.mul u v) := by
  obtain ⟨h1, h2, h3, h4⟩ := h
  obtain ⟨k1, k2, k3, k4⟩ := k
  have m := fun {i j : Int} (x : i.natAbs < 2 ^ n) (y : j.natAbs < 2 ^ n) => mul_bd x y
  refine ⟨?_, ?_, ?_, ?_⟩ <;> rw [pow4]
  · have a := m h1 k1; have b := m h2 k2; have c := m h3 k3; have d := m h4 k4
    simp only [Q4.mul]
    generalize 2 ^ n * 2 ^ n = P at *
    omega
  · have a := m h1 k2; have b := m h2 k1; have c := m h3 k4; have d := m h4 k3
    simp only [Q4.mul]
    generalize 2 ^ n * 2 ^ n = P at *
    omega
  · have a := m h1 k3; have b := m h2 k4; have c := m h3 k1; have d := m h4 k2
    simp only [Q4.mul]
    generalize 2 ^ n * 2 ^ n = P at *
    omega
  · have a := m h1 k4; have b := m h2 k3; have c := m h3 k2; have d := m h4 k1
    simp only [Q4.mul]
    generalize 2 ^ n * 2 ^ n = P at *
    omega
theorem Bd.add {n : Nat} {u v : Q4} (h : Bd n u) (k : Bd n v) : Bd (n + 1) (Q4.add u v) := by
  obtain ⟨h1, h2, h3, h4⟩ := h
  obtain ⟨k1, k2, k3, k4⟩ := k
  refine ⟨?_, ?_, ?_, ?_⟩ <;> rw [Nat.pow_succ] <;> simp only [Q4.add] <;> generalize 2 ^ n = P at * <;> omega
theorem Bd.mir {n : Nat} {u : Q4} (h : Bd n u) : Bd n (Q4.mir u) := by
  obtain ⟨h1, h2, h3, h4⟩ := h
  refine ⟨?_, ?_, ?_, ?_⟩ <;> simp only [Q4.mir, Int.natAbs_neg] <;> assumption
theorem Bd.size {n : Nat} {u : Q4} (h : Bd n u) : (Q4.size u).natAbs < 2 ^ (2 * n + 2) := by
  obtain ⟨h1, h2, h3, h4⟩ := h
  have a := mul_bd h1 h1; have b := mul_bd h2 h2; have c := mul_bd h3 h3; have d := mul_bd h4 h4
  rw [pow4]
  simp only [Q4.size]
  generalize 2 ^ n * 2 ^ n = P at *
  omega
end Q4
end G
set_option Elab.async false
set_option linter.all false
set_option maxRecDepth 100000
namespace G
open PySem PySem.Spec PyProof.Rows L2
open AutoSeq1 (wpAny_loadPart')
/-! ### a tuple taken once, or no times -/
theorem tupOnce (l : Addr) (items : Array Value) (n : Nat) (dd : Option Addr) (sl : Array (Option Value)) (u : Tok) :
    Meets (Builtin.«tuple.__mul__» ⟨[.ref l, .int 1 u], []⟩) (fun _ R s => s.heap.get? l = some { cls := .type "tuple", dict := dd, data := .seq items n, slots := sl } ∧ R (.ok (.ret (Value.ref l))) s) :=
  .of_wp fun prog w A R s h => by
    obtain ⟨hp, g, d, tk, os⟩ := s
    obtain ⟨hl, h⟩ := h
    have f1 := AutoSeq1.idx_int
    wp_walk using wpAny_loadPart' hl
    exact ⟨_, rfl, h⟩
theorem tupNone (l : Addr) (items : Array Value) (n : Nat) (dd : Option Addr) (sl : Array (Option Value)) (u : Tok) (hi : items.isEmpty = false) :
    Meets (Builtin.«tuple.__mul__» ⟨[.ref l, .int 0 u], []⟩) (fun _ R s => s.heap.get? l = some { cls := .type "tuple", dict := dd, data := .seq items n, slots := sl } ∧
      R (.ok (.ret (Value.ref s.heap.objs.size))) { s with heap := s.heap.push { cls := Value.type "tuple", data := Data.seq #[] }, toks := s.toks }) :=
  .of_wp fun prog w A R s h => by
    obtain ⟨hp, g, d, tk, os⟩ := s
    obtain ⟨hl, h⟩ := h
    have f1 := AutoSeq1.idx_int
    wp_walk using wpAny_loadPart' hl
    exact ⟨_, rfl, h⟩
/-- a tuple that is not empty, times a small number -/
def rRepA (K : PySem.W.Frag) : R2 := fun x y H Q => ∃ (l : Addr) (k : Int) (xs : List V), x = .ref l ∧ y = .int k ∧ SqT K H l xs ∧ xs ≠ [] ∧ 0 ≤ k ∧ k ≤ 1000 ∧ xs.length ≤ 1000 ∧ (k = 1 → Q (.ref l) H) ∧ (k ≠ 1 → ∀ p, H p = none → Q (.ref p) (upd H p (.tup (List.replicate k.toNat xs).flatten)))
theorem op_repA {X : Cx} : OpR X (binaryOp .Mult) (rRepA X.K) := by
  intro pins s σ H x y v u Q I rx ry h
  obtain ⟨l, k, xs, ex, ey, hT, hne, k0, k9, hz, q1, q2⟩ := h
  rcases (by omega : k = 0 ∨ k = 1 ∨ 2 ≤ k) with hk | hk | hk
  · subst hk; subst ex; subst ey
    cases rx
    obtain ⟨t, rfl⟩ := ry
    obtain ⟨its, r, ⟨⟨cls, dd, data, sl⟩, ho, hc, n, hd⟩, hs⟩ := I.tuple hT
    simp only at hc hd
    subst hc hd
    have hi : its.toArray.isEmpty = false := by
      cases its with
      | nil => cases r; exact absurd rfl hne
      | cons a b => rfl
    refine wpAny_binaryOp_repeat_ref (T := "tuple") (U := "int") (by decide) ⟨_, ho, rfl⟩ (fun s' => typeIs_int s' 0 t) noFill_tuple_mul F.fills_int_mul F.slot_int_rmul repeat_tuple F.slot_int_index.lookup (call_meets F.slot_int_rmul (typeIs_int s 0 t) F.entry_int_rmul (F.args_int_rmul_2 _ _) (int_rmul_tuple 0 t l its.toArray n dd sl)
      ⟨ho, rfl, ⟨_, ho, rfl⟩, call_meets F.slot_tuple_mul ⟨_, ho, rfl⟩ F.entry_tuple_mul (F.args_tuple_mul_2 _ _) (tupNone l its.toArray n dd sl t hi) ⟨ho, ?_⟩⟩)
    refine ⟨.ref s.heap.objs.size, _, I.laid (t' := s.toks) (o := .tup []) (fun b ob z => Heap.get?_push_of_some _ z) (Nat.le_refl _) ?_, rfl, q2 (by decide) _ (I.hok.fresh (Nat.le_refl _))⟩
    exact ⟨Nat.zero_le _, [], .nil, IsTup.new _ _⟩
  · subst hk; subst ex; subst ey
    cases rx
    obtain ⟨t, rfl⟩ := ry
    obtain ⟨its, r, ⟨⟨cls, dd, data, sl⟩, ho, hc, n, hd⟩, hs⟩ := I.tuple hT
    simp only at hc hd
    subst hc hd
    refine wpAny_binaryOp_repeat_ref (T := "tuple") (U := "int") (by decide) ⟨_, ho, rfl⟩ (fun s' => typeIs_int s' 1 t) noFill_tuple_mul F.fills_int_mul F.slot_int_rmul repeat_tuple F.slot_int_index.lookup (call_meets F.slot_int_rmul (typeIs_int s 1 t) F.entry_int_rmul (F.args_int_rmul_2 _ _) (int_rmul_tuple 1 t l its.toArray n dd sl)
      ⟨ho, rfl, ⟨_, ho, rfl⟩, call_meets F.slot_tuple_mul ⟨_, ho, rfl⟩ F.entry_tuple_mul (F.args_tuple_mul_2 _ _) (tupOnce l its.toArray n dd sl t) ⟨ho, ?_⟩⟩)
    exact ⟨.ref l, H, I, rfl, q1 rfl⟩
  · exact op_repT pins s σ H x y v u Q I rx ry ⟨l, k, xs, ex, ey, hT, hne, hk, k9, hz, q2 (by omega)⟩
end G
set_option Elab.async false
set_option linter.all false
set_option maxRecDepth 100000
set_option maxHeartbeats 1000000
/-! ### rows of ints, of any sign: their order, and sorted -/
namespace G
open PySem PySem.Spec PyProof.Rows L2
/-- rows told in the order of tuples -/
abbrev rowLt (c d : List Int) : Bool := HT.lexLt c d
section
variable {prog : Program} {w : World} {A : Around} {s : Shared}
/-- what a pair of rows is asked, from place i on -/
theorem rows_lex {b fin : Bool} {Q : Bool → Shared → Prop} : ∀ (c d : List Int) (us vs : List Value) (i : Nat), IntsAre us c → IntsAre vs d → fin = decide (c.length < d.length) → Q (rowLt c d) s →
    PySem.W.KatLex prog w A b fin Q (us.zip vs) i s := by
  intro c
  induction c with
  | nil =>
    intro d us vs i hu hv hf q
    cases hu
    refine PySem.W.kat_nil ?_
    rw [hf]
    cases d with
    | nil => exact q
    | cons y d => exact q
  | cons x c ih =>
    intro d us vs i hu hv hf q
    cases hu with
    | cons _ t hu =>
      cases hv with
      | nil =>
        refine PySem.W.kat_nil ?_
        rw [hf]
        exact q
      | @cons y u vs d hv =>
        refine PySem.W.kat_cons (wpAny_eqBool_int ?_)
        have q' : Q (if x = y then rowLt c d else decide (x < y)) s := q
        cases e : x == y with
        | true =>
          rw [if_pos (by simpa using e)] at q'
          exact PySem.W.kat_yes (ih d _ vs (i + 1) hu hv (by rw [hf]; simp) q')
        | false =>
          rw [if_neg (by simpa using e)] at q'
          exact PySem.W.kat_no (TS.oneLt_ints _ q')
/-- at v stands the row c, which is not empty -/
def RowOf (h : Heap) (v : Value) (c : List Int) : Prop := ∃ (a : Addr) (o : Obj) (n : Nat) (us : Array Value), v = .ref a ∧ h.get? a = some o ∧ o.cls = .type "tuple" ∧ o.data = .seq us n ∧ IntsAre us.toList c ∧ c ≠ []
theorem RowOf.on {h h' : Heap} {v : Value} {c : List Int} (r : RowOf h v c) (k : ∀ b o, v = .ref b → h.get? b = some o → h'.get? b = some o) : RowOf h' v c := by
  obtain ⟨a, o, n, us, e, g, z⟩ := r
  exact ⟨a, o, n, us, e, k _ _ e g, z⟩
theorem rows_heads {h : Heap} {k : Value → List Int} : ∀ vs : List Value, (∀ v ∈ vs, RowOf h v (k v)) → ∃ fs : List Value, PySem.W.KatTups h vs fs ∧ fs.length = vs.length ∧ ∀ f ∈ fs, ∃ i t, f = Value.int i t
  | [], _ => ⟨[], PySem.W.KatTups.nil, rfl, fun f m => by cases m⟩
  | v :: vs, r => by
    obtain ⟨fs, t, l, i⟩ := rows_heads vs fun u m => r u (.tail _ m)
    obtain ⟨a, o, n, us, rfl, g, c, d, z, ne⟩ := r v (.head _)
    match hk : k (.ref a), hu : us.toList, z, ne with
    | x :: _, _ :: _, .cons _ u _, _ =>
      refine ⟨.int x u :: fs, PySem.W.KatTups.cons g c d ?_ t, by rw [List.length_cons, List.length_cons, l], fun f m => ?_⟩
      · rw [← Array.getElem?_toList, hu]; rfl
      · rcases List.mem_cons.mp m with rfl | m
        · exact ⟨_, _, rfl⟩
        · exact i f m
theorem rows_ask {vs : List Value} {k : Value → List Int} (r : ∀ v ∈ vs, RowOf s.heap v (k v)) : SrtO.Cmp prog w A s (tuples' true) (fun p => p.1 ∈ vs) (SrtO.lt2 fun u v => rowLt (k u) (k v)) := by
  rintro ⟨u, u'⟩ ⟨v, v'⟩ hu hv
  have r1 := r u hu
  have r2 := r v hv
  show wpAny _ _ (keyLt' (tuples' true) u v) (fun b s' => s' = s ∧ b = rowLt (k u) (k v)) _ s
  obtain ⟨a, o, n, us, e, g, c, d, z, _⟩ := r1
  obtain ⟨a', o', n', us', e', g', c', d', z', _⟩ := r2
  rw [e, e']
  rw [e] at z; rw [e'] at z'
  refine PySem.W.kat_lt g d g' d' (rows_lex _ _ _ _ 0 z z' ?_ ⟨rfl, rfl⟩)
  rw [← z.length, ← z'.length, Array.length_toList, Array.length_toList]
end
/-- x is the row c -/
def RowV (K : PySem.W.Frag) (H : Hp) (x : V) (c : List Int) : Prop := ∃ t, x = V.ref t ∧ SqT K H t (c.map V.int)
/-- what the machine reads of it -/
def readRow (h : Heap) : V → List Int
  | .ref a => TS.intsOf h (.ref a)
  | _ => []
theorem RowV.read {X : Cx} {pins : List (Addr × Obj)} {s : Shared} {σ : L2.St} {H : Hp} {x : V} {c : List Int} (I : Inv X pins σ H s) (r : RowV X.K H x c) : readRow s.heap x = c := by
  obtain ⟨t, rfl, ht⟩ := r
  obtain ⟨us, r, hi, _⟩ := I.tuple ht
  exact TS.TupInts.ints ⟨t, _, rfl, hi, intsAre_of r⟩
theorem RowV.at {X : Cx} {pins : List (Addr × Obj)} {s : Shared} {σ : L2.St} {H : Hp} {t : Addr} {c : List Int} (I : Inv X pins σ H s) (r : RowV X.K H (.ref t) c) (hn : c ≠ []) : RowOf s.heap (.ref t) (readRow s.heap (.ref t)) := by
  rw [r.read I]
  obtain ⟨t', e, ht⟩ := r
  cases e
  obtain ⟨us, r, ⟨o, ho, hc, n, hd⟩, _⟩ := I.tuple ht
  exact ⟨t, o, n, _, rfl, ho, hc, hd, intsAre_of r, hn⟩
/-- sorted(xs), xs a list of rows: a new list, in order; k tells what each row is -/
def rSortedR (K : PySem.W.Frag) : List V → Hp → VK → Prop := fun vs H Q => ∃ (a : Addr) (xs : List V), vs = [V.ref a] ∧ SqL K H a xs ∧ (∀ x ∈ xs, ∃ c, RowV K H x c ∧ c ≠ []) ∧
  ∀ (k : V → List Int) ys p, (∀ x c, RowV K H x c → k x = c) → ys.Pairwise (fun x y => rowLt (k y) (k x) = false) → ys.Perm xs → H p = none → Q (.ref p) (upd H p (.lst ys))
theorem cr_sortedR {X : Cx} : CallR X (.builtin "sorted") (rSortedR X.K) := by
  intro pins s σ H vs us Q I r h
  obtain ⟨a, xs, rfl, hs, hx, q⟩ := h
  obtain ⟨its, rv, hl, hz⟩ := I.list hs
  obtain ⟨u, rfl, ru⟩ := vals1 r
  obtain rfl : u = Value.ref a := ru
  obtain ⟨e1, e2⟩ := refs_back rv fun x m => by
    obtain ⟨c, ⟨t, e, _⟩, _⟩ := hx x m
    exact ⟨t, e⟩
  have rows : ∀ v ∈ its, RowOf s.heap v (readRow s.heap (backV v)) := fun v hv => by
    obtain ⟨t, rfl⟩ := e2 v hv
    obtain ⟨c, hc, hn⟩ := hx (V.ref t) (by rw [e1]; exact List.mem_map.mpr ⟨_, hv, rfl⟩)
    exact hc.at I hn
  refine SrtO.sorted_ord (ltv := fun u v => rowLt (readRow s.heap (backV u)) (readRow s.heap (backV v))) (NtL.swo_lexL _) hl.isList (by rw [← rv.length]; exact hz) (fun h2 h₁ b hb keep => ?_) fun out o1 o2 => ?_
  · intro h' keep'
    have rows' : ∀ v ∈ its, RowOf h' v (readRow s.heap (backV v)) := fun v hv => (rows v hv).on fun c o _ g => keep' c o (keep c o g).1 (keep c o g).2
    obtain ⟨fs, t, l, i⟩ := rows_heads its rows'
    refine ⟨tuples' true, fun Q E hq => PySem.W.kat_kind (T := .type "int") t (by omega) (fun f m => ?_) rfl hq, rows_ask rows'⟩
    obtain ⟨x, t, rfl⟩ := i f m
    exact PySem.W.Looks.now
  · have back : ∀ u ∈ out, ∃ a, u = Value.ref a := fun u m => e2 u (o2.perm.mem_iff.mp m)
    obtain ⟨n, hn⟩ := sortedAll_at s.heap its out.toArray
    have pm : (out.map backV).Perm xs := by rw [e1]; exact o2.perm.map _
    refine ⟨.ref _, upd H _ (.lst (out.map backV)), I.laid (t' := s.toks) (fun b o e => sortedAll_old e) (Nat.le_succ _) ⟨by rw [pm.length_eq]; exact hz, out, n, vals_back back, hn⟩, rfl, q (readRow s.heap) _ _ (fun x c r => r.read I) (List.pairwise_map.mpr o1) pm (I.hok.fresh (Nat.le_succ _))⟩
/-- rows in order are told by what they are -/
theorem rowLt_eq : ∀ {c d : List Int}, rowLt c d = false → rowLt d c = false → c = d
  | [], [], _, _ => rfl
  | [], _ :: _, h, _ => by cases h
  | _ :: _, [], _, h => by cases h
  | x :: c, y :: d, h1, h2 => by
    have h1' : (if x = y then rowLt c d else decide (x < y)) = false := h1
    have h2' : (if y = x then rowLt d c else decide (y < x)) = false := h2
    by_cases e : x = y
    · subst e
      rw [if_pos rfl] at h1' h2'
      rw [rowLt_eq h1' h2']
    · rw [if_neg e] at h1'
      rw [if_neg (Ne.symm e)] at h2'
      have a := of_decide_eq_false h1'
      have b := of_decide_eq_false h2'
      omega
theorem sorted_uniq : ∀ {l m : List (List Int)}, l.Pairwise (fun x y => rowLt y x = false) → m.Pairwise (fun x y => rowLt y x = false) → l.Perm m → l = m
  | [], m, _, _, p => (p.symm.eq_nil).symm
  | x :: l, [], _, _, p => absurd p.length_eq (by simp)
  | x :: l, y :: m, hl, hm, p => by
    have a := List.pairwise_cons.mp hl
    have b := List.pairwise_cons.mp hm
    have e : x = y := by
      rcases List.mem_cons.mp (p.mem_iff.mp (.head _)) with e | h1
      · exact e
      · rcases List.mem_cons.mp (p.mem_iff.mpr (.head _)) with e | h2
        · exact e.symm
        · exact rowLt_eq (b.1 _ h1) (a.1 _ h2)
    subst e
    rw [sorted_uniq a.2 b.2 p.cons_inv]
end G
set_option Elab.async false
set_option linter.all false
set_option maxRecDepth 100000
set_option maxHeartbeats 1000000
/-! ### lists of things that stand in the heap; rows that the top has written -/
namespace G
open PySem PySem.Spec PyProof.Rows L2
theorem same_new {H : Hp} {p : Addr} {o : HO} (h : H p = none) : Same H (upd H p o) := fun b x e => by
  rw [upd_ne (ne_of_none e h)]
  exact e
/-- what is said of a thing stays when others are made, or a list is changed -/
structure Tame {α : Type} (R : Hp → Addr → α → Prop) : Prop where
  same : ∀ {H H' t u}, R H t u → Same H H' → R H' t u
  but : ∀ {H H' D t u ys}, R H t u → H D = some (.lst ys) → (∀ a o, a ≠ D → H a = some o → H' a = some o) → R H' t u
section
variable {α : Type} {R : Hp → Addr → α → Prop}
theorem Tame.list (T : Tame R) {H : Hp} {D t : Addr} {u : α} {ys zs : List V} (h : R H t u) (hD : H D = some (.lst ys)) : R (upd H D (.lst zs)) t u := T.but h hD fun a o n e => by rw [upd_ne n]; exact e
def ObjsAt (R : Hp → Addr → α → Prop) (H : Hp) (l : Addr) (us : List α) : Prop := ∃ ts : List Addr, H l = some (.lst (ts.map V.ref)) ∧ ts.length = us.length ∧ ∀ (j : Nat) (t : Addr) (u : α), ts[j]? = some t → us[j]? = some u → R H t u
/-- the first i of us made, in the list at D -/
def MadeO (R : Hp → Addr → α → Prop) (H0 : Hp) (D : Addr) (us : List α) (i : Nat) (H' : Hp) : Prop := Same H0 H' ∧ ∃ ts : List Addr, H' D = some (.lst (ts.map V.ref)) ∧ ts.length = i ∧ ∀ (j : Nat) (t : Addr) (u : α), ts[j]? = some t → us[j]? = some u → R H' t u
theorem MadeO.zero {H0 : Hp} {D : Addr} {us : List α} (nD : H0 D = none) : MadeO R H0 D us 0 (upd H0 D (.lst [])) := ⟨same_new nD, [], upd_same, rfl, fun j t c h => by simp at h⟩
theorem MadeO.snoc (T : Tame R) {H0 H' H4 : Hp} {D r : Addr} {us : List α} {i : Nat} {c : α} (h : MadeO R H0 D us i H') (s : Same H' H4) (nD : H0 D = none) (hc : us[i]? = some c) (hr : R H4 r c) (hi : i ≤ 1000) :
    ∃ acc, H4 D = some (.lst acc) ∧ acc.length < sizeLine ∧ MadeO R H0 D us (i + 1) (upd H4 D (.lst (acc ++ [.ref r]))) := by
  obtain ⟨sm, ts, hD, hl, ht⟩ := h
  have hD4 := s _ _ hD
  refine ⟨_, hD4, by rw [List.length_map, hl, sizeLine_eq]; omega, fun b o e => ?_, ts ++ [r], by rw [upd_same, List.map_append]; rfl, by rw [List.length_append, hl]; rfl, fun j t u hj hu => ?_⟩
  · rw [upd_ne (ne_of_none e nD)]
    exact s _ _ (sm _ _ e)
  · refine T.list ?_ hD4
    rcases Nat.lt_or_ge j ts.length with q | q
    · rw [List.getElem?_append_left q] at hj
      exact T.same (ht j t u hj hu) s
    · have e : j = ts.length := by
        have := (List.getElem?_eq_some_iff.mp hj).1
        rw [List.length_append, List.length_singleton] at this
        omega
      subst e
      rw [List.getElem?_append_right (Nat.le_refl _), Nat.sub_self] at hj
      cases hj
      rw [hl, hc] at hu
      cases hu
      exact hr
theorem MadeO.objs {H0 H' : Hp} {D : Addr} {us : List α} {n : Nat} (h : MadeO R H0 D us n H') (e : n = us.length) : ObjsAt R H' D us := by
  subst e
  obtain ⟨_, ts, hD, hl, ht⟩ := h
  exact ⟨ts, hD, hl, ht⟩
theorem ObjsAt.same (T : Tame R) {H H' : Hp} {l : Addr} {us : List α} (h : ObjsAt R H l us) (s : Same H H') : ObjsAt R H' l us := by
  obtain ⟨ts, h1, h2, h3⟩ := h
  exact ⟨ts, s _ _ h1, h2, fun j t u a b => T.same (h3 j t u a b) s⟩
theorem ObjsAt.but (T : Tame R) {H H' : Hp} {l p : Addr} {us : List α} {ys : List V} (h : ObjsAt R H l us) (hp : H p = some (.lst ys)) (n : l ≠ p) (s : ∀ a o, a ≠ p → H a = some o → H' a = some o) : ObjsAt R H' l us := by
  obtain ⟨ts, h1, h2, h3⟩ := h
  exact ⟨ts, s _ _ n h1, h2, fun j t u a b => T.but (h3 j t u a b) hp s⟩
/-- the item at a place -/
theorem ObjsAt.item {H : Hp} {l : Addr} {us : List α} (h : ObjsAt R H l us) {i : Int} (h0 : 0 ≤ i) (h1 : i < us.length) : ∃ (xs : List V) (t : Addr) (u : α), H l = some (.lst xs) ∧ atI xs i = some (.ref t) ∧ us[i.toNat]? = some u ∧ R H t u ∧ xs.length = us.length := by
  obtain ⟨ts, a, b, c⟩ := h
  have hn : i.toNat < us.length := by omega
  have e1 : us[i.toNat]? = some us[i.toNat] := List.getElem?_eq_getElem hn
  have e2 : ts[i.toNat]? = some ts[i.toNat] := List.getElem?_eq_getElem (by omega)
  refine ⟨_, _, _, a, ?_, e1, c _ _ _ e2 e1, by rw [List.length_map, b]⟩
  have key : ∀ (n : Nat) (z : Addr), ts[n]? = some z → atI (ts.map V.ref) ((n : Nat) : Int) = some (.ref z) := fun n z e => atI_nat (by rw [List.getElem?_map, e]; rfl)
  have := key _ _ e2
  rwa [Int.toNat_of_nonneg h0] at this
/-- a turn's item -/
theorem ref_at {ts : List Addr} {us : List α} {j : Nat} {x : V} (h : ts.length = us.length) (hx : (ts.map V.ref)[j]? = some x) : ∃ t u, x = V.ref t ∧ ts[j]? = some t ∧ us[j]? = some u ∧ j < us.length := by
  rw [List.getElem?_map] at hx
  cases e : ts[j]? with
  | none => rw [e] at hx; cases hx
  | some t =>
    rw [e] at hx
    have hj := (List.getElem?_eq_some_iff.mp e).1
    exact ⟨t, us[j], (Option.some.inj hx).symm, rfl, List.getElem?_eq_getElem (by omega), by omega⟩
end
/-! rows -/
def RowAt (K : PySem.W.Frag) (H : Hp) (t : Addr) (c : List Int) : Prop := SqT K H t (c.map V.int)
theorem tame_row {K : PySem.W.Frag} : Tame (RowAt K) where
  same := fun {H H' t u} h s => by
    rcases h with (h | ⟨o, h⟩) | h
    · exact .inl (.inl (s _ _ h))
    · exact .inl (.inr ⟨o, s _ _ h⟩)
    · exact .inr h
  but := fun {H H' D t u ys} h hD s => by
    rcases h with (h | ⟨o, h⟩) | h
    · exact .inl (.inl (s _ _ (ne_of h hD (by intro q; cases q)) h))
    · exact .inl (.inr ⟨o, s _ _ (ne_of h hD (by intro q; cases q)) h⟩)
    · exact .inr h
inductive RowsIn (K : PySem.W.Frag) : List Value → List (List Int) → Prop
  | nil : RowsIn K [] []
  | cons {a : Addr} {d : Option Addr} {us : List Value} {n : Nat} {sl : Array (Option Value)} {vs : List Value} {c : List Int} {cs : List (List Int)} (l : K.lookup a = some ⟨.type "tuple", d, .seq us.toArray n, sl⟩) (i : IntsAre us c) (r : RowsIn K vs cs) : RowsIn K (.ref a :: vs) (c :: cs)
/-- x is a tuple of rows that the top has written -/
def TopRows (K : PySem.W.Frag) (x : Str) (cs : List (List Int)) : Prop := ∃ (u : Addr) (d : Option Addr) (vs : List Value) (n : Nat) (sl : Array (Option Value)), PySem.W.nsIn K mainGlobals x = some (some (.ref u)) ∧ K.lookup u = some ⟨.type "tuple", d, .seq vs.toArray n, sl⟩ ∧ RowsIn K vs cs
theorem TopRows.mk {K : PySem.W.Frag} {x : Str} {cs : List (List Int)} {u : Addr} {d : Option Addr} {vs : List Value} {n : Nat} {sl : Array (Option Value)} (a : PySem.W.nsIn K mainGlobals x = some (some (.ref u))) (l : K.lookup u = some ⟨.type "tuple", d, .seq vs.toArray n, sl⟩) (r : RowsIn K vs cs) : TopRows K x cs := ⟨u, d, vs, n, sl, a, l, r⟩
/-- .. as the text reads it -/
def Rows0 (K : PySem.W.Frag) (mg : Str → Option Value) (x : Str) (cs : List (List Int)) : Prop := ∃ (u : Addr) (ts : List Addr), mg x = some (.ref u) ∧ ts.length = cs.length ∧ ∀ H : Hp, SqT K H u (ts.map V.ref) ∧ ∀ (j : Nat) (t : Addr) (c : List Int), ts[j]? = some t → cs[j]? = some c → RowAt K H t c
theorem RowsIn.get {K : PySem.W.Frag} {vs : List Value} {cs : List (List Int)} (r : RowsIn K vs cs) (hz : ∀ c ∈ cs, c.length ≤ 1000) : ∃ ts : List Addr, vs = ts.map Value.ref ∧ ts.length = cs.length ∧ ∀ (H : Hp) (j : Nat) (t : Addr) (c : List Int), ts[j]? = some t → cs[j]? = some c → RowAt K H t c := by
  induction r with
  | nil => exact ⟨[], rfl, rfl, fun H j t c h => by simp at h⟩
  | @cons a d us n sl vs c cs l i r ih =>
    obtain ⟨ts, e, hl, h⟩ := ih fun c m => hz c (.tail _ m)
    refine ⟨a :: ts, by rw [e]; rfl, by rw [List.length_cons, List.length_cons, hl], fun H j t c' ht hc => ?_⟩
    cases j with
    | zero =>
      cases ht; cases hc
      refine .inr ⟨_, _, _, l, rfl, rfl, ?_, vals_ints i⟩
      have := hz c (.head _)
      rw [List.size_toArray, i.length, sizeLine_eq]
      omega
    | succ j => exact h H j t c' ht hc
theorem vals_refs : ∀ ts : List Addr, Vals (ts.map V.ref) (ts.map Value.ref)
  | [] => .nil
  | t :: ts => .cons rfl (vals_refs ts)
theorem TopRows.get {K : PySem.W.Frag} {x : Str} {cs : List (List Int)} {h : Heap} {mg : Str → Option Value} (T : TopRows K x cs) (X : K.In h) (G : h.Ns mainGlobals mg) (hz : ∀ c ∈ cs, c.length ≤ 1000) (hn : cs.length ≤ 1000) : Rows0 K mg x cs := by
  obtain ⟨u, d, vs, n, sl, a, l, r⟩ := T
  obtain ⟨ts, rfl, hl, g⟩ := r.get hz
  refine ⟨u, ts, PySem.W.mg_of X G a, hl, fun H => ⟨.inr ⟨_, _, _, l, rfl, rfl, ?_, vals_refs ts⟩, g H⟩⟩
  rw [List.size_toArray, List.length_map, hl, sizeLine_eq]
  omega
end G
set_option Elab.async false
set_option linter.all false
set_option maxRecDepth 100000
set_option maxHeartbeats 1000000
/-! ### the greatest of a list of rows -/
namespace G
open PySem PySem.Spec PyProof.Rows L2
def dR (c : List Int) : PyData := .tuple (c.map PyData.int)
theorem dpb_ints {K : PySem.W.Frag} {H : Hp} : ∀ c : List Int, DpAll K H (c.map V.int) (c.map PyData.int)
  | [] => .nil
  | x :: c => .cons (.int x) (dpb_ints c)
theorem rowLt_lt : ∀ c d : List Int, rowLt c d = decide (c < d)
  | [], [] => by simp [rowLt, HT.lexLt]
  | [], _ :: _ => by simp [rowLt, HT.lexLt]
  | _ :: _, [] => by simp [rowLt, HT.lexLt]
  | x :: c, y :: d => by
    show (if x = y then rowLt c d else decide (x < y)) = _
    rw [rowLt_lt c d, Bool.eq_iff_iff, decide_eq_true_eq, List.cons_lt_cons_iff]
    by_cases e : x = y
    · subst e; simp
    · rw [if_neg e, decide_eq_true_eq]
      constructor
      · exact .inl
      · rintro (h | ⟨h, _⟩)
        · exact h
        · exact absurd h e
theorem dR_lt (c d : List Int) : PySem.W.dataLt (dR c) (dR d) = rowLt c d := by
  unfold dR
  rw [PySem.W.dataLt_tuple]
  show PySem.W.rowLt (c.map PyData.int) (d.map PyData.int) = _
  rw [PySem.W.dataLt_ints, rowLt_lt]
theorem alike_ints : ∀ c d : List Int, PySem.W.alikeAll (c.map PyData.int) (d.map PyData.int) = true
  | [], _ => by cases ‹List Int› <;> rfl
  | _ :: _, [] => rfl
  | x :: c, y :: d => by
    show (PySem.W.alike (.int x) (.int y) && PySem.W.alikeAll (c.map PyData.int) (d.map PyData.int)) = true
    rw [alike_ints c d]; rfl
theorem argBest_max (cs : List (List Int)) : ∀ k, k < cs.length → argBest (fun i j => rowLt (cs.getD j []) (cs.getD i [])) k ≤ k ∧ ∀ j ≤ k, rowLt (cs.getD (argBest (fun i j => rowLt (cs.getD j []) (cs.getD i [])) k) []) (cs.getD j []) = false
  | 0, _ => ⟨Nat.le_refl _, fun j hj => by
      obtain rfl : j = 0 := by omega
      exact (NtL.swo_lexL id).refl _⟩
  | k + 1, h => by
    obtain ⟨h1, h2⟩ := argBest_max cs k (by omega)
    have O := NtL.swo_lexL (id : List Int → List Int)
    unfold argBest
    cases e : rowLt (cs.getD (argBest (fun i j => rowLt (cs.getD j []) (cs.getD i [])) k) []) (cs.getD (k + 1) []) with
    | true =>
      rw [if_pos rfl]
      refine ⟨Nat.le_refl _, fun j hj => ?_⟩
      rcases Nat.lt_or_ge k j with q | q
      · obtain rfl : j = k + 1 := by omega
        exact O.refl _
      · have a := O.asym _ _ e
        exact O.tr _ _ _ (h2 j q) a
    | false =>
      rw [if_neg (by decide)]
      refine ⟨by omega, fun j hj => ?_⟩
      rcases Nat.lt_or_ge k j with q | q
      · obtain rfl : j = k + 1 := by omega
        exact e
      · exact h2 j q
theorem argBest_eq {f g : Nat → Nat → Bool} : ∀ k, (∀ i j, i ≤ k → j ≤ k → f i j = g i j) → argBest f k = argBest g k ∧ argBest g k ≤ k
  | 0, _ => ⟨rfl, Nat.le_refl _⟩
  | k + 1, h => by
    obtain ⟨e, l⟩ := argBest_eq k fun i j a b => h i j (by omega) (by omega)
    unfold argBest
    rw [e, h (k + 1) (argBest g k) (Nat.le_refl _) (by omega)]
    refine ⟨rfl, ?_⟩
    split <;> omega
/-- max(xs), xs a list of rows -/
def rMaxR (K : PySem.W.Frag) : List V → Hp → VK → Prop := fun vs H Q => ∃ (a : Addr) (ts : List Addr) (cs : List (List Int)), vs = [V.ref a] ∧ SqL K H a (ts.map V.ref) ∧ ts.length = cs.length ∧ (∀ (j : Nat) (t : Addr) (c : List Int), ts[j]? = some t → cs[j]? = some c → RowAt K H t c) ∧ 0 < cs.length ∧
  ∀ (t : Addr) (c : List Int), c ∈ cs → RowAt K H t c → (∀ d ∈ cs, rowLt c d = false) → Q (.ref t) H
theorem dpa_rows {K : PySem.W.Frag} {H : Hp} : ∀ (ts : List Addr) (cs : List (List Int)), ts.length = cs.length → (∀ (j : Nat) (t : Addr) (c : List Int), ts[j]? = some t → cs[j]? = some c → RowAt K H t c) → DpAll K H (ts.map V.ref) (cs.map dR)
  | [], [], _, _ => .nil
  | t :: ts, c :: cs, h, r => .cons (.tup (r 0 t c rfl rfl) (dpb_ints c)) (dpa_rows ts cs (by simpa using h) fun j t c a b => r (j + 1) t c a b)
  | [], _ :: _, h, _ => by simp at h
  | _ :: _, [], h, _ => by simp at h
theorem depth_rows : ∀ cs : List (List Int), PyData.depthAll (cs.map dR) ≤ 3 := by
  have h1 : ∀ c : List Int, PyData.depthAll (c.map PyData.int) ≤ 1 := by
    intro c
    induction c with
    | nil => decide
    | cons x c ih =>
      show max (PyData.depth (.int x)) (PyData.depthAll (c.map PyData.int)) ≤ 1
      exact Nat.max_le.mpr ⟨by simp [PyData.depth], ih⟩
  intro cs
  induction cs with
  | nil => decide
  | cons c cs ih =>
    show max (PyData.depth (.tuple (c.map PyData.int))) (PyData.depthAll (cs.map dR)) ≤ 3
    refine Nat.max_le.mpr ⟨?_, ih⟩
    have := h1 c
    show PyData.depthAll (c.map PyData.int) + 1 ≤ 3
    omega
theorem cr_maxR {X : Cx} (hc : X.calm = true) (hu : X.A.units + 64 < cLine) : CallR X (.builtin "max") (rMaxR X.K) := by
  intro pins s σ H vs us Q I r h
  obtain ⟨a, ts, cs, rfl, hs, hl, hr, h0, q⟩ := h
  obtain ⟨its, rv, hi, hz⟩ := I.list hs
  rw [Vals.ref1 r]
  obtain ⟨as, hR⟩ := Dp.readsAll I _ _ _ (dpa_rows ts cs hl hr) rv
  have hn : its.toArray.size = cs.length := by rw [List.size_toArray, ← rv.length, List.length_map, hl]
  have al : PySem.W.AlikeAll (cs.map dR) := by
    refine ⟨fun x mx y my => ?_, fun x mx => ?_⟩
    · obtain ⟨c, _, rfl⟩ := List.mem_map.mp mx
      obtain ⟨d, _, rfl⟩ := List.mem_map.mp my
      exact alike_ints c d
    · obtain ⟨c, _, rfl⟩ := List.mem_map.mp mx
      intro e; cases e
  refine PySem.call_max_walkH (PySem.W.iter_listW (A := X.A.in1) (I.ok.hd hc) hi.isList fun s₂ e W st hfp hw hk => ?_)
  have dp := depth_rows cs
  refine ⟨_, _, _, _, _, _, _, s.heap, _, rfl, W, st, hfp, by rw [hn]; exact h0, hw, hk, PySem.W.cmpIn_gt (A := X.A.in1) (vs := its.toArray) hR al (by show X.A.units + 1 + _ < _; omega), fun v s' hP m => ?_⟩
  obtain ⟨h', tk, rfl, hk'⟩ := PySem.W.moved_old e rfl m
  rw [hn] at hP
  obtain ⟨eb, bl⟩ := argBest_eq (f := fun i j => PySem.W.dataLt ((cs.map dR).getD j .none) ((cs.map dR).getD i .none)) (g := fun i j => rowLt (cs.getD j []) (cs.getD i [])) (cs.length - 1) fun i j hi hj => by
    have gi : ∀ i, i < cs.length → (cs.map dR).getD i .none = dR (cs.getD i []) := fun i hi => by
      rw [List.getD_eq_getElem?_getD, List.getD_eq_getElem?_getD, List.getElem?_map, List.getElem?_eq_getElem hi]; rfl
    rw [gi i (by omega), gi j (by omega), dR_lt]
  have hP' : its[argBest (fun i j => rowLt (cs.getD j []) (cs.getD i [])) (cs.length - 1)]? = some v := by
    rw [← eb]
    simpa using hP
  obtain ⟨_, mx⟩ := argBest_max cs (cs.length - 1) (by omega)
  generalize argBest (fun i j => rowLt (cs.getD j []) (cs.getD i [])) (cs.length - 1) = b at *
  obtain ⟨e1, e2⟩ := refs_back rv fun x m => by
    obtain ⟨t, _, rfl⟩ := List.mem_map.mp m
    exact ⟨t, rfl⟩
  obtain ⟨t, rfl⟩ := e2 v (List.mem_of_getElem? hP')
  have hb : b < cs.length := by omega
  have et : ts[b]? = some t := by
    have := congrArg (fun l : List V => l[b]?) e1
    simp only [List.getElem?_map, hP', Option.map_some] at this
    cases h : ts[b]? with
    | none => rw [h] at this; cases this
    | some t' => rw [h] at this; simp only [Option.map_some, Option.some.injEq] at this; cases this; rfl
  have ec : cs[b]? = some cs[b] := List.getElem?_eq_getElem hb
  have gb : cs.getD b [] = cs[b] := by rw [List.getD_eq_getElem?_getD, ec]; rfl
  refine ⟨.ref t, H, I.kept hk', rfl, q t cs[b] (List.mem_of_getElem? ec) (hr b t _ et ec) fun d md => ?_⟩
  obtain ⟨j, hj, ej⟩ := List.getElem_of_mem md
  have := mx j (by omega)
  rw [gb, List.getD_eq_getElem?_getD, List.getElem?_eq_getElem hj] at this
  rw [← ej]
  exact this
end G
set_option Elab.async false
set_option linter.all false
set_option maxRecDepth 100000
namespace G
open PySem PySem.Spec PyProof.Rows L2
/-! ### a def of the top, with its promise -/
structure DefOk (P : Program) (w : World) (K : PySem.W.Frag) (mg : Str → Option Value) (base : Heap) (x : Str) (k : Nat) (ps : List Str) (sp : Sp) : Prop where
  ex : ∃ (f : Addr) (fd : FuncData), FnOk P w K mg base CX0 k f fd ps sp ∧ mg x = some (.ref f) ∧ PySem.W.keepIn K (.ref f) = true ∧ Binds K fd ps []
theorem pe_callD {X : Cx} {k : Nat} {ps : List Str} {sp : Sp} {x : Str} {p pos : Pos} {e : Expr} {es : List Expr} {t : TA} (D : DefOk X.prog X.w X.K X.mg X.base x k ps sp) (hr : Room k X.A) (ha : PA X (e :: es) t) (hg : Gl X x := by rfl)
    (hdb : (x == ("__debug__" : Str)) = false := by decide) (he : starEach (e :: es) X.env = (false, eval e X.env) :: starEach es X.env := by rfl) (hpl : (backTo pos (starEach es X.env)).any (·.1) = false := by rfl) :
    PE X (.Call (.Name x p) (e :: es) [] pos) (tCall sp [] E0 t) := by
  obtain ⟨f, fd, G, m, kp, b⟩ := D.ex
  exact pe_call G hr hg m kp b .nil pass0 ha hdb he hpl
theorem pe_callD0 {X : Cx} {k : Nat} {ps : List Str} {sp : Sp} {x : Str} {p pos : Pos} (D : DefOk X.prog X.w X.K X.mg X.base x k ps sp) (hr : Room k X.A) (hg : Gl X x := by rfl)
    (hdb : (x == ("__debug__" : Str)) = false := by decide) : PE X (.Call (.Name x p) [] [] pos) (tCall sp [] E0 tNil) := by
  obtain ⟨f, fd, G, m, kp, b⟩ := D.ex
  exact pe_call0 G hr hg m kp b .nil pass0 hdb
/-- the built-ins that the text names -/
structure Bn (mg : Str → Option Value) : Prop where
  abs : mg "abs" = none
  len : mg "len" = none
  int : mg "int" = none
  list : mg "list" = none
  isinstance : mg "isinstance" = none
  bool : mg "bool" = none
  str : mg "str" = none
  tuple : mg "tuple" = none
  all : mg "all" = none
  zip : mg "zip" = none
  range : mg "range" = none
  sum : mg "sum" = none
theorem mw {i j : Int} (h1 : i.natAbs < 18446744073709551616) (h2 : j.natAbs < 18446744073709551616) : CMulW i j := wide_mul (a := 64) (b := 64) h1 h2 (by decide) (by decide) (by decide)
theorem dw {i j : Int} (h : 0 < j) (h2 : j.natAbs < 18446744073709551616) : CDivW i j := wide_div (b := 64) h h2 (by decide) (by decide)
theorem ifT {c : Bool} {A B : Prop} (hc : c = true) (h : A) : if c = true then A else B := by rw [if_pos hc]; exact h
theorem ifF {c : Bool} {A B : Prop} (hc : c = false) (h : B) : if c = true then A else B := by rw [if_neg (by rw [hc]; decide)]; exact h
theorem nx_norm {f : L2.St → Hp → Prop} {σ σ' : L2.St} {H : Hp} (e : σ = σ') (h : f σ' H) : f σ H := e ▸ h
theorem lg {n : Int} (h : n.natAbs < 18446744073709551616) : n.natAbs.log2 < 9000 := Nat.lt_of_lt_of_le (PySem.Flt.log2_lt_of (by decide) (show n.natAbs < 2 ^ 64 from h)) (by decide)
/-! ### heaps -/
theorem same_upd {H : Hp} {p : Addr} {o : HO} (h : H p = none) : Same H (upd H p o) := fun b x e => by
  rw [upd_ne (ne_of_none e h)]
  exact e
theorem seq_mk {t1 t2 : TS} {D : Ends} {σ : L2.St} {H : Hp} (h : t1 { D with nx := t2 D } σ H) : tSeq t1 t2 D σ H := h
theorem seq_cut (Mid : L2.St → Hp → Prop) {t u : TS} {D : Ends} {σ : L2.St} {H : Hp} (h2 : ∀ σ' H', Mid σ' H' → u D σ' H') (h1 : (∀ σ' H', Mid σ' H' → u D σ' H') → t { D with nx := u D } σ H) : tSeq t u D σ H := h1 h2
/-- all but p stays -/
def SameX (p : Addr) (H H' : Hp) : Prop := ∀ a o, a ≠ p → H a = some o → H' a = some o
theorem SameX.refl {p : Addr} {H : Hp} : SameX p H H := fun _ _ _ e => e
theorem SameX.trans {p : Addr} {H H' H2 : Hp} (h : SameX p H H') (h' : SameX p H' H2) : SameX p H H2 := fun a o n e => h' a o n (h a o n e)
theorem SameX.of {p : Addr} {H H' : Hp} (h : Same H H') : SameX p H H' := fun a o _ e => h a o e
theorem sameX_upd {p : Addr} {H : Hp} {o : HO} : SameX p H (upd H p o) := fun a x n e => by rw [upd_ne n]; exact e
/-- the feed that stands at p -/
def FeedAt (H : Hp) (p c : Addr) : Prop := ∃ (ms : List Int) (i : Nat) (u m : Int), H p = some (.lst [.ref c, .int i, .int u, .int m]) ∧ H c = some (.lst (ms.map V.int)) ∧ c ≠ p ∧ ms.length ≤ 63 ∧ 0 ≤ u ∧ 0 ≤ m ∧ m < 2147483647
theorem FeedAt.same {H H' : Hp} {p c : Addr} (h : FeedAt H p c) (s : Same H H') : FeedAt H' p c := by
  obtain ⟨ms, i, u, m, h1, h2, r⟩ := h
  exact ⟨ms, i, u, m, s _ _ h1, s _ _ h2, r⟩
theorem FeedAt.some {H : Hp} {p c : Addr} (h : FeedAt H p c) : ∃ o, H p = some o := by
  obtain ⟨ms, i, u, m, h1, _⟩ := h
  exact ⟨_, h1⟩
/-- another list that is written leaves the feed -/
theorem FeedAt.upd {H : Hp} {p c l : Addr} {o : HO} (h : FeedAt H p c) (h1 : l ≠ p) (h2 : l ≠ c) : FeedAt (L2.upd H l o) p c := by
  obtain ⟨ms, i, u, m, e1, e2, r⟩ := h
  exact ⟨ms, i, u, m, by rw [upd_ne h1.symm]; exact e1, by rw [upd_ne h2.symm]; exact e2, r⟩
theorem FeedAt.ne {H : Hp} {p c l : Addr} (h : FeedAt H p c) (n : H l = none) : l ≠ p ∧ l ≠ c := by
  obtain ⟨ms, i, u, m, e1, e2, r⟩ := h
  exact ⟨(ne_of_none e1 n).symm, (ne_of_none e2 n).symm⟩
/-! ### the text -/
def top (i : Nat) : Stmt := PySem.Challenge.pw_grainmeet_k11_associates.main.body.getD i (.Pass ⟨0, 0, 0, 0⟩)
abbrev s_GrainError_init : Stmt := inClass (top 2) 0
theorem sc_GrainError_init : FnScope ["self", "tag", "why"] ["self", "tag", "why"] (defScope s_GrainError_init) := ⟨rfl, rfl, rfl, by decide +kernel, rfl, by decide +kernel, by decide +kernel⟩
abbrev s_InvalidFour_init : Stmt := inClass (top 3) 0
theorem sc_InvalidFour_init : FnScope ["self", "given"] ["self", "given"] (defScope s_InvalidFour_init) := ⟨rfl, rfl, rfl, by decide +kernel, rfl, by decide +kernel, by decide +kernel⟩
abbrev s_ParseError_init : Stmt := inClass (top 4) 0
theorem sc_ParseError_init : FnScope ["self", "at"] ["self", "at"] (defScope s_ParseError_init) := ⟨rfl, rfl, rfl, by decide +kernel, rfl, by decide +kernel, by decide +kernel⟩
abbrev s_is_number : Stmt := top 8
theorem sc_is_number : FnScope ["value"] ["value"] (defScope s_is_number) := ⟨rfl, rfl, rfl, by decide +kernel, rfl, by decide +kernel, by decide +kernel⟩
abbrev s_digits_of : Stmt := top 9
theorem sc_digits_of : FnScope ["number", "pieces", "rest", "piece"] ["number"] (defScope s_digits_of) := ⟨rfl, rfl, rfl, by decide +kernel, rfl, by decide +kernel, by decide +kernel⟩
abbrev s_are_digits : Stmt := top 10
theorem sc_are_digits : FnScope ["text"] ["text"] (defScope s_are_digits) := ⟨rfl, rfl, rfl, by decide +kernel, rfl, by decide +kernel, by decide +kernel⟩
abbrev s_number_with : Stmt := top 11
theorem sc_number_with : FnScope ["digits", "start", "number", "at"] ["digits"] (defScope s_number_with) := ⟨rfl, rfl, rfl, by decide +kernel, rfl, by decide +kernel, by decide +kernel⟩
abbrev s_Four_init : Stmt := inClass (top 15) 0
theorem sc_Four_init : FnScope ["self", "halves"] ["self", "halves"] (defScope s_Four_init) := ⟨rfl, rfl, rfl, by decide +kernel, rfl, by decide +kernel, by decide +kernel⟩
abbrev s_Four_units : Stmt := inClass (top 15) 2
theorem sc_Four_units : FnScope ["halves"] [] (defScope s_Four_units) := ⟨rfl, rfl, rfl, by decide +kernel, rfl, by decide +kernel, by decide +kernel⟩
abbrev s_Four_read : Stmt := inClass (top 15) 3
theorem sc_Four_read : FnScope ["text", "halves", "four"] ["text"] (defScope s_Four_read) := ⟨rfl, rfl, rfl, by decide +kernel, rfl, by decide +kernel, by decide +kernel⟩
abbrev s_Four_halves : Stmt := inClass (top 15) 4
theorem sc_Four_halves : FnScope ["self"] ["self"] (defScope s_Four_halves) := ⟨rfl, rfl, rfl, by decide +kernel, rfl, by decide +kernel, by decide +kernel⟩
abbrev s_Four_size : Stmt := inClass (top 15) 5
theorem sc_Four_size : FnScope ["self", "a", "b", "c", "d"] ["self"] (defScope s_Four_size) := ⟨rfl, rfl, rfl, by decide +kernel, rfl, by decide +kernel, by decide +kernel⟩
abbrev s_Four_text : Stmt := inClass (top 15) 8
theorem sc_Four_text : FnScope ["self", "parts", "half", "letter"] ["self"] (defScope s_Four_text) := ⟨rfl, rfl, rfl, by decide +kernel, rfl, by decide +kernel, by decide +kernel⟩
abbrev s_Four_add : Stmt := inClass (top 15) 10
theorem sc_Four_add : FnScope ["self", "other", "a", "b", "c", "d", "e", "f", "g", "h"] ["self", "other"] (defScope s_Four_add) := ⟨rfl, rfl, rfl, by decide +kernel, rfl, by decide +kernel, by decide +kernel⟩
abbrev s_Four_sub : Stmt := inClass (top 15) 11
theorem sc_Four_sub : FnScope ["self", "other", "a", "b", "c", "d", "e", "f", "g", "h"] ["self", "other"] (defScope s_Four_sub) := ⟨rfl, rfl, rfl, by decide +kernel, rfl, by decide +kernel, by decide +kernel⟩
abbrev s_Four_mul : Stmt := inClass (top 15) 12
theorem sc_Four_mul : FnScope ["self", "other", "a", "b", "c", "d", "e", "f", "g", "h"] ["self", "other"] (defScope s_Four_mul) := ⟨rfl, rfl, rfl, by decide +kernel, rfl, by decide +kernel, by decide +kernel⟩
abbrev s_Four_neg : Stmt := inClass (top 15) 13
theorem sc_Four_neg : FnScope ["self", "a", "b", "c", "d"] ["self"] (defScope s_Four_neg) := ⟨rfl, rfl, rfl, by decide +kernel, rfl, by decide +kernel, by decide +kernel⟩
abbrev s_Four_bool : Stmt := inClass (top 15) 14
theorem sc_Four_bool : FnScope ["self"] ["self"] (defScope s_Four_bool) := ⟨rfl, rfl, rfl, by decide +kernel, rfl, by decide +kernel, by decide +kernel⟩
abbrev s_Four_eq : Stmt := inClass (top 15) 15
theorem sc_Four_eq : FnScope ["self", "other"] ["self", "other"] (defScope s_Four_eq) := ⟨rfl, rfl, rfl, by decide +kernel, rfl, by decide +kernel, by decide +kernel⟩
abbrev s_Four_repr : Stmt := inClass (top 15) 16
theorem sc_Four_repr : FnScope ["self"] ["self"] (defScope s_Four_repr) := ⟨rfl, rfl, rfl, by decide +kernel, rfl, by decide +kernel, by decide +kernel⟩
abbrev s_are_halves : Stmt := top 16
theorem sc_are_halves : FnScope ["values", "value"] ["values"] (defScope s_are_halves) := ⟨rfl, rfl, rfl, by decide +kernel, rfl, by decide +kernel, by decide +kernel⟩
abbrev s_part_text : Stmt := top 17
theorem sc_part_text : FnScope ["half", "letter", "sign"] ["half", "letter"] (defScope s_part_text) := ⟨rfl, rfl, rfl, by decide +kernel, rfl, by decide +kernel, by decide +kernel⟩
abbrev s_amount_text : Stmt := top 18
theorem sc_amount_text : FnScope ["half", "letter"] ["half", "letter"] (defScope s_amount_text) := ⟨rfl, rfl, rfl, by decide +kernel, rfl, by decide +kernel, by decide +kernel⟩
abbrev s_halves_told : Stmt := top 19
theorem sc_halves_told : FnScope ["text", "halves", "term", "ending"] ["text"] (defScope s_halves_told) := ⟨rfl, rfl, rfl, by decide +kernel, rfl, by decide +kernel, by decide +kernel⟩
abbrev s_terms_of : Stmt := top 20
theorem sc_terms_of : FnScope ["text", "pieces", "piece"] ["text"] (defScope s_terms_of) := ⟨rfl, rfl, rfl, by decide +kernel, rfl, by decide +kernel, by decide +kernel⟩
abbrev s_half_told : Stmt := top 21
theorem sc_half_told : FnScope ["amount", "digits", "sign", "odd"] ["amount"] (defScope s_half_told) := ⟨rfl, rfl, rfl, by decide +kernel, rfl, by decide +kernel, by decide +kernel⟩
abbrev s_associate : Stmt := top 23
theorem sc_associate : FnScope ["four", "greatest", "unit"] ["four"] (defScope s_associate) := ⟨rfl, rfl, rfl, by decide +kernel, rfl, by decide +kernel, by decide +kernel⟩
abbrev s_L_feed : Stmt := top 25
theorem sc_L_feed : FnScope ["_law_script", "_law_cells", "_law_mark", "_law_cell"] ["_law_script"] (defScope s_L_feed) := ⟨rfl, rfl, rfl, by decide +kernel, rfl, by decide +kernel, by decide +kernel⟩
abbrev s_L_take : Stmt := top 26
theorem sc_L_take : FnScope ["_law_feed_here", "_law_many", "_law_cell", "_law_mixed", "_law_found"] ["_law_feed_here", "_law_many"] (defScope s_L_take) := ⟨rfl, rfl, rfl, by decide +kernel, rfl, by decide +kernel, by decide +kernel⟩
abbrev s_L_pick : Stmt := top 27
theorem sc_L_pick : FnScope ["_law_feed_here", "_law_things"] ["_law_feed_here", "_law_things"] (defScope s_L_pick) := ⟨rfl, rfl, rfl, by decide +kernel, rfl, by decide +kernel, by decide +kernel⟩
abbrev s_L_same : Stmt := top 28
theorem sc_L_same : FnScope ["_law_found", "_law_due", "_law_one", "_law_other"] ["_law_found", "_law_due"] (defScope s_L_same) := ⟨rfl, rfl, rfl, by decide +kernel, rfl, by decide +kernel, by decide +kernel⟩
abbrev s_L_halves : Stmt := top 29
theorem sc_L_halves : FnScope ["_law_feed_here", "_law_most", "_law_odd", "_law_row", "_law_k"] ["_law_feed_here", "_law_most"] (defScope s_L_halves) := ⟨rfl, rfl, rfl, by decide +kernel, rfl, by decide +kernel, by decide +kernel⟩
abbrev s_L_times : Stmt := top 30
theorem sc_L_times : FnScope ["_law_one", "_law_other", "_law_a", "_law_b", "_law_c", "_law_d", "_law_x", "_law_y", "_law_z", "_law_w", "_law_first", "_law_second", "_law_third"] ["_law_one", "_law_other"] (defScope s_L_times) := ⟨rfl, rfl, rfl, by decide +kernel, rfl, by decide +kernel, by decide +kernel⟩
abbrev s_L_four : Stmt := top 31
theorem sc_L_four : FnScope ["_law_halves_here", "_law_a", "_law_b", "_law_c", "_law_d"] ["_law_halves_here"] (defScope s_L_four) := ⟨rfl, rfl, rfl, by decide +kernel, rfl, by decide +kernel, by decide +kernel⟩
abbrev s_L_units : Stmt := top 32
theorem sc_L_units : FnScope ["_law_found", "_law_k", "_law_row", "_law_sign"] [] (defScope s_L_units) := ⟨rfl, rfl, rfl, by decide +kernel, rfl, by decide +kernel, by decide +kernel⟩
abbrev s_law : Stmt := top 33
theorem sc_law : FnScope ["_law_script", "_law_feed_here", "_law_turn", "_law_halves_here", "_law_due", "_law_unit", "_law_found"] ["_law_script"] (defScope s_law) := ⟨rfl, rfl, rfl, by decide +kernel, rfl, by decide +kernel, by decide +kernel⟩
end G
set_option Elab.async false
set_option linter.all false
set_option maxRecDepth 100000
namespace G
open PySem PySem.Spec PyProof.Rows L2
/-! ### the feed -/
def spFeed (K : PySem.W.Frag) : Sp := fun vs H Q _ => ∃ (a : Addr) (ns : List Int), vs = [.ref a] ∧ SqL K H a (ns.map V.int) ∧ ∀ H' p c, Same H H' → H p = none → FeedAt H' p c → Q (.ref p) H'
def spTake : Sp := fun vs H Q _ => ∃ (p c : Addr) (n : Int), vs = [.ref p, .int n] ∧ 0 < n ∧ n.natAbs.log2 < 9000 ∧ FeedAt H p c ∧ ∀ (H' : Hp) (r : Int), 0 ≤ r → r < n → FeedAt H' p c → SameX p H H' → Q (.int r) H'
theorem em' (a b : Int) (h : 0 < b) : 0 ≤ a % b ∧ a % b < b := ⟨Int.emod_nonneg _ (by omega), Int.emod_lt_of_pos _ h⟩
theorem cut63 (xs : List V) : cutV xs none (some 63) = xs.take 63 := by
  unfold cutV
  rw [show HT.sIx xs.length xs.length (some 63) = min 63 xs.length from HT.sIx_nat xs.length xs.length 63, HT.sIx_none]
  show (List.take (min 63 xs.length - 0) xs) = xs.take 63
  rw [Nat.sub_zero, ← List.take_take, List.take_length]
section
variable {P : Program} {w : World} {K : PySem.W.Frag} {mg : Str → Option Value} {base : Heap}
theorem ok_feed {f : Addr} {fd : FuncData} {k : Nat} (F : Fun K "_law_feed" "_law_feed" s_L_feed f fd) (B : Bn mg) : FnOk P w K mg base CX0 (k + 1) f fd ["_law_script"] (spFeed K) := by
  refine F.ok sc_L_feed (fun vs H Q E h => ?_) (fun cdv A outer s H vs Q E hr h => ?_)
  · obtain ⟨a, ns, rfl, _⟩ := h
    rfl
  · obtain ⟨a, ns, rfl, hS, q⟩ := h
    refine ⟨_, (pss_cons (ps_set (i := 1) sc_L_feed.nd rfl (Or.inl rfl) (pe_callTy call_list_of (by rfl) B.list (by decide +kernel) (pa_cons (pe_slice sl_list (pv 0) po_none (po_some pe_int)) pa_nil)))
      (pss_cons (ps_set (i := 2) sc_L_feed.nd rfl (Or.inl rfl) (pe_op op_add pe_int (pe_op op_mulW pe_int (pe_callB call_len_seq (by rfl) B.len PySem.boot_len (pa_cons (pv 1) pa_nil)))))
      (pss_cons (ps_for PassesOwn.never rfl (pi_list (pv 1)) (pg_name (i := 3) sc_L_feed.nd rfl (Or.inl rfl)) (pss_one (ps_set (i := 2) sc_L_feed.nd rfl (Or.inl rfl) (pe_op op_mod (pe_op op_add (pe_op op_add (pe_op op_mulW (pv 2) pe_int) (pe_op op_mod (pe_callTy call_int1 (by rfl) B.int (by decide +kernel) (pa_cons (pv 3) pa_nil)) pe_int)) pe_int) pe_int))))
      (pss_one (ps_ret (pe_lst (pa_cons (pv 1) (pa_cons pe_int (pa_cons pe_int (pa_cons (pv 2) pa_nil)))))))))), ?_⟩
    refine ⟨_, rfl, _, rfl, a, _, rfl, hS, fun c1 n1 => ?_⟩
    refine ⟨c1, _, rfl, .inl (SqL.of upd_same), fun c nc => ?_⟩
    refine ⟨_, rfl, c, _, rfl, .inl (SqL.of upd_same), _, _, rfl, rfl, mw (by decide) ?_, _, _, rfl, rfl, ?_⟩
    · show (((cutV (ns.map V.int) none (some 63)).length : Nat) : Int).natAbs < _
      rw [cut63, List.length_take]
      omega
    · obtain ⟨ms, ecut, l63⟩ : ∃ ms : List Int, cutV (ns.map V.int) none (some 63) = ms.map V.int ∧ ms.length ≤ 63 := ⟨ns.take 63, by rw [cut63, List.map_take], by rw [List.length_take]; omega⟩
      rw [ecut] at nc ⊢
      have s1 : Same H (upd H c1 (.lst (ms.map V.int))) := same_upd n1
      have s2 := s1.trans (same_upd (o := .lst (ms.map V.int)) nc)
      have nH : H c = none := s1.free nc
      refine ⟨_, rfl, c, rfl, ⟨_, SqL.of upd_same⟩, for_list (K := K) (a := c) (xs := ms.map V.int) (fun i σ H' => ∃ (m : Int) (v : Option V), σ = [some (.ref a), some (.ref c), some (.int m), v] ∧ H' = upd (upd H c1 (.lst (ms.map V.int))) c (.lst (ms.map V.int)) ∧ 0 ≤ m ∧ m < 2147483647)
        ⟨_, none, rfl, rfl, ?_, ?_⟩ ?_ ?_ ?_⟩
      · omega
      · rw [List.length_map]; omega
      · rintro i σ H' _ ⟨m, v, rfl, rfl, _⟩
        exact SqL.of upd_same
      · rintro i y σ H' hi ⟨m, v, rfl, rfl, m0, m1⟩
        obtain ⟨u, rfl⟩ : ∃ u, y = V.int u := by
          rw [List.getElem?_map] at hi
          cases e : ms[i]? with
          | none => rw [e] at hi; cases hi
          | some u => rw [e] at hi; exact ⟨u, (Option.some.inj hi).symm⟩
        refine ⟨_, rfl, _, _, rfl, rfl, mw (by omega) (by decide), _, rfl, .inl ⟨_, rfl, _, _, rfl, rfl, (by show (0 : Int) < 1000003; decide), _, _, rfl, rfl, _, _, rfl, rfl, _, _, rfl, rfl, (by show (0 : Int) < 2147483629; decide), ?_⟩⟩
        refine ⟨_, _, rfl, rfl, ?_, ?_⟩ <;> omega
      · rintro σ H' ⟨m, v, rfl, rfl, m0, m1⟩
        refine ⟨_, rfl, _, rfl, (by show 4 ≤ sizeLine; decide), fun p np => ?_⟩
        have npc : c ≠ p := fun e => by rw [← e, upd_same] at np; cases np
        refine q _ p c (s2.trans (same_upd np)) (s2.free np) ⟨ms, 0, 0, m, upd_same, ?_, npc, l63, by omega, m0, m1⟩
        rw [upd_ne npc, upd_same]
theorem ok_take {f : Addr} {fd : FuncData} {k : Nat} (F : Fun K "_law_take" "_law_take" s_L_take f fd) (B : Bn mg) : FnOk P w K mg base CX0 (k + 1) f fd ["_law_feed_here", "_law_many"] spTake := by
  refine F.ok sc_L_take (fun vs H Q E h => ?_) (fun cdv A outer s H vs Q E hr h => ?_)
  · obtain ⟨p, c, n, rfl, _⟩ := h
    rfl
  · obtain ⟨p, c, n, rfl, n0, n1, hF, q⟩ := h
    refine ⟨_, (pss_cons (ps_if (PW.pt (pw_and (pt_cmpR op_eq (pe_ix ix_list (pv 0) pe_int (fun _ _ => rfl)) pe_int (nomark _)) (pw_and1 (pt_cmpR op_lt (pe_ix ix_list (pv 0) pe_int (fun _ _ => rfl)) (pe_callB call_len_seq (by rfl) B.len PySem.boot_len (pa_cons (pe_ix ix_list (pv 0) pe_int (fun _ _ => rfl)) pa_nil)) (nomark _))))) (pss_cons (ps_set (i := 2) sc_L_take.nd rfl (Or.inl rfl) (pe_ix ix_list (pe_ix ix_list (pv 0) pe_int (fun _ _ => rfl)) (pe_ix ix_list (pv 0) pe_int (fun _ _ => rfl)) (fun _ _ => rfl)))
      (pss_cons (ps_asg (pe_op op_add (pe_ix ix_list (pv 0) pe_int (fun _ _ => rfl)) pe_int) (pg_sub (pv 0) pe_int set_list))
      (pss_one (ps_if (pt_cmpR op_ge (pv 2) (pe_op op_pow pe_int pe_int) (nomark _)) (pss_one (ps_asg (pv 2) (pg_sub (pv 0) pe_int set_list))) (pss_cons (ps_set (i := 3) sc_L_take.nd rfl (Or.inl rfl) (pe_op op_add (pe_op op_mulW (pe_ix ix_list (pv 0) pe_int (fun _ _ => rfl)) pe_int) (pe_op op_mod (pe_callTy call_int1 (by rfl) B.int (by decide +kernel) (pa_cons (pv 2) pa_nil)) pe_int)))
      (pss_one (ps_asg (pe_op op_mod (pe_op op_add (pv 3) (pe_op op_mulW (pe_ix ix_list (pv 0) pe_int (fun _ _ => rfl)) pe_int)) pe_int) (pg_sub (pv 0) pe_int set_list)))))))) pss_nil)
      (pss_cons (ps_if (pt_cmpR op_gt (pe_ix ix_list (pv 0) pe_int (fun _ _ => rfl)) pe_int (nomark _)) (pss_cons (ps_set (i := 4) sc_L_take.nd rfl (Or.inl rfl) (pe_op op_mod (pe_callTy call_int1 (by rfl) B.int (by decide +kernel) (pa_cons (pe_ix ix_list (pv 0) pe_int (fun _ _ => rfl)) pa_nil)) (pv 1)))
      (pss_cons (ps_asg (pe_op op_fdivW (pe_ix ix_list (pv 0) pe_int (fun _ _ => rfl)) (pv 1)) (pg_sub (pv 0) pe_int set_list))
      (pss_one (ps_ret (pv 4))))) pss_nil)
      (pss_cons (ps_asg (pe_op op_mod (pe_op op_add (pe_op op_mulW (pe_ix ix_list (pv 0) pe_int (fun _ _ => rfl)) pe_int) pe_int) pe_int) (pg_sub (pv 0) pe_int set_list))
      (pss_one (ps_ret (pe_op op_mod (pe_op op_fdivW (pe_op op_mod (pe_op op_mulW (pe_ix ix_list (pv 0) pe_int (fun _ _ => rfl)) (pe_callTy call_int1 (by rfl) B.int (by decide +kernel) (pa_cons (pe_ix ix_list (pv 0) pe_int (fun _ _ => rfl)) pa_nil))) pe_int) pe_int) (pv 1))))))), ?_⟩
    have hF0 := hF
    obtain ⟨ms, i, u, m, hp, hc, ncp, l63, u0, m0, m1⟩ := hF
    refine seq_cut (fun σ H' => ∃ (x2 x3 x4 : Option V) (i : Nat) (u m : Int), σ = [some (.ref p), some (.int n), x2, x3, x4] ∧ H' p = some (.lst [.ref c, .int i, .int u, .int m]) ∧ SameX p H H' ∧ 0 ≤ u ∧ 0 ≤ m ∧ m < 2147483647) ?_ ?_
    · rintro σ' H' ⟨x2, x3, x4, i, u, m, rfl, hp, sm, u0, m0, m1⟩
      have hc' := sm _ _ ncp hc
      have em := em'
      refine ⟨_, rfl, p, _, _, _, rfl, rfl, SqL.of hp, rfl, _, _, rfl, rfl, _, rfl, ?_⟩
      refine ite2 (fun h => ?_) (fun h => ?_)
      · have hu : 0 < u := by simpa using h
        refine ⟨_, rfl, p, _, _, _, rfl, rfl, SqL.of hp, rfl, .inl ⟨_, rfl, _, rfl, _, _, rfl, rfl, n0, ?_⟩⟩
        refine ⟨_, rfl, p, _, _, _, rfl, rfl, SqL.of hp, rfl, _, rfl, _, _, rfl, rfl, ⟨n0, n1⟩, _, rfl, p, _, _, 2, rfl, rfl, hp, rfl, ?_⟩
        refine ⟨_, rfl, q _ _ (em u n n0).1 (em u n n0).2 ⟨ms, i, u / n, m, upd_same, ?_, ncp, l63, Int.ediv_nonneg u0 (by omega), m0, m1⟩ (sm.trans sameX_upd)⟩
        rw [upd_ne ncp]
        exact hc'
      · refine ⟨_, rfl, p, _, _, _, rfl, rfl, SqL.of hp, rfl, _, _, rfl, rfl, mw (by omega) (by decide), _, _, rfl, rfl, _, _, rfl, rfl, (by show (0 : Int) < 2147483647; decide), _, rfl, p, _, _, 3, rfl, rfl, hp, rfl, ?_⟩
        have e3 := em (m * 69621 + 13) 2147483647 (by decide)
        refine ⟨_, rfl, p, _, _, _, rfl, rfl, SqL.of upd_same, rfl, _, rfl, p, _, _, _, rfl, rfl, SqL.of upd_same, rfl, .inl ⟨_, rfl, _, _, rfl, rfl, mw (by omega) (by omega), _, _, rfl, rfl, (by show (0 : Int) < 998244353; decide), _, _, rfl, rfl, dw (by decide) (by decide), _, rfl, _, _, rfl, rfl, n0, ?_⟩⟩
        refine q _ _ (em _ n n0).1 (em _ n n0).2 ⟨ms, i, u, _, upd_same, ?_, ncp, l63, u0, e3.1, e3.2⟩ (sm.trans sameX_upd)
        rw [upd_ne ncp]
        exact hc'
    · intro cont
      refine ⟨_, rfl, p, _, _, _, rfl, rfl, SqL.of hp, rfl, rfl, _, rfl, ?_⟩
      refine ite2 (fun h => ?_) (fun h => ?_)
      · refine ⟨_, rfl, p, _, _, _, rfl, rfl, SqL.of hp, rfl, _, rfl, p, _, _, _, rfl, rfl, SqL.of hp, rfl, c, _, rfl, .inl (SqL.of hc), _, _, rfl, rfl, _, rfl, ?_⟩
        refine ite2 (fun h2 => ?_) (fun h2 => ?_)
        · have hi : i < ms.length := by simpa using h2
          have hcell : (ms.map V.int)[i]? = some (.int ms[i]) := by rw [List.getElem?_map, List.getElem?_eq_getElem hi]; rfl
          generalize ms[i] = x at *
          refine ⟨_, rfl, p, _, _, _, rfl, rfl, SqL.of hp, rfl, _, rfl, p, _, _, _, rfl, rfl, SqL.of hp, rfl, c, _, _, _, rfl, rfl, SqL.of hc, atI_nat hcell, ?_⟩
          refine ⟨_, rfl, p, _, _, _, rfl, rfl, SqL.of hp, rfl, _, _, rfl, rfl, _, rfl, p, _, _, 1, rfl, rfl, hp, rfl, ?_⟩
          refine ⟨_, rfl, _, _, rfl, rfl, ⟨by decide, by decide, by decide⟩, _, _, rfl, rfl, _, rfl, ?_⟩
          refine ite2 (fun h3 => ?_) (fun h3 => ?_)
          · have hx : 10 ^ 18 ≤ x := by simpa using h3
            refine ⟨_, rfl, _, rfl, p, _, _, 2, rfl, rfl, upd_same, rfl, ?_⟩
            exact cont _ _ ⟨_, _, _, i + 1, x, m, rfl, upd_same, sameX_upd.trans sameX_upd, by omega, m0, m1⟩
          · refine ⟨_, rfl, p, _, _, _, rfl, rfl, SqL.of upd_same, rfl, _, _, rfl, rfl, mw (by omega) (by decide), _, rfl, .inl ⟨_, rfl, _, _, rfl, rfl, (by show (0 : Int) < 2147483563; decide), _, _, rfl, rfl, ?_⟩⟩
            refine ⟨_, rfl, _, rfl, p, _, _, _, rfl, rfl, SqL.of upd_same, rfl, _, _, rfl, rfl, mw (by show ((i : Int) + 1).natAbs < _; omega) (by decide), _, _, rfl, rfl, _, _, rfl, rfl, (by show (0 : Int) < 2147483647; decide), _, rfl, p, _, _, 3, rfl, rfl, upd_same, rfl, ?_⟩
            have e3 := fun a => em' a 2147483647 (by decide)
            exact cont _ _ ⟨_, _, _, i + 1, u, _, rfl, upd_same, sameX_upd.trans sameX_upd, u0, (e3 _).1, (e3 _).2⟩
        · exact cont _ _ ⟨_, _, _, i, u, m, rfl, hp, .refl, u0, m0, m1⟩
      · exact cont _ _ ⟨_, _, _, i, u, m, rfl, hp, .refl, u0, m0, m1⟩
end
end G
set_option Elab.async false
set_option linter.all false
set_option maxRecDepth 100000
namespace G
open PySem PySem.Spec PyProof.Rows L2 RZ
/-! ### the comparison of data -/
theorem _root_.L2.Same.tup {K : PySem.W.Frag} {H H' : Hp} {a : Addr} {xs : List V} (e : Same H H') (h : SqT K H a xs) : SqT K H' a xs := by
  rcases h with (h | ⟨o, h⟩) | h
  · exact .inl (.inl (e _ _ h))
  · exact .inl (.inr ⟨o, e _ _ h⟩)
  · exact .inr h
def flat : V → Bool
  | .non => true
  | .bl _ => true
  | .int _ => true
  | .str _ => true
  | _ => false
def EqV (K : PySem.W.Frag) (H : Hp) : Nat → V → V → Prop
  | 0, _, _ => False
  | n + 1, x, y => (flat x = true ∧ x = y) ∨ ∃ (a b : Addr) (xs ys : List V), x = .ref a ∧ y = .ref b ∧ ((H a = some (.lst xs) ∧ H b = some (.lst ys)) ∨ (SqT K H a xs ∧ SqT K H b ys)) ∧ xs.length = ys.length ∧ xs.length ≤ 1000 ∧ ∀ (i : Nat) (x y : V), xs[i]? = some x → ys[i]? = some y → EqV K H n x y
theorem EqV.same {K : PySem.W.Frag} {H H' : Hp} (e : Same H H') : ∀ (n : Nat) {x y : V}, EqV K H n x y → EqV K H' n x y
  | 0, _, _, h => h
  | n + 1, x, y, h => by
    rcases h with h | ⟨a, b, xs, ys, rfl, rfl, h1, h2, hk, h3⟩
    · exact .inl h
    · refine .inr ⟨a, b, xs, ys, rfl, rfl, ?_, h2, hk, fun i x y h4 h5 => EqV.same e n (h3 i x y h4 h5)⟩
      rcases h1 with ⟨p, q⟩ | ⟨p, q⟩
      · exact .inl ⟨e _ _ p, e _ _ q⟩
      · exact .inr ⟨e.tup p, e.tup q⟩
theorem ty_tup {K : PySem.W.Frag} {H : Hp} {a : Addr} {xs : List V} (h : SqT K H a xs) : TyX K H (.ref a) (.type "tuple") := by
  rcases h with (h | ⟨o, h⟩) | ⟨o, its, n, h, c, _⟩
  · exact .base (.tup h)
  · exact .fTuple h
  · exact .kTuple h c
theorem zip_turns {J : It} {xs ys : List V} {H0 : Hp} {Qd : Hp → Prop} {Bd : (Hp → Prop) → V → Hp → Prop} (hl : xs.length = ys.length) (Sq : Hp → Prop)
    (hgo : ∀ i x y H, Sq H → xs[i]? = some x → ys[i]? = some y → J.go i H) (hst : ∀ H, Sq H → J.stop xs.length H) (hyl : ∀ i v H H', Sq H → J.yld i H v H' → ∃ T x y, v = .ref T ∧ H T = none ∧ H' = upd H T (.tup [x, y]) ∧ xs[i]? = some x ∧ ys[i]? = some y)
    (Pv : Nat → Hp → Prop) (h0 : Pv 0 H0) (hq : ∀ i H, Pv i H → Sq H)
    (hs : ∀ (i : Nat) (x y : V) (T : Addr) (H : Hp), xs[i]? = some x → ys[i]? = some y → Pv i H → H T = none → Bd (Pv (i + 1)) (.ref T) (upd H T (.tup [x, y]))) (hd : ∀ H, Pv xs.length H → Qd H) :
    ∃ W : Nat → Nat → Hp → Prop, (∃ m, W 0 m H0) ∧ ∀ i m H, W i m H → (J.stop i H ∧ Qd H) ∨ (J.go i H ∧ ∃ Nx : Hp → Prop, (∀ H', Nx H' → ∃ m', m' < m ∧ W (i + 1) m' H') ∧ ∀ x H', J.yld i H x H' → Bd Nx x H') := by
  refine ⟨fun i m H => m = xs.length - i ∧ i ≤ xs.length ∧ Pv i H, ⟨xs.length, rfl, Nat.zero_le _, h0⟩, ?_⟩
  rintro i m H ⟨rfl, hi, p⟩
  have q := hq i H p
  by_cases hlt : i < xs.length
  · have hx : xs[i]? = some xs[i] := List.getElem?_eq_getElem hlt
    have hlt2 : i < ys.length := by omega
    have hy : ys[i]? = some ys[i] := List.getElem?_eq_getElem hlt2
    refine .inr ⟨hgo i _ _ H q hx hy, Pv (i + 1), fun H' p' => ⟨xs.length - (i + 1), by omega, rfl, hlt, p'⟩, fun v H' y => ?_⟩
    obtain ⟨T, x', y', rfl, hT, rfl, f1, f2⟩ := hyl i v H H' q y
    exact hs i x' y' T H f1 f2 p hT
  · have e : i = xs.length := by omega
    subst e
    exact .inl ⟨hst H q, hd H p⟩
def spSame (K : PySem.W.Frag) (n : Nat) : Sp := fun vs H Q _ => ∃ x y : V, vs = [x, y] ∧ EqV K H n x y ∧ ∀ H', Same H H' → Q (.bl true) H'
theorem kit {K : PySem.W.Frag} {a b : String} {r : Bool} (h : kitB a b = some r) : PySem.W.kitOne K (.type a) (.type b) = some r := kit_ty h
section
variable {P : Program} {w : World} {K : PySem.W.Frag} {mg : Str → Option Value} {base : Heap}
theorem ok_same {f : Addr} {fd : FuncData} (F : Fun K "_law_same" "_law_same" s_L_same f fd) (B : Bn mg) (mgS : mg "_law_same" = some (.ref f)) (bS : Binds K fd ["_law_found", "_law_due"] []) : ∀ n : Nat, FnOk P w K mg base CX0 (n + 1) f fd ["_law_found", "_law_due"] (spSame K n)
  | 0 => F.ok sc_L_same (fun vs H Q E h => by obtain ⟨x, y, _, h, _⟩ := h; exact h.elim) (fun cdv A outer s H vs Q E hr h => by obtain ⟨x, y, _, h, _⟩ := h; exact h.elim)
  | n + 1 => by
    have D_same : DefOk P w K mg base "_law_same" (n + 1) ["_law_found", "_law_due"] (spSame K n) := ⟨f, fd, ok_same F B mgS bS n, mgS, F.kp, bS⟩
    refine F.ok sc_L_same (fun vs H Q E h => ?_) (fun cdv A outer s H vs Q E hr h => ?_)
    · obtain ⟨x, y, rfl, _⟩ := h
      rfl
    · obtain ⟨x, y, rfl, h, q⟩ := h
      refine ⟨_, (pss_cons (ps_if (pt_cmpR op_isN (pv 1) pe_non (nomark _)) (pss_one (ps_ret (pe_cmpR op_isN (pv 0) pe_non (nomark _)))) pss_nil)
      (pss_cons (ps_if (PW.pt (pw_or (pt_val (pe_callB call_isi (by rfl) B.isinstance (by decide +kernel) (pa_cons (pv 1) (pa_cons (pe_bltn (v := .ty "bool") (u := .type "bool") (by rfl) B.bool (by decide +kernel) rfl) pa_nil)))) (pw_or1 (pt_val (pe_callB call_isi (by rfl) B.isinstance (by decide +kernel) (pa_cons (pv 0) (pa_cons (pe_bltn (v := .ty "bool") (u := .type "bool") (by rfl) B.bool (by decide +kernel) rfl) pa_nil))))))) (pss_one (ps_ret (pe_and (pe_callB call_isi (by rfl) B.isinstance (by decide +kernel) (pa_cons (pv 1) (pa_cons (pe_bltn (v := .ty "bool") (u := .type "bool") (by rfl) B.bool (by decide +kernel) rfl) pa_nil))) (pe_and (pe_callB call_isi (by rfl) B.isinstance (by decide +kernel) (pa_cons (pv 0) (pa_cons (pe_bltn (v := .ty "bool") (u := .type "bool") (by rfl) B.bool (by decide +kernel) rfl) pa_nil))) (pe_one (pe_cmpR op_eq (pv 0) (pv 1) (nomark _))))))) pss_nil)
      (pss_cons (ps_if (pt_val (pe_callB call_isiT (by rfl) B.isinstance (by decide +kernel) (pa_cons (pv 1) (pa_cons (pe_tup (pa_cons (pe_bltn (v := .ty "int") (u := .type "int") (by rfl) B.int (by decide +kernel) rfl) (pa_cons (pe_bltn (v := .ty "str") (u := .type "str") (by rfl) B.str (by decide +kernel) rfl) pa_nil))) pa_nil)))) (pss_one (ps_ret (pe_and (pe_callB call_isiT (by rfl) B.isinstance (by decide +kernel) (pa_cons (pv 0) (pa_cons (pe_tup (pa_cons (pe_bltn (v := .ty "int") (u := .type "int") (by rfl) B.int (by decide +kernel) rfl) (pa_cons (pe_bltn (v := .ty "str") (u := .type "str") (by rfl) B.str (by decide +kernel) rfl) pa_nil))) pa_nil))) (pe_and (pe_cmpR op_eq (pe_callB call_isi (by rfl) B.isinstance (by decide +kernel) (pa_cons (pv 0) (pa_cons (pe_bltn (v := .ty "int") (u := .type "int") (by rfl) B.int (by decide +kernel) rfl) pa_nil))) (pe_callB call_isi (by rfl) B.isinstance (by decide +kernel) (pa_cons (pv 1) (pa_cons (pe_bltn (v := .ty "int") (u := .type "int") (by rfl) B.int (by decide +kernel) rfl) pa_nil))) (nomark _)) (pe_one (pe_cmpR op_eq (pv 0) (pv 1) (nomark _))))))) pss_nil)
      (pss_cons (ps_if (PW.pt (pw_or (pt_cmpR op_ne (pe_callB call_isi (by rfl) B.isinstance (by decide +kernel) (pa_cons (pv 1) (pa_cons (pe_bltn (v := .ty "tuple") (u := .type "tuple") (by rfl) B.tuple (by decide +kernel) rfl) pa_nil))) (pe_callB call_isi (by rfl) B.isinstance (by decide +kernel) (pa_cons (pv 0) (pa_cons (pe_bltn (v := .ty "tuple") (u := .type "tuple") (by rfl) B.tuple (by decide +kernel) rfl) pa_nil))) (nomark _)) (pw_or1 (pt_cmpR op_ne (pe_callB call_isi (by rfl) B.isinstance (by decide +kernel) (pa_cons (pv 1) (pa_cons (pe_bltn (v := .ty "list") (u := .type "list") (by rfl) B.list (by decide +kernel) rfl) pa_nil))) (pe_callB call_isi (by rfl) B.isinstance (by decide +kernel) (pa_cons (pv 0) (pa_cons (pe_bltn (v := .ty "list") (u := .type "list") (by rfl) B.list (by decide +kernel) rfl) pa_nil))) (nomark _))))) (pss_one (ps_ret pe_bl)) pss_nil)
      (pss_one (ps_ret (pe_and (pe_cmpR op_eq (pe_callB call_len_seq (by rfl) B.len PySem.boot_len (pa_cons (pv 0) pa_nil)) (pe_callB call_len_seq (by rfl) B.len PySem.boot_len (pa_cons (pv 1) pa_nil)) (nomark _)) (pe_one (pe_callB (cr_all rfl) (by rfl) B.all (by decide +kernel) (pa_cons (pe_lc (own := [("_law_one", 2), ("_law_other", 3)]) (g := gTup K 2 (gCons (gName 2) (gCons (gName 3) gNil))) (tt := tYes) (by rfl) sc_L_same.nd (pi_zipA (by rfl) B.zip (pa_cons (pv 0) (pa_cons (pv 1) pa_nil))) (blkOk_by (own := [("_law_one", 2), ("_law_other", 3)]) (N := ["_law_found", "_law_due", "_law_one", "_law_other"]) (sc := (defScope s_L_same)) (by decide +kernel)) (fun _ _ _ _ _ => pg_tup (by rfl) (pgs_cons (pg_name (i := 2) sc_L_same.nd rfl (Or.inl rfl)) (pgs_cons (pg_name (i := 3) sc_L_same.nd rfl (Or.inl rfl)) pgs_nil))) (fun _ _ _ _ _ => pts_nil) (fun _ _ _ _ _ => (pe_callD D_same hr (pa_cons (pv 2) (pa_cons (pv 3) pa_nil))))) pa_nil)))))))))), ?_⟩
      rcases h with ⟨hf, rfl⟩ | ⟨a, b, xs, ys, rfl, rfl, hh, hl, hk, he⟩
      · cases x with
        | non =>
          refine ⟨_, rfl, rfl, _, rfl, ifT rfl ?_⟩
          exact ⟨_, rfl, rfl, q _ (.refl _)⟩
        | bl b =>
          refine ⟨_, rfl, rfl, _, rfl, ifF rfl ?_⟩
          refine ⟨_, rfl, _, _, _, _, true, rfl, .ty _, .base (.bl _), kit (by decide +kernel), _, rfl, ifT rfl ?_⟩
          refine ⟨_, rfl, _, _, _, _, true, rfl, .ty _, .base (.bl _), kit (by decide +kernel), _, rfl, ?_⟩
          refine ifT rfl ?_
          refine ⟨_, rfl, _, _, _, _, true, rfl, .ty _, .base (.bl _), kit (by decide +kernel), _, rfl, ifT rfl ?_⟩
          refine ⟨_, rfl, _, rfl, (by cases b <;> rfl), ?_⟩
          rw [show decide (V.bl b = V.bl b) = true from decide_eq_true rfl]
          exact q _ (.refl _)
        | int i =>
          refine ⟨_, rfl, rfl, _, rfl, ifF rfl ?_⟩
          refine ⟨_, rfl, _, _, _, _, false, rfl, .ty _, .base (.int _), kit (by decide +kernel), _, rfl, ifF rfl ?_⟩
          refine ⟨_, rfl, _, _, _, _, false, rfl, .ty _, .base (.int _), kit (by decide +kernel), _, rfl, ifF rfl ?_⟩
          refine ⟨_, rfl, (by show 2 ≤ sizeLine; decide), fun t nt => ?_⟩
          refine ⟨_, t, _, _, _, true, rfl, upd_same, .cons (.ty _) (.cons (.ty _) .nil), .base (.int _), kitAny_cons (b := true) (kit (by decide +kernel)) (fun z => by cases z) (fun _ => rfl), _, rfl, ifT rfl ?_⟩
          refine ⟨_, rfl, (by show 2 ≤ sizeLine; decide), fun t2 nt2 => ?_⟩
          refine ⟨_, t2, _, _, _, true, rfl, upd_same, .cons (.ty _) (.cons (.ty _) .nil), .base (.int _), kitAny_cons (b := true) (kit (by decide +kernel)) (fun z => by cases z) (fun _ => rfl), _, rfl, ifT rfl ?_⟩
          refine ⟨_, rfl, _, _, _, _, true, rfl, .ty _, .base (.int _), kit (by decide +kernel), ?_⟩
          refine ⟨_, rfl, _, _, _, _, true, rfl, .ty _, .base (.int _), kit (by decide +kernel), rfl, _, rfl, ifT rfl ?_⟩
          refine ⟨_, rfl, _, rfl, rfl, ?_⟩
          rw [show decide (V.int i = V.int i) = true from decide_eq_true rfl]
          exact q _ ((same_upd nt).trans (same_upd nt2))
        | str z =>
          refine ⟨_, rfl, rfl, _, rfl, ifF rfl ?_⟩
          refine ⟨_, rfl, _, _, _, _, false, rfl, .ty _, .base (.str _), kit (by decide +kernel), _, rfl, ifF rfl ?_⟩
          refine ⟨_, rfl, _, _, _, _, false, rfl, .ty _, .base (.str _), kit (by decide +kernel), _, rfl, ifF rfl ?_⟩
          refine ⟨_, rfl, (by show 2 ≤ sizeLine; decide), fun t nt => ?_⟩
          refine ⟨_, t, _, _, _, true, rfl, upd_same, .cons (.ty _) (.cons (.ty _) .nil), .base (.str _), kitAny_cons (b := false) (kit (by decide +kernel)) (fun _ => kitAny_cons (b := true) (kit (by decide +kernel)) (fun z => by cases z) (fun _ => rfl)) (fun _ => rfl), _, rfl, ifT rfl ?_⟩
          refine ⟨_, rfl, (by show 2 ≤ sizeLine; decide), fun t2 nt2 => ?_⟩
          refine ⟨_, t2, _, _, _, true, rfl, upd_same, .cons (.ty _) (.cons (.ty _) .nil), .base (.str _), kitAny_cons (b := false) (kit (by decide +kernel)) (fun _ => kitAny_cons (b := true) (kit (by decide +kernel)) (fun z => by cases z) (fun _ => rfl)) (fun _ => rfl), _, rfl, ifT rfl ?_⟩
          refine ⟨_, rfl, _, _, _, _, false, rfl, .ty _, .base (.str _), kit (by decide +kernel), ?_⟩
          refine ⟨_, rfl, _, _, _, _, false, rfl, .ty _, .base (.str _), kit (by decide +kernel), rfl, _, rfl, ifT rfl ?_⟩
          refine ⟨_, rfl, _, rfl, rfl, ?_⟩
          rw [show decide (V.str z = V.str z) = true from decide_eq_true rfl]
          exact q _ ((same_upd nt).trans (same_upd nt2))
        | _ => cases hf
      · obtain ⟨tn, bT, bL, tA, tB, k1, k2, k3, k4, k5⟩ : ∃ (tn : String) (bT bL : Bool), (∀ H', Same H H' → TyX K H' (.ref a) (.type tn)) ∧ (∀ H', Same H H' → TyX K H' (.ref b) (.type tn)) ∧ kitB tn "bool" = some false ∧ kitB tn "int" = some false ∧ kitB tn "str" = some false ∧ kitB tn "tuple" = some bT ∧ kitB tn "list" = some bL := by
          rcases hh with ⟨h1, h2⟩ | ⟨h1, h2⟩
          · exact ⟨"list", false, true, fun H' e => .base (.lst (e _ _ h1)), fun H' e => .base (.lst (e _ _ h2)), by decide +kernel, by decide +kernel, by decide +kernel, by decide +kernel, by decide +kernel⟩
          · exact ⟨"tuple", true, false, fun H' e => ty_tup (e.tup h1), fun H' e => ty_tup (e.tup h2), by decide +kernel, by decide +kernel, by decide +kernel, by decide +kernel, by decide +kernel⟩
        refine ⟨_, rfl, rfl, _, rfl, ifF rfl ?_⟩
        refine ⟨_, rfl, _, _, _, _, false, rfl, .ty _, tB _ (.refl _), kit k1, _, rfl, ifF rfl ?_⟩
        refine ⟨_, rfl, _, _, _, _, false, rfl, .ty _, tA _ (.refl _), kit k1, _, rfl, ifF rfl ?_⟩
        refine ⟨_, rfl, (by show 2 ≤ sizeLine; decide), fun t nt => ?_⟩
        have s1 : Same H (upd H t (.tup [.ty "int", .ty "str"])) := same_upd nt
        refine ⟨_, t, _, _, _, false, rfl, upd_same, .cons (.ty _) (.cons (.ty _) .nil), tB _ s1, kitAny_cons (b := false) (kit k2) (fun _ => kitAny_cons (b := false) (kit k3) (fun _ => kitAny_nil) (fun z => by cases z)) (fun z => by cases z), _, rfl, ifF rfl ?_⟩
        refine ⟨_, rfl, _, _, _, _, bT, rfl, .ty _, tB _ s1, kit k4, _, rfl, _, _, _, _, bT, rfl, .ty _, tA _ s1, kit k4, (by cases bT <;> rfl), _, rfl, ifF (by cases bT <;> rfl) ?_⟩
        refine ⟨_, rfl, _, _, _, _, bL, rfl, .ty _, tB _ s1, kit k5, _, rfl, _, _, _, _, bL, rfl, .ty _, tA _ s1, kit k5, (by cases bL <;> rfl), _, rfl, ifF (by cases bL <;> rfl) ?_⟩
        have hsz : ∀ i, i ≤ xs.length → i < sizeLine := fun i hi => small1000 (by omega)
        rcases hh with ⟨h1, h2⟩ | ⟨h1, h2⟩
        · have q1 : ∀ H', Same (upd H t (.tup [.ty "int", .ty "str"])) H' → H' a = some (.lst xs) ∧ H' b = some (.lst ys) := fun H' e => ⟨e _ _ (s1 _ _ h1), e _ _ (s1 _ _ h2)⟩
          refine ⟨_, rfl, a, _, rfl, .inl (SqL.of (s1 _ _ h1)), _, rfl, b, _, rfl, .inl (SqL.of (s1 _ _ h2)), rfl, _, rfl, ifT (by rw [hl]; exact decide_eq_true rfl) ?_⟩
          refine ⟨_, rfl, _, rfl, a, b, xs, ys, rfl, .inl ⟨SqL.of (s1 _ _ h1), SqL.of (s1 _ _ h2), fun D nD => ?_⟩⟩
          refine zip_turns hl (fun H' => SqL K H' a xs ∧ SqL K H' b ys) (fun i x y H' q hx hy => ⟨xs, ys, x, y, q.1, q.2, hx, hy⟩) (fun H' q => ⟨xs, ys, q.1, q.2, .inl (Nat.le_refl _)⟩) (fun i v H' H2 q hy => ?_)
            (fun i H' => Same (upd H t (.tup [.ty "int", .ty "str"])) H' ∧ H' D = some (.lst ((List.replicate i true).map V.bl))) ⟨same_upd nD, upd_same⟩ (fun i H' q => ⟨SqL.of (q1 _ q.1).1, SqL.of (q1 _ q.1).2⟩) ?_ ?_
          · obtain ⟨T, x', y', rfl, hT, rfl, f1, f2⟩ := hy
            exact ⟨T, x', y', rfl, hT, rfl, f1 _ q.1, f2 _ q.2⟩
          · rintro i x y T H' hx hy ⟨sm, hD⟩ nT
            have sT := same_upd (o := .tup [x, y]) nT
            refine ⟨T, [x, y], rfl, SqT.of upd_same, rfl, x, [y], rfl, y, [], rfl, rfl, rfl, ?_⟩
            dsimp only [tYes]
            rw [if_pos rfl]
            refine ⟨_, rfl, _, rfl, x, y, rfl, ((he i x y hx hy).same ((s1.trans sm).trans sT)), fun H2 s2 => ?_⟩
            refine ⟨_, s2 _ _ (sT _ _ hD), by rw [List.length_map, List.length_replicate]; exact hsz _ (by have := (List.getElem?_eq_some_iff.mp hx).1; omega), ?_, ?_⟩
            · intro c o e
              have nc : c ≠ D := ne_of_none e nD
              rw [upd_ne nc]
              exact s2 _ _ (sT _ _ (sm _ _ e))
            · rw [upd_same, List.replicate_succ', List.map_append]
              rfl
          · rintro H' ⟨sm, hD⟩
            refine ⟨D, List.replicate xs.length true, rfl, SqL.of hD, ?_⟩
            rw [show (List.replicate xs.length true).all id = true by simp]
            exact q _ (s1.trans sm)
        · have q1 : ∀ H', Same (upd H t (.tup [.ty "int", .ty "str"])) H' → SqT K H' a xs ∧ SqT K H' b ys := fun H' e => ⟨e.tup (s1.tup h1), e.tup (s1.tup h2)⟩
          refine ⟨_, rfl, a, _, rfl, .inr (s1.tup h1), _, rfl, b, _, rfl, .inr (s1.tup h2), rfl, _, rfl, ifT (by rw [hl]; exact decide_eq_true rfl) ?_⟩
          refine ⟨_, rfl, _, rfl, a, b, xs, ys, rfl, .inr ⟨s1.tup h1, s1.tup h2, fun D nD => ?_⟩⟩
          refine zip_turns hl (fun H' => SqT K H' a xs ∧ SqT K H' b ys) (fun i x y H' q hx hy => ⟨xs, ys, x, y, q.1, q.2, hx, hy⟩) (fun H' q => ⟨xs, ys, q.1, q.2, .inl (Nat.le_refl _)⟩) (fun i v H' H2 q hy => ?_)
            (fun i H' => Same (upd H t (.tup [.ty "int", .ty "str"])) H' ∧ H' D = some (.lst ((List.replicate i true).map V.bl))) ⟨same_upd nD, upd_same⟩ (fun i H' q => q1 _ q.1) ?_ ?_
          · obtain ⟨T, x', y', rfl, hT, rfl, f1, f2⟩ := hy
            exact ⟨T, x', y', rfl, hT, rfl, f1 _ q.1, f2 _ q.2⟩
          · rintro i x y T H' hx hy ⟨sm, hD⟩ nT
            have sT := same_upd (o := .tup [x, y]) nT
            refine ⟨T, [x, y], rfl, SqT.of upd_same, rfl, x, [y], rfl, y, [], rfl, rfl, rfl, ?_⟩
            dsimp only [tYes]
            rw [if_pos rfl]
            refine ⟨_, rfl, _, rfl, x, y, rfl, ((he i x y hx hy).same ((s1.trans sm).trans sT)), fun H2 s2 => ?_⟩
            refine ⟨_, s2 _ _ (sT _ _ hD), by rw [List.length_map, List.length_replicate]; exact hsz _ (by have := (List.getElem?_eq_some_iff.mp hx).1; omega), ?_, ?_⟩
            · intro c o e
              have nc : c ≠ D := ne_of_none e nD
              rw [upd_ne nc]
              exact s2 _ _ (sT _ _ (sm _ _ e))
            · rw [upd_same, List.replicate_succ', List.map_append]
              rfl
          · rintro H' ⟨sm, hD⟩
            refine ⟨D, List.replicate xs.length true, rfl, SqL.of hD, ?_⟩
            rw [show (List.replicate xs.length true).all id = true by simp]
            exact q _ (s1.trans sm)
end
end G
set_option Elab.async false
set_option linter.all false
set_option maxRecDepth 100000
namespace G
open PySem PySem.Spec PyProof.Rows L2
/-! ### what the top has written -/
section
variable {K : PySem.W.Frag} {C f p g : Addr} {x m qual : Str} {st : Stmt} {oc kV dc pm cd ct mc : Value} {od an : Option Addr} {sl : Array (Option Value)} {rest : List Value} {h : Heap} {mg : Str → Option Value}
def FnAt (K : PySem.W.Frag) (x qual : Str) (st : Stmt) (f : Addr) : Prop := ∃ fd : FuncData, Fun K x qual st f fd
theorem FnAt.mk (l : K.lookup f = some ⟨oc, od, .func (PySem.W.fnOf x qual (defArgs st) (defBody st) (defScope st) .none kV dc pm an cd ct), sl⟩) (c : PySem.W.codeIn K cd qual = true) (k : PySem.W.keepIn K (.ref f) = true) : FnAt K x qual st f := ⟨_, fun_mk (st := st) l c k⟩
def TopFn (K : PySem.W.Frag) (x : Str) (st : Stmt) : Prop := ∃ f : Addr, PySem.W.nsIn K mainGlobals x = some (some (.ref f)) ∧ FnAt K x x st f
theorem TopFn.mk (a : PySem.W.nsIn K mainGlobals x = some (some (.ref f))) (l : K.lookup f = some ⟨oc, od, .func (PySem.W.fnOf x x (defArgs st) (defBody st) (defScope st) .none kV dc pm an cd ct), sl⟩) (c : PySem.W.codeIn K cd x = true) (k : PySem.W.keepIn K (.ref f) = true) : TopFn K x st := ⟨f, a, .mk l c k⟩
theorem TopFn.get (T : TopFn K x st) (X : K.In h) (G : h.Ns mainGlobals mg) : ∃ (f : Addr) (fd : FuncData), Fun K x x st f fd ∧ mg x = some (.ref f) := by
  obtain ⟨f, a, fd, F⟩ := T
  exact ⟨f, fd, F, PySem.W.mg_of X G a⟩
/-- the law itself: with its data told, for the binding -/
def TopLaw (K : PySem.W.Frag) (x : Str) (st : Stmt) : Prop := ∃ (f : Addr) (oc kV dc pm cd ct : Value) (od an : Option Addr) (sl : Array (Option Value)), PySem.W.nsIn K mainGlobals x = some (some (.ref f)) ∧ K.lookup f = some ⟨oc, od, .func (PySem.W.fnOf x x (defArgs st) (defBody st) (defScope st) .none kV dc pm an cd ct), sl⟩ ∧ PySem.W.codeIn K cd x = true ∧ PySem.W.keepIn K (.ref f) = true
theorem TopLaw.mk (a : PySem.W.nsIn K mainGlobals x = some (some (.ref f))) (l : K.lookup f = some ⟨oc, od, .func (PySem.W.fnOf x x (defArgs st) (defBody st) (defScope st) .none kV dc pm an cd ct), sl⟩) (c : PySem.W.codeIn K cd x = true) (k : PySem.W.keepIn K (.ref f) = true) : TopLaw K x st := ⟨f, oc, kV, dc, pm, cd, ct, od, an, sl, a, l, c, k⟩
def TopMeth (K : PySem.W.Frag) (C : Addr) (m qual : Str) (st : Stmt) : Prop := ∃ f : Addr, Meth K C m f ∧ FnAt K m qual st f
theorem TopMeth.mk (a : PySem.W.findIn K (.ref C) m = some (some (.ref f))) (i : PySem.W.isFn K (.ref f) = true) (l : K.lookup f = some ⟨oc, od, .func (PySem.W.fnOf m qual (defArgs st) (defBody st) (defScope st) .none kV dc pm an cd ct), sl⟩) (c : PySem.W.codeIn K cd qual = true) (k : PySem.W.keepIn K (.ref f) = true) : TopMeth K C m qual st := ⟨f, ⟨a, i, k⟩, .mk l c k⟩
def TopProp (K : PySem.W.Frag) (C : Addr) (m qual : Str) (st : Stmt) : Prop := ∃ p g : Addr, PropOf K C m p g ∧ FnAt K m qual st g
theorem TopProp.mk (a : PySem.W.findIn K (.ref C) m = some (some (.ref p))) (s : PySem.W.specialIn K (.ref p) "__get__" = some (some (.builtin "property.__get__"))) (t : PySem.W.takesIn K (.ref p) = some true) (r : PySem.W.recIn K p "property" = some (.ref g :: rest)) (l : K.lookup g = some ⟨oc, od, .func (PySem.W.fnOf m qual (defArgs st) (defBody st) (defScope st) .none kV dc pm an cd ct), sl⟩) (c : PySem.W.codeIn K cd qual = true) (k : PySem.W.keepIn K (.ref g) = true) : TopProp K C m qual st := ⟨p, g, ⟨a, s, t, _, r⟩, .mk l c k⟩
def TopStat (K : PySem.W.Frag) (C : Addr) (m qual : Str) (st : Stmt) : Prop := ∃ (mc : Value) (p g : Addr), SMet K C mc m p g ∧ FnAt K m qual st g
theorem TopStat.mk (ty : PySem.W.typeIn K (.ref C) = some mc) (rd : PySem.W.readsIn K C mc = true) (ga : PySem.W.specialIn K (.ref C) "__getattribute__" = some (some (.builtin "type.__getattribute__"))) (a : PySem.W.findCls K (.ref C) mc m = some (.get (.builtin "staticmethod.__get__") (.ref p) .none (.ref C))) (r : PySem.W.recIn K p "staticmethod" = some (.ref g :: rest)) (l : K.lookup g = some ⟨oc, od, .func (PySem.W.fnOf m qual (defArgs st) (defBody st) (defScope st) .none kV dc pm an cd ct), sl⟩) (c : PySem.W.codeIn K cd qual = true) (k : PySem.W.keepIn K (.ref g) = true) : TopStat K C m qual st := ⟨mc, p, g, ⟨rd, ty, ga, a, ⟨_, r⟩, k⟩, .mk l c k⟩
def TopCls (K : PySem.W.Frag) (x : Str) (C : Addr) : Prop := PySem.W.nsIn K mainGlobals x = some (some (.ref C)) ∧ Cls K C ∧ PySem.W.selfFirst K C = true ∧ PySem.W.mroIn K C (.type "object") = some true ∧ PySem.W.makesIn K C = true ∧ PySem.W.keepIn K (.ref C) = true
theorem TopCls.mk (a : PySem.W.nsIn K mainGlobals x = some (some (.ref C))) (pg : PySem.W.plainGet K C Str.empty = true) (hd : PySem.W.hasDictIn K C = true) (po : PySem.W.plainOver K C = true) (sa : PySem.W.findIn K (.ref C) "__setattr__" = some (some (.builtin "object.__setattr__"))) (sf : PySem.W.selfFirst K C = true) (mr : PySem.W.mroIn K C (.type "object") = some true) (mk : PySem.W.makesIn K C = true) (kc : PySem.W.keepIn K (.ref C) = true) : TopCls K x C := ⟨a, ⟨pg, hd, po, sa⟩, sf, mr, mk, kc⟩
theorem TopCls.facts (T : TopCls K x C) (X : K.In h) (G : h.Ns mainGlobals mg) : ClsFacts K mg x C := ⟨T.2.1, PySem.W.mg_of X G T.1, T.2.2.1, T.2.2.2.1⟩
end
end G
set_option Elab.async false
set_option linter.all false
set_option maxRecDepth 100000
set_option maxHeartbeats 1000000
namespace G
open PySem PySem.Spec PyProof.Rows L2 RZ StX
/-! ### numbers and halves -/
def spIsNum : Sp := fun vs H Q _ => ∃ i : Int, vs = [.int i] ∧ Q (.bl true) H
def okH (ns : List Int) : Bool := decide (ns.length = 4) && (decide ((ns.map (· % 2)).sum = 0) || decide ((ns.map (· % 2)).sum = 4))
theorem in04 (z : Int) : inV (V.int z) [V.int 0, V.int 4] = (decide (z = 0) || decide (z = 4)) := by
  show ((0 == z) || ((4 == z) || false)) = _
  rw [Bool.or_false]
  congr 1
  · rw [Bool.eq_iff_iff]; simp only [beq_iff_eq, decide_eq_true_eq]; omega
  · rw [Bool.eq_iff_iff]; simp only [beq_iff_eq, decide_eq_true_eq]; omega
def spHalves (K : PySem.W.Frag) : Sp := fun vs H Q _ => ∃ (t : Addr) (ns : List Int), vs = [.ref t] ∧ SqT K H t (ns.map V.int) ∧ ns.length ≤ 1000 ∧ ∀ H', Same H H' → Q (.bl (okH ns)) H'
section
variable {P : Program} {w : World} {K : PySem.W.Frag} {mg : Str → Option Value} {base : Heap}
theorem ok_isnum {f : Addr} {fd : FuncData} {k : Nat} (F : Fun K "is_number" "is_number" s_is_number f fd) (B : Bn mg) : FnOk P w K mg base CX0 (k + 1) f fd ["value"] spIsNum := by
  refine F.ok sc_is_number (fun vs H Q E h => ?_) (fun cdv A outer s H vs Q E hr h => ?_)
  · obtain ⟨i, rfl, _⟩ := h
    rfl
  · obtain ⟨i, rfl, q⟩ := h
    refine ⟨_, (pss_one (ps_ret (pe_and (pe_callB call_isi (by rfl) B.isinstance (by decide +kernel) (pa_cons (pv 0) (pa_cons (pe_bltn (v := .ty "int") (u := .type "int") (by rfl) B.int (by decide +kernel) rfl) pa_nil))) (pe_one (pe_not (pe_callB call_isi (by rfl) B.isinstance (by decide +kernel) (pa_cons (pv 0) (pa_cons (pe_bltn (v := .ty "bool") (u := .type "bool") (by rfl) B.bool (by decide +kernel) rfl) pa_nil)))))))), ?_⟩
    refine ⟨_, rfl, _, _, _, _, true, rfl, .ty _, .base (.int _), kit (by decide +kernel), _, rfl, ifT rfl ?_⟩
    exact ⟨_, rfl, _, _, _, _, false, rfl, .ty _, .base (.int _), kit (by decide +kernel), _, rfl, q⟩
theorem ok_halves {f : Addr} {fd : FuncData} {k : Nat} (F : Fun K "are_halves" "are_halves" s_are_halves f fd) (B : Bn mg) (mS : mg "sum" = none) (D_isnum : DefOk P w K mg base "is_number" 1 ["value"] spIsNum) : FnOk P w K mg base CX0 2 f fd ["values"] (spHalves K) := by
  refine F.ok sc_are_halves (fun vs H Q E h => ?_) (fun cdv A outer s H vs Q E hr h => ?_)
  · obtain ⟨t, ns, rfl, _⟩ := h
    rfl
  · obtain ⟨t, ns, rfl, hT, hl, q⟩ := h
    refine ⟨_, (pss_cons (ps_if (PW.pt (pw_or (pt_cmpR op_ne (pe_callB call_len_seq (by rfl) B.len PySem.boot_len (pa_cons (pv 0) pa_nil)) pe_int (nomark _)) (pw_or1 (pt_not (pt_val (pe_callB (cr_all rfl) (by rfl) B.all (by decide +kernel) (pa_cons (pe_lc (own := [("value", 1)]) (g := gName 1) (tt := tYes) (by rfl) sc_are_halves.nd (pi_tup (pv 0)) (blkOk_by (own := [("value", 1)]) (N := ["values", "value"]) (sc := (defScope s_are_halves)) (by decide +kernel)) (fun _ _ _ _ _ => pg_name (i := 1) sc_are_halves.nd rfl (Or.inl rfl)) (fun _ _ _ _ _ => pts_nil) (fun _ _ _ _ _ => (pe_callD D_isnum hr (pa_cons (pv 1) pa_nil)))) pa_nil))))))) (pss_one (ps_ret pe_bl)) pss_nil)
      (pss_one (ps_ret (pe_cmpR op_in_seq (pe_callB (cr_sum rfl) (by rfl) B.sum (by decide +kernel) (pa_cons (pe_lc (own := [("value", 1)]) (g := gName 1) (tt := tYes) (by rfl) sc_are_halves.nd (pi_tup (pv 0)) (blkOk_by (own := [("value", 1)]) (N := ["values", "value"]) (sc := (defScope s_are_halves)) (by decide +kernel)) (fun _ _ _ _ _ => pg_name (i := 1) sc_are_halves.nd rfl (Or.inl rfl)) (fun _ _ _ _ _ => pts_nil) (fun _ _ _ _ _ => (pe_op op_mod (pv 1) pe_int))) pa_nil)) (pe_tup (pa_cons pe_int (pa_cons pe_int pa_nil))) (by rfl))))), ?_⟩
    refine ⟨_, rfl, t, _, rfl, .inr hT, rfl, _, rfl, ?_⟩
    rw [List.length_map]
    refine ite2 (fun h => ?_) (fun h => ?_)
    · have hn : ¬ ns.length = 4 := by
        intro e
        rw [e] at h
        exact absurd h (by decide)
      have := q H (.refl _)
      unfold okH at this
      rw [decide_eq_false hn] at this
      exact this
    · have hn : ns.length = 4 := by
        rcases Decidable.em (ns.length = 4) with e | e
        · exact e
        · exact absurd (show (!decide (V.int ((ns.length : Nat) : Int) = V.int 4)) = true by simp; omega) h
      refine ⟨_, rfl, t, rfl, ⟨_, hT⟩, fun D nD => ?_⟩
      refine lc_tup (K := K) (a := t) (xs := ns.map V.int) (fun i H' => Same H H' ∧ H' D = some (.lst ((List.replicate i true).map V.bl))) ⟨same_upd nD, upd_same⟩ (fun i H' _ h => h.1.tup hT) ?_ ?_
      · rintro i x H' hx ⟨sm, hD⟩
        obtain ⟨u, rfl⟩ : ∃ u, x = V.int u := by
          rw [List.getElem?_map] at hx
          cases e : ns[i]? with
          | none => rw [e] at hx; cases hx
          | some u => rw [e] at hx; exact ⟨u, (Option.some.inj hx).symm⟩
        refine ⟨rfl, ?_⟩
        dsimp only [tYes]
        rw [if_pos rfl]
        have hi := (List.getElem?_eq_some_iff.mp hx).1
        rw [List.length_map] at hi
        refine ⟨_, rfl, u, rfl, _, hD, by rw [List.length_map, List.length_replicate]; exact small1000 (by omega), ?_, ?_⟩
        · intro c o e
          rw [upd_ne (ne_of_none e nD)]
          exact sm _ _ e
        · rw [upd_same, List.replicate_succ', List.map_append]
          rfl
      · rintro H' ⟨sm, hD⟩
        refine ⟨D, List.replicate _ true, rfl, SqL.of hD, true, ?_, ifF rfl ?_⟩
        · simp
        refine ⟨_, rfl, t, rfl, ⟨_, sm.tup hT⟩, fun D2 nD2 => ?_⟩
        refine lc_tup (K := K) (a := t) (xs := ns.map V.int) (fun i H2 => Same H' H2 ∧ H2 D2 = some (.lst (((ns.take i).map (· % 2)).map V.int))) ⟨same_upd nD2, upd_same⟩ (fun i H2 _ h => h.1.tup (sm.tup hT)) ?_ ?_
        · rintro i x H2 hx ⟨sm2, hD2⟩
          obtain ⟨u, rfl, hu⟩ : ∃ u, x = V.int u ∧ ns[i]? = some u := by
            rw [List.getElem?_map] at hx
            cases e : ns[i]? with
            | none => rw [e] at hx; cases hx
            | some u => rw [e] at hx; exact ⟨u, (Option.some.inj hx).symm, rfl⟩
          refine ⟨rfl, ?_⟩
          dsimp only [tYes]
          rw [if_pos rfl]
          have hi := (List.getElem?_eq_some_iff.mp hu).1
          refine ⟨_, rfl, _, _, rfl, rfl, (by show (0 : Int) < 2; decide), _, hD2, by rw [List.length_map, List.length_map, List.length_take]; exact small1000 (by omega), ?_, ?_⟩
          · intro c o e
            rw [upd_ne (ne_of_none e nD2)]
            exact sm2 _ _ e
          · rw [upd_same, List.take_add_one, hu]
            simp
        · rintro H2 ⟨sm2, hD2⟩
          rw [List.length_map, List.take_length] at hD2
          refine ⟨D2, _, rfl, SqL.of hD2, (by show 2 ≤ sizeLine; decide), fun T nT => ⟨T, _, rfl, .inr (SqT.of upd_same), rfl, rfl, ?_⟩⟩
          have e : inV (V.int (ns.map (· % 2)).sum) [V.int 0, V.int 4] = okH ns := by
            unfold okH
            rw [in04, decide_eq_true hn]
            rfl
          show Q (V.bl (inV (V.int (ns.map (· % 2)).sum) [V.int 0, V.int 4])) _
          rw [e]
          exact q _ ((sm.trans sm2).trans (same_upd nT))
end
/-! ### a four -/
def Q4.vs (u : Q4) : List V := [.int u.a, .int u.b, .int u.c, .int u.d]
def FourAt (C : Addr) (H : Hp) (p : Addr) (u : Q4) : Prop := u.Par ∧ ∃ dx t, H p = some (.ins C dx [("doubled", .ref t)]) ∧ H t = some (.tup u.vs)
theorem FourAt.same {C : Addr} {H H' : Hp} {p : Addr} {u : Q4} (h : FourAt C H p u) (s : Same H H') : FourAt C H' p u := by
  obtain ⟨h0, dx, t, h1, h2⟩ := h
  exact ⟨h0, dx, t, s _ _ h1, s _ _ h2⟩
theorem okH_par {u : Q4} (h : u.Par) : okH [u.a, u.b, u.c, u.d] = true := by
  obtain ⟨h1, h2, h3⟩ := h
  unfold okH
  show (true && (decide (u.a % 2 + (u.b % 2 + (u.c % 2 + (u.d % 2 + 0))) = 0) || decide (u.a % 2 + (u.b % 2 + (u.c % 2 + (u.d % 2 + 0))) = 4))) = true
  rw [Bool.true_and, Bool.or_eq_true, decide_eq_true_eq, decide_eq_true_eq]
  omega
def spInit (C : Addr) : Sp := fun vs H Q _ => ∃ (x dx t : Addr) (u : Q4), vs = [.ref x, .ref t] ∧ u.Par ∧ H x = some (.ins C dx []) ∧ H t = some (.tup u.vs) ∧ ∀ H', SameX x H H' → H' x = some (.ins C dx [("doubled", .ref t)]) → Q .non H'
def spInitR (C : Addr) : Sp := fun vs H Q E => ∃ ws rest, vs = ws ++ rest ∧ ws.length = ["self"].length ∧ rest.length ≤ sizeLine ∧ ∀ p, H p = Option.none → spInit C (ws ++ [V.ref p]) (upd H p (.tup rest)) Q E
section
variable {P : Program} {w : World} {K : PySem.W.Frag} {mg : Str → Option Value} {base : Heap}
theorem ok_init {f C : Addr} {fd : FuncData} (F : Fun K "__init__" "Four.__init__" s_Four_init f fd) (cl : Cls K C) (nD : NoAttr K C "doubled") (D_halves : DefOk P w K mg base "are_halves" 2 ["values"] (spHalves K)) : FnR P w K mg base CX0 3 f (spInitR C) := by
  obtain ⟨oc, od, kV, doc, pm, an, cdv, ct, osl, rfl, lk, hcd⟩ := F.ex
  refine fn_star (ps := ["self"]) (pv := "halves") lk hcd sc_Four_init cxUp_none (fun us rest hl => match us, hl with | [a], _ => (by cases rest <;> rfl)) ?_
  intro A outer s H vs Q E hr h
  obtain ⟨x, dx, t, u, rfl, hp, hx, ht, q⟩ := h
  refine ⟨_, (pss_cons (ps_if (pt_not (pt_val (pe_callD D_halves hr (pa_cons (pv 1) pa_nil)))) (pss_one ps_never) pss_nil)
      (pss_one (ps_fld (pv 0) (pv 1) rfl))), ?_⟩
  refine ⟨_, rfl, t, [u.a, u.b, u.c, u.d], rfl, SqT.of ht, by show 4 ≤ 1000; decide, fun H' sm => ⟨_, rfl, ?_⟩⟩
  rw [okH_par hp]
  refine ifF rfl ?_
  refine ⟨_, rfl, _, rfl, x, C, dx, [], rfl, sm _ _ hx, cl, nD, by show 0 < 1000; decide, ?_⟩
  exact q _ ((SameX.of sm).trans sameX_upd) upd_same
end
end G
set_option Elab.async false
set_option linter.all false
set_option maxRecDepth 100000
set_option maxHeartbeats 1000000
namespace G
open PySem PySem.Spec PyProof.Rows L2 RZ StX
structure InitOk (P : Program) (w : World) (K : PySem.W.Frag) (mg : Str → Option Value) (base : Heap) (C : Addr) : Prop where
  ex : ∃ f : Addr, Mk K C f ∧ FnR P w K mg base CX0 3 f (spInitR C)
def tFour (C : Addr) (t : TA) : TE := fun σ H Q => t σ H fun vs H1 => ∃ u : Q4, vs = u.vs ∧ u.Par ∧ ∀ x H2, H1 x = none → Same H1 H2 → FourAt C H2 x u → Q (.ref x) H2
theorem four_made {C : Addr} {H1 : Hp} {u : Q4} {Q : VK} (hp : u.Par) (q : ∀ x H2, H1 x = none → Same H1 H2 → FourAt C H2 x u → Q (.ref x) H2) (x dx : Addr) (hx : H1 x = Option.none) (hdx : H1 dx = Option.none) (ne : dx ≠ x) :
    spInitR C (V.ref x :: u.vs) (upd (upd H1 dx (.own x)) x (.ins C dx [])) (fun v H2 => v = .non ∧ Q (.ref x) H2) E0 := by
  refine ⟨[.ref x], u.vs, rfl, rfl, by show 4 ≤ sizeLine; decide, fun p np => ?_⟩
  have nxp : x ≠ p := fun e => by rw [← e, upd_same] at np; cases np
  refine ⟨x, dx, p, u, rfl, hp, by rw [upd_ne nxp, upd_same], upd_same, fun H' sm hx' => ⟨rfl, ?_⟩⟩
  have hp' : H' p = some (.tup u.vs) := sm _ _ nxp.symm upd_same
  refine q x H' hx (fun b o e => ?_) ⟨hp, dx, p, hx', hp'⟩
  have nbx : b ≠ x := ne_of_none e hx
  have nbd : b ≠ dx := ne_of_none e hdx
  refine sm _ _ nbx ?_
  have nbp : b ≠ p := fun q => by
    rw [← q, upd_ne nbx, upd_ne nbd, e] at np
    cases np
  rw [upd_ne nbp, upd_ne nbx, upd_ne nbd]
  exact e
theorem pe_four {X : Cx} {C : Addr} {x : Str} {p pos : Pos} {e : Expr} {es : List Expr} {t : TA} (I : InitOk X.prog X.w X.K X.mg X.base C) (hr : Room 4 X.A) (hm : X.mg x = some (.ref C)) (ha : PA X (e :: es) t) (hg : Gl X x := by rfl) (hdb : (x == ("__debug__" : Str)) = false := by decide)
    (he : starEach (e :: es) X.env = (false, eval e X.env) :: starEach es X.env := by rfl) (hpl : (backTo pos (starEach es X.env)).any (·.1) = false := by rfl) : PE X (.Call (.Name x p) (e :: es) [] pos) (tFour C t) := by
  obtain ⟨f, M, F⟩ := I.ex
  refine ⟨fun pins s σ H Q I h => ?_⟩
  refine wpAny_Call_Name_kw (ld_glob I hg hm ?_ hdb)
  refine PySem.W.callWith_K (h₀ := X.base) I.ok.mod.kin M.kp (thn (ha.run pos pins s σ H _ I h) fun us s1 ⟨vs, H1, I1, r, u, ev, hp, q⟩ => ⟨I1.kIn, ?_⟩) he hpl
  subst ev
  exact run_makeR M F hr (E := E0) pass0 I1 r (four_made hp q)
/-! ### its methods -/
def spBin (C : Addr) (g : Q4 → Q4 → Q4) (ok : Q4 → Q4 → Prop) : Sp := fun vs H Q _ => ∃ (p q : Addr) (u v : Q4), vs = [.ref p, .ref q] ∧ FourAt C H p u ∧ FourAt C H q v ∧ ok u v ∧ ∀ r H', H r = none → Same H H' → FourAt C H' r (g u v) → Q (.ref r) H'
def spUn (C : Addr) (g : Q4 → Q4) : Sp := fun vs H Q _ => ∃ (p : Addr) (u : Q4), vs = [.ref p] ∧ FourAt C H p u ∧ ∀ r H', H r = none → Same H H' → FourAt C H' r (g u) → Q (.ref r) H'
def mulOk (u v : Q4) : Prop := ∃ n, 0 < n ∧ n ≤ 400000 ∧ u.Bd n ∧ v.Bd n
def spHalvesP (C : Addr) : Sp := fun vs H Q _ => ∃ (p : Addr) (u : Q4), vs = [.ref p] ∧ FourAt C H p u ∧ ∀ t, H t = some (.tup u.vs) → Q (.ref t) H
def spSizeP (C : Addr) : Sp := fun vs H Q _ => ∃ (p : Addr) (u : Q4) (n : Nat), vs = [.ref p] ∧ FourAt C H p u ∧ 0 < n ∧ n ≤ 400000 ∧ u.Bd n ∧ Q (.int u.size) H
def spEqP (C : Addr) : Sp := fun vs H Q _ => ∃ (p q : Addr) (u v : Q4), vs = [.ref p, .ref q] ∧ FourAt C H p u ∧ FourAt C H q v ∧ Q (.bl (decide (u = v))) H
def spWhole (C : Addr) : Sp := fun vs H Q _ => ∃ n : Int, vs = [.int n] ∧ ∀ r H', H r = none → Same H H' → FourAt C H' r (Q4.whole n) → Q (.ref r) H'
structure FourC (K : PySem.W.Frag) (mg : Str → Option Value) (C : Addr) : Prop extends ClsFacts K mg "Four" C where
  nD : NoAttr K C "doubled"
theorem wm {i j : Int} {n : Nat} (h1 : i.natAbs < 2 ^ n) (h2 : j.natAbs < 2 ^ n) (h0 : 0 < n) (h : n ≤ 400000) : CMulW i j := wide_mul (a := n) (b := n) h1 h2 h0 h0 (by omega)
section
variable {P : Program} {w : World} {K : PySem.W.Frag} {mg : Str → Option Value} {base : Heap}
theorem ok_add {f C : Addr} {fd : FuncData} (F : Fun K "__add__" "Four.__add__" s_Four_add f fd) (CF : FourC K mg C) (CI : InitOk P w K mg base C) : FnOk P w K mg base CX0 5 f fd ["self", "other"] (spBin C Q4.add fun _ _ => True) := by
  refine F.ok sc_Four_add (fun vs H Q E h => ?_) (fun cdv A outer s H vs Q E hr h => ?_)
  · obtain ⟨p, q, u, v, rfl, _⟩ := h
    rfl
  · obtain ⟨p, q, u, v, rfl, ⟨pu, dx, t, h1, h2⟩, ⟨pv', dy, t', k1, k2⟩, _, k⟩ := h
    refine ⟨_, (pss_cons (ps_asg (pe_fld (pv 0) rfl) (pg_tup (by rfl) (pgs_cons (pg_name (i := 2) sc_Four_add.nd rfl (Or.inl rfl)) (pgs_cons (pg_name (i := 3) sc_Four_add.nd rfl (Or.inl rfl)) (pgs_cons (pg_name (i := 4) sc_Four_add.nd rfl (Or.inl rfl)) (pgs_cons (pg_name (i := 5) sc_Four_add.nd rfl (Or.inl rfl)) pgs_nil))))))
      (pss_cons (ps_asg (pe_fld (pv 1) rfl) (pg_tup (by rfl) (pgs_cons (pg_name (i := 6) sc_Four_add.nd rfl (Or.inl rfl)) (pgs_cons (pg_name (i := 7) sc_Four_add.nd rfl (Or.inl rfl)) (pgs_cons (pg_name (i := 8) sc_Four_add.nd rfl (Or.inl rfl)) (pgs_cons (pg_name (i := 9) sc_Four_add.nd rfl (Or.inl rfl)) pgs_nil))))))
      (pss_one (ps_ret (pe_four CI (hr.mono (by decide)) CF.mgC (pa_cons (pe_op op_add (pv 2) (pv 6)) (pa_cons (pe_op op_add (pv 3) (pv 7)) (pa_cons (pe_op op_add (pv 4) (pv 8)) (pa_cons (pe_op op_add (pv 5) (pv 9)) pa_nil))))))))), ?_⟩
    refine ⟨_, rfl, p, C, dx, _, _, rfl, h1, CF.cl, CF.nD, rfl, t, _, rfl, SqT.of h2, rfl, _, _, rfl, _, _, rfl, _, _, rfl, _, _, rfl, rfl, ?_⟩
    refine ⟨_, rfl, q, C, dy, _, _, rfl, k1, CF.cl, CF.nD, rfl, t', _, rfl, SqT.of k2, rfl, _, _, rfl, _, _, rfl, _, _, rfl, _, _, rfl, rfl, ?_⟩
    exact ⟨_, rfl, _, rfl, _, _, rfl, rfl, _, rfl, _, rfl, _, _, rfl, rfl, _, rfl, _, rfl, _, _, rfl, rfl, _, rfl, _, rfl, _, _, rfl, rfl, Q4.add u v, rfl, Q4.add_par pu pv', k⟩
theorem ok_sub {f C : Addr} {fd : FuncData} (F : Fun K "__sub__" "Four.__sub__" s_Four_sub f fd) (CF : FourC K mg C) (CI : InitOk P w K mg base C) : FnOk P w K mg base CX0 5 f fd ["self", "other"] (spBin C Q4.sub fun _ _ => True) := by
  refine F.ok sc_Four_sub (fun vs H Q E h => ?_) (fun cdv A outer s H vs Q E hr h => ?_)
  · obtain ⟨p, q, u, v, rfl, _⟩ := h
    rfl
  · obtain ⟨p, q, u, v, rfl, ⟨pu, dx, t, h1, h2⟩, ⟨pv', dy, t', k1, k2⟩, _, k⟩ := h
    refine ⟨_, (pss_cons (ps_asg (pe_fld (pv 0) rfl) (pg_tup (by rfl) (pgs_cons (pg_name (i := 2) sc_Four_sub.nd rfl (Or.inl rfl)) (pgs_cons (pg_name (i := 3) sc_Four_sub.nd rfl (Or.inl rfl)) (pgs_cons (pg_name (i := 4) sc_Four_sub.nd rfl (Or.inl rfl)) (pgs_cons (pg_name (i := 5) sc_Four_sub.nd rfl (Or.inl rfl)) pgs_nil))))))
      (pss_cons (ps_asg (pe_fld (pv 1) rfl) (pg_tup (by rfl) (pgs_cons (pg_name (i := 6) sc_Four_sub.nd rfl (Or.inl rfl)) (pgs_cons (pg_name (i := 7) sc_Four_sub.nd rfl (Or.inl rfl)) (pgs_cons (pg_name (i := 8) sc_Four_sub.nd rfl (Or.inl rfl)) (pgs_cons (pg_name (i := 9) sc_Four_sub.nd rfl (Or.inl rfl)) pgs_nil))))))
      (pss_one (ps_ret (pe_four CI (hr.mono (by decide)) CF.mgC (pa_cons (pe_op op_sub (pv 2) (pv 6)) (pa_cons (pe_op op_sub (pv 3) (pv 7)) (pa_cons (pe_op op_sub (pv 4) (pv 8)) (pa_cons (pe_op op_sub (pv 5) (pv 9)) pa_nil))))))))), ?_⟩
    refine ⟨_, rfl, p, C, dx, _, _, rfl, h1, CF.cl, CF.nD, rfl, t, _, rfl, SqT.of h2, rfl, _, _, rfl, _, _, rfl, _, _, rfl, _, _, rfl, rfl, ?_⟩
    refine ⟨_, rfl, q, C, dy, _, _, rfl, k1, CF.cl, CF.nD, rfl, t', _, rfl, SqT.of k2, rfl, _, _, rfl, _, _, rfl, _, _, rfl, _, _, rfl, rfl, ?_⟩
    exact ⟨_, rfl, _, rfl, _, _, rfl, rfl, _, rfl, _, rfl, _, _, rfl, rfl, _, rfl, _, rfl, _, _, rfl, rfl, _, rfl, _, rfl, _, _, rfl, rfl, Q4.sub u v, rfl, Q4.sub_par pu pv', k⟩
theorem ok_mul {f C : Addr} {fd : FuncData} (F : Fun K "__mul__" "Four.__mul__" s_Four_mul f fd) (CF : FourC K mg C) (CI : InitOk P w K mg base C) : FnOk P w K mg base CX0 5 f fd ["self", "other"] (spBin C Q4.mul mulOk) := by
  refine F.ok sc_Four_mul (fun vs H Q E h => ?_) (fun cdv A outer s H vs Q E hr h => ?_)
  · obtain ⟨p, q, u, v, rfl, _⟩ := h
    rfl
  · obtain ⟨p, q, u, v, rfl, ⟨pu, dx, t, h1, h2⟩, ⟨pv', dy, t', k1, k2⟩, ⟨n, n0, n1, bu, bv⟩, k⟩ := h
    refine ⟨_, (pss_cons (ps_asg (pe_fld (pv 0) rfl) (pg_tup (by rfl) (pgs_cons (pg_name (i := 2) sc_Four_mul.nd rfl (Or.inl rfl)) (pgs_cons (pg_name (i := 3) sc_Four_mul.nd rfl (Or.inl rfl)) (pgs_cons (pg_name (i := 4) sc_Four_mul.nd rfl (Or.inl rfl)) (pgs_cons (pg_name (i := 5) sc_Four_mul.nd rfl (Or.inl rfl)) pgs_nil))))))
      (pss_cons (ps_asg (pe_fld (pv 1) rfl) (pg_tup (by rfl) (pgs_cons (pg_name (i := 6) sc_Four_mul.nd rfl (Or.inl rfl)) (pgs_cons (pg_name (i := 7) sc_Four_mul.nd rfl (Or.inl rfl)) (pgs_cons (pg_name (i := 8) sc_Four_mul.nd rfl (Or.inl rfl)) (pgs_cons (pg_name (i := 9) sc_Four_mul.nd rfl (Or.inl rfl)) pgs_nil))))))
      (pss_one (ps_ret (pe_four CI (hr.mono (by decide)) CF.mgC (pa_cons (pe_op op_fdivW (pe_op op_sub (pe_op op_sub (pe_op op_sub (pe_op op_mulW (pv 2) (pv 6)) (pe_op op_mulW (pv 3) (pv 7))) (pe_op op_mulW (pv 4) (pv 8))) (pe_op op_mulW (pv 5) (pv 9))) pe_int) (pa_cons (pe_op op_fdivW (pe_op op_sub (pe_op op_add (pe_op op_add (pe_op op_mulW (pv 2) (pv 7)) (pe_op op_mulW (pv 3) (pv 6))) (pe_op op_mulW (pv 4) (pv 9))) (pe_op op_mulW (pv 5) (pv 8))) pe_int) (pa_cons (pe_op op_fdivW (pe_op op_add (pe_op op_add (pe_op op_sub (pe_op op_mulW (pv 2) (pv 8)) (pe_op op_mulW (pv 3) (pv 9))) (pe_op op_mulW (pv 4) (pv 6))) (pe_op op_mulW (pv 5) (pv 7))) pe_int) (pa_cons (pe_op op_fdivW (pe_op op_add (pe_op op_sub (pe_op op_add (pe_op op_mulW (pv 2) (pv 9)) (pe_op op_mulW (pv 3) (pv 8))) (pe_op op_mulW (pv 4) (pv 7))) (pe_op op_mulW (pv 5) (pv 6))) pe_int) pa_nil))))))))), ?_⟩
    refine ⟨_, rfl, p, C, dx, _, _, rfl, h1, CF.cl, CF.nD, rfl, t, _, rfl, SqT.of h2, rfl, _, _, rfl, _, _, rfl, _, _, rfl, _, _, rfl, rfl, ?_⟩
    refine ⟨_, rfl, q, C, dy, _, _, rfl, k1, CF.cl, CF.nD, rfl, t', _, rfl, SqT.of k2, rfl, _, _, rfl, _, _, rfl, _, _, rfl, _, _, rfl, rfl, ?_⟩
    exact ⟨_, rfl, _, rfl, _, _, rfl, rfl, wm bu.1 bv.1 n0 n1, _, rfl, _, rfl, _, _, rfl, rfl, wm bu.2.1 bv.2.1 n0 n1, _, _, rfl, rfl, _, rfl, _, rfl, _, _, rfl, rfl, wm bu.2.2.1 bv.2.2.1 n0 n1, _, _, rfl, rfl, _, rfl, _, rfl, _, _, rfl, rfl, wm bu.2.2.2 bv.2.2.2 n0 n1, _, _, rfl, rfl, _, _, rfl, rfl, dw (by decide) (by decide), _, rfl, _, rfl, _, _, rfl, rfl, wm bu.1 bv.2.1 n0 n1, _, rfl, _, rfl, _, _, rfl, rfl, wm bu.2.1 bv.1 n0 n1, _, _, rfl, rfl, _, rfl, _, rfl, _, _, rfl, rfl, wm bu.2.2.1 bv.2.2.2 n0 n1, _, _, rfl, rfl, _, rfl, _, rfl, _, _, rfl, rfl, wm bu.2.2.2 bv.2.2.1 n0 n1, _, _, rfl, rfl, _, _, rfl, rfl, dw (by decide) (by decide), _, rfl, _, rfl, _, _, rfl, rfl, wm bu.1 bv.2.2.1 n0 n1, _, rfl, _, rfl, _, _, rfl, rfl, wm bu.2.1 bv.2.2.2 n0 n1, _, _, rfl, rfl, _, rfl, _, rfl, _, _, rfl, rfl, wm bu.2.2.1 bv.1 n0 n1, _, _, rfl, rfl, _, rfl, _, rfl, _, _, rfl, rfl, wm bu.2.2.2 bv.2.1 n0 n1, _, _, rfl, rfl, _, _, rfl, rfl, dw (by decide) (by decide), _, rfl, _, rfl, _, _, rfl, rfl, wm bu.1 bv.2.2.2 n0 n1, _, rfl, _, rfl, _, _, rfl, rfl, wm bu.2.1 bv.2.2.1 n0 n1, _, _, rfl, rfl, _, rfl, _, rfl, _, _, rfl, rfl, wm bu.2.2.1 bv.2.1 n0 n1, _, _, rfl, rfl, _, rfl, _, rfl, _, _, rfl, rfl, wm bu.2.2.2 bv.1 n0 n1, _, _, rfl, rfl, _, _, rfl, rfl, dw (by decide) (by decide), Q4.mul u v, rfl, (Q4.mul_all pu pv').2, k⟩
theorem ok_neg {f C : Addr} {fd : FuncData} (F : Fun K "__neg__" "Four.__neg__" s_Four_neg f fd) (CF : FourC K mg C) (CI : InitOk P w K mg base C) : FnOk P w K mg base CX0 5 f fd ["self"] (spUn C Q4.neg) := by
  refine F.ok sc_Four_neg (fun vs H Q E h => ?_) (fun cdv A outer s H vs Q E hr h => ?_)
  · obtain ⟨p, u, rfl, _⟩ := h
    rfl
  · obtain ⟨p, u, rfl, ⟨pu, dx, t, h1, h2⟩, k⟩ := h
    refine ⟨_, (pss_cons (ps_asg (pe_fld (pv 0) rfl) (pg_tup (by rfl) (pgs_cons (pg_name (i := 1) sc_Four_neg.nd rfl (Or.inl rfl)) (pgs_cons (pg_name (i := 2) sc_Four_neg.nd rfl (Or.inl rfl)) (pgs_cons (pg_name (i := 3) sc_Four_neg.nd rfl (Or.inl rfl)) (pgs_cons (pg_name (i := 4) sc_Four_neg.nd rfl (Or.inl rfl)) pgs_nil))))))
      (pss_one (ps_ret (pe_four CI (hr.mono (by decide)) CF.mgC (pa_cons (pe_un un_neg (pv 1)) (pa_cons (pe_un un_neg (pv 2)) (pa_cons (pe_un un_neg (pv 3)) (pa_cons (pe_un un_neg (pv 4)) pa_nil)))))))), ?_⟩
    refine ⟨_, rfl, p, C, dx, _, _, rfl, h1, CF.cl, CF.nD, rfl, t, _, rfl, SqT.of h2, rfl, _, _, rfl, _, _, rfl, _, _, rfl, _, _, rfl, rfl, ?_⟩
    exact ⟨_, rfl, _, rfl, _, rfl, _, rfl, _, rfl, _, rfl, _, rfl, _, rfl, Q4.neg u, rfl, Q4.neg_par pu, k⟩
theorem ok_halvesP {f C : Addr} {fd : FuncData} {k : Nat} (F : Fun K "halves" "Four.halves" s_Four_halves f fd) (CF : FourC K mg C) : FnOk P w K mg base CX0 (k + 1) f fd ["self"] (spHalvesP C) := by
  refine F.ok sc_Four_halves (fun vs H Q E h => ?_) (fun cdv A outer s H vs Q E hr h => ?_)
  · obtain ⟨p, u, rfl, _⟩ := h
    rfl
  · obtain ⟨p, u, rfl, ⟨pu, dx, t, h1, h2⟩, k⟩ := h
    refine ⟨_, (pss_one (ps_ret (pe_fld (pv 0) rfl))), ?_⟩
    exact ⟨_, rfl, p, C, dx, _, _, rfl, h1, CF.cl, CF.nD, rfl, k t h2⟩
theorem ok_sizeP {f C : Addr} {fd : FuncData} {k : Nat} (F : Fun K "size" "Four.size" s_Four_size f fd) (CF : FourC K mg C) : FnOk P w K mg base CX0 (k + 1) f fd ["self"] (spSizeP C) := by
  refine F.ok sc_Four_size (fun vs H Q E h => ?_) (fun cdv A outer s H vs Q E hr h => ?_)
  · obtain ⟨p, u, n, rfl, _⟩ := h
    rfl
  · obtain ⟨p, u, n, rfl, ⟨pu, dx, t, h1, h2⟩, n0, n1, bu, k⟩ := h
    refine ⟨_, (pss_cons (ps_asg (pe_fld (pv 0) rfl) (pg_tup (by rfl) (pgs_cons (pg_name (i := 1) sc_Four_size.nd rfl (Or.inl rfl)) (pgs_cons (pg_name (i := 2) sc_Four_size.nd rfl (Or.inl rfl)) (pgs_cons (pg_name (i := 3) sc_Four_size.nd rfl (Or.inl rfl)) (pgs_cons (pg_name (i := 4) sc_Four_size.nd rfl (Or.inl rfl)) pgs_nil))))))
      (pss_one (ps_ret (pe_op op_fdivW (pe_op op_add (pe_op op_add (pe_op op_add (pe_op op_mulW (pv 1) (pv 1)) (pe_op op_mulW (pv 2) (pv 2))) (pe_op op_mulW (pv 3) (pv 3))) (pe_op op_mulW (pv 4) (pv 4))) pe_int)))), ?_⟩
    refine ⟨_, rfl, p, C, dx, _, _, rfl, h1, CF.cl, CF.nD, rfl, t, _, rfl, SqT.of h2, rfl, _, _, rfl, _, _, rfl, _, _, rfl, _, _, rfl, rfl, ?_⟩
    exact ⟨_, rfl, _, rfl, _, _, rfl, rfl, wm bu.1 bu.1 n0 n1, _, rfl, _, rfl, _, _, rfl, rfl, wm bu.2.1 bu.2.1 n0 n1, _, _, rfl, rfl, _, rfl, _, rfl, _, _, rfl, rfl, wm bu.2.2.1 bu.2.2.1 n0 n1, _, _, rfl, rfl, _, rfl, _, rfl, _, _, rfl, rfl, wm bu.2.2.2 bu.2.2.2 n0 n1, _, _, rfl, rfl, _, _, rfl, rfl, dw (by decide) (by decide), k⟩
end
end G
set_option Elab.async false
set_option linter.all false
set_option maxRecDepth 100000
set_option maxHeartbeats 1000000
namespace G
open PySem PySem.Spec PyProof.Rows L2 RZ StX
/-- what isinstance asks of an instance -/
structure InsFacts (K : PySem.W.Frag) (C : Addr) : Prop where
  ha : PySem.W.findIn K (.ref C) "__class__" = some (some (.builtin "object.__class__"))
  hn : PySem.W.specialIn K (.builtin "object.__class__") "__get__" = some (some (.builtin "getset_descriptor.__get__"))
  ht : PySem.W.takesIn K (.builtin "object.__class__") = some true
theorem Dp.q4 {K : PySem.W.Frag} {H : Hp} {t : Addr} {u : Q4} (h : SqT K H t u.vs) : Dp K H (.ref t) (.tuple [.int u.a, .int u.b, .int u.c, .int u.d]) := .tup h (.cons (.int _) (.cons (.int _) (.cons (.int _) (.cons (.int _) .nil))))
theorem eqv_q4 (u v : Q4) : PyData.eqv (.tuple [.int u.a, .int u.b, .int u.c, .int u.d]) (.tuple [.int v.a, .int v.b, .int v.c, .int v.d]) = decide (u = v) := by
  show (u.a == v.a && (u.b == v.b && (u.c == v.c && (u.d == v.d && true)))) = _
  rw [Bool.eq_iff_iff]
  simp only [Bool.and_eq_true, beq_iff_eq, decide_eq_true_eq, and_true]
  constructor
  · rintro ⟨h1, h2, h3, h4⟩; exact Q4.ext h1 h2 h3 h4
  · rintro rfl; exact ⟨rfl, rfl, rfl, rfl⟩
section
variable {P : Program} {w : World} {K : PySem.W.Frag} {mg : Str → Option Value} {base : Heap}
theorem ok_eqP {f C : Addr} {fd : FuncData} {k : Nat} (F : Fun K "__eq__" "Four.__eq__" s_Four_eq f fd) (CF : FourC K mg C) (IF : InsFacts K C) (B : Bn mg) : FnOk P w K mg base CX0 (k + 1) f fd ["self", "other"] (spEqP C) := by
  refine F.ok sc_Four_eq (fun vs H Q E h => ?_) (fun cdv A outer s H vs Q E hr h => ?_)
  · obtain ⟨p, q, u, v, rfl, _⟩ := h
    rfl
  · obtain ⟨p, q, u, v, rfl, ⟨pu, dx, t, h1, h2⟩, ⟨pv', dy, t', k1, k2⟩, k⟩ := h
    refine ⟨_, (pss_one (ps_ret (pe_and (pe_callB call_isi (by rfl) B.isinstance (by decide +kernel) (pa_cons (pv 1) (pa_cons (pe_glob (v := .ref C) rfl CF.mgC rfl) pa_nil))) (pe_one (pe_cmpR (op_eqD hr.units) (pe_fld (pv 0) rfl) (pe_fld (pv 1) rfl) (nomark _)))))), ?_⟩
    refine ⟨_, rfl, _, _, _, _, true, rfl, .own C, .base (.ins k1 CF.cl IF.ha IF.hn IF.ht CF.mr), if_pos (by simp), _, rfl, ifT rfl ?_⟩
    refine ⟨_, rfl, p, C, dx, _, _, rfl, h1, CF.cl, CF.nD, rfl, _, rfl, q, C, dy, _, _, rfl, k1, CF.cl, CF.nD, rfl, _, _, Dp.q4 (SqT.of h2), Dp.q4 (SqT.of k2), rfl, rfl, ?_⟩
    rw [eqv_q4]
    exact k
/-! ### the law's own helpers -/
def spFour (K : PySem.W.Frag) (C : Addr) : Sp := fun vs H Q _ => ∃ (t : Addr) (u : Q4), vs = [.ref t] ∧ SqT K H t u.vs ∧ u.Par ∧ ∀ r H', H r = none → Same H H' → FourAt C H' r u → Q (.ref r) H'
theorem ok_four {f C : Addr} {fd : FuncData} (F : Fun K "_law_four" "_law_four" s_L_four f fd) (CF : FourC K mg C) (CI : InitOk P w K mg base C) : FnOk P w K mg base CX0 5 f fd ["_law_halves_here"] (spFour K C) := by
  refine F.ok sc_L_four (fun vs H Q E h => ?_) (fun cdv A outer s H vs Q E hr h => ?_)
  · obtain ⟨t, u, rfl, _⟩ := h
    rfl
  · obtain ⟨t, u, rfl, hT, pu, k⟩ := h
    refine ⟨_, (pss_cons (ps_asg (pv 0) (pg_tup (by rfl) (pgs_cons (pg_name (i := 1) sc_L_four.nd rfl (Or.inl rfl)) (pgs_cons (pg_name (i := 2) sc_L_four.nd rfl (Or.inl rfl)) (pgs_cons (pg_name (i := 3) sc_L_four.nd rfl (Or.inl rfl)) (pgs_cons (pg_name (i := 4) sc_L_four.nd rfl (Or.inl rfl)) pgs_nil))))))
      (pss_one (ps_ret (pe_four CI (hr.mono (by decide)) CF.mgC (pa_cons (pv 1) (pa_cons (pv 2) (pa_cons (pv 3) (pa_cons (pv 4) pa_nil)))))))), ?_⟩
    refine ⟨_, rfl, t, _, rfl, hT, rfl, _, _, rfl, _, _, rfl, _, _, rfl, _, _, rfl, rfl, ?_⟩
    exact ⟨_, rfl, _, rfl, _, rfl, _, rfl, u, rfl, pu, k⟩
def spTimes (K : PySem.W.Frag) : Sp := fun vs H Q _ => ∃ (t t' : Addr) (u v : Q4), vs = [.ref t, .ref t'] ∧ SqT K H t u.vs ∧ SqT K H t' v.vs ∧ mulOk u v ∧ ∀ r, H r = none → Q (.ref r) (upd H r (.tup (Q4.mul u v).vs))
theorem ok_times {f : Addr} {fd : FuncData} {k : Nat} (F : Fun K "_law_times" "_law_times" s_L_times f fd) : FnOk P w K mg base CX0 (k + 1) f fd ["_law_one", "_law_other"] (spTimes K) := by
  refine F.ok sc_L_times (fun vs H Q E h => ?_) (fun cdv A outer s H vs Q E hr h => ?_)
  · obtain ⟨t, t', u, v, rfl, _⟩ := h
    rfl
  · obtain ⟨t, t', u, v, rfl, hT, hT', ⟨n, n0, n1, bu, bv⟩, k⟩ := h
    refine ⟨_, (pss_cons (ps_asg (pv 0) (pg_tup (by rfl) (pgs_cons (pg_name (i := 2) sc_L_times.nd rfl (Or.inl rfl)) (pgs_cons (pg_name (i := 3) sc_L_times.nd rfl (Or.inl rfl)) (pgs_cons (pg_name (i := 4) sc_L_times.nd rfl (Or.inl rfl)) (pgs_cons (pg_name (i := 5) sc_L_times.nd rfl (Or.inl rfl)) pgs_nil))))))
      (pss_cons (ps_asg (pv 1) (pg_tup (by rfl) (pgs_cons (pg_name (i := 6) sc_L_times.nd rfl (Or.inl rfl)) (pgs_cons (pg_name (i := 7) sc_L_times.nd rfl (Or.inl rfl)) (pgs_cons (pg_name (i := 8) sc_L_times.nd rfl (Or.inl rfl)) (pgs_cons (pg_name (i := 9) sc_L_times.nd rfl (Or.inl rfl)) pgs_nil))))))
      (pss_cons (ps_set (i := 10) sc_L_times.nd rfl (Or.inl rfl) (pe_op op_fdivW (pe_op op_sub (pe_op op_sub (pe_op op_sub (pe_op op_mulW (pv 2) (pv 6)) (pe_op op_mulW (pv 3) (pv 7))) (pe_op op_mulW (pv 4) (pv 8))) (pe_op op_mulW (pv 5) (pv 9))) pe_int))
      (pss_cons (ps_set (i := 11) sc_L_times.nd rfl (Or.inl rfl) (pe_op op_fdivW (pe_op op_sub (pe_op op_add (pe_op op_add (pe_op op_mulW (pv 2) (pv 7)) (pe_op op_mulW (pv 3) (pv 6))) (pe_op op_mulW (pv 4) (pv 9))) (pe_op op_mulW (pv 5) (pv 8))) pe_int))
      (pss_cons (ps_set (i := 12) sc_L_times.nd rfl (Or.inl rfl) (pe_op op_fdivW (pe_op op_add (pe_op op_add (pe_op op_sub (pe_op op_mulW (pv 2) (pv 8)) (pe_op op_mulW (pv 3) (pv 9))) (pe_op op_mulW (pv 4) (pv 6))) (pe_op op_mulW (pv 5) (pv 7))) pe_int))
      (pss_one (ps_ret (pe_tup (pa_cons (pv 10) (pa_cons (pv 11) (pa_cons (pv 12) (pa_cons (pe_op op_fdivW (pe_op op_add (pe_op op_sub (pe_op op_add (pe_op op_mulW (pv 2) (pv 9)) (pe_op op_mulW (pv 3) (pv 8))) (pe_op op_mulW (pv 4) (pv 7))) (pe_op op_mulW (pv 5) (pv 6))) pe_int) pa_nil)))))))))))), ?_⟩
    refine ⟨_, rfl, t, _, rfl, hT, rfl, _, _, rfl, _, _, rfl, _, _, rfl, _, _, rfl, rfl, ?_⟩
    refine ⟨_, rfl, t', _, rfl, hT', rfl, _, _, rfl, _, _, rfl, _, _, rfl, _, _, rfl, rfl, ?_⟩
    refine nx_norm (σ' := [some (.ref t), some (.ref t'), some (.int u.a), some (.int u.b), some (.int u.c), some (.int u.d), some (.int v.a), some (.int v.b), some (.int v.c), some (.int v.d), none, none, none]) rfl ?_
    refine ⟨_, rfl, _, rfl, _, _, rfl, rfl, wm bu.1 bv.1 n0 n1, _, rfl, _, rfl, _, _, rfl, rfl, wm bu.2.1 bv.2.1 n0 n1, _, _, rfl, rfl, _, rfl, _, rfl, _, _, rfl, rfl, wm bu.2.2.1 bv.2.2.1 n0 n1, _, _, rfl, rfl, _, rfl, _, rfl, _, _, rfl, rfl, wm bu.2.2.2 bv.2.2.2 n0 n1, _, _, rfl, rfl, _, _, rfl, rfl, dw (by decide) (by decide), ?_⟩
    refine nx_norm (σ' := [some (.ref t), some (.ref t'), some (.int u.a), some (.int u.b), some (.int u.c), some (.int u.d), some (.int v.a), some (.int v.b), some (.int v.c), some (.int v.d), some (.int (Q4.mul u v).a), none, none]) rfl ?_
    refine ⟨_, rfl, _, rfl, _, _, rfl, rfl, wm bu.1 bv.2.1 n0 n1, _, rfl, _, rfl, _, _, rfl, rfl, wm bu.2.1 bv.1 n0 n1, _, _, rfl, rfl, _, rfl, _, rfl, _, _, rfl, rfl, wm bu.2.2.1 bv.2.2.2 n0 n1, _, _, rfl, rfl, _, rfl, _, rfl, _, _, rfl, rfl, wm bu.2.2.2 bv.2.2.1 n0 n1, _, _, rfl, rfl, _, _, rfl, rfl, dw (by decide) (by decide), ?_⟩
    refine nx_norm (σ' := [some (.ref t), some (.ref t'), some (.int u.a), some (.int u.b), some (.int u.c), some (.int u.d), some (.int v.a), some (.int v.b), some (.int v.c), some (.int v.d), some (.int (Q4.mul u v).a), some (.int (Q4.mul u v).b), none]) rfl ?_
    refine ⟨_, rfl, _, rfl, _, _, rfl, rfl, wm bu.1 bv.2.2.1 n0 n1, _, rfl, _, rfl, _, _, rfl, rfl, wm bu.2.1 bv.2.2.2 n0 n1, _, _, rfl, rfl, _, rfl, _, rfl, _, _, rfl, rfl, wm bu.2.2.1 bv.1 n0 n1, _, _, rfl, rfl, _, rfl, _, rfl, _, _, rfl, rfl, wm bu.2.2.2 bv.2.1 n0 n1, _, _, rfl, rfl, _, _, rfl, rfl, dw (by decide) (by decide), ?_⟩
    refine nx_norm (σ' := [some (.ref t), some (.ref t'), some (.int u.a), some (.int u.b), some (.int u.c), some (.int u.d), some (.int v.a), some (.int v.b), some (.int v.c), some (.int v.d), some (.int (Q4.mul u v).a), some (.int (Q4.mul u v).b), some (.int (Q4.mul u v).c)]) rfl ?_
    refine ⟨_, rfl, _, rfl, _, rfl, _, rfl, _, rfl, _, _, rfl, rfl, wm bu.1 bv.2.2.2 n0 n1, _, rfl, _, rfl, _, _, rfl, rfl, wm bu.2.1 bv.2.2.1 n0 n1, _, _, rfl, rfl, _, rfl, _, rfl, _, _, rfl, rfl, wm bu.2.2.1 bv.2.1 n0 n1, _, _, rfl, rfl, _, rfl, _, rfl, _, _, rfl, rfl, wm bu.2.2.2 bv.1 n0 n1, _, _, rfl, rfl, _, _, rfl, rfl, dw (by decide) (by decide), (by show 4 ≤ sizeLine; decide), fun r nr => ?_⟩
    exact k r nr
def spSize (K : PySem.W.Frag) : Sp := fun vs H Q _ => ∃ (t : Addr) (u : Q4) (n : Nat), vs = [.ref t] ∧ SqT K H t u.vs ∧ 0 < n ∧ n ≤ 400000 ∧ u.Bd n ∧ ∀ H', Same H H' → Q (.int u.size) H'
end
end G
set_option Elab.async false
set_option linter.all false
set_option maxRecDepth 100000
set_option maxHeartbeats 1000000
namespace G
open PySem PySem.Spec PyProof.Rows L2 RZ StX
/-! ### readings by fours -/
theorem opr_imp {X : Cx} {f : Value → Value → Sem Value} {r r' : R2} (h : OpR X f r) (i : ∀ x y H Q, r' x y H Q → r x y H Q) : OpR X f r' := fun pins s σ H x y v u Q I rx ry q => h pins s σ H x y v u Q I rx ry (i x y H Q q)
theorem unr_imp {X : Cx} {f : Value → Sem Value} {r r' : V → Hp → VK → Prop} (h : UnR X f r) (i : ∀ x H Q, r' x H Q → r x H Q) : UnR X f r' := fun pins s σ H x v Q I rx q => h pins s σ H x v Q I rx (i x H Q q)
def rF2 (C : Addr) (g : Q4 → Q4 → Q4) (ok : Q4 → Q4 → Prop) : R2 := fun x y H Q => ∃ p q u v, x = .ref p ∧ y = .ref q ∧ FourAt C H p u ∧ FourAt C H q v ∧ ok u v ∧ ∀ r H', H r = none → Same H H' → FourAt C H' r (g u v) → Q (.ref r) H'
def rFne (C : Addr) : R2 := fun x y H Q => ∃ p q u v, x = .ref p ∧ y = .ref q ∧ FourAt C H p u ∧ FourAt C H q v ∧ Q (.bl (!decide (u = v))) H
def rFeq (C : Addr) : R2 := fun x y H Q => ∃ p q u v, x = .ref p ∧ y = .ref q ∧ FourAt C H p u ∧ FourAt C H q v ∧ Q (.bl (decide (u = v))) H
def rF1 (C : Addr) (g : Q4 → Q4) : V → Hp → VK → Prop := fun x H Q => ∃ p u, x = .ref p ∧ FourAt C H p u ∧ ∀ r H', H r = none → Same H H' → FourAt C H' r (g u) → Q (.ref r) H'
section
variable {X : Cx} {C : Addr} {k : Nat} {ps : List Str} {g : Q4 → Q4 → Q4} {g1 : Q4 → Q4} {ok : Q4 → Q4 → Prop} {m : Str}
theorem op_F2 {op : Operator} (c : ClsFacts X.K X.mg "Four" C) (M : MethOk X.prog X.w X.K X.mg X.base C m k ps (spBin C g ok)) (hr : Room k X.A) (hm : PySem.dunder op.info.2 = m := by decide +kernel) : OpR X (binaryOp op) (rF2 C g ok) :=
  opr_imp (op_ownD c M hr hm) fun x y H Q ⟨p, q, u, v, ex, ey, hu, hv, o, z⟩ => by
    obtain ⟨pu, dx, t, h1, h2⟩ := id hu
    obtain ⟨pv', dy, t', k1, k2⟩ := id hv
    exact ⟨p, q, dx, dy, _, _, ex, ey, h1, k1, p, q, u, v, rfl, hu, hv, o, z⟩
theorem op_Fne (c : ClsFacts X.K X.mg "Four" C) (M : MethOk X.prog X.w X.K X.mg X.base C "__eq__" k ps (spEqP C)) (hne : PySem.W.findIn X.K (.ref C) "__ne__" = some (some (.builtin "object.__ne__"))) (hr : Room (k + 1) X.A) : OpR X (compareOp .NotEq) (rFne C) :=
  opr_imp (op_neOwnD c M hne hr) fun x y H Q ⟨p, q, u, v, ex, ey, hu, hv, z⟩ => by
    obtain ⟨pu, dx, t, h1, h2⟩ := id hu
    obtain ⟨pv', dy, t', k1, k2⟩ := id hv
    exact ⟨p, q, dx, dy, _, _, ex, ey, h1, k1, p, q, u, v, rfl, hu, hv, _, rfl, z⟩
theorem op_Feq (M : MethOk X.prog X.w X.K X.mg X.base C "__eq__" k ps (spEqP C)) (hr : Room k X.A) : OpR X (compareOp .Eq) (rFeq C) :=
  opr_imp (op_eqOwnD M hr) fun x y H Q ⟨p, q, u, v, ex, ey, hu, hv, z⟩ => by
    obtain ⟨pu, dx, t, h1, h2⟩ := id hu
    obtain ⟨pv', dy, t', k1, k2⟩ := id hv
    exact ⟨p, q, dx, dy, _, _, ex, ey, h1, k1, p, q, u, v, rfl, hu, hv, z⟩
theorem un_F1 (M : MethOk X.prog X.w X.K X.mg X.base C "__neg__" k ps (spUn C g1)) (hr : Room k X.A) : UnR X (unaryOp .USub) (rF1 C g1) :=
  unr_imp (un_ownD M hr) fun x H Q ⟨p, u, ex, hu, z⟩ => by
    obtain ⟨pu, dx, t, h1, h2⟩ := id hu
    exact ⟨p, dx, _, ex, h1, p, u, rfl, hu, z⟩
variable {o e : Expr} {ta : TE} {apos pos : Pos} {pl : Sem Bool}
def tF1 (C : Addr) (g : Q4 → Q4) (ta : TE) : TE := fun σ H Q => ta σ H fun x H1 => rF1 C g x H1 Q
theorem pe_F1 (he : PE X o ta) (c : ClsFacts X.K X.mg "Four" C) (M : MethOk X.prog X.w X.K X.mg X.base C m k ps (spUn C g1)) (hr : Room k X.A) (hnm : (m == ("doubled" : Str)) = false := by decide +kernel)
    (ht : eval (.Call (.Attribute o m apos) [] [] pos) X.env = (do
      let ov ← eval o X.env
      standAt apos.atName
      let (f, first) ← holding [ov] (getMethod ov m pl)
      callWith pos f first (backTo pos (starEach [] X.env)) (backToKw pos (keywordEach [] X.env))) := by rfl) : PE X (.Call (.Attribute o m apos) [] [] pos) (tF1 C g1 ta) := by
  obtain ⟨f, fd, F, hm, hb⟩ := M.ex
  have key : PE X (.Call (.Attribute o m apos) [] [] pos) (fun σ H Q => ta σ H fun x H1 => ∃ a dx fs, x = .ref a ∧ H1 a = some (.ins C dx fs) ∧ fs.lookup m = none ∧ spUn C g1 [.ref a] H1 Q E0) := pe_imp (pe_meth0 he c.cl hm F hr hb .nil pass0 ht) fun σ H Q h => by
    unfold tMeth
    refine cast (congrArg (ta σ H) ?_) h
    funext x H1
    apply propext
    constructor
    · rintro ⟨a, dx, fs, rfl, h1, h2, h3⟩; exact ⟨a, dx, fs, rfl, h1, h2, h3⟩
    · rintro ⟨a, dx, fs, rfl, h1, h2, h3⟩; exact ⟨a, dx, fs, rfl, h1, h2, h3⟩
  refine pe_imp key fun σ H Q h => cast (congrArg (ta σ H) ?_) h
  funext x H1
  apply propext
  constructor
  · rintro ⟨p, u, rfl, hu, z⟩
    obtain ⟨pu, dx, t, h1, h2⟩ := id hu
    exact ⟨p, dx, _, rfl, h1, by simp [List.lookup, hnm], p, u, rfl, hu, z⟩
  · rintro ⟨a, dx, fs, rfl, h1, h2, p, u, e, hu, z⟩
    cases e
    exact ⟨_, u, rfl, hu, z⟩
def tFh (C : Addr) (ta : TE) : TE := fun σ H Q => ta σ H fun x H1 => ∃ p u, x = .ref p ∧ FourAt C H1 p u ∧ ∀ t, H1 t = some (.tup u.vs) → Q (.ref t) H1
def tFs (C : Addr) (ta : TE) : TE := fun σ H Q => ta σ H fun x H1 => ∃ p u n, x = .ref p ∧ FourAt C H1 p u ∧ 0 < n ∧ n ≤ 400000 ∧ u.Bd n ∧ Q (.int u.size) H1
theorem pe_Fh (he : PE X e ta) (c : ClsFacts X.K X.mg "Four" C) (M : PropOk X.prog X.w X.K X.mg X.base C m k ps (spHalvesP C)) (hr : Room (k + 1) X.A) (hab : attributeBase e m X.env (eval e X.env) = eval e X.env := by rfl) : PE X (.Attribute e m pos) (tFh C ta) := by
  refine pe_imp (pe_propD he c.cl M hr hab) fun σ H Q h => cast (congrArg (ta σ H) ?_) h
  funext x H1
  apply propext
  constructor
  · rintro ⟨p, u, rfl, hu, z⟩
    obtain ⟨pu, dx, t, h1, h2⟩ := id hu
    exact ⟨p, dx, _, rfl, h1, p, u, rfl, hu, z⟩
  · rintro ⟨a, dx, fs, rfl, h1, p, u, e, hu, z⟩
    cases e
    exact ⟨_, u, rfl, hu, z⟩
theorem pe_Fs (he : PE X e ta) (c : ClsFacts X.K X.mg "Four" C) (M : PropOk X.prog X.w X.K X.mg X.base C m k ps (spSizeP C)) (hr : Room (k + 1) X.A) (hab : attributeBase e m X.env (eval e X.env) = eval e X.env := by rfl) : PE X (.Attribute e m pos) (tFs C ta) := by
  refine pe_imp (pe_propD he c.cl M hr hab) fun σ H Q h => cast (congrArg (ta σ H) ?_) h
  funext x H1
  apply propext
  constructor
  · rintro ⟨p, u, n, rfl, hu, a, b, c, z⟩
    obtain ⟨pu, dx, t, h1, h2⟩ := id hu
    exact ⟨p, dx, _, rfl, h1, p, u, n, rfl, hu, a, b, c, z⟩
  · rintro ⟨a, dx, fs, rfl, h1, p, u, n, e, hu, a, b, c, z⟩
    cases e
    exact ⟨_, u, n, rfl, hu, a, b, c, z⟩
end
end G
set_option Elab.async false
set_option linter.all false
set_option maxRecDepth 100000
set_option maxHeartbeats 1000000
namespace G
open PySem PySem.Spec PyProof.Rows L2 RZ StX
/-! ### lists of fours, lists of rows -/
theorem nx_norm2 {f : L2.St → Hp → Prop} {σ σ' : L2.St} {H H' : Hp} (e : σ = σ') (e2 : H = H') (h : f σ' H') : f σ H := by subst e; subst e2; exact h
def RF (C : Addr) : Addr → Addr → Hp → Prop := fun a b H => ∃ u, FourAt C H a u ∧ FourAt C H b u
theorem monF {C : Addr} : Mon (DIns C (RF C)) := mon_ins fun a b H H' e ⟨u, h1, h2⟩ => ⟨u, h1.same e, h2.same e⟩
theorem eq_weak {C : Addr} : ∀ vs H Q E, spEq (RF C) vs H Q E → spEqP C vs H Q E := by
  rintro vs H Q E ⟨a, b, rfl, ⟨u, h1, h2⟩, q⟩
  refine ⟨a, b, u, u, rfl, h1, h2, ?_⟩
  rw [decide_eq_true rfl]
  exact q H (fun _ _ e => e)
section
variable {X : Cx} {C : Addr} {k : Nat} {ps : List Str}
theorem op_neFL (M : MethOk X.prog X.w X.K X.mg X.base C "__eq__" k ps (spEqP C)) (hr : Room (k + 1) X.A) : OpR X (compareOp .NotEq) (rNeG (DIns C (RF C))) := by
  obtain ⟨f, fd, F, h, hb⟩ := M.ex
  exact op_neG monF (eqG_ins (E := E0) (F.imp eq_weak) h.at_ h.fn hb pass0) hr
theorem op_eqFL (M : MethOk X.prog X.w X.K X.mg X.base C "__eq__" k ps (spEqP C)) (hr : Room (k + 1) X.A) : OpR X (compareOp .Eq) (rEqG (DList (DIns C (RF C)))) := by
  obtain ⟨f, fd, F, h, hb⟩ := M.ex
  exact op_eqG (rcG_list monF (eqG_ins (E := E0) (F.imp eq_weak) h.at_ h.fn hb pass0)) hr
end
theorem din {C : Addr} {H : Hp} {a b : Addr} {u : Q4} (h1 : FourAt C H a u) (h2 : FourAt C H b u) : DIns C (RF C) (.ref a) (.ref b) H := by
  obtain ⟨_, dx, _, e1, _⟩ := id h1
  obtain ⟨_, dy, _, e2, _⟩ := id h2
  exact ⟨a, b, dx, dy, _, _, rfl, rfl, e1, e2, u, h1, h2⟩
/-- two rows of the same halves -/
theorem EqV.row {K : PySem.W.Frag} {H : Hp} {t t' : Addr} {u : Q4} (h1 : SqT K H t u.vs) (h2 : SqT K H t' u.vs) : EqV K H 2 (.ref t) (.ref t') := by
  refine .inr ⟨t, t', u.vs, u.vs, rfl, rfl, .inr ⟨h1, h2⟩, rfl, by show 4 ≤ 1000; decide, fun i x y hx hy => ?_⟩
  rw [hx] at hy
  cases hy
  match i, hx with
  | 0, hx => cases hx; exact .inl ⟨rfl, rfl⟩
  | 1, hx => cases hx; exact .inl ⟨rfl, rfl⟩
  | 2, hx => cases hx; exact .inl ⟨rfl, rfl⟩
  | 3, hx => cases hx; exact .inl ⟨rfl, rfl⟩
/-- two lists of four such rows -/
theorem EqV.rows4 {K : PySem.W.Frag} {H : Hp} {a b t1 t2 t3 t4 s1 s2 s3 s4 : Addr} {u1 u2 u3 u4 : Q4} (h1 : H a = some (.lst [.ref t1, .ref t2, .ref t3, .ref t4])) (h2 : H b = some (.lst [.ref s1, .ref s2, .ref s3, .ref s4]))
    (a1 : SqT K H t1 u1.vs) (a2 : SqT K H t2 u2.vs) (a3 : SqT K H t3 u3.vs) (a4 : SqT K H t4 u4.vs) (b1 : SqT K H s1 u1.vs) (b2 : SqT K H s2 u2.vs) (b3 : SqT K H s3 u3.vs) (b4 : SqT K H s4 u4.vs) : EqV K H 3 (.ref a) (.ref b) := by
  refine .inr ⟨a, b, _, _, rfl, rfl, .inl ⟨h1, h2⟩, rfl, by show 4 ≤ 1000; decide, fun i x y hx hy => ?_⟩
  match i, hx, hy with
  | 0, hx, hy => cases hx; cases hy; exact EqV.row a1 b1
  | 1, hx, hy => cases hx; cases hy; exact EqV.row a2 b2
  | 2, hx, hy => cases hx; cases hy; exact EqV.row a3 b3
  | 3, hx, hy => cases hx; cases hy; exact EqV.row a4 b4
/-- a comprehension over the zip of two rows: a list of four ints -/
theorem zip4 {K : PySem.W.Frag} {t1 t2 D : Addr} {u v : Q4} {H : Hp} (g : Int → Int → Int) {Qd : Hp → Prop} {Bd' : (Hp → Prop) → V → Hp → Prop} (h1 : H t1 = some (.tup u.vs)) (h2 : H t2 = some (.tup v.vs)) (nD : H D = none)
    (turn : ∀ (N : Hp → Prop) (x y : Int) (T : Addr) (H' : Hp) (acc : List V), H' T = none → H' D = some (.lst acc) → acc.length ≤ 4 → T ≠ D → N (upd (upd H' T (.tup [.int x, .int y])) D (.lst (acc ++ [.int (g x y)]))) → Bd' N (.ref T) (upd H' T (.tup [.int x, .int y])))
    (hd : ∀ H', Same H H' → H' D = some (.lst [.int (g u.a v.a), .int (g u.b v.b), .int (g u.c v.c), .int (g u.d v.d)]) → Qd H') :
    ∃ W : Nat → Nat → Hp → Prop, (∃ m, W 0 m (upd H D (.lst []))) ∧ ∀ i m H, W i m H → ((ItzT K t1 t2).stop i H ∧ Qd H) ∨ ((ItzT K t1 t2).go i H ∧ ∃ Nx : Hp → Prop, (∀ H', Nx H' → ∃ m', m' < m ∧ W (i + 1) m' H') ∧ ∀ x H', (ItzT K t1 t2).yld i H x H' → Bd' Nx x H') := by
  have key : ∀ (i : Nat) (x y : V), u.vs[i]? = some x → v.vs[i]? = some y → ∃ p q : Int, x = .int p ∧ y = .int q ∧ [g u.a v.a, g u.b v.b, g u.c v.c, g u.d v.d][i]? = some (g p q) ∧ i < 4 := by
    intro i x y hx hy
    match i, hx, hy with
    | 0, hx, hy => cases hx; cases hy; exact ⟨_, _, rfl, rfl, rfl, by decide⟩
    | 1, hx, hy => cases hx; cases hy; exact ⟨_, _, rfl, rfl, rfl, by decide⟩
    | 2, hx, hy => cases hx; cases hy; exact ⟨_, _, rfl, rfl, rfl, by decide⟩
    | 3, hx, hy => cases hx; cases hy; exact ⟨_, _, rfl, rfl, rfl, by decide⟩
  refine zip_turns (xs := u.vs) (ys := v.vs) rfl (fun H' => SqT K H' t1 u.vs ∧ SqT K H' t2 v.vs) (fun i x y H' q hx hy => ⟨_, _, x, y, q.1, q.2, hx, hy⟩) (fun H' q => ⟨_, _, q.1, q.2, .inl (Nat.le_refl _)⟩) (fun i z H' H2 q hy => ?_)
    (fun i H' => Same H H' ∧ H' D = some (.lst (([g u.a v.a, g u.b v.b, g u.c v.c, g u.d v.d].take i).map V.int))) ⟨same_upd nD, upd_same⟩ (fun i H' q => ⟨SqT.of (q.1 _ _ h1), SqT.of (q.1 _ _ h2)⟩) ?_ ?_
  · obtain ⟨T, x', y', rfl, hT, rfl, f1, f2⟩ := hy
    exact ⟨T, x', y', rfl, hT, rfl, f1 _ q.1, f2 _ q.2⟩
  · rintro i x y T H' hx hy ⟨sm, hD⟩ nT
    obtain ⟨p, q, rfl, rfl, hg, hi⟩ := key i x y hx hy
    have nTD : T ≠ D := (ne_of_none hD nT).symm
    refine turn _ p q T H' _ nT hD (by rw [List.length_map, List.length_take]; omega) nTD ⟨?_, ?_⟩
    · intro b o e
      rw [upd_ne (ne_of_none e nD), upd_ne (ne_of_none (sm _ _ e) nT)]
      exact sm _ _ e
    · rw [upd_same, List.take_add_one, hg]
      simp
  · rintro H' ⟨sm, hD⟩
    exact hd H' sm hD
end G
set_option Elab.async false
set_option linter.all false
set_option maxRecDepth 100000
set_option maxHeartbeats 1000000
namespace G
open PySem PySem.Spec PyProof.Rows L2 RZ StX
/-- every half at most m in size -/
def Q4.Le (m : Int) (u : Q4) : Prop := (-m ≤ u.a ∧ u.a ≤ m) ∧ (-m ≤ u.b ∧ u.b ≤ m) ∧ (-m ≤ u.c ∧ u.c ≤ m) ∧ (-m ≤ u.d ∧ u.d ≤ m)
def spHalvesL : Sp := fun vs H Q _ => ∃ (p c : Addr) (m : Int), vs = [.ref p, .int m] ∧ 0 ≤ m ∧ m < 1000000000000 ∧ FeedAt H p c ∧ ∀ (H' : Hp) (t : Addr) (u : Q4), FeedAt H' p c → SameX p H H' → H t = none → H' t = some (.tup u.vs) → u.Par → u.Le (2 * m + 2) → u ≠ ⟨0, 0, 0, 0⟩ → Q (.ref t) H'
theorem SameX.free {p : Addr} {H H' : Hp} (e : SameX p H H') (h : ∃ o, H' p = some o) {l : Addr} (hl : H' l = none) : H l = none := by
  cases hh : H l with
  | none => rfl
  | some o =>
    rcases Decidable.em (l = p) with z | z
    · obtain ⟨o', h'⟩ := h
      rw [z, h'] at hl
      cases hl
    · rw [e l o z hh] at hl
      cases hl
section
variable {P : Program} {w : World} {K : PySem.W.Frag} {mg : Str → Option Value} {base : Heap}
theorem ok_halvesL {f : Addr} {fd : FuncData} (F : Fun K "_law_halves" "_law_halves" s_L_halves f fd) (B : Bn mg) (D_take : DefOk P w K mg base "_law_take" 1 ["_law_feed_here", "_law_many"] spTake) : FnOk P w K mg base CX0 2 f fd ["_law_feed_here", "_law_most"] spHalvesL := by
  refine F.ok sc_L_halves (fun vs H Q E h => ?_) (fun cdv A outer s H vs Q E hr h => ?_)
  · obtain ⟨p, c, m, rfl, _⟩ := h
    rfl
  · obtain ⟨p, c, m, rfl, m0, m9, hF, q⟩ := h
    refine ⟨_, (pss_cons (ps_set (i := 2) sc_L_halves.nd rfl (Or.inl rfl) (pe_callD D_take hr (pa_cons (pv 0) (pa_cons pe_int pa_nil))))
      (pss_cons (ps_set (i := 3) sc_L_halves.nd rfl (Or.inl rfl) (pe_lst pa_nil))
      (pss_cons (ps_for PassesOwn.never rfl (pi_range1 (by rfl) B.range (pa_cons pe_int pa_nil)) (pg_name (i := 4) sc_L_halves.nd rfl (Or.inl rfl)) (pss_one (ps_expr (pe_bm PySem.F.plainAttrs_list PySem.F.slot_list_append PySem.F.type_list_append mt_append (pv 3) (pa_cons (pe_op op_add (pe_op op_mulW pe_int (pe_op op_sub (pe_callD D_take hr (pa_cons (pv 0) (pa_cons (pe_op op_add (pe_op op_mulW pe_int (pv 1)) pe_int) pa_nil))) (pv 1))) (pv 2)) pa_nil)))))
      (pss_cons (ps_if (pt_cmpR (op_eqD hr.units) (pv 3) (pe_lst (pa_cons pe_int (pa_cons pe_int (pa_cons pe_int (pa_cons pe_int pa_nil))))) (nomark _)) (pss_one (ps_set (i := 3) sc_L_halves.nd rfl (Or.inl rfl) (pe_lst (pa_cons pe_int (pa_cons pe_int (pa_cons pe_int (pa_cons pe_int pa_nil))))))) pss_nil)
      (pss_one (ps_ret (pe_callTy call_tuple_of (by rfl) B.tuple (by decide +kernel) (pa_cons (pv 3) pa_nil)))))))), ?_⟩
    refine ⟨_, rfl, p, c, 2, rfl, by decide, by decide +kernel, hF, fun H1 o o0 o1 hF1 sm1 => ?_⟩
    refine ⟨Nat.zero_le _, fun l nl => ?_⟩
    obtain ⟨nlp, nlc⟩ := hF1.ne nl
    refine ⟨4, rfl, by decide, by decide, for_range (n := 4) (fun i σ H' => ∃ (ns : List Int) (x : Option V), σ = [some (.ref p), some (.int m), some (.int o), some (.ref l), x] ∧ FeedAt H' p c ∧ SameX p H1 H' ∧ H' l = some (.lst (ns.map V.int)) ∧ ns.length = i ∧ ∀ n ∈ ns, n % 2 = o ∧ -(2 * m + 2) ≤ n ∧ n ≤ 2 * m + 2) ⟨[], none, rfl, hF1.same (same_upd nl), .of (same_upd nl), upd_same, rfl, fun n hn => by cases hn⟩ ?_ ?_⟩
    · rintro i σ H' hi ⟨ns, x, rfl, hF2, sm2, hl, hlen, hn⟩
      refine ⟨_, rfl, .inl ⟨rfl, _, SqL.of hl⟩, ?_⟩
      refine ⟨_, rfl, _, rfl, _, _, rfl, rfl, mw (by decide) (by omega), _, _, rfl, rfl, p, c, 2 * m + 1, rfl, by omega, lg (by omega), hF2, fun H3 r r0 r1 hF3 sm3 => ?_⟩
      refine ⟨_, rfl, _, _, rfl, rfl, _, _, rfl, rfl, mw (by decide) (by omega), _, rfl, _, _, rfl, rfl, ?_⟩
      have hl3 := sm3 _ _ nlp hl
      refine ⟨l, _, _, rfl, rfl, hl3, by rw [List.length_map]; exact small1000 (by omega), ?_⟩
      refine ⟨ns ++ [2 * (r - m) + o], _, rfl, ?_, ?_, ?_, ?_, ?_⟩
      · exact hF3.upd nlp nlc
      · intro b ob nb e
        rw [upd_ne (ne_of_none e nl)]
        exact sm3 _ _ nb (sm2 _ _ nb e)
      · rw [upd_same, List.map_append]; rfl
      · rw [List.length_append, hlen]; rfl
      · intro n hn'
        rcases List.mem_append.mp hn' with h | h
        · exact hn n h
        · have : n = 2 * (r - m) + o := by simpa using h
          subst this
          refine ⟨by omega, by omega, by omega⟩
    · rintro σ H' ⟨ns, x, rfl, hF2, sm2, hl, hlen, hn⟩
      obtain ⟨a, b, c', d, rfl⟩ : ∃ a b c' d, ns = [a, b, c', d] := by
        match ns, hlen with
        | [a, b, c', d], _ => exact ⟨a, b, c', d, rfl⟩
      have ha := hn a (by simp)
      have hb := hn b (by simp)
      have hc := hn c' (by simp)
      have hd := hn d (by simp)
      have sm0 : SameX p H H' := sm1.trans sm2
      have fin : ∀ (u : Q4) (l' : Addr) (H2 : Hp), Same H' H2 → SqL K H2 l' u.vs → u.Par → u.Le (2 * m + 2) → u ≠ ⟨0, 0, 0, 0⟩ → ∀ t, H2 t = none → Q (.ref t) (upd H2 t (.tup u.vs)) := by
        intro u l' H2 s2 hL pu lu nu t nt
        refine q _ t u ((hF2.same s2).same (same_upd nt)) ((sm0.trans (.of s2)).trans (.of (same_upd nt))) ?_ upd_same pu lu nu
        exact sm0.free hF2.some (s2.free nt)
      refine ⟨_, rfl, (by show 4 ≤ sizeLine; decide), fun z nz => ?_⟩
      have sz := same_upd (o := .lst [.int 0, .int 0, .int 0, .int 0]) nz
      refine ⟨.list [.int a, .int b, .int c', .int d], .list [.int 0, .int 0, .int 0, .int 0], .lst (SqL.of (sz _ _ hl)) (.cons (.int _) (.cons (.int _) (.cons (.int _) (.cons (.int _) .nil)))), .lst (SqL.of upd_same) (.cons (.int _) (.cons (.int _) (.cons (.int _) (.cons (.int _) .nil)))), rfl, rfl, _, rfl, ?_⟩
      have ev : PyData.eqv (.list [.int a, .int b, .int c', .int d]) (.list [.int 0, .int 0, .int 0, .int 0]) = decide ((⟨a, b, c', d⟩ : Q4) = ⟨0, 0, 0, 0⟩) := eqv_q4 ⟨a, b, c', d⟩ ⟨0, 0, 0, 0⟩
      rw [ev]
      refine ite2 (fun h => ?_) (fun h => ?_)
      · refine ⟨(by show 4 ≤ sizeLine; decide), fun l2 nl2 => ?_⟩
        refine ⟨_, rfl, l2, _, rfl, .inl ⟨SqL.of upd_same, fun t nt => ?_⟩⟩
        exact fin ⟨2, 0, 0, 0⟩ l2 _ (sz.trans (same_upd nl2)) (SqL.of upd_same) ⟨rfl, rfl, rfl⟩ ⟨⟨by dsimp only; omega, by dsimp only; omega⟩, ⟨by dsimp only; omega, by dsimp only; omega⟩, ⟨by dsimp only; omega, by dsimp only; omega⟩, ⟨by dsimp only; omega, by dsimp only; omega⟩⟩ (by decide) t nt
      · refine ⟨_, rfl, l, _, rfl, .inl ⟨SqL.of (sz _ _ hl), fun t nt => ?_⟩⟩
        refine fin ⟨a, b, c', d⟩ l _ sz (SqL.of (sz _ _ hl)) ⟨?_, ?_, ?_⟩ ⟨⟨?_, ?_⟩, ⟨?_, ?_⟩, ⟨?_, ?_⟩, ⟨?_, ?_⟩⟩ (fun e => h (decide_eq_true e)) t nt <;> dsimp only <;> omega
end
end G
set_option Elab.async false
set_option linter.all false
set_option maxRecDepth 100000
set_option maxHeartbeats 1000000
namespace G
open PySem PySem.Spec PyProof.Rows L2 RZ StX
/-! ### a static method without arguments; a four of a starred row -/
theorem pe_fourS {X : Cx} {C : Addr} {x : Str} {p pos sp_ : Pos} {e : Expr} {te : TE} (I : InitOk X.prog X.w X.K X.mg X.base C) (hr : Room 4 X.A) (hm : X.mg x = some (.ref C)) (he : PE X e te) (hg : Gl X x := by rfl) (hd : (x == ("__debug__" : Str)) = false := by decide) (hst : starEach [.Starred e sp_] X.env = [(true, eval e X.env)] := by rfl) :
    PE X (.Call (.Name x p) [.Starred e sp_] [] pos) (fun σ H Q => te σ H fun y H1 => ∃ (a : Addr) (u : Q4), y = V.ref a ∧ (SqT X.K H1 a u.vs ∨ SqL X.K H1 a u.vs) ∧ u.Par ∧ ∀ z H2, H1 z = none → Same H1 H2 → FourAt C H2 z u → Q (.ref z) H2) := by
  obtain ⟨f, M, F⟩ := I.ex
  refine ⟨fun pins s σ H Q I h => wpAny_Call_Name_kw (ld_glob I hg hm ?_ hd)⟩
  refine PySem.W.callWith_S (h₀ := X.base) I.ok.mod.kin M.kp (thn (he.run pins s σ H _ I h) fun v s1 ⟨y, H1, I1, ry, a, u, ey, hxs, pu, q⟩ => ?_) hst
  subst ey
  obtain rfl : v = Value.ref a := ry
  exact star_any I1 hxs fun us s2 I2 rv => ⟨I2.kIn, run_makeR M F hr (E := E0) pass0 I2 rv (four_made pu q)⟩
end G
set_option Elab.async false
set_option linter.all false
set_option maxRecDepth 100000
set_option maxHeartbeats 1000000
namespace G
open PySem PySem.Spec PyProof.Rows L2 RZ StX
/-! ### lists of rows of ints -/
theorem sqt_updL {K : PySem.W.Frag} {H : Hp} {t D : Addr} {xs ys zs : List V} (h : SqT K H t xs) (hD : H D = some (.lst ys)) : SqT K (upd H D (.lst zs)) t xs := by
  rcases h with (h | ⟨o, h⟩) | h
  · exact .inl (.inl (by rw [upd_ne (ne_of h hD (by intro q; cases q))]; exact h))
  · exact .inl (.inr ⟨o, by rw [upd_ne (ne_of h hD (by intro q; cases q))]; exact h⟩)
  · exact .inr h
def rCatB (K : PySem.W.Frag) : R2 := fun x y H Q => ∃ a b xs ys, x = .ref a ∧ y = .ref b ∧ SqT K H a xs ∧ SqT K H b ys ∧ xs.length + ys.length ≤ 1000 ∧ ∀ r H', Same H H' → SqT K H' r (xs ++ ys) → Q (.ref r) H'
theorem op_catB {X : Cx} : OpR X (binaryOp .Add) (rCatB X.K) := opr_imp op_catA fun x y H Q ⟨a, b, xs, ys, ex, ey, h1, h2, hl, q⟩ =>
  ⟨a, b, xs, ys, ex, ey, h1, h2, Nat.le_of_lt (small1000 hl), fun e => q b H (.refl _) (by rw [e]; exact h2), fun _ e => q a H (.refl _) (by rw [e, List.append_nil]; exact h1), fun _ _ p np => q p _ (same_upd np) (SqT.of upd_same)⟩
def rRepB (K : PySem.W.Frag) : R2 := fun x y H Q => ∃ (l : Addr) (k : Int) (xs : List V), x = .ref l ∧ y = .int k ∧ SqT K H l xs ∧ xs ≠ [] ∧ 0 ≤ k ∧ k ≤ 1000 ∧ xs.length ≤ 1000 ∧ ∀ r H', Same H H' → SqT K H' r (List.replicate k.toNat xs).flatten → Q (.ref r) H'
theorem op_repB {X : Cx} : OpR X (binaryOp .Mult) (rRepB X.K) := opr_imp op_repA fun x y H Q ⟨l, k, xs, ex, ey, h1, h2, h3, h4, h5, q⟩ =>
  ⟨l, k, xs, ex, ey, h1, h2, h3, h4, h5, fun e => q l H (.refl _) (by subst e; simpa using h1), fun _ p np => q p _ (same_upd np) (SqT.of upd_same)⟩
/-- a list at l of rows -/
def RowsAt (K : PySem.W.Frag) (H : Hp) (l : Addr) (cs : List (List Int)) : Prop := ∃ ts : List Addr, H l = some (.lst (ts.map V.ref)) ∧ ts.length = cs.length ∧ ∀ (j : Nat) (t : Addr) (c : List Int), ts[j]? = some t → cs[j]? = some c → SqT K H t (c.map V.int)
/-- the first i of the rows fs made, in the list at D -/
def Made (K : PySem.W.Frag) (H0 : Hp) (D : Addr) (fs : List (List Int)) (i : Nat) (H' : Hp) : Prop := Same H0 H' ∧ ∃ ts : List Addr, H' D = some (.lst (ts.map V.ref)) ∧ ts.length = i ∧ ∀ (j : Nat) (t : Addr) (c : List Int), ts[j]? = some t → fs[j]? = some c → SqT K H' t (c.map V.int)
theorem Made.zero {K : PySem.W.Frag} {H0 : Hp} {D : Addr} {fs : List (List Int)} (nD : H0 D = none) : Made K H0 D fs 0 (upd H0 D (.lst [])) := ⟨same_upd nD, [], upd_same, rfl, fun j t c h => by simp at h⟩
theorem Made.snoc {K : PySem.W.Frag} {H0 H' H4 : Hp} {D r : Addr} {fs : List (List Int)} {i : Nat} {c : List Int} (h : Made K H0 D fs i H') (s : Same H' H4) (nD : H0 D = none) (hc : fs[i]? = some c) (hr : SqT K H4 r (c.map V.int)) (hi : i ≤ 1000) :
    ∃ acc, H4 D = some (.lst acc) ∧ acc.length < sizeLine ∧ Made K H0 D fs (i + 1) (upd H4 D (.lst (acc ++ [.ref r]))) := by
  obtain ⟨sm, ts, hD, hl, ht⟩ := h
  have hD4 := s _ _ hD
  refine ⟨_, hD4, by rw [List.length_map, hl]; exact small1000 hi, fun b o e => ?_, ts ++ [r], ?_, ?_, ?_⟩
  · rw [upd_ne (ne_of_none e nD)]
    exact s _ _ (sm _ _ e)
  · rw [upd_same, List.map_append]; rfl
  · rw [List.length_append, hl]; rfl
  · intro j t c' hj hc'
    refine sqt_updL ?_ hD4
    rcases Nat.lt_or_ge j ts.length with q | q
    · rw [List.getElem?_append_left q] at hj
      exact s.tup (ht j t c' hj hc')
    · have e : j = ts.length := by
        have := (List.getElem?_eq_some_iff.mp hj).1
        rw [List.length_append, List.length_singleton] at this
        omega
      subst e
      rw [List.getElem?_append_right (Nat.le_refl _), Nat.sub_self] at hj
      cases hj
      rw [hl, hc] at hc'
      cases hc'
      exact hr
theorem Made.rows {K : PySem.W.Frag} {H0 H' : Hp} {D : Addr} {fs : List (List Int)} (h : Made K H0 D fs fs.length H') : RowsAt K H' D fs := by
  obtain ⟨_, ts, hD, hl, ht⟩ := h
  exact ⟨ts, hD, hl, ht⟩
theorem RowsAt.same {K : PySem.W.Frag} {H H' : Hp} {l : Addr} {cs : List (List Int)} (h : RowsAt K H l cs) (s : Same H H') : RowsAt K H' l cs := by
  obtain ⟨ts, h1, h2, h3⟩ := h
  exact ⟨ts, s _ _ h1, h2, fun j t c a b => s.tup (h3 j t c a b)⟩
theorem RowsAt.cat {K : PySem.W.Frag} {H : Hp} {l m p : Addr} {xs ys : List V} {cs ds : List (List Int)} (h : RowsAt K H l cs) (k : RowsAt K H m ds) (hx : H l = some (.lst xs)) (hy : H m = some (.lst ys)) (np : H p = none) : RowsAt K (upd H p (.lst (xs ++ ys))) p (cs ++ ds) := by
  obtain ⟨ts, h1, h2, h3⟩ := h
  obtain ⟨us, k1, k2, k3⟩ := k
  rw [h1] at hx; cases hx
  rw [k1] at hy; cases hy
  refine ⟨ts ++ us, by rw [upd_same, List.map_append], by rw [List.length_append, List.length_append, h2, k2], fun j t c a b => (same_upd np).tup ?_⟩
  rcases Nat.lt_or_ge j ts.length with q | q
  · rw [List.getElem?_append_left q] at a
    rw [List.getElem?_append_left (by omega)] at b
    exact h3 j t c a b
  · rw [List.getElem?_append_right q] at a
    rw [List.getElem?_append_right (by omega), ← h2] at b
    exact k3 _ t c a b
end G
set_option Elab.async false
set_option linter.all false
set_option maxRecDepth 100000
set_option maxHeartbeats 1000000
namespace G
open PySem PySem.Spec PyProof.Rows L2 RZ StX
/-! ### the law's own units -/
def unitRows : List (List Int) := [[-2, 0, 0, 0], [-1, -1, -1, -1], [-1, -1, -1, 1], [-1, -1, 1, -1], [-1, -1, 1, 1], [-1, 1, -1, -1], [-1, 1, -1, 1], [-1, 1, 1, -1], [-1, 1, 1, 1], [0, -2, 0, 0], [0, 0, -2, 0], [0, 0, 0, -2], [0, 0, 0, 2], [0, 0, 2, 0], [0, 2, 0, 0], [1, -1, -1, -1], [1, -1, -1, 1], [1, -1, 1, -1], [1, -1, 1, 1], [1, 1, -1, -1], [1, 1, -1, 1], [1, 1, 1, -1], [1, 1, 1, 1], [2, 0, 0, 0]]
/-- rows of i ones with their signs -/
def signs : Nat → List (List Int)
  | 0 => [[]]
  | i + 1 => (signs i).map (· ++ [-1]) ++ (signs i).map (· ++ [1])
theorem signs_len : ∀ i, (signs i).length = 2 ^ i
  | 0 => rfl
  | i + 1 => by
    show ((signs i).map _ ++ (signs i).map _).length = _
    rw [List.length_append, List.length_map, List.length_map, signs_len i, Nat.pow_succ]
    omega
def axes (i : Nat) : List (List Int) := [2, -2].map fun s => List.replicate i 0 ++ [s] ++ List.replicate (3 - i) 0
def both : Nat → List (List Int)
  | 0 => signs 4
  | i + 1 => both i ++ axes i
theorem RowsAt.sorted {K : PySem.W.Frag} {H : Hp} {l p : Addr} {xs ys : List V} {cs ds : List (List Int)} {k : V → List Int} (h : RowsAt K H l cs) (hx : H l = some (.lst xs)) (hk : ∀ x c, RowV K H x c → k x = c) (hs : ys.Pairwise (fun x y => rowLt (k y) (k x) = false)) (hp : ys.Perm xs) (np : H p = none)
    (hd : ds.Pairwise (fun x y => rowLt y x = false)) (pd : cs.Perm ds) : RowsAt K (upd H p (.lst ys)) p ds := by
  obtain ⟨ts, h1, h2, h3⟩ := h
  rw [h1] at hx; cases hx
  have e1 : (ts.map V.ref).map k = cs := by
    refine List.ext_getElem? fun j => ?_
    rw [List.getElem?_map, List.getElem?_map]
    cases ej : ts[j]? with
    | none => rw [List.getElem?_eq_none_iff] at ej; rw [List.getElem?_eq_none_iff.mpr (by omega)]; rfl
    | some t =>
      have hj := (List.getElem?_eq_some_iff.mp ej).1
      have ec : cs[j]? = some cs[j] := List.getElem?_eq_getElem (by omega)
      rw [ec]
      exact congrArg some (hk _ _ ⟨t, rfl, h3 j t _ ej ec⟩)
  have e2 : ys.map k = ds := sorted_uniq (List.pairwise_map.mpr hs) hd (((hp.map k).trans (by rw [e1])).trans pd)
  have back : ∀ y ∈ ys, ∃ t c, y = V.ref t ∧ SqT K H t (c.map V.int) ∧ k y = c := fun y m => by
    have m' := hp.mem_iff.mp m
    obtain ⟨t, mt, rfl⟩ := List.mem_map.mp m'
    obtain ⟨j, hj, ej⟩ := List.getElem_of_mem mt
    have q1 : ts[j]? = some t := by rw [List.getElem?_eq_getElem hj, ej]
    have q2 : cs[j]? = some cs[j] := List.getElem?_eq_getElem (by omega)
    have q := h3 j t _ q1 q2
    exact ⟨t, _, rfl, q, hk _ _ ⟨t, rfl, q⟩⟩
  have refs : ∃ us : List Addr, ys = us.map V.ref := by
    clear e2 hp hs
    induction ys with
    | nil => exact ⟨[], rfl⟩
    | cons y ys ih =>
      obtain ⟨t, _, e, _⟩ := back y (.head _)
      obtain ⟨us, e'⟩ := ih fun z m => back z (.tail _ m)
      exact ⟨t :: us, by rw [e, e']; rfl⟩
  obtain ⟨us, rfl⟩ := refs
  refine ⟨us, upd_same, by rw [← e2, List.length_map, List.length_map], fun j t c a b => (same_upd np).tup ?_⟩
  rw [← e2, List.getElem?_map, List.getElem?_map, a] at b
  cases b
  obtain ⟨t', c, e, s, z⟩ := back (.ref t) (List.mem_map.mpr ⟨t, List.mem_of_getElem? a, rfl⟩)
  cases e
  show SqT K H t ((k (.ref t)).map V.int)
  rw [z]
  exact s
theorem RowsAt.row {K : PySem.W.Frag} {H : Hp} {l : Addr} {xs : List V} {cs : List (List Int)} (h : RowsAt K H l cs) (hx : H l = some (.lst xs)) (hn : ∀ c ∈ cs, c ≠ []) : ∀ x ∈ xs, ∃ c, RowV K H x c ∧ c ≠ [] := fun x m => by
  obtain ⟨ts, h1, h2, h3⟩ := h
  rw [h1] at hx; cases hx
  obtain ⟨t, mt, rfl⟩ := List.mem_map.mp m
  obtain ⟨j, hj, ej⟩ := List.getElem_of_mem mt
  have q2 : cs[j]? = some cs[j] := List.getElem?_eq_getElem (by omega)
  exact ⟨_, ⟨t, rfl, h3 j t _ (by rw [List.getElem?_eq_getElem hj, ej]) q2⟩, hn _ (List.mem_of_getElem? q2)⟩
theorem signs_row : ∀ i, ∀ c ∈ signs i, c.length = i
  | 0, c, m => by rw [List.mem_singleton.mp m]; rfl
  | i + 1, c, m => by
    rcases List.mem_append.mp m with m | m <;> obtain ⟨d, md, rfl⟩ := List.mem_map.mp m <;> rw [List.length_append, signs_row i d md] <;> rfl
theorem row_at {ts : List Addr} {cs : List (List Int)} {j : Nat} {x : V} (h : ts.length = cs.length) (hx : (ts.map V.ref)[j]? = some x) : ∃ t c, x = V.ref t ∧ ts[j]? = some t ∧ cs[j]? = some c := by
  rw [List.getElem?_map] at hx
  cases e : ts[j]? with
  | none => rw [e] at hx; cases hx
  | some t =>
    rw [e] at hx
    have hj := (List.getElem?_eq_some_iff.mp e).1
    exact ⟨t, cs[j], (Option.some.inj hx).symm, rfl, List.getElem?_eq_getElem (by omega)⟩
theorem repl_zero (n : Nat) : (List.replicate n [V.int 0]).flatten = List.replicate n (V.int 0) := by
  induction n with
  | zero => rfl
  | succ n ih => rw [List.replicate_succ, List.flatten_cons, ih]; rfl
def spUnitsL (K : PySem.W.Frag) : Sp := fun vs H Q _ => vs = [] ∧ ∀ p H', H p = none → Same H H' → RowsAt K H' p unitRows → Q (.ref p) H'
section
variable {P : Program} {w : World} {K : PySem.W.Frag} {mg : Str → Option Value} {base : Heap}
theorem ok_unitsL {f : Addr} {fd : FuncData} {k : Nat} (F : Fun K "_law_units" "_law_units" s_L_units f fd) (B : Bn mg) (mS : mg "sorted" = none) : FnOk P w K mg base CX0 (k + 1) f fd [] (spUnitsL K) := by
  refine F.ok sc_L_units (fun vs H Q E h => ?_) (fun cdv A outer s H vs Q E hr h => ?_)
  · obtain ⟨rfl, _⟩ := h
    rfl
  · obtain ⟨rfl, q⟩ := h
    refine ⟨_, (pss_cons (ps_set (i := 0) sc_L_units.nd rfl (Or.inl rfl) (pe_lst (pa_cons (pe_tup pa_nil) pa_nil)))
      (pss_cons (ps_for PassesOwn.never rfl (pi_range1 (by rfl) B.range (pa_cons pe_int pa_nil)) (pg_name (i := 1) sc_L_units.nd rfl (Or.inr rfl)) (pss_one (ps_set (i := 0) sc_L_units.nd rfl (Or.inl rfl) (pe_op op_cat (pe_lc (own := [("_law_row", 2)]) (g := gName 2) (tt := tYes) (by rfl) sc_L_units.nd (pi_list (pv 0)) (blkOk_by (own := [("_law_row", 2)]) (N := ["_law_found", "_law_k", "_law_row", "_law_sign"]) (sc := (defScope s_L_units)) (by decide +kernel)) (fun _ _ _ _ _ => pg_name (i := 2) sc_L_units.nd rfl (Or.inl rfl)) (fun _ _ _ _ _ => pts_nil) (fun _ _ _ _ _ => (pe_op (show OpR _ _ (rCatB K) from op_catB) (pv 2) (pe_tup (pa_cons (pe_un un_neg pe_int) pa_nil))))) (pe_lc (own := [("_law_row", 2)]) (g := gName 2) (tt := tYes) (by rfl) sc_L_units.nd (pi_list (pv 0)) (blkOk_by (own := [("_law_row", 2)]) (N := ["_law_found", "_law_k", "_law_row", "_law_sign"]) (sc := (defScope s_L_units)) (by decide +kernel)) (fun _ _ _ _ _ => pg_name (i := 2) sc_L_units.nd rfl (Or.inl rfl)) (fun _ _ _ _ _ => pts_nil) (fun _ _ _ _ _ => (pe_op (show OpR _ _ (rCatB K) from op_catB) (pv 2) (pe_tup (pa_cons pe_int pa_nil)))))))))
      (pss_cons (ps_for PassesOwn.never rfl (pi_range1 (by rfl) B.range (pa_cons pe_int pa_nil)) (pg_name (i := 1) sc_L_units.nd rfl (Or.inr rfl)) (pss_one (ps_set (i := 0) sc_L_units.nd rfl (Or.inl rfl) (pe_op op_cat (pv 0) (pe_lc (own := [("_law_sign", 3)]) (g := gName 3) (tt := tYes) (by rfl) sc_L_units.nd (pi_tup (pe_tup (pa_cons pe_int (pa_cons (pe_un un_neg pe_int) pa_nil)))) (blkOk_by (own := [("_law_sign", 3)]) (N := ["_law_found", "_law_k", "_law_row", "_law_sign"]) (sc := (defScope s_L_units)) (by decide +kernel)) (fun _ _ _ _ _ => pg_name (i := 3) sc_L_units.nd rfl (Or.inl rfl)) (fun _ _ _ _ _ => pts_nil) (fun _ _ _ _ _ => (pe_op (show OpR _ _ (rCatB K) from op_catB) (pe_op (show OpR _ _ (rCatB K) from op_catB) (pe_op (show OpR _ _ (rRepB K) from op_repB) (pe_tup (pa_cons pe_int pa_nil)) (pv 1)) (pe_tup (pa_cons (pv 3) pa_nil))) (pe_op (show OpR _ _ (rRepB K) from op_repB) (pe_tup (pa_cons pe_int pa_nil)) (pe_op op_sub pe_int (pv 1))))))))))
      (pss_one (ps_ret (pe_callB cr_sortedR (by rfl) mS (by decide +kernel) (pa_cons (pv 0) pa_nil))))))), ?_⟩
    refine ⟨(by show 0 ≤ sizeLine; decide), fun t0 nt0 => ⟨(by show 1 ≤ sizeLine; decide), fun l0 nl0 => ?_⟩⟩
    refine ⟨4, rfl, by decide, by decide, for_range (n := 4) (fun i σ H' => ∃ (l : Addr) (x1 x2 x3 : Option V), σ = [some (.ref l), x1, x2, x3] ∧ H l = none ∧ Same H H' ∧ RowsAt K H' l (signs i)) ⟨l0, _, _, _, rfl, ?_, ?_, ?_⟩ ?_ ?_⟩
    · exact Same.free (same_upd nt0) nl0
    · exact (same_upd nt0).trans (same_upd nl0)
    · exact ⟨[t0], upd_same, rfl, fun j t c a b => by
        match j, a, b with
        | 0, a, b => cases a; cases b; exact SqT.of (same_upd nl0 _ _ upd_same)⟩
    · rintro i σ H1 hi ⟨l, x1, x2, x3, rfl, nl, s1, hR⟩
      have hlen : (signs i).length ≤ 8 := by rw [signs_len]; exact Nat.le_trans (Nat.pow_le_pow_right (by decide) (show i ≤ 3 by omega)) (by decide)
      obtain ⟨ts, h1, h2, h3⟩ := id hR
      refine ⟨_, rfl, l, rfl, ⟨_, SqL.of h1⟩, fun D nD => ?_⟩
      refine lc_list (K := K) (a := l) (xs := ts.map V.ref) (Made K H1 D ((signs i).map (· ++ [-1]))) (Made.zero nD) (fun j H' _ h => SqL.of (h.1 _ _ h1)) ?_ ?_
      · rintro j x H' hx hM
        obtain ⟨t, c, rfl, et, ec⟩ := row_at h2 hx
        refine ⟨rfl, ?_⟩
        dsimp only [tYes]
        rw [if_pos rfl]
        refine ⟨_, rfl, _, rfl, (by show 1 ≤ sizeLine; decide), fun u nu => ?_⟩
        refine ⟨t, u, c.map V.int, [V.int (-1)], rfl, rfl, (same_upd nu).tup (hM.1.tup (h3 j t c et ec)), SqT.of upd_same, ?_, fun r H4 s4 hr4 => ?_⟩
        · have := signs_row i c (List.mem_of_getElem? ec)
          rw [List.length_map, this]; show i + 1 ≤ 1000; omega
        · refine hM.snoc (c := c ++ [-1]) ((same_upd nu).trans s4) nD (by rw [List.getElem?_map, ec]; rfl) (by rw [List.map_append]; exact hr4) ?_
          have := (List.getElem?_eq_some_iff.mp ec).1
          omega
      · rintro H2 hM
        have hL2 : (ts.map V.ref).length = ((signs i).map (· ++ [-1])).length := by rw [List.length_map, List.length_map, h2]
        rw [hL2] at hM
        have hA := hM.rows
        have s2 := hM.1
        refine ⟨_, rfl, l, rfl, ⟨_, SqL.of (s2 _ _ h1)⟩, fun D2 nD2 => ?_⟩
        refine lc_list (K := K) (a := l) (xs := ts.map V.ref) (Made K H2 D2 ((signs i).map (· ++ [1]))) (Made.zero nD2) (fun j H' _ h => SqL.of (h.1 _ _ (s2 _ _ h1))) ?_ ?_
        · rintro j x H' hx hM
          obtain ⟨t, c, rfl, et, ec⟩ := row_at h2 hx
          refine ⟨rfl, ?_⟩
          dsimp only [tYes]
          rw [if_pos rfl]
          refine ⟨_, rfl, (by show 1 ≤ sizeLine; decide), fun u nu => ?_⟩
          refine ⟨t, u, c.map V.int, [V.int 1], rfl, rfl, (same_upd nu).tup (hM.1.tup (s2.tup (h3 j t c et ec))), SqT.of upd_same, ?_, fun r H4 s4 hr4 => ?_⟩
          · have := signs_row i c (List.mem_of_getElem? ec)
            rw [List.length_map, this]; show i + 1 ≤ 1000; omega
          · refine hM.snoc (c := c ++ [1]) ((same_upd nu).trans s4) nD2 (by rw [List.getElem?_map, ec]; rfl) (by rw [List.map_append]; exact hr4) ?_
            have := (List.getElem?_eq_some_iff.mp ec).1
            omega
        · rintro H3 hM3
          have hL3 : (ts.map V.ref).length = ((signs i).map (· ++ [1])).length := by rw [List.length_map, List.length_map, h2]
          rw [hL3] at hM3
          have hB := hM3.rows
          have hA3 := hA.same hM3.1
          obtain ⟨as, ha, la, _⟩ := id hA3
          obtain ⟨bs, hb, lb, _⟩ := id hB
          rw [List.length_map] at la lb
          refine ⟨D, D2, _, _, rfl, rfl, ha, hb, by rw [List.length_map, List.length_map]; exact Nat.le_of_lt (small1000 (by omega)), fun p np => ?_⟩
          refine ⟨p, _, _, _, rfl, ?_, ?_, RowsAt.cat hA3 hB ha hb np⟩
          · exact Same.free s1 (Same.free s2 (Same.free hM3.1 np))
          · exact ((s1.trans s2).trans hM3.1).trans (same_upd np)
    · rintro σ H1 ⟨l, x1, x2, x3, rfl, nl, s1, hR⟩
      refine ⟨4, rfl, by decide, by decide, for_range (n := 4) (fun i σ H' => ∃ (l : Addr) (x1 x2 x3 : Option V), σ = [some (.ref l), x1, x2, x3] ∧ H l = none ∧ Same H H' ∧ RowsAt K H' l (both i)) ⟨l, _, _, _, rfl, nl, s1, hR⟩ ?_ ?_⟩
      · rintro i σ H2 hi ⟨l, x1, x2, x3, rfl, nl, s2, hR⟩
        have hlen : (both i).length ≤ 24 := (by decide : ∀ i : Fin 4, (both i).length ≤ 24) ⟨i, hi⟩
        obtain ⟨ts, h1, h2, h3⟩ := id hR
        refine ⟨_, rfl, _, rfl, (by show 2 ≤ sizeLine; decide), fun T nT => ⟨T, rfl, ⟨_, SqT.of upd_same⟩, fun D nD => ?_⟩⟩
        have sT : Same H2 (upd H2 T (.tup [.int 2, .int (-2)])) := same_upd nT
        refine lc_tup (K := K) (a := T) (xs := [.int 2, .int (-2)]) (Made K (upd H2 T (.tup [.int 2, .int (-2)])) D (axes i)) (Made.zero nD) (fun j H' _ h => SqT.of (h.1 _ _ upd_same)) ?_ ?_
        · rintro j x H' hx hM
          obtain ⟨s, rfl, ej⟩ : ∃ s : Int, x = .int s ∧ (axes i)[j]? = some (List.replicate i 0 ++ [s] ++ List.replicate (3 - i) 0) := by
            match j, hx with
            | 0, hx => cases hx; exact ⟨2, rfl, rfl⟩
            | 1, hx => cases hx; exact ⟨-2, rfl, rfl⟩
          have hj : j < 2 := (List.getElem?_eq_some_iff.mp hx).1
          refine ⟨rfl, ?_⟩
          dsimp only [tYes]
          rw [if_pos rfl]
          refine ⟨(by show 1 ≤ sizeLine; decide), fun z1 n1 => ⟨_, rfl, z1, 0 + (i : Int), [.int 0], rfl, rfl, SqT.of upd_same, by decide, by omega, by omega, by decide, fun r1 K1 t1 g1 => ?_⟩⟩
          refine ⟨_, rfl, (by show 1 ≤ sizeLine; decide), fun z2 n2 => ⟨r1, z2, _, _, rfl, rfl, (same_upd n2).tup g1, SqT.of upd_same, ?_, fun r2 K2 t2 g2 => ?_⟩⟩
          · rw [repl_zero, List.length_replicate]; show (0 + (i : Int)).toNat + 1 ≤ 1000; omega
          refine ⟨(by show 1 ≤ sizeLine; decide), fun z3 n3 => ⟨_, rfl, _, _, rfl, rfl, z3, 3 - (0 + (i : Int)), [.int 0], rfl, rfl, SqT.of upd_same, by decide, by omega, by omega, by decide, fun r3 K3 t3 g3 => ?_⟩⟩
          refine ⟨r2, r3, _, _, rfl, rfl, ((same_upd n3).trans t3).tup g2, g3, ?_, fun r4 K4 t4 g4 => ?_⟩
          · rw [repl_zero, repl_zero, List.length_append, List.length_replicate, List.length_replicate]; show (0 + (i : Int)).toNat + 1 + _ ≤ 1000; omega
          refine hM.snoc (((((((same_upd n1).trans t1).trans (same_upd n2)).trans t2).trans (same_upd n3)).trans t3).trans t4) nD ej ?_ (by omega)
          rw [repl_zero, repl_zero] at g4
          have e1 : (0 + (i : Int)).toNat = i := by omega
          have e2 : (3 - (0 + (i : Int))).toNat = 3 - i := by omega
          rw [e1, e2] at g4
          rw [List.map_append, List.map_append, List.map_replicate, List.map_replicate]
          exact g4
        · rintro H3 hM
          have hB := hM.rows
          have hA3 := hR.same (sT.trans hM.1)
          obtain ⟨as, ha, la, _⟩ := id hA3
          obtain ⟨bs, hb, lb, _⟩ := id hB
          have lb' : bs.length = 2 := lb
          refine ⟨l, D, _, _, rfl, rfl, ha, hb, by rw [List.length_map, List.length_map]; exact Nat.le_of_lt (small1000 (by omega)), fun p np => ?_⟩
          refine ⟨p, _, _, _, rfl, ?_, ?_, RowsAt.cat hA3 hB ha hb np⟩
          · exact Same.free s2 (Same.free sT (Same.free hM.1 np))
          · exact ((s2.trans sT).trans hM.1).trans (same_upd np)
      · rintro σ H2 ⟨l, x1, x2, x3, rfl, nl, s2, hR⟩
        obtain ⟨ts, h1, h2, h3⟩ := id hR
        refine ⟨_, rfl, l, _, rfl, SqL.of h1, hR.row h1 (by decide), fun k ys p hk hs hp np => ?_⟩
        exact q p _ (Same.free s2 np) (s2.trans (same_upd np)) (hR.sorted h1 hk hs hp np (by decide) (by decide))
end
end G
set_option Elab.async false
set_option linter.all false
set_option maxRecDepth 100000
set_option maxHeartbeats 1000000
namespace G
open PySem PySem.Spec PyProof.Rows L2 RZ StX
/-! ### Four.units -/
theorem tame_four {C : Addr} : Tame (FourAt C) where
  same := fun h s => h.same s
  but := fun {H H' D t u ys} ⟨p, dx, z, h1, h2⟩ hD s => ⟨p, dx, z, s _ _ (ne_of h1 hD (by intro q; cases q)) h1, s _ _ (ne_of h2 hD (by intro q; cases q)) h2⟩
def q4of : List Int → Q4
  | [a, b, c, d] => ⟨a, b, c, d⟩
  | _ => ⟨0, 0, 0, 0⟩
def Q4.row (u : Q4) : List Int := [u.a, u.b, u.c, u.d]
theorem Q4.row_vs (u : Q4) : u.row.map V.int = u.vs := rfl
def unitFours : List Q4 := unitRows.map q4of
theorem unit_row {j : Nat} {c : List Int} (h : unitRows[j]? = some c) : ∃ u : Q4, unitFours[j]? = some u ∧ c = u.row ∧ u.Par := by
  have m := List.mem_of_getElem? h
  have key : ∀ c ∈ unitRows, c = (q4of c).row ∧ (q4of c).Par := by
    unfold Q4.Par
    decide
  refine ⟨q4of c, ?_, key c m⟩
  show (unitRows.map q4of)[j]? = _
  rw [List.getElem?_map, h]; rfl
def tFourS (K : PySem.W.Frag) (C : Addr) (te : TE) : TE := fun σ H Q => te σ H fun y H1 => ∃ (a : Addr) (u : Q4), y = V.ref a ∧ (SqT K H1 a u.vs ∨ SqL K H1 a u.vs) ∧ u.Par ∧ ∀ z H2, H1 z = none → Same H1 H2 → FourAt C H2 z u → Q (.ref z) H2
theorem RowsAt.objs {K : PySem.W.Frag} {H : Hp} {l : Addr} {cs : List (List Int)} (h : RowsAt K H l cs) : ObjsAt (RowAt K) H l cs := h
theorem EqV.rowI {K : PySem.W.Frag} {H : Hp} {t t' : Addr} {c : List Int} (h1 : RowAt K H t c) (h2 : RowAt K H t' c) (hl : c.length ≤ 1000) : EqV K H 2 (.ref t) (.ref t') := by
  refine .inr ⟨t, t', _, _, rfl, rfl, .inr ⟨h1, h2⟩, rfl, by rw [List.length_map]; exact hl, fun i x y hx hy => ?_⟩
  rw [hx] at hy
  cases hy
  rw [List.getElem?_map] at hx
  cases e : c[i]? with
  | none => rw [e] at hx; cases hx
  | some u => rw [e] at hx; cases hx; exact .inl ⟨rfl, rfl⟩
theorem EqV.rowsI {K : PySem.W.Frag} {H : Hp} {a b : Addr} {cs : List (List Int)} (h1 : ObjsAt (RowAt K) H a cs) (h2 : ObjsAt (RowAt K) H b cs) (hl : cs.length ≤ 1000) (hc : ∀ c ∈ cs, c.length ≤ 1000) : EqV K H 3 (.ref a) (.ref b) := by
  obtain ⟨ts, a1, a2, a3⟩ := h1
  obtain ⟨us, b1, b2, b3⟩ := h2
  refine .inr ⟨a, b, _, _, rfl, rfl, .inl ⟨a1, b1⟩, by rw [List.length_map, List.length_map, a2, b2], by rw [List.length_map, a2]; exact hl, fun i x y hx hy => ?_⟩
  obtain ⟨t, c, rfl, et, ec, _⟩ := ref_at a2 hx
  obtain ⟨t', c', rfl, et', ec', _⟩ := ref_at b2 hy
  rw [ec] at ec'; cases ec'
  exact EqV.rowI (a3 _ _ _ et ec) (b3 _ _ _ et' ec) (hc c (List.mem_of_getElem? ec))
def dRow (c : List Int) : PyData := .tuple (c.map PyData.int)
theorem dp_ints {K : PySem.W.Frag} {H : Hp} : ∀ c : List Int, DpAll K H (c.map V.int) (c.map PyData.int)
  | [] => .nil
  | x :: c => .cons (.int x) (dp_ints c)
theorem dp_rows {K : PySem.W.Frag} {H : Hp} : ∀ (ts : List Addr) (cs : List (List Int)), ts.length = cs.length → (∀ (j : Nat) (t : Addr) (c : List Int), ts[j]? = some t → cs[j]? = some c → RowAt K H t c) → DpAll K H (ts.map V.ref) (cs.map dRow)
  | [], [], _, _ => .nil
  | t :: ts, c :: cs, h, r => .cons (.tup (r 0 t c rfl rfl) (dp_ints c)) (dp_rows ts cs (by simpa using h) fun j t c a b => r (j + 1) t c a b)
  | [], _ :: _, h, _ => by simp at h
  | _ :: _, [], h, _ => by simp at h
theorem ObjsAt.dp {K : PySem.W.Frag} {H : Hp} {l : Addr} {cs : List (List Int)} (h : ObjsAt (RowAt K) H l cs) : Dp K H (.ref l) (.list (cs.map dRow)) := by
  obtain ⟨ts, h1, h2, h3⟩ := h
  exact .lst (SqL.of h1) (dp_rows ts cs h2 h3)
theorem eqv_row : ∀ c d : List Int, PyData.eqv (dRow c) (dRow d) = decide (c = d) := by
  have key : ∀ c d : List Int, PyData.eqvAll (c.map PyData.int) (d.map PyData.int) = decide (c = d) := by
    intro c
    induction c with
    | nil => intro d; cases d <;> rfl
    | cons x c ih =>
      intro d
      cases d with
      | nil => rfl
      | cons y d =>
        show (x == y && PyData.eqvAll (c.map PyData.int) (d.map PyData.int)) = _
        rw [ih, Bool.eq_iff_iff]
        simp
  intro c d
  exact key c d
def spUnits (C : Addr) : Sp := fun vs H Q _ => vs = [] ∧ ∀ p H', H p = none → Same H H' → ObjsAt (FourAt C) H' p unitFours → Q (.ref p) H'
section
variable {P : Program} {w : World} {K : PySem.W.Frag} {mg : Str → Option Value} {base : Heap}
theorem ok_units {f C : Addr} {fd : FuncData} (F : Fun K "units" "Four.units" s_Four_units f fd) (CF : FourC K mg C) (CI : InitOk P w K mg base C) (U : Rows0 K mg "UNITS" unitRows) : FnOk P w K mg base CX0 5 f fd [] (spUnits C) := by
  obtain ⟨ua, ts, mU, lU, rU⟩ := U
  refine F.ok sc_Four_units (fun vs H Q E h => ?_) (fun cdv A outer s H vs Q E hr h => ?_)
  · obtain ⟨rfl, _⟩ := h
    rfl
  · obtain ⟨rfl, q⟩ := h
    refine ⟨_, (pss_one (ps_ret (pe_lc (own := [("halves", 0)]) (g := gName 0) (tt := tYes) (by rfl) sc_Four_units.nd (pi_tup (pe_glob (v := .ref ua) rfl mU rfl)) (blkOk_by (own := [("halves", 0)]) (N := ["halves"]) (sc := (defScope s_Four_units)) (by decide +kernel)) (fun _ _ _ _ _ => pg_name (i := 0) sc_Four_units.nd rfl (Or.inl rfl)) (fun _ _ _ _ _ => pts_nil) (fun _ _ _ _ _ => (show PE _ _ (tFourS K C (tVar 0)) from pe_fourS CI (hr.mono (by decide)) CF.mgC (pv 0)))))), ?_⟩
    refine ⟨ua, rfl, ⟨_, (rU _).1⟩, fun D nD => ?_⟩
    refine lc_tup (K := K) (a := ua) (xs := ts.map V.ref) (MadeO (FourAt C) H D unitFours) (MadeO.zero nD) (fun j H' _ h => (rU _).1) ?_ ?_
    · rintro j x H' hx hM
      obtain ⟨t, c, rfl, et, ec, hj⟩ := ref_at lU hx
      obtain ⟨u, eu, rfl, pu⟩ := unit_row ec
      refine ⟨rfl, ?_⟩
      dsimp only [tYes]
      rw [if_pos rfl]
      have hj' : j < 24 := hj
      exact ⟨_, rfl, t, u, rfl, .inl ((rU _).2 j t _ et ec), pu, fun z H2 nz s2 hz => hM.snoc tame_four s2 nD eu hz (by omega)⟩
    · rintro H2 hM
      have := hM.objs (by rw [List.length_map, lU]; rfl)
      exact q D _ nD hM.1 this
end
end G
set_option Elab.async false
set_option linter.all false
set_option maxRecDepth 100000
set_option maxHeartbeats 2000000
namespace G
open PySem PySem.Spec PyProof.Rows L2 RZ StX
/-! ### associates -/
theorem unit_bd {u : Q4} (h : u ∈ unitFours) : u.Bd 2 ∧ u.Par := by
  have key : ∀ u ∈ unitFours, (u.a.natAbs < 2 ^ 2 ∧ u.b.natAbs < 2 ^ 2 ∧ u.c.natAbs < 2 ^ 2 ∧ u.d.natAbs < 2 ^ 2) ∧ (u.a % 2 = u.b % 2 ∧ u.a % 2 = u.c % 2 ∧ u.a % 2 = u.d % 2) := by decide +kernel
  exact key u h
theorem unit_mul {u v : Q4} (h : u ∈ unitFours) (h' : v ∈ unitFours) : Q4.mul u v ∈ unitFours := by
  have key : ∀ u ∈ unitFours, ∀ v ∈ unitFours, Q4.mul u v ∈ unitFours := by decide +kernel
  exact key u h v h'
theorem unit_back' {u v : Q4} (h : u ∈ unitFours) (h' : v ∈ unitFours) : Q4.mul u.mir v ∈ unitFours ∧ Q4.mul u (Q4.mul u.mir v) = v := by
  have key : ∀ u ∈ unitFours, ∀ v ∈ unitFours, Q4.mul u.mir v ∈ unitFours ∧ Q4.mul u (Q4.mul u.mir v) = v := by decide +kernel
  exact key u h v h'
/-- of the products with units the one with the greatest halves -/
def IsTop (u v : Q4) : Prop := (∃ w ∈ unitFours, v = Q4.mul u w) ∧ ∀ w ∈ unitFours, rowLt v.row (Q4.mul u w).row = false
theorem row_inj {u v : Q4} (h : u.row = v.row) : u = v := by
  simp only [Q4.row, List.cons.injEq, and_true] at h
  exact Q4.ext h.1 h.2.1 h.2.2.1 h.2.2.2
theorem IsTop.uniq {u v v' : Q4} (h : IsTop u v) (h' : IsTop u v') : v = v' := by
  obtain ⟨⟨w, mw, rfl⟩, a⟩ := h
  obtain ⟨⟨w', mw', rfl⟩, a'⟩ := h'
  exact row_inj (rowLt_eq (a w' mw') (a' w mw))
theorem IsTop.unit {u v w : Q4} (pu : u.Par) (hw : w ∈ unitFours) (h : IsTop (Q4.mul u w) v) : IsTop u v := by
  obtain ⟨⟨x, mx, rfl⟩, a⟩ := h
  have pw := (unit_bd hw).2
  have asc : ∀ x ∈ unitFours, Q4.mul (Q4.mul u w) x = Q4.mul u (Q4.mul w x) := fun x m => Q4.assoc pu pw (unit_bd m).2
  refine ⟨⟨Q4.mul w x, unit_mul hw mx, asc x mx⟩, fun y my => ?_⟩
  obtain ⟨m, e⟩ := unit_back' hw my
  have := a _ m
  rw [asc _ m, e] at this
  exact this
def topRows (u : Q4) : List (List Int) := unitFours.map fun w => (Q4.mul u w).row
theorem top_of {u : Q4} {c : List Int} (m : c ∈ topRows u) (h : ∀ d ∈ topRows u, rowLt c d = false) : ∃ v, c = v.row ∧ IsTop u v := by
  obtain ⟨w, mw, rfl⟩ := List.mem_map.mp m
  exact ⟨_, rfl, ⟨w, mw, rfl⟩, fun y my => h _ (List.mem_map.mpr ⟨y, my, rfl⟩)⟩
theorem IsTop.par {u v : Q4} (pu : u.Par) (h : IsTop u v) : v.Par := by
  obtain ⟨⟨w, mw, rfl⟩, _⟩ := h
  exact (Q4.mul_all pu (unit_bd mw).2).2
def spAssoc (C : Addr) : Sp := fun vs H Q _ => ∃ (p : Addr) (u : Q4) (n : Nat), vs = [.ref p] ∧ FourAt C H p u ∧ 2 ≤ n ∧ n ≤ 400000 ∧ u.Bd n ∧ ∀ r H' v, H r = none → Same H H' → FourAt C H' r v → IsTop u v → Q (.ref r) H'
section
variable {P : Program} {w : World} {K : PySem.W.Frag} {mg : Str → Option Value} {base : Heap}
theorem ok_assoc {f C : Addr} {fd : FuncData} (F : Fun K "associate" "associate" s_associate f fd) (CF : FourC K mg C) (CI : InitOk P w K mg base C) (mM : mg "max" = none) (M_mul : MethOk P w K mg base C "__mul__" 5 ["self", "other"] (spBin C Q4.mul mulOk)) (P_halves : PropOk P w K mg base C "halves" 1 ["self"] (spHalvesP C)) (S_units : StatOk P w K mg base C "units" 5 [] (spUnits C)) : FnOk P w K mg base CX0 6 f fd ["four"] (spAssoc C) := by
  refine F.ok sc_associate (fun vs H Q E h => ?_) (fun cdv A outer s H vs Q E hr h => ?_)
  · obtain ⟨p, u, n, rfl, _⟩ := h
    rfl
  · obtain ⟨p, u, n, rfl, hu, n0, n1, bu, k⟩ := h
    refine ⟨_, (pss_cons (ps_set (i := 1) sc_associate.nd rfl (Or.inl rfl) (pe_callB (cr_maxR rfl hr.units) (by rfl) mM (by decide +kernel) (pa_cons (pe_lc (own := [("unit", 2)]) (g := gName 2) (tt := tYes) (by rfl) sc_associate.nd (pi_list (pe_statD0 S_units (pe_glob (v := .ref C) rfl CF.mgC rfl) (hr.mono (by decide)))) (blkOk_by (own := [("unit", 2)]) (N := ["four", "greatest", "unit"]) (sc := (defScope s_associate)) (by decide +kernel)) (fun _ _ _ _ _ => pg_name (i := 2) sc_associate.nd rfl (Or.inl rfl)) (fun _ _ _ _ _ => pts_nil) (fun _ _ _ _ _ => (pe_Fh (pe_op (op_F2 CF.toClsFacts M_mul (hr.mono (by decide))) (pv 0) (pv 2)) CF.toClsFacts P_halves (hr.mono (by decide))))) pa_nil)))
      (pss_one (ps_ret (pe_fourS CI (hr.mono (by decide)) CF.mgC (pv 1))))), ?_⟩
    refine ⟨rfl, rfl, fun l H1 nl s1 hO => ?_⟩
    obtain ⟨ts, g1, g2, g3⟩ := id hO
    refine ⟨l, rfl, ⟨_, SqL.of g1⟩, fun D nD => ?_⟩
    refine lc_list (K := K) (a := l) (xs := ts.map V.ref) (MadeO (RowAt K) H1 D (topRows u)) (MadeO.zero nD) (fun j H' _ h => SqL.of (h.1 _ _ g1)) ?_ ?_
    · rintro j x H' hx hM
      obtain ⟨t, v, rfl, et, ev, hj⟩ := ref_at g2 hx
      have mv := List.mem_of_getElem? ev
      have hj' : j < 24 := hj
      refine ⟨rfl, ?_⟩
      dsimp only [tYes]
      rw [if_pos rfl]
      refine ⟨_, rfl, _, rfl, p, t, u, v, rfl, rfl, hu.same (s1.trans hM.1), (g3 j t v et ev).same hM.1, ⟨n, by omega, n1, bu, (unit_bd mv).1.mono n0⟩, fun r H2 nr s2 hr2 => ⟨r, _, rfl, hr2, fun t2 e2 => ?_⟩⟩
      exact hM.snoc (c := (Q4.mul u v).row) tame_row s2 nD (by show (unitFours.map _)[j]? = _; rw [List.getElem?_map, ev]; rfl) (SqT.of e2) (by omega)
    · rintro H2 hM
      have hR := hM.objs (by rw [List.length_map, g2]; rfl)
      obtain ⟨us, k1, k2, k3⟩ := id hR
      refine ⟨D, us, topRows u, rfl, SqL.of k1, k2, k3, by show 0 < 24; decide, fun t c mc hc mx => ?_⟩
      obtain ⟨v, rfl, top⟩ := top_of mc mx
      have s2 := s1.trans hM.1
      exact ⟨_, rfl, t, v, rfl, .inl hc, top.par hu.1, fun z H3 nz s3 hz => k z H3 v (s2.free nz) (s2.trans s3) hz top⟩
end
/-! ### one of several things -/
def spPick (K : PySem.W.Frag) : Sp := fun vs H Q _ => ∃ (p c l : Addr) (xs : List V), vs = [.ref p, .ref l] ∧ FeedAt H p c ∧ SqL K H l xs ∧ l ≠ p ∧ 0 < xs.length ∧ xs.length ≤ 1000 ∧ ∀ H' x, x ∈ xs → FeedAt H' p c → SameX p H H' → Q x H'
section
variable {P : Program} {w : World} {K : PySem.W.Frag} {mg : Str → Option Value} {base : Heap}
theorem sqlX {H H' : Hp} {l p : Addr} {xs : List V} (h : SqL K H l xs) (n : l ≠ p) (s : SameX p H H') : SqL K H' l xs := by
  rcases h with (h | ⟨o, h⟩) | h
  · exact .inl (.inl (s _ _ n h))
  · exact .inl (.inr ⟨o, s _ _ n h⟩)
  · exact .inr h
theorem ok_pick {f : Addr} {fd : FuncData} (F : Fun K "_law_pick" "_law_pick" s_L_pick f fd) (B : Bn mg) (D_take : DefOk P w K mg base "_law_take" 1 ["_law_feed_here", "_law_many"] spTake) : FnOk P w K mg base CX0 2 f fd ["_law_feed_here", "_law_things"] (spPick K) := by
  refine F.ok sc_L_pick (fun vs H Q E h => ?_) (fun cdv A outer s H vs Q E hr h => ?_)
  · obtain ⟨p, c, l, xs, rfl, _⟩ := h
    rfl
  · obtain ⟨p, c, l, xs, rfl, hF, hL, nl, l0, l1, q⟩ := h
    refine ⟨_, (pss_one (ps_ret (pe_ix ix_list (pv 1) (pe_callD D_take hr (pa_cons (pv 0) (pa_cons (pe_callB call_len_seq (by rfl) B.len PySem.boot_len (pa_cons (pv 1) pa_nil)) pa_nil))) (fun _ _ => rfl)))), ?_⟩
    refine ⟨_, rfl, _, rfl, _, rfl, l, xs, rfl, .inl hL, p, c, xs.length, rfl, by omega, lg (by omega), hF, fun H1 r r0 r1 hF1 s1 => ?_⟩
    have hn : r.toNat < xs.length := by omega
    have e1 : xs[r.toNat]? = some xs[r.toNat] := List.getElem?_eq_getElem hn
    refine ⟨l, xs, r, xs[r.toNat], rfl, rfl, sqlX hL nl s1, ?_, q H1 _ (List.mem_of_getElem? e1) hF1 s1⟩
    have := atI_nat e1
    rwa [Int.toNat_of_nonneg r0] at this
end
end G
set_option Elab.async false
set_option linter.all false
set_option maxRecDepth 100000
set_option maxHeartbeats 4000000
namespace G
open PySem PySem.Spec PyProof.Rows L2 RZ StX
def spLaw (K : PySem.W.Frag) : Sp := fun vs H Q _ => ∃ (a : Addr) (ns : List Int), vs = [.ref a] ∧ SqL K H a (ns.map V.int) ∧ ns.length ≤ 63 ∧ ∀ H', Q (.bl true) H'
theorem Q4.Le.bd {m : Int} {n : Nat} {u : Q4} (h : u.Le m) (hm : m.natAbs < 2 ^ n) : u.Bd n := by
  obtain ⟨⟨a1, a2⟩, ⟨b1, b2⟩, ⟨c1, c2⟩, d1, d2⟩ := h
  refine ⟨?_, ?_, ?_, ?_⟩ <;> generalize 2 ^ n = P at * <;> omega
theorem feed_lst {H : Hp} {p c : Addr} (h : FeedAt H p c) : ∃ ys : List V, H p = Option.some (HO.lst ys) := by
  obtain ⟨_, _, _, _, h, _⟩ := h
  exact ⟨_, h⟩
theorem ne_feed {α : Type} {R : Hp → Addr → α → Prop} {H : Hp} {l p c : Addr} {us : List α} (h : ObjsAt R H l us) (hF : FeedAt H p c) : l ≠ p := fun e => by
  subst e
  obtain ⟨ts, z, _⟩ := h
  obtain ⟨ms, i, u, m, hp, _⟩ := hF
  rw [hp] at z
  have e := congrArg (fun o : Option HO => match o with | some (.lst xs) => xs[1]? | _ => none) z
  simp only [List.getElem?_map] at e
  cases h1 : ts[1]? with
  | none => rw [h1] at e; cases e
  | some t => rw [h1] at e; cases e
theorem unit_mem {c : List Int} (h : c ∈ unitRows) : ∃ v, v ∈ unitFours ∧ c = v.row := by
  obtain ⟨j, hj, e⟩ := List.getElem_of_mem h
  obtain ⟨u, e1, e2, _⟩ := unit_row (j := j) (c := c) (by rw [List.getElem?_eq_getElem hj, e])
  exact ⟨u, List.mem_of_getElem? e1, e2⟩
theorem EqV.rowG {K : PySem.W.Frag} {H : Hp} {t t' : Addr} {c : List Int} {n : Nat} (h1 : RowAt K H t c) (h2 : RowAt K H t' c) (hl : c.length ≤ 1000) : EqV K H (n + 2) (.ref t) (.ref t') := by
  refine .inr ⟨t, t', _, _, rfl, rfl, .inr ⟨h1, h2⟩, rfl, by rw [List.length_map]; exact hl, fun i x y hx hy => ?_⟩
  rw [hx] at hy
  cases hy
  rw [List.getElem?_map] at hx
  cases e : c[i]? with
  | none => rw [e] at hx; cases hx
  | some u => rw [e] at hx; cases hx; exact .inl ⟨rfl, rfl⟩
theorem EqV.two {K : PySem.W.Frag} {H : Hp} {a b : Addr} {x y x' y' : V} {n : Nat} (h1 : H a = some (.lst [x, y])) (h2 : H b = some (.lst [x', y'])) (e1 : EqV K H n x x') (e2 : EqV K H n y y') : EqV K H (n + 1) (.ref a) (.ref b) := by
  refine .inr ⟨a, b, _, _, rfl, rfl, .inl ⟨h1, h2⟩, rfl, by show 2 ≤ 1000; decide, fun i x y hx hy => ?_⟩
  match i, hx, hy with
  | 0, hx, hy => cases hx; cases hy; exact e1
  | 1, hx, hy => cases hx; cases hy; exact e2
section
variable {P : Program} {w : World} {K : PySem.W.Frag} {mg : Str → Option Value} {base : Heap}
theorem ok_law {f C : Addr} {fd : FuncData} (F : Fun K "law" "law" s_law f fd) (B : Bn mg) (CF : FourC K mg C) (CI : InitOk P w K mg base C) (mM : mg "max" = none) (D_feed : DefOk P w K mg base "_law_feed" 1 ["_law_script"] (spFeed K)) (D_take : DefOk P w K mg base "_law_take" 1 ["_law_feed_here", "_law_many"] spTake) (D_same : DefOk P w K mg base "_law_same" 4 ["_law_found", "_law_due"] (spSame K 3))
    (D_halves : DefOk P w K mg base "_law_halves" 2 ["_law_feed_here", "_law_most"] spHalvesL) (D_times : DefOk P w K mg base "_law_times" 1 ["_law_one", "_law_other"] (spTimes K)) (D_four : DefOk P w K mg base "_law_four" 5 ["_law_halves_here"] (spFour K C)) (D_units : DefOk P w K mg base "_law_units" 1 [] (spUnitsL K)) (D_pick : DefOk P w K mg base "_law_pick" 2 ["_law_feed_here", "_law_things"] (spPick K)) (D_assoc : DefOk P w K mg base "associate" 6 ["four"] (spAssoc C))
    (P_halves : PropOk P w K mg base C "halves" 1 ["self"] (spHalvesP C)) : FnOk P w K mg base CX0 7 f fd ["_law_script"] (spLaw K) := by
  refine F.ok sc_law (fun vs H Q E h => ?_) (fun cdv A outer s H vs Q E hr h => ?_)
  · obtain ⟨a, ns, rfl, _⟩ := h
    rfl
  · obtain ⟨a, ns, rfl, hS, hl, q⟩ := h
    refine ⟨_, (pss_cons (ps_set (i := 1) sc_law.nd rfl (Or.inl rfl) (pe_callD D_feed (hr.mono (by decide)) (pa_cons (pv 0) pa_nil)))
      (pss_cons (ps_for PassesOwn.never rfl (pi_range1 (by rfl) B.range (pa_cons pe_int pa_nil)) (pg_name (i := 2) sc_law.nd rfl (Or.inl rfl)) (pss_cons (ps_set (i := 3) sc_law.nd rfl (Or.inr rfl) (pe_callD D_halves (hr.mono (by decide)) (pa_cons (pv 1) (pa_cons (pe_ix ix_list (pe_lst (pa_cons pe_int (pa_cons pe_int (pa_cons pe_int pa_nil)))) (pe_callD D_take (hr.mono (by decide)) (pa_cons (pv 1) (pa_cons pe_int pa_nil))) (fun _ _ => rfl)) pa_nil))))
      (pss_cons (ps_set (i := 4) sc_law.nd rfl (Or.inl rfl) (pe_callB (cr_maxR rfl hr.units) (by rfl) mM (by decide +kernel) (pa_cons (pe_lc (own := [("_law_unit", 5)]) (g := gName 5) (tt := tYes) (by rfl) sc_law.nd (pi_list (pe_callD0 D_units (hr.mono (by decide)))) (blkOk_by (own := [("_law_unit", 5)]) (N := ["_law_script", "_law_feed_here", "_law_turn", "_law_halves_here", "_law_due", "_law_unit", "_law_found"]) (sc := (defScope s_law)) (by decide +kernel)) (fun _ _ _ _ _ => pg_name (i := 5) sc_law.nd rfl (Or.inl rfl)) (fun _ _ _ _ _ => pts_nil) (fun _ _ _ _ _ => (pe_callD D_times (hr.mono (by decide)) (pa_cons (pv 3) (pa_cons (pv 5) pa_nil))))) pa_nil)))
      (pss_cons (ps_set (i := 5) sc_law.nd rfl (Or.inl rfl) (pe_callD D_pick (hr.mono (by decide)) (pa_cons (pv 1) (pa_cons (pe_callD0 D_units (hr.mono (by decide))) pa_nil))))
      (pss_cons (ps_set (i := 6) sc_law.nd rfl (Or.inl rfl) (pe_lst (pa_cons (pe_Fh (pe_callD D_assoc (hr.mono (by decide)) (pa_cons (pe_callD D_four (hr.mono (by decide)) (pa_cons (pv 3) pa_nil)) pa_nil)) CF.toClsFacts P_halves (hr.mono (by decide))) (pa_cons (pe_Fh (pe_callD D_assoc (hr.mono (by decide)) (pa_cons (pe_callD D_four (hr.mono (by decide)) (pa_cons (pe_callD D_times (hr.mono (by decide)) (pa_cons (pv 3) (pa_cons (pv 5) pa_nil))) pa_nil)) pa_nil)) CF.toClsFacts P_halves (hr.mono (by decide))) pa_nil))))
      (pss_one (ps_if (pt_not (pt_val (pe_callD D_same (hr.mono (by decide)) (pa_cons (pv 6) (pa_cons (pe_lst (pa_cons (pv 4) (pa_cons (pv 4) pa_nil))) pa_nil))))) (pss_one (ps_ret pe_bl)) pss_nil)))))))
      (pss_one (ps_ret (pe_callD D_same (hr.mono (by decide)) (pa_cons (pe_Fh (pe_callD D_assoc (hr.mono (by decide)) (pa_cons (pe_four CI (hr.mono (by decide)) CF.mgC (pa_cons pe_int (pa_cons pe_int (pa_cons pe_int (pa_cons pe_int pa_nil))))) pa_nil)) CF.toClsFacts P_halves (hr.mono (by decide))) (pa_cons (pe_tup (pa_cons pe_int (pa_cons pe_int (pa_cons pe_int (pa_cons pe_int pa_nil))))) pa_nil))))))), ?_⟩
    refine ⟨_, rfl, a, ns, rfl, hS, fun H1 p c s1 np hF1 => ?_⟩
    refine ⟨8, rfl, by decide, by decide, for_range (n := 8) (fun i σ H' => ∃ x2 x3 x4 x5 x6, σ = [some (.ref a), some (.ref p), x2, x3, x4, x5, x6] ∧ FeedAt H' p c) ⟨_, _, _, _, _, rfl, hF1⟩ ?_ ?_⟩
    · rintro i σ H2 hi ⟨x2, x3, x4, x5, x6, rfl, hF2⟩
      refine ⟨_, rfl, (by show 3 ≤ sizeLine; decide), fun l3 n3 => ⟨_, rfl, p, c, 3, rfl, by decide, by decide +kernel, hF2.same (same_upd n3), fun H3 r r0 r1 hF3 sm3 => ?_⟩⟩
      have h4 := sm3 _ _ (hF2.ne n3).1 upd_same
      obtain ⟨m, hm, m0, m1⟩ : ∃ m : Int, atI [V.int 1, V.int 5, V.int 9000] r = some (V.int m) ∧ 0 ≤ m ∧ m ≤ 9000 := by
        rcases (by omega : r = 0 ∨ r = 1 ∨ r = 2) with e | e | e
        · subst e; exact ⟨1, rfl, by decide, by decide⟩
        · subst e; exact ⟨5, rfl, by decide, by decide⟩
        · subst e; exact ⟨9000, rfl, by decide, by decide⟩
      refine ⟨l3, _, _, _, rfl, rfl, SqL.of h4, hm, p, c, m, rfl, m0, by omega, hF3, fun H4 t u hF4 sm4 nt et pu lu zu => ?_⟩
      have e20 : (2 : Nat) ^ 20 = 1048576 := by decide
      have bu : u.Bd 20 := lu.bd (by rw [e20]; omega)
      dsimp only [gName]
      refine nx_norm (σ' := [some (.ref a), some (.ref p), some (.int (0 + i)), some (.ref t), x4, x5, x6]) rfl ?_
      refine ⟨rfl, fun l H5 nl s5 hR => ?_⟩
      obtain ⟨ts, g1, g2, g3⟩ := id hR
      refine ⟨l, rfl, ⟨_, SqL.of g1⟩, fun D nD => ?_⟩
      refine lc_list (K := K) (a := l) (xs := ts.map V.ref) (MadeO (RowAt K) H5 D (topRows u)) (MadeO.zero nD) (fun j H' _ h => SqL.of (h.1 _ _ g1)) ?_ ?_
      · rintro j x H' hx hM
        obtain ⟨z, c', rfl, ez, ec, hj⟩ := ref_at g2 hx
        obtain ⟨v, ev, rfl, pv'⟩ := unit_row ec
        have mv := List.mem_of_getElem? ev
        have hj' : j < 24 := hj
        refine ⟨rfl, ?_⟩
        dsimp only [tYes]
        rw [if_pos rfl]
        refine ⟨_, rfl, _, rfl, t, z, u, v, rfl, SqT.of (hM.1 _ _ (s5 _ _ et)), hM.1.tup (g3 j z _ ez ec), ⟨20, by decide, by decide, bu, (unit_bd mv).1.mono (by decide)⟩, fun r nr => ?_⟩
        exact hM.snoc (c := (Q4.mul u v).row) tame_row (same_upd nr) nD (by show (unitFours.map _)[j]? = _; rw [List.getElem?_map, ev]; rfl) (SqT.of upd_same) (by omega)
      · rintro H6 hM
        have hT := hM.objs (by rw [List.length_map, g2]; rfl)
        obtain ⟨us, k1, k2, k3⟩ := id hT
        refine ⟨D, us, topRows u, rfl, SqL.of k1, k2, k3, by show 0 < 24; decide, fun td cd mc hcd mx => ?_⟩
        obtain ⟨v, rfl, top⟩ := top_of mc mx
        have s46 := s5.trans hM.1
        dsimp only [gName]
        refine nx_norm (σ' := [some (.ref a), some (.ref p), some (.int (0 + i)), some (.ref t), some (.ref td), x5, x6]) rfl ?_
        have hF6 := hF4.same s46
        refine ⟨_, rfl, rfl, fun l7 H7 nl7 s7 hR7 => ?_⟩
        obtain ⟨ts7, z1, z2, z3⟩ := id hR7
        have hF7 := hF6.same s7
        have n7p : l7 ≠ p := ne_feed (RowsAt.objs hR7) hF7
        refine ⟨p, c, l7, _, rfl, hF7, SqL.of z1, n7p, by rw [List.length_map, z2]; decide, by rw [List.length_map, z2]; decide, fun H8 x mx8 hF8 sm8 => ?_⟩
        obtain ⟨tw, mtw, rfl⟩ := List.mem_map.mp mx8
        obtain ⟨j, hj, ej⟩ := List.getElem_of_mem mtw
        have q1 : ts7[j]? = some tw := by rw [List.getElem?_eq_getElem hj, ej]
        have q2 : unitRows[j]? = some unitRows[j] := List.getElem?_eq_getElem (by omega)
        obtain ⟨w', ew, erow, pw⟩ := unit_row q2
        have mw := List.mem_of_getElem? ew
        obtain ⟨y7, hp7⟩ := feed_lst hF7
        have hw8 : RowAt K H8 tw w'.row := by
          have := z3 j tw _ q1 q2
          rw [erow] at this
          exact tame_row.but this hp7 sm8
        have hd8 : RowAt K H8 td v.row := tame_row.but (tame_row.same hcd s7) hp7 sm8
        have ht8 : H8 t = some (.tup u.vs) := sm8 _ _ (fun e => by subst e; rw [s7 _ _ (s46 _ _ et)] at hp7; cases hp7) (s7 _ _ (s46 _ _ et))
        dsimp only [gName]
        refine nx_norm (σ' := [some (.ref a), some (.ref p), some (.int (0 + i)), some (.ref t), some (.ref td), some (.ref tw), x6]) rfl ?_
        refine ⟨_, rfl, t, u, rfl, SqT.of ht8, pu, fun f1 H9 nf1 s9 hf1 => ⟨f1, u, 20, rfl, hf1, by decide, by decide, bu, fun r1 H10 v1 nr1 s10 hr1 top1 => ⟨r1, v1, rfl, hr1, fun t1 e1 => ?_⟩⟩⟩
        obtain rfl := top1.uniq top
        have s810 := s9.trans s10
        have bw := (unit_bd mw).1
        refine ⟨_, rfl, _, rfl, t, tw, u, w', rfl, SqT.of (s810 _ _ ht8), tame_row.same hw8 s810, ⟨20, by decide, by decide, bu, bw.mono (by decide)⟩, fun tm ntm => ?_⟩
        have sm := same_upd (o := .tup (Q4.mul u w').vs) ntm
        have pm := (Q4.mul_all pu pw).2
        have bm : (Q4.mul u w').Bd 42 := bu.mul (bw.mono (by decide))
        refine ⟨tm, _, rfl, SqT.of upd_same, pm, fun f2 H12 nf2 s12 hf2 => ⟨f2, _, 42, rfl, hf2, by decide, by decide, bm, fun r2 H13 v2 nr2 s13 hr2 top2 => ⟨r2, v2, rfl, hr2, fun t2 e2 => ?_⟩⟩⟩
        obtain rfl := (top2.unit pu mw).uniq top
        have s1013 := (sm.trans s12).trans s13
        refine ⟨(by show 2 ≤ sizeLine; decide), fun L1 nL1 => ?_⟩
        have u1 := same_upd (o := .lst [.ref t1, .ref t2]) nL1
        dsimp only [gName]
        refine ⟨_, rfl, _, rfl, _, rfl, (by show 2 ≤ sizeLine; decide), fun L2 nL2 => ?_⟩
        have u2 := same_upd (o := .lst [.ref td, .ref td]) nL2
        have uu := u1.trans u2
        have due : RowAt K _ td v2.row := tame_row.same (tame_row.same (tame_row.same hd8 s810) s1013) uu
        refine ⟨_, _, rfl, EqV.two (u2 _ _ upd_same) upd_same (EqV.rowI (c := v2.row) (SqT.of (uu _ _ (s1013 _ _ e1))) due (by show 4 ≤ 1000; decide)) (EqV.rowI (c := v2.row) (SqT.of (uu _ _ e2)) due (by show 4 ≤ 1000; decide)), fun H15 s15 => ⟨_, rfl, ifF rfl ?_⟩⟩
        exact ⟨_, _, _, _, _, rfl, ((((hF8.same s810).same s1013).same uu).same s15)⟩
    · rintro σ H2 ⟨x2, x3, x4, x5, x6, rfl, hF2⟩
      refine ⟨⟨0, 0, 0, 0⟩, rfl, ⟨rfl, rfl, rfl⟩, fun f1 H3 nf1 s3 hf1 => ⟨f1, _, 2, rfl, hf1, by decide, by decide, ⟨by decide, by decide, by decide, by decide⟩, fun r1 H4 v nr1 s4 hr1 top => ⟨r1, v, rfl, hr1, fun t1 e1 => ?_⟩⟩⟩
      have hv : v = ⟨0, 0, 0, 0⟩ := by
        obtain ⟨⟨w, mw, rfl⟩, _⟩ := top
        have key : ∀ w ∈ unitFours, Q4.mul ⟨0, 0, 0, 0⟩ w = ⟨0, 0, 0, 0⟩ := by decide +kernel
        exact key w mw
      subst hv
      refine ⟨(by show 4 ≤ sizeLine; decide), fun T nT => ⟨_, _, rfl, EqV.rowG (n := 1) (c := [0, 0, 0, 0]) (SqT.of (same_upd nT _ _ e1)) (SqT.of upd_same) (by decide), fun H5 _ => q _⟩⟩
end
end G
set_option Elab.async false
set_option linter.all false
set_option maxRecDepth 100000
set_option maxHeartbeats 1000000
namespace G
open PySem PySem.Spec PyProof.Rows L2 RZ StX
theorem all_mk {l : PySem.W.OpenLaw} {w : World} {K : PySem.W.Frag} {h : Heap} {mg : Str → Option Value} {fa C : Addr} (X : K.In h) (G : h.Ns mainGlobals mg) (hfa : mg "law" = some (.ref fa)) (t_law : TopLaw K "law" s_law) (t_is_number : TopFn K "is_number" s_is_number) (t_are_halves : TopFn K "are_halves" s_are_halves) (t_associate : TopFn K "associate" s_associate) (t_L_feed : TopFn K "_law_feed" s_L_feed) (t_L_take : TopFn K "_law_take" s_L_take) (t_L_pick : TopFn K "_law_pick" s_L_pick) (t_L_same : TopFn K "_law_same" s_L_same) (t_L_halves : TopFn K "_law_halves" s_L_halves) (t_L_times : TopFn K "_law_times" s_L_times) (t_L_four : TopFn K "_law_four" s_L_four) (t_L_units : TopFn K "_law_units" s_L_units) (t_C : TopCls K "Four" C) (i_C : TopMeth K C "__init__" "Four.__init__" s_Four_init) (m_Four_mul : TopMeth K C "__mul__" "Four.__mul__" s_Four_mul) (p_Four_halves : TopProp K C "halves" "Four.halves" s_Four_halves) (u_Four_units : TopStat K C "units" "Four.units" s_Four_units) (w_UNITS : TopRows K "UNITS" unitRows) (x_nD : PySem.W.findIn K (.ref C) "doubled" = some none) (z_abs : PySem.W.nsIn K mainGlobals "abs" = some none) (z_len : PySem.W.nsIn K mainGlobals "len" = some none) (z_int : PySem.W.nsIn K mainGlobals "int" = some none) (z_list : PySem.W.nsIn K mainGlobals "list" = some none) (z_isinstance : PySem.W.nsIn K mainGlobals "isinstance" = some none) (z_bool : PySem.W.nsIn K mainGlobals "bool" = some none) (z_str : PySem.W.nsIn K mainGlobals "str" = some none) (z_tuple : PySem.W.nsIn K mainGlobals "tuple" = some none) (z_all : PySem.W.nsIn K mainGlobals "all" = some none) (z_zip : PySem.W.nsIn K mainGlobals "zip" = some none) (z_range : PySem.W.nsIn K mainGlobals "range" = some none) (z_sum : PySem.W.nsIn K mainGlobals "sum" = some none) (z_sorted : PySem.W.nsIn K mainGlobals "sorted" = some none) (z_max : PySem.W.nsIn K mainGlobals "max" = some none) :
    ∃ fd : FuncData, (∀ (s : Shared) (v : Value), BindsTo s fd ⟨[v], []⟩ [("_law_script", v)]) ∧ ∀ base : Heap, K.In base → base.Ns mainGlobals mg → FnOk l.prog w K mg base CX0 7 fa fd ["_law_script"] (spLaw K) := by
  have nn := fun {x : Str} (z : PySem.W.nsIn K mainGlobals x = some none) => PySem.W.mg_none_of X G z
  have B : Bn mg := ⟨nn z_abs, nn z_len, nn z_int, nn z_list, nn z_isinstance, nn z_bool, nn z_str, nn z_tuple, nn z_all, nn z_zip, nn z_range, nn z_sum⟩
  obtain ⟨f_is_number, fd_is_number, F_is_number, g_is_number⟩ := t_is_number.get X G
  obtain ⟨f_are_halves, fd_are_halves, F_are_halves, g_are_halves⟩ := t_are_halves.get X G
  obtain ⟨f_associate, fd_associate, F_associate, g_associate⟩ := t_associate.get X G
  obtain ⟨f_L_feed, fd_L_feed, F_L_feed, g_L_feed⟩ := t_L_feed.get X G
  obtain ⟨f_L_take, fd_L_take, F_L_take, g_L_take⟩ := t_L_take.get X G
  obtain ⟨f_L_pick, fd_L_pick, F_L_pick, g_L_pick⟩ := t_L_pick.get X G
  obtain ⟨f_L_same, fd_L_same, F_L_same, g_L_same⟩ := t_L_same.get X G
  obtain ⟨f_L_halves, fd_L_halves, F_L_halves, g_L_halves⟩ := t_L_halves.get X G
  obtain ⟨f_L_times, fd_L_times, F_L_times, g_L_times⟩ := t_L_times.get X G
  obtain ⟨f_L_four, fd_L_four, F_L_four, g_L_four⟩ := t_L_four.get X G
  obtain ⟨f_L_units, fd_L_units, F_L_units, g_L_units⟩ := t_L_units.get X G
  obtain ⟨f_Four_init, e_Four_init, fd_Four_init, F_Four_init⟩ := i_C
  obtain ⟨f_Four_mul, e_Four_mul, fd_Four_mul, F_Four_mul⟩ := m_Four_mul
  obtain ⟨q_Four_halves, f_Four_halves, e_Four_halves, fd_Four_halves, F_Four_halves⟩ := p_Four_halves
  obtain ⟨c_Four_units, q_Four_units, f_Four_units, e_Four_units, fd_Four_units, F_Four_units⟩ := u_Four_units
  have R_UNITS := w_UNITS.get X G (by decide) (by decide)
  have b_is_number := F_is_number.binds (ps := ["value"]) fun _ _ _ _ _ _ us hl => match us, hl with | [_], _ => rfl
  have b_are_halves := F_are_halves.binds (ps := ["values"]) fun _ _ _ _ _ _ us hl => match us, hl with | [_], _ => rfl
  have b_associate := F_associate.binds (ps := ["four"]) fun _ _ _ _ _ _ us hl => match us, hl with | [_], _ => rfl
  have b_L_feed := F_L_feed.binds (ps := ["_law_script"]) fun _ _ _ _ _ _ us hl => match us, hl with | [_], _ => rfl
  have b_L_take := F_L_take.binds (ps := ["_law_feed_here", "_law_many"]) fun _ _ _ _ _ _ us hl => match us, hl with | [_, _], _ => rfl
  have b_L_pick := F_L_pick.binds (ps := ["_law_feed_here", "_law_things"]) fun _ _ _ _ _ _ us hl => match us, hl with | [_, _], _ => rfl
  have b_L_same := F_L_same.binds (ps := ["_law_found", "_law_due"]) fun _ _ _ _ _ _ us hl => match us, hl with | [_, _], _ => rfl
  have b_L_halves := F_L_halves.binds (ps := ["_law_feed_here", "_law_most"]) fun _ _ _ _ _ _ us hl => match us, hl with | [_, _], _ => rfl
  have b_L_times := F_L_times.binds (ps := ["_law_one", "_law_other"]) fun _ _ _ _ _ _ us hl => match us, hl with | [_, _], _ => rfl
  have b_L_four := F_L_four.binds (ps := ["_law_halves_here"]) fun _ _ _ _ _ _ us hl => match us, hl with | [_], _ => rfl
  have b_L_units := F_L_units.binds (ps := []) fun _ _ _ _ _ _ us hl => match us, hl with | [], _ => rfl
  have b_Four_mul := F_Four_mul.binds (ps := ["self", "other"]) fun _ _ _ _ _ _ us hl => match us, hl with | [_, _], _ => rfl
  have b_Four_halves := F_Four_halves.binds (ps := ["self"]) fun _ _ _ _ _ _ us hl => match us, hl with | [_], _ => rfl
  have b_Four_units := F_Four_units.binds (ps := []) fun _ _ _ _ _ _ us hl => match us, hl with | [], _ => rfl
  obtain ⟨f8, oc, kV, dc, pm, cd, ct, od, an, sl, a8, l8, c8, k8⟩ := t_law
  have e := hfa.symm.trans (PySem.W.mg_of X G a8)
  cases e
  refine ⟨PySem.W.fnOf "law" "law" (defArgs s_law) (defBody s_law) (defScope s_law) .none kV dc pm an cd ct, fun s v => .of_eq rfl, fun base _ _ => ?_⟩
  have CF : FourC K mg C := ⟨t_C.facts X G, x_nD⟩
  have D1 : DefOk l.prog w K mg base "is_number" 1 ["value"] spIsNum := ⟨_, _, ok_isnum F_is_number B, g_is_number, F_is_number.kp, b_is_number⟩
  have D2 : DefOk l.prog w K mg base "are_halves" 2 ["values"] (spHalves K) := ⟨_, _, ok_halves (k := 0) F_are_halves B B.sum D1, g_are_halves, F_are_halves.kp, b_are_halves⟩
  have CI : InitOk l.prog w K mg base C := ⟨f_Four_init, ⟨t_C.2.2.2.2.1, e_Four_init.at_, e_Four_init.fn, t_C.2.2.2.2.2⟩, ok_init F_Four_init CF.cl CF.nD D2⟩
  have D4 : DefOk l.prog w K mg base "_law_take" 1 ["_law_feed_here", "_law_many"] spTake := ⟨_, _, ok_take F_L_take B, g_L_take, F_L_take.kp, b_L_take⟩
  have Phal : PropOk l.prog w K mg base C "halves" 1 ["self"] (spHalvesP C) := ⟨_, _, _, ok_halvesP F_Four_halves CF, e_Four_halves, b_Four_halves⟩
  have Mmul : MethOk l.prog w K mg base C "__mul__" 5 ["self", "other"] (spBin C Q4.mul mulOk) := ⟨_, _, ok_mul F_Four_mul CF CI, e_Four_mul, b_Four_mul⟩
  have Suni : StatOk l.prog w K mg base C "units" 5 [] (spUnits C) := ⟨_, _, _, _, ok_units F_Four_units CF CI R_UNITS, e_Four_units, b_Four_units⟩
  exact ok_law (fun_mk (st := s_law) l8 c8 k8) B CF CI (nn z_max) ⟨_, _, ok_feed F_L_feed B, g_L_feed, F_L_feed.kp, b_L_feed⟩ D4 ⟨_, _, ok_same F_L_same B g_L_same b_L_same 3, g_L_same, F_L_same.kp, b_L_same⟩
    ⟨_, _, ok_halvesL F_L_halves B D4, g_L_halves, F_L_halves.kp, b_L_halves⟩ ⟨_, _, ok_times F_L_times, g_L_times, F_L_times.kp, b_L_times⟩ ⟨_, _, ok_four F_L_four CF CI, g_L_four, F_L_four.kp, b_L_four⟩ ⟨_, _, ok_unitsL F_L_units B (nn z_sorted), g_L_units, F_L_units.kp, b_L_units⟩ ⟨_, _, ok_pick F_L_pick B D4, g_L_pick, F_L_pick.kp, b_L_pick⟩
    ⟨_, _, ok_assoc F_associate CF CI (nn z_max) Mmul Phal Suni, g_associate, F_associate.kp, b_associate⟩ Phal
theorem walk {l : PySem.W.OpenLaw} {q : Program} {loose : List Str} {XP : (Str → Option Value) → Heap → Prop} {YP : World → Heap → Prop} {d : DefRec} {K : Params → PySem.W.Frag} (hn : l.most = some 63) (hdf : d.params.defaults = [])
    (hY : ∀ (w : World) (h : Heap), YP w h → (K w.params).In h)
    (F : ∀ (w : World) (mg : Str → Option Value) (fa : Addr) (h : Heap), (K w.params).In h → h.Ns mainGlobals mg → mg d.name = some (.ref fa) →
      ∃ fd : FuncData, (∀ (s : Shared) (u : Value), BindsTo s fd ⟨[u], []⟩ [("_law_script", u)]) ∧ ∀ base : Heap, (K w.params).In base → base.Ns mainGlobals mg → FnOk l.prog w (K w.params) mg base CX0 7 fa fd ["_law_script"] (spLaw (K w.params))) :
    PySem.W.WalkO q loose XP YP l.row.toRowW d [] (fun f vs => PySem.call f vs) :=
  L2.walk_of (n := 63) (k := 7) (x := "_law_script") (CX := fun _ => CX0) (sp := fun w => spLaw (K w.params)) hn (by decide) hdf ⟨rfl, by decide, by decide⟩ hY F (fun _ _ a ns hl _ hS => ⟨a, ns, rfl, hS, hl, fun _ => rfl⟩) fun _ _ _ _ _ z => z
end G
open PySem PySem.W PyProof.Rows in
set_option maxRecDepth 100000 in
set_option maxHeartbeats 0 in
theorem PySem.Challenge.cw_grainmeet_k11_associates_holds : PySem.Challenge.rw_grainmeet_k11_associates.Holds := by
  w_on; o_law; k_head; (case hw => w_witness2)
  k_fill
  refine G.walk (l := PySem.Challenge.rw_grainmeet_k11_associates) rfl rfl (fun w h Y => PySem.W.kIn_of Y) ?F
  case F =>
    intro w mg fa h KX GX hmg
    refine' G.all_mk KX GX hmg ?t_law ?t_is_number ?t_are_halves ?t_associate ?t_L_feed ?t_L_take ?t_L_pick ?t_L_same ?t_L_halves ?t_L_times ?t_L_four ?t_L_units ?t_C ?i_C ?m_Four_mul ?p_Four_halves ?u_Four_units ?w_UNITS ?x_nD ?z_abs ?z_len ?z_int ?z_list ?z_isinstance ?z_bool ?z_str ?z_tuple ?z_all ?z_zip ?z_range ?z_sum ?z_sorted ?z_max
    (case t_C => refine' G.TopCls.mk ?a ?pg ?hd ?po ?sa ?sf ?mr ?mk ?kc; (case a => k_is); (case pg => k_is); (case hd => k_is); (case po => k_is); (case sa => k_is); (case sf => k_is); (case mr => k_is); (case mk => k_is); (case kc => k_is))
    (case t_law => refine' G.TopLaw.mk ?a ?l ?c ?k; (case a => k_is); (case l => k_is); (case c => k_is); (case k => k_is))
    (case t_is_number => refine' G.TopFn.mk ?a ?l ?c ?k; (case a => k_is); (case l => k_is); (case c => k_is); (case k => k_is))
    (case t_are_halves => refine' G.TopFn.mk ?a ?l ?c ?k; (case a => k_is); (case l => k_is); (case c => k_is); (case k => k_is))
    (case t_associate => refine' G.TopFn.mk ?a ?l ?c ?k; (case a => k_is); (case l => k_is); (case c => k_is); (case k => k_is))
    (case t_L_feed => refine' G.TopFn.mk ?a ?l ?c ?k; (case a => k_is); (case l => k_is); (case c => k_is); (case k => k_is))
    (case t_L_take => refine' G.TopFn.mk ?a ?l ?c ?k; (case a => k_is); (case l => k_is); (case c => k_is); (case k => k_is))
    (case t_L_pick => refine' G.TopFn.mk ?a ?l ?c ?k; (case a => k_is); (case l => k_is); (case c => k_is); (case k => k_is))
    (case t_L_same => refine' G.TopFn.mk ?a ?l ?c ?k; (case a => k_is); (case l => k_is); (case c => k_is); (case k => k_is))
    (case t_L_halves => refine' G.TopFn.mk ?a ?l ?c ?k; (case a => k_is); (case l => k_is); (case c => k_is); (case k => k_is))
    (case t_L_times => refine' G.TopFn.mk ?a ?l ?c ?k; (case a => k_is); (case l => k_is); (case c => k_is); (case k => k_is))
    (case t_L_four => refine' G.TopFn.mk ?a ?l ?c ?k; (case a => k_is); (case l => k_is); (case c => k_is); (case k => k_is))
    (case t_L_units => refine' G.TopFn.mk ?a ?l ?c ?k; (case a => k_is); (case l => k_is); (case c => k_is); (case k => k_is))
    (case i_C => refine' G.TopMeth.mk ?a ?i ?l ?c ?k; (case a => k_is); (case i => k_is); (case l => k_is); (case c => k_is); (case k => k_is))
    (case m_Four_mul => refine' G.TopMeth.mk ?a ?i ?l ?c ?k; (case a => k_is); (case i => k_is); (case l => k_is); (case c => k_is); (case k => k_is))
    (case p_Four_halves => refine' G.TopProp.mk ?a ?s ?t ?r ?l ?c ?k; (case a => k_is); (case s => k_is); (case t => k_is); (case r => k_is); (case l => k_is); (case c => k_is); (case k => k_is))
    (case u_Four_units => refine' G.TopStat.mk ?ty ?rd ?ga ?a ?r ?l ?c ?k; (case ty => k_is); (case rd => k_is); (case ga => k_is); (case a => k_is); (case r => k_is); (case l => k_is); (case c => k_is); (case k => k_is))
    (case w_UNITS => refine' G.TopRows.mk ?a ?l ?r; (case a => k_is); (case l => k_is); (case r => refine' G.RowsIn.cons ?l ?i ?r; (case l => k_is); (case i => repeat' constructor); (case r => refine' G.RowsIn.cons ?l ?i ?r; (case l => k_is); (case i => repeat' constructor); (case r => refine' G.RowsIn.cons ?l ?i ?r; (case l => k_is); (case i => repeat' constructor); (case r => refine' G.RowsIn.cons ?l ?i ?r; (case l => k_is); (case i => repeat' constructor); (case r => refine' G.RowsIn.cons ?l ?i ?r; (case l => k_is); (case i => repeat' constructor); (case r => refine' G.RowsIn.cons ?l ?i ?r; (case l => k_is); (case i => repeat' constructor); (case r => refine' G.RowsIn.cons ?l ?i ?r; (case l => k_is); (case i => repeat' constructor); (case r => refine' G.RowsIn.cons ?l ?i ?r; (case l => k_is); (case i => repeat' constructor); (case r => refine' G.RowsIn.cons ?l ?i ?r; (case l => k_is); (case i => repeat' constructor); (case r => refine' G.RowsIn.cons ?l ?i ?r; (case l => k_is); (case i => repeat' constructor); (case r => refine' G.RowsIn.cons ?l ?i ?r; (case l => k_is); (case i => repeat' constructor); (case r => refine' G.RowsIn.cons ?l ?i ?r; (case l => k_is); (case i => repeat' constructor); (case r => refine' G.RowsIn.cons ?l ?i ?r; (case l => k_is); (case i => repeat' constructor); (case r => refine' G.RowsIn.cons ?l ?i ?r; (case l => k_is); (case i => repeat' constructor); (case r => refine' G.RowsIn.cons ?l ?i ?r; (case l => k_is); (case i => repeat' constructor); (case r => refine' G.RowsIn.cons ?l ?i ?r; (case l => k_is); (case i => repeat' constructor); (case r => refine' G.RowsIn.cons ?l ?i ?r; (case l => k_is); (case i => repeat' constructor); (case r => refine' G.RowsIn.cons ?l ?i ?r; (case l => k_is); (case i => repeat' constructor); (case r => refine' G.RowsIn.cons ?l ?i ?r; (case l => k_is); (case i => repeat' constructor); (case r => refine' G.RowsIn.cons ?l ?i ?r; (case l => k_is); (case i => repeat' constructor); (case r => refine' G.RowsIn.cons ?l ?i ?r; (case l => k_is); (case i => repeat' constructor); (case r => refine' G.RowsIn.cons ?l ?i ?r; (case l => k_is); (case i => repeat' constructor); (case r => refine' G.RowsIn.cons ?l ?i ?r; (case l => k_is); (case i => repeat' constructor); (case r => refine' G.RowsIn.cons ?l ?i ?r; (case l => k_is); (case i => repeat' constructor); (case r => exact G.RowsIn.nil))))))))))))))))))))))))))
    (case x_nD => k_is)
    (case z_abs => k_is)
    (case z_len => k_is)
    (case z_int => k_is)
    (case z_list => k_is)
    (case z_isinstance => k_is)
    (case z_bool => k_is)
    (case z_str => k_is)
    (case z_tuple => k_is)
    (case z_all => k_is)
    (case z_zip => k_is)
    (case z_range => k_is)
    (case z_sum => k_is)
    (case z_sorted => k_is)
    (case z_max => k_is)
