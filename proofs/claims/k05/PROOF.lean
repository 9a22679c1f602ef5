import PyProof.Rows.All
import Wide.All
import OpenK.AllK
import Wide.FinOn
import HandS.ForMost
import HandS.Wide
import HandS.IsInst
import HandS.Zip
import HandS.Flow
import HandS.Star
import HandS.Property
import PyProof.InstNe
import HandS.OwnEq
import HandS.ClsMeth
import HandS.NoneIn
import PySem.Challenge.RW_grainmeet_k05_whole_rules_of_products
set_option Elab.async false
set_option linter.all false
set_option maxRecDepth 100000
namespace G
open PySem PySem.Spec PyProof.Rows L2
/-! ### operators of a class of the text -/
theorem pe_imp {X : Cx} {e : Expr} {t t' : TE} (h : PE X e t) (i : ∀ σ H Q, t' σ H Q → t σ H Q) : PE X e t' := ⟨fun pins s σ H Q I q => h.run pins s σ H Q I (i σ H Q q)⟩
/-- one op other, both of the class at C, by its own method -/
def rOwn (C : Addr) (sp : Sp) : R2 := fun x y H Q => ∃ a b dx dy fs gs, x = .ref a ∧ y = .ref b ∧ H a = some (.ins C dx fs) ∧ H b = some (.ins C dy gs) ∧ sp [.ref a, .ref b] H Q E0
def rOwn1 (C : Addr) (sp : Sp) : V → Hp → VK → Prop := fun x H Q => ∃ a dx fs, x = .ref a ∧ H a = some (.ins C dx fs) ∧ sp [.ref a] H Q E0
section
variable {X : Cx} {k : Nat} {C f : Addr} {fd : FuncData} {ps : List Str} {sp : Sp}
theorem op_own {op : Operator} (F : FnOk X.prog X.w X.K X.mg X.base CX0 k f fd ps sp) (hr : Room k X.A) (hc : PySem.W.selfFirst X.K C = true) (hs : PySem.W.findIn X.K (.ref C) (PySem.dunder op.info.2) = some (some (.ref f))) (hf : PySem.W.isFn X.K (.ref f) = true) (hb : Binds X.K fd ps []) : OpR X (binaryOp op) (rOwn C sp) := by
  intro pins s σ H x y v u Q I rx ry h
  obtain ⟨a, b, dx, dy, fs, gs, rfl, rfl, ha, hb', q⟩ := h
  cases rx
  cases ry
  obtain ⟨mA, J, _⟩ := ins_get I.hok ha
  obtain ⟨mB, J', _⟩ := ins_get I.hok hb'
  obtain ⟨od, J, _⟩ := J.look
  obtain ⟨od', J', _⟩ := J'.look
  obtain ⟨m, hF⟩ := I.fr
  refine PySem.W.binop_K hF I.ok.mod.kin J J'.type hc hs hf ?_
  refine wpAny_mono (run_fn (vs := [.ref a, .ref b]) F hr hb .nil pass0 I (.cons rfl (.cons rfl .nil)) q) (fun r s' hq => ?_) fun _ _ e => e
  obtain ⟨z, H', I', rz, q'⟩ := hq
  cases r <;> first | exact ⟨z, H', I', rz, q'⟩ | (cases z <;> first | (obtain ⟨t, e⟩ := rz; cases e) | cases rz)
theorem un_own (F : FnOk X.prog X.w X.K X.mg X.base CX0 k f fd ps sp) (hr : Room k X.A) (hs : PySem.W.findIn X.K (.ref C) "__neg__" = some (some (.ref f))) (hf : PySem.W.isFn X.K (.ref f) = true) (hb : Binds X.K fd ps []) : UnR X (unaryOp .USub) (rOwn1 C sp) := by
  intro pins s σ H x v Q I rx h
  obtain ⟨a, dx, fs, rfl, ha, q⟩ := h
  cases rx
  obtain ⟨mA, J, _⟩ := ins_get I.hok ha
  obtain ⟨od, J, _⟩ := J.look
  obtain ⟨m, hF⟩ := I.fr
  refine PySem.W.ksp_neg hF I.ok.mod.kin J hs hf ?_
  exact run_fn (vs := [.ref a]) F hr hb .nil pass0 I (.cons rfl .nil) q
end
end G
set_option Elab.async false
set_option linter.all false
set_option maxRecDepth 100000
namespace G
open PySem PySem.W PySem.Spec PyProof.Rows
section
variable {prog : Program} {w : World} {A : Around} {E : Value → Shared → Prop} {s : Shared} {K : Frag} {x C L f : Addr} {h₀ : Heap} {m : Str → Option Value} {ox : Obj} {od : Option Obj} {b : Value}
theorem ifBoundB_K {M : Model} {name : Str} {id T : String} {args : List Value} {Q : Option Value → Shared → Prop} (S : Slot T name id) (X : K.In s.heap) (I : InstAt s.heap x ox C od) (hs : findIn K (.ref C) name = some (some (.builtin id)))
    (h : wpAny M A (call (.builtin id) (.ref x :: args)) (fun v => Q (some v)) E s) : wpAny M A (callSpecialIfBound? (.ref x) name args) Q E s := by
  simp only [callSpecialIfBound?, bindSpecialIfBound?]
  refine wpAny_holding (wpAny_bind (wpAny_bind (wpAny_bind (I.type.here ((looks_findIn X hs).here ?_)))))
  simp only [S.bind]
  refine wpAny_bind (wpAny_askSetting (wpAny_ite ?_))
  have fin : wpAny M A (call (.builtin id) ([.ref x] ++ args) >>= fun v => pure (some v)) Q E s := wpAny_bind (wpAny_mono h (fun v s' h' => wpAny_pure h') fun _ _ h' => h')
  split
  · exact wpAny_bind (wpAny_pure (wpAny_pure fin))
  · exact wpAny_tryCatch (wpAny_bind (wpAny_pure (wpAny_pure fin)))
theorem objNe_K {Q : Fin → Shared → Prop} (X : K.In s.heap) (I : InstAt s.heap x ox C od) (hs : findIn K (.ref C) "__eq__" = some (some (.ref f))) (hf : isFn K (.ref f) = true) (hu : A.units < cLine)
    (h : wpAny (model prog w) A (call (.ref f) [.ref x, b]) (fun v s' => ∃ r, v = .bool r ∧ Q (.done (.ret (.bool (!r)))) s') E s) : wpAny (model prog w) A (Builtin.«object.__ne__» ⟨[.ref x, b], []⟩) Q E s := by
  unfold Builtin.«object.__ne__»
  repeat (first
    | with_reducible refine wpAny_cRoomFor hu ?_
    | (refine wpAny_bind (m := callSpecialIfBound? (.ref x) (Str.ofString "__eq__") [b])
        (ifBound_K X I hs hf (wpAny_mono h (fun r s' hr => by
          obtain ⟨r, rfl, hq⟩ := hr
          repeat (first | exact hq | exact wpAny_pure hq | exact wpAny_truthy_bool hq | (refine wpAny_bind (m := truthy (.bool _)) (wpAny_truthy_bool ?_)) | wp_step)) fun _ _ e => e)))
    | wp_step)
theorem ne_K {Q : Value → Shared → Prop} (hu : A.units + 1 < cLine) (FR : Fr h₀ L s.heap m) (X₀ : K.In h₀) (I : InstAt s.heap x ox C od) (hb : Looks (model prog w) s.heap (typeOf b) (.ref C)) (hm : mroIn K C (.type "object") = some true)
    (hne : findIn K (.ref C) "__ne__" = some (some (.builtin "object.__ne__"))) (hs : findIn K (.ref C) "__eq__" = some (some (.ref f))) (hf : isFn K (.ref f) = true)
    (h : wpAny (model prog w) A.in1 (call (.ref f) [.ref x, b]) (fun v s' => ∃ r, v = .bool r ∧ Q (.bool (!r)) s') E s) : wpAny (model prog w) A (richCompare .NotEq (.ref x) b) Q E s := by
  have X := X₀.keeps FR.keep
  have hin : Looks (model prog w) s.heap (isInstance (.ref x) (.type "object")) true := I.type.andThen (looks_mroIn X hm)
  have S := F.cmp_object.ne
  have one : wpAny (model prog w) A (tryCompare (.ref x) "__ne__" b) (fun r s' => ∃ v, r = some v ∧ Q v s') E s := by
    unfold tryCompare
    refine wpAny_bind (ifBoundB_K S X I hne (wpAny_call (codeAny_call_builtin S.plain F.cmpEntry_ne (check_slot F.cmpKind_ne F.cmpSplit_ne hin (F.cmpArgs_ne _ _) ?_))))
    refine objNe_K X I hs hf hu (wpAny_mono h (fun v s' hv => ?_) fun _ _ e => e)
    obtain ⟨r, rfl, hq⟩ := hv
    exact ⟨r, rfl, wpAny_pure ⟨_, rfl, hq⟩⟩
  unfold richCompare
  simp only [oneThing_ref]
  refine wpAny_holding (wpAny_bind (wpAny_cRoomFor (Nat.lt_of_succ_lt hu) ?_))
  refine wpAny_bind (I.type.here (wpAny_bind (hb.here ?_)))
  rw [cmpInfo_NotEq]
  dsimp only
  rw [show (Value.ref C != Value.ref C) = false from by simp]
  simp only [Bool.false_eq_true, if_false]
  refine wpAny_bind (wpAny_pure ?_)
  simp only [Bool.false_eq_true, if_false]
  refine wpAny_bind (wpAny_mono one (fun r s' z => ?_) fun _ _ e => e)
  obtain ⟨v, rfl, hq⟩ := z
  exact wpAny_pure hq
end
end G
namespace G
open PySem PySem.Spec PyProof.Rows L2
def rNeOwn (C : Addr) (sp : Sp) : R2 := fun x y H Q => ∃ a b dx dy fs gs, x = .ref a ∧ y = .ref b ∧ H a = some (.ins C dx fs) ∧ H b = some (.ins C dy gs) ∧ sp [.ref a, .ref b] H (fun v H' => ∃ r, v = .bl r ∧ Q (.bl (!r)) H') E0
section
variable {X : Cx} {k : Nat} {C f : Addr} {fd : FuncData} {ps : List Str} {sp : Sp}
theorem op_eqOwn (F : FnOk X.prog X.w X.K X.mg X.base CX0 k f fd ps sp) (hr : Room k X.A) (hs : PySem.W.findIn X.K (.ref C) "__eq__" = some (some (.ref f))) (hf : PySem.W.isFn X.K (.ref f) = true) (hb : Binds X.K fd ps []) : OpR X (compareOp .Eq) (rOwn C sp) := by
  intro pins s σ H x y v u Q I rx ry h
  obtain ⟨a, b, dx, dy, fs, gs, rfl, rfl, ha, hb', q⟩ := h
  cases rx
  cases ry
  obtain ⟨mA, J, _⟩ := ins_get I.hok ha
  obtain ⟨mB, J', _⟩ := ins_get I.hok hb'
  obtain ⟨od, J, _⟩ := J.look
  obtain ⟨od', J', _⟩ := J'.look
  obtain ⟨m, hF⟩ := I.fr
  unfold compareOp
  refine PySem.W.cmp_K (op := .Eq) (tb := .ref C) hr.units0 hF I.ok.mod.kin J J'.type (by simp [PySem.W.notFirst]) hs hf ?_
  refine wpAny_mono (run_fn (vs := [.ref a, .ref b]) F hr hb .nil pass0 I (.cons rfl (.cons rfl .nil)) q) (fun r s' hq => ?_) fun _ _ e => e
  obtain ⟨z, H', I', rz, q'⟩ := hq
  cases r <;> first | exact ⟨z, H', I', rz, q'⟩ | (cases z <;> first | (obtain ⟨t, e⟩ := rz; cases e) | cases rz)
theorem op_neOwn (F : FnOk X.prog X.w X.K X.mg X.base CX0 k f fd ps sp) (hr : Room (k + 1) X.A) (hm : PySem.W.mroIn X.K C (.type "object") = some true) (hne : PySem.W.findIn X.K (.ref C) "__ne__" = some (some (.builtin "object.__ne__"))) (hs : PySem.W.findIn X.K (.ref C) "__eq__" = some (some (.ref f))) (hf : PySem.W.isFn X.K (.ref f) = true) (hb : Binds X.K fd ps []) : OpR X (compareOp .NotEq) (rNeOwn C sp) := by
  intro pins s σ H x y v u Q I rx ry h
  obtain ⟨a, b, dx, dy, fs, gs, rfl, rfl, ha, hb', q⟩ := h
  cases rx
  cases ry
  obtain ⟨mA, J, _⟩ := ins_get I.hok ha
  obtain ⟨mB, J', _⟩ := ins_get I.hok hb'
  obtain ⟨od, J, _⟩ := J.look
  obtain ⟨od', J', _⟩ := J'.look
  obtain ⟨m, hF⟩ := I.fr
  unfold compareOp
  refine ne_K (hu_of hr) hF I.ok.mod.kin J J'.type hm hne hs hf ?_
  have e0 : Env0 X.prog X.w X.K X.mg X.base X.A.in1 X.stack s H := by
    have e := I.env0
    exact ⟨e.frames, e.mod, e.bs, e.bsz, e.funs, e.frf, e.hok, e.bare⟩
  have hl := F.len _ _ _ _ q
  have r2 : Vals [V.ref a, V.ref b] [Value.ref a, Value.ref b] := .cons rfl (.cons rfl .nil)
  refine wpAny_call (codeAny_mono (F.run X.A.in1 X.stack s H ⟨[.ref a, .ref b], []⟩ [.ref a, .ref b] [.ref a, .ref b] _ E0 hr.in1 e0 (by
    have := hb s [.ref a, .ref b] I.kIn (by simpa using hl)
    simpa using this) r2 q) fun r s' hq => ?_)
  cases r with
  | error e => exact False.elim hq
  | ok fl =>
    cases fl with
    | ret w =>
      obtain ⟨z, H', I', rz, r, ez, ex⟩ := I.after hq
      subst ez
      cases rz
      exact ⟨r, rfl, .bl (!r), H', I', rfl, ex⟩
    | next => exact False.elim hq
    | brk => exact False.elim hq
    | cont => exact False.elim hq
end
end G
set_option Elab.async false
set_option linter.all false
set_option maxRecDepth 100000
namespace G
open PySem PySem.Spec PyProof.Rows L2 ClX
/-- C.m is a staticmethod: its record at p, its def at g -/
structure SMet (K : PySem.W.Frag) (C : Addr) (mc : Value) (m : Str) (p g : Addr) : Prop where
  rd : PySem.W.readsIn K C mc = true
  ty : PySem.W.typeIn K (.ref C) = some mc
  ga : PySem.W.specialIn K (.ref C) "__getattribute__" = some (some (.builtin "type.__getattribute__"))
  at_ : PySem.W.findCls K (.ref C) mc m = some (.get (.builtin "staticmethod.__get__") (.ref p) .none (.ref C))
  rc : ∃ rest, PySem.W.recIn K p "staticmethod" = some (.ref g :: rest)
  kp : PySem.W.keepIn K (.ref g) = true
def tSMeth (C : Addr) (sp : Sp) (ta : TE) (t : TA) : TE := fun σ H Q => ta σ H fun x H1 => x = .ref C ∧ t σ H1 fun vs H2 => sp vs H2 Q E0
section
variable {X : Cx} {k : Nat} {C p g : Addr} {mc : Value} {m : Str} {fd : FuncData} {ps : List Str} {sp : Sp} {o e : Expr} {es : List Expr} {ta : TE} {t : TA} {apos pos : Pos} {pl : Sem Bool}
theorem getsm_ok {pins : List (Addr × Obj)} {σ : L2.St} {H : Hp} {s : Shared} {A : Around} {E : Value → Shared → Prop} {Q : Value × List Value → Shared → Prop} (I : Inv X pins σ H s) (c : SMet X.K C mc m p g)
    (h : ∀ s', Inv X pins σ H s' → Q (.ref g, []) s') : wpAny (model X.prog X.w) A (getMethod (.ref C) m pl) Q E s := by
  obtain ⟨rest, hp⟩ := c.rc
  obtain ⟨m', hF⟩ := I.fr
  exact PySem.W.method_cls I.kIn c.ga (PySem.W.cls_sm hF I.ok.mod.kin c.ty c.rd c.at_ hp rfl (h _ (I.tok _)))
theorem pe_smeth (he : PE X o ta) (c : SMet X.K C mc m p g) (F : FnOk X.prog X.w X.K X.mg X.base CX0 k g fd ps sp) (hr : Room k X.A) (hb : Binds X.K fd ps []) (ha : PA X (e :: es) t)
    (hst : starEach (e :: es) X.env = (false, eval e X.env) :: starEach es X.env := by rfl) (hpl : (backTo pos (starEach es X.env)).any (·.1) = false := by rfl)
    (ht : eval (.Call (.Attribute o m apos) (e :: es) [] pos) X.env = (do
      let ov ← eval o X.env
      standAt apos.atName
      let (f, first) ← holding [ov] (getMethod ov m pl)
      callWith pos f first (backTo pos (starEach (e :: es) X.env)) (backToKw pos (keywordEach [] X.env))) := by rfl) :
    PE X (.Call (.Attribute o m apos) (e :: es) [] pos) (tSMeth C sp ta t) := by
  refine ⟨fun pins s σ H Q I h => ?_⟩
  refine PySem.W.methodCall_KW (pl := pl) (thn (he.run pins s σ H _ I h) fun u s1 ⟨x, H1, I1, rx, ex, q⟩ => ?_) ht
  subst ex
  obtain rfl : u = Value.ref C := rx
  refine getsm_ok I1 c fun s2 I2 => ?_
  refine PySem.W.callWith_K (h₀ := X.base) I.ok.mod.kin c.kp (thn (ha.run pos pins s2 σ H1 _ I2 q) fun us s3 ⟨vs, H2, I3, r, q2⟩ => ⟨I3.kIn, ?_⟩) hst hpl
  have := run_fn (dvs := []) F hr hb .nil pass0 I3 r (by rw [List.append_nil]; exact q2)
  exact this
end
/-! ### the members of a class, with their promises -/
structure MethOk (P : Program) (w : World) (K : PySem.W.Frag) (mg : Str → Option Value) (base : Heap) (C : Addr) (m : Str) (k : Nat) (ps : List Str) (sp : Sp) : Prop where
  ex : ∃ (f : Addr) (fd : FuncData), FnOk P w K mg base CX0 k f fd ps sp ∧ Meth K C m f ∧ Binds K fd ps []
structure PropOk (P : Program) (w : World) (K : PySem.W.Frag) (mg : Str → Option Value) (base : Heap) (C : Addr) (m : Str) (k : Nat) (ps : List Str) (sp : Sp) : Prop where
  ex : ∃ (p g : Addr) (fd : FuncData), FnOk P w K mg base CX0 k g fd ps sp ∧ PropOf K C m p g ∧ Binds K fd ps []
structure StatOk (P : Program) (w : World) (K : PySem.W.Frag) (mg : Str → Option Value) (base : Heap) (C : Addr) (m : Str) (k : Nat) (ps : List Str) (sp : Sp) : Prop where
  ex : ∃ (mc : Value) (p g : Addr) (fd : FuncData), FnOk P w K mg base CX0 k g fd ps sp ∧ SMet K C mc m p g ∧ Binds K fd ps []
/-- what every class of the text has -/
structure ClsFacts (K : PySem.W.Frag) (mg : Str → Option Value) (x : Str) (C : Addr) : Prop where
  cl : Cls K C
  mgC : mg x = some (.ref C)
  sf : PySem.W.selfFirst K C = true
  mr : PySem.W.mroIn K C (.type "object") = some true
section
variable {X : Cx} {k : Nat} {C : Addr} {x m : Str} {ps : List Str} {sp : Sp} {o e : Expr} {es : List Expr} {ta : TE} {t : TA} {apos pos : Pos} {pl : Sem Bool}
theorem pe_methD {f : Addr} (he : PE X o ta) (c : Cls X.K C) (M : MethOk X.prog X.w X.K X.mg X.base C m k ps sp) (hr : Room k X.A) (ha : PA X (e :: es) t)
    (hst : starEach (e :: es) X.env = (false, eval e X.env) :: starEach es X.env := by rfl) (hpl : (backTo pos (starEach es X.env)).any (·.1) = false := by rfl)
    (ht : eval (.Call (.Attribute o m apos) (e :: es) [] pos) X.env = (do
      let ov ← eval o X.env
      standAt apos.atName
      let (f, first) ← holding [ov] (getMethod ov m pl)
      callWith pos f first (backTo pos (starEach (e :: es) X.env)) (backToKw pos (keywordEach [] X.env))) := by rfl) :
    PE X (.Call (.Attribute o m apos) (e :: es) [] pos) (tMeth C m sp [] E0 ta t) := by
  obtain ⟨f, fd, F, hm, hb⟩ := M.ex
  exact pe_meth he c hm F hr hb .nil pass0 ha hst hpl ht
theorem pe_methD0 (he : PE X o ta) (c : Cls X.K C) (M : MethOk X.prog X.w X.K X.mg X.base C m k ps sp) (hr : Room k X.A)
    (ht : eval (.Call (.Attribute o m apos) [] [] pos) X.env = (do
      let ov ← eval o X.env
      standAt apos.atName
      let (f, first) ← holding [ov] (getMethod ov m pl)
      callWith pos f first (backTo pos (starEach [] X.env)) (backToKw pos (keywordEach [] X.env))) := by rfl) :
    PE X (.Call (.Attribute o m apos) [] [] pos) (tMeth C m sp [] E0 ta tNil) := by
  obtain ⟨f, fd, F, hm, hb⟩ := M.ex
  exact pe_meth0 he c hm F hr hb .nil pass0 ht
theorem pe_propD (he : PE X e ta) (c : Cls X.K C) (M : PropOk X.prog X.w X.K X.mg X.base C m k ps sp) (hr : Room (k + 1) X.A) (hab : attributeBase e m X.env (eval e X.env) = eval e X.env := by rfl) : PE X (.Attribute e m pos) (tProp C sp [] E0 ta) := by
  obtain ⟨p, g, fd, F, hp, hb⟩ := M.ex
  exact pe_prop he c hp F hr hb .nil pass0 hab
theorem pe_statD (M : StatOk X.prog X.w X.K X.mg X.base C m k ps sp) (he : PE X o ta) (hr : Room k X.A) (ha : PA X (e :: es) t)
    (hst : starEach (e :: es) X.env = (false, eval e X.env) :: starEach es X.env := by rfl) (hpl : (backTo pos (starEach es X.env)).any (·.1) = false := by rfl)
    (ht : eval (.Call (.Attribute o m apos) (e :: es) [] pos) X.env = (do
      let ov ← eval o X.env
      standAt apos.atName
      let (f, first) ← holding [ov] (getMethod ov m pl)
      callWith pos f first (backTo pos (starEach (e :: es) X.env)) (backToKw pos (keywordEach [] X.env))) := by rfl) :
    PE X (.Call (.Attribute o m apos) (e :: es) [] pos) (tSMeth C sp ta t) := by
  obtain ⟨mc, p, g, fd, F, c, hb⟩ := M.ex
  exact pe_smeth he c F hr hb ha hst hpl ht
theorem op_ownD {op : Operator} (c : ClsFacts X.K X.mg x C) (M : MethOk X.prog X.w X.K X.mg X.base C m k ps sp) (hr : Room k X.A) (hm : PySem.dunder op.info.2 = m := by decide +kernel) : OpR X (binaryOp op) (rOwn C sp) := by
  obtain ⟨f, fd, F, h, hb⟩ := M.ex
  exact op_own F hr c.sf (by rw [hm]; exact h.at_) h.fn hb
theorem un_ownD (M : MethOk X.prog X.w X.K X.mg X.base C "__neg__" k ps sp) (hr : Room k X.A) : UnR X (unaryOp .USub) (rOwn1 C sp) := by
  obtain ⟨f, fd, F, h, hb⟩ := M.ex
  exact un_own F hr h.at_ h.fn hb
theorem op_eqOwnD (M : MethOk X.prog X.w X.K X.mg X.base C "__eq__" k ps sp) (hr : Room k X.A) : OpR X (compareOp .Eq) (rOwn C sp) := by
  obtain ⟨f, fd, F, h, hb⟩ := M.ex
  exact op_eqOwn F hr h.at_ h.fn hb
theorem op_neOwnD (c : ClsFacts X.K X.mg x C) (M : MethOk X.prog X.w X.K X.mg X.base C "__eq__" k ps sp) (hne : PySem.W.findIn X.K (.ref C) "__ne__" = some (some (.builtin "object.__ne__"))) (hr : Room (k + 1) X.A) : OpR X (compareOp .NotEq) (rNeOwn C sp) := by
  obtain ⟨f, fd, F, h, hb⟩ := M.ex
  exact op_neOwn F hr c.mr hne h.at_ h.fn hb
end
end G
set_option Elab.async false
set_option linter.all false
set_option maxRecDepth 100000
namespace G
open PySem PySem.SeqAt
open AutoSeq1 (wpAny_loadPart')
open MeetsSeq MeetsSeq2 MeetsSeq3 SeqRoads2
section
variable {prog : Program} {w : World} {A : Around} {R : Result → Shared → Prop}
/-- != of two lists of one length whose items are equal: from the place N - k on -/
theorem neLoop {l b : Addr} {N : Nat} {I : Nat → Shared → Prop} (hl : GQ.ListI prog w A (fun e s' => R (.error e) s') l b N I) (fin : ∀ s, I N s → R (.ok (.ret (.bool false))) s) : ∀ (k i : Nat), N - i = k → i ≤ N → ∀ s, I i s →
    wpAny (model prog w) A.in1 (Builtin.«list.__eq__.loop» ⟨[.ref l, .ref b, rawInt i, rawInt 3], []⟩) (GQ.FinOf prog w A R) (fun e s' => R (.error e) s') s
  | 0, i, hk, hi, s, h => by
    obtain ⟨xs, ys, n, m, g1, g2, z1, z2, _⟩ := hl _ _ h
    obtain rfl : i = N := by omega
    have last := fin s h
    obtain ⟨hp, g, d, tk, os⟩ := s
    wp_walk using wpAny_loadPart' g1, wpAny_loadPart' g2
    rw [show xs[((i : Nat) : Int).toNat]? = none from by simp; omega, show ys[((i : Nat) : Int).toNat]? = none from by simp; omega]
    wp_walk using wpAny_loadPart' g1, wpAny_loadPart' g2
    show R (.ok (.ret (.bool (xs.size != ys.size)))) _
    rw [z1, z2]
    simpa using last
  | k + 1, i, hk, hi, s, h => by
    obtain ⟨xs, ys, n, m, g1, g2, z1, z2, step⟩ := hl _ _ h
    have i1 : i < xs.size := by omega
    have i2 : i < ys.size := by omega
    have one := step i1 i2
    obtain ⟨hp, g, d, tk, os⟩ := s
    wp_walk using wpAny_loadPart' g1, wpAny_loadPart' g2
    rw [show xs[((i : Nat) : Int).toNat]? = some xs[i] from by simp [i1], show ys[((i : Nat) : Int).toNat]? = some ys[i] from by simp [i2]]
    refine wpAny_bind (wpAny_mono one (fun r s2 q2 => ?_) fun _ _ x => x)
    obtain ⟨er, q2⟩ := q2
    subst er
    have more := neLoop hl fin k (i + 1) (by omega) (by omega) s2 q2
    obtain ⟨hp2, g', d', tk', os'⟩ := s2
    wp_walk
    rw [show ((i : Int) + 1) = ((i + 1 : Nat) : Int) from by omega]
    refine ⟨plainId_quiet plain_eq_loop _, codeAny_builtin entry_eq_loop ?_⟩
    rw [Around.under_plainId plain_eq_loop _]
    exact more
theorem listNe {l b : Addr} {N : Nat} {I : Nat → Shared → Prop} (hl : GQ.ListI prog w A (fun e s' => R (.error e) s') l b N I) (fin : ∀ s, I N s → R (.ok (.ret (.bool false))) s) {s : Shared} (h : I 0 s) :
    wpAny (model prog w) A.in1 (Builtin.«list.__ne__» ⟨[.ref l, .ref b], []⟩) (GQ.FinOf prog w A R) (fun e s' => R (.error e) s') s := by
  obtain ⟨xs, ys, n, m, g1, g2, z1, z2, _⟩ := hl _ _ h
  have all := neLoop hl fin _ 0 rfl (Nat.zero_le _) s h
  obtain ⟨hp, g, d, tk, os⟩ := s
  have sub := AutoSeq1.sub_list_list
  have same : ¬ (xs.size != ys.size) = true := by simp [z1, z2]
  wp_walk using wpAny_loadPart' g1, wpAny_loadPart' g2
  refine ⟨plainId_quiet plain_eq_loop _, codeAny_builtin entry_eq_loop ?_⟩
  rw [Around.under_plainId plain_eq_loop _]
  exact all
end
end G
namespace G
open PySem PySem.Spec PyProof.Rows L2
def rNeG (D : L2.Eqv) : R2 := fun x y H Q => DList D x y H ∧ ∀ H', L2.Ext H H' → Q (.bl false) H'
theorem op_neG {X : Cx} {n : Nat} {D : L2.Eqv} (hD : Mon D) (h : EqG X n D) (hr : Room (n + 1) X.A) : OpR X (compareOp .NotEq) (rNeG D) := by
  intro pins s σ H x y v u Q I rx ry hq
  obtain ⟨⟨a, b, xs, ys, rfl, rfl, ha, hb, p⟩, q⟩ := hq
  cases rx
  cases ry
  have sb : Sub X (n + 1) X.A := ⟨hr, rfl⟩
  have li : GQ.ListI X.prog X.w X.A X.xe a b xs.length (fun _ s' => LoopI X pins σ H s') := fun i s' lp => by
    obtain ⟨H1, I1, e1⟩ := id lp
    obtain ⟨z, is1, k1, r1, g1⟩ := I1.hok a _ (e1 _ _ ha)
    obtain ⟨z', is2, k2, r2, g2⟩ := I1.hok b _ (e1 _ _ hb)
    exact ⟨is1.toArray, is2.toArray, k1, k2, g1, g2, by rw [List.size_toArray, ← r1.length], by rw [List.size_toArray, ← r2.length, ← p.1], fun h1 h2 => turnG hD h sb p r1 r2 i h1 h2 s' lp⟩
  have st : LoopI X pins σ H s := ⟨H, I, Ext.rfl'⟩
  obtain ⟨o1, o2, m1, m2, g1, g2, _⟩ := li 0 s st
  show wpAny (model X.prog X.w) X.A (richCompare .NotEq (.ref a) (.ref b)) (EP X pins σ Q) X.xe s
  refine wpAny_richCompare_same_room (op := .NotEq) ⟨_, g1, rfl⟩ ⟨_, g2, rfl⟩ F.slot_list_ne (GQ.call_here F.slot_list_ne ⟨_, g1, rfl⟩ F.entry_list_ne (F.args_list_ne_2 _ _) ?_) sb.room.units0
  refine listNe (R := wants (fun v s' => v ≠ .notImplemented ∧ EP X pins σ Q v s') X.xe) li (fun s' lp => ⟨(fun x => nomatch x), ?_⟩) st
  obtain ⟨H', I', e'⟩ := lp
  exact ⟨.bl false, H', I', rfl, q H' e'⟩
end G
set_option Elab.async false
set_option linter.all false
set_option maxRecDepth 100000
namespace G
open PySem PySem.Spec PyProof.Rows L2
/-! ### a def of the top, with its promise -/
structure DefOk (P : Program) (w : World) (K : PySem.W.Frag) (mg : Str → Option Value) (base : Heap) (x : Str) (k : Nat) (ps : List Str) (sp : Sp) : Prop where
  ex : ∃ (f : Addr) (fd : FuncData), FnOk P w K mg base CX0 k f fd ps sp ∧ mg x = some (.ref f) ∧ PySem.W.keepIn K (.ref f) = true ∧ Binds K fd ps []
theorem pe_callD {X : Cx} {k : Nat} {ps : List Str} {sp : Sp} {x : Str} {p pos : Pos} {e : Expr} {es : List Expr} {t : TA} (D : DefOk X.prog X.w X.K X.mg X.base x k ps sp) (hr : Room k X.A) (ha : PA X (e :: es) t) (hg : Gl X x := by rfl)
    (hdb : (x == ("__debug__" : Str)) = false := by decide) (he : starEach (e :: es) X.env = (false, eval e X.env) :: starEach es X.env := by rfl) (hpl : (backTo pos (starEach es X.env)).any (·.1) = false := by rfl) :
    PE X (.Call (.Name x p) (e :: es) [] pos) (tCall sp [] E0 t) := by
  obtain ⟨f, fd, G, m, kp, b⟩ := D.ex
  exact pe_call G hr hg m kp b .nil pass0 ha hdb he hpl
theorem pe_callD0 {X : Cx} {k : Nat} {ps : List Str} {sp : Sp} {x : Str} {p pos : Pos} (D : DefOk X.prog X.w X.K X.mg X.base x k ps sp) (hr : Room k X.A) (hg : Gl X x := by rfl)
    (hdb : (x == ("__debug__" : Str)) = false := by decide) : PE X (.Call (.Name x p) [] [] pos) (tCall sp [] E0 tNil) := by
  obtain ⟨f, fd, G, m, kp, b⟩ := D.ex
  exact pe_call0 G hr hg m kp b .nil pass0 hdb
/-- the built-ins that the text names -/
structure Bn (mg : Str → Option Value) : Prop where
  abs : mg "abs" = none
  len : mg "len" = none
  int : mg "int" = none
  list : mg "list" = none
  isinstance : mg "isinstance" = none
  bool : mg "bool" = none
  str : mg "str" = none
  tuple : mg "tuple" = none
  all : mg "all" = none
  zip : mg "zip" = none
  range : mg "range" = none
  sum : mg "sum" = none
theorem mw {i j : Int} (h1 : i.natAbs < 18446744073709551616) (h2 : j.natAbs < 18446744073709551616) : CMulW i j := wide_mul (a := 64) (b := 64) h1 h2 (by decide) (by decide) (by decide)
theorem dw {i j : Int} (h : 0 < j) (h2 : j.natAbs < 18446744073709551616) : CDivW i j := wide_div (b := 64) h h2 (by decide) (by decide)
theorem ifT {c : Bool} {A B : Prop} (hc : c = true) (h : A) : if c = true then A else B := by rw [if_pos hc]; exact h
theorem ifF {c : Bool} {A B : Prop} (hc : c = false) (h : B) : if c = true then A else B := by rw [if_neg (by rw [hc]; decide)]; exact h
theorem nx_norm {f : L2.St → Hp → Prop} {σ σ' : L2.St} {H : Hp} (e : σ = σ') (h : f σ' H) : f σ H := e ▸ h
theorem lg {n : Int} (h : n.natAbs < 18446744073709551616) : n.natAbs.log2 < 9000 := Nat.lt_of_lt_of_le (PySem.Flt.log2_lt_of (by decide) (show n.natAbs < 2 ^ 64 from h)) (by decide)
/-! ### heaps -/
theorem same_upd {H : Hp} {p : Addr} {o : HO} (h : H p = none) : Same H (upd H p o) := fun b x e => by
  rw [upd_ne (ne_of_none e h)]
  exact e
theorem seq_mk {t1 t2 : TS} {D : Ends} {σ : L2.St} {H : Hp} (h : t1 { D with nx := t2 D } σ H) : tSeq t1 t2 D σ H := h
theorem seq_cut (Mid : L2.St → Hp → Prop) {t u : TS} {D : Ends} {σ : L2.St} {H : Hp} (h2 : ∀ σ' H', Mid σ' H' → u D σ' H') (h1 : (∀ σ' H', Mid σ' H' → u D σ' H') → t { D with nx := u D } σ H) : tSeq t u D σ H := h1 h2
/-- all but p stays -/
def SameX (p : Addr) (H H' : Hp) : Prop := ∀ a o, a ≠ p → H a = some o → H' a = some o
theorem SameX.refl {p : Addr} {H : Hp} : SameX p H H := fun _ _ _ e => e
theorem SameX.trans {p : Addr} {H H' H2 : Hp} (h : SameX p H H') (h' : SameX p H' H2) : SameX p H H2 := fun a o n e => h' a o n (h a o n e)
theorem SameX.of {p : Addr} {H H' : Hp} (h : Same H H') : SameX p H H' := fun a o _ e => h a o e
theorem sameX_upd {p : Addr} {H : Hp} {o : HO} : SameX p H (upd H p o) := fun a x n e => by rw [upd_ne n]; exact e
/-- the feed that stands at p -/
def FeedAt (H : Hp) (p c : Addr) : Prop := ∃ (ms : List Int) (i : Nat) (u m : Int), H p = some (.lst [.ref c, .int i, .int u, .int m]) ∧ H c = some (.lst (ms.map V.int)) ∧ c ≠ p ∧ ms.length ≤ 63 ∧ 0 ≤ u ∧ 0 ≤ m ∧ m < 2147483647
theorem FeedAt.same {H H' : Hp} {p c : Addr} (h : FeedAt H p c) (s : Same H H') : FeedAt H' p c := by
  obtain ⟨ms, i, u, m, h1, h2, r⟩ := h
  exact ⟨ms, i, u, m, s _ _ h1, s _ _ h2, r⟩
theorem FeedAt.some {H : Hp} {p c : Addr} (h : FeedAt H p c) : ∃ o, H p = some o := by
  obtain ⟨ms, i, u, m, h1, _⟩ := h
  exact ⟨_, h1⟩
/-- another list that is written leaves the feed -/
theorem FeedAt.upd {H : Hp} {p c l : Addr} {o : HO} (h : FeedAt H p c) (h1 : l ≠ p) (h2 : l ≠ c) : FeedAt (L2.upd H l o) p c := by
  obtain ⟨ms, i, u, m, e1, e2, r⟩ := h
  exact ⟨ms, i, u, m, by rw [upd_ne h1.symm]; exact e1, by rw [upd_ne h2.symm]; exact e2, r⟩
theorem FeedAt.ne {H : Hp} {p c l : Addr} (h : FeedAt H p c) (n : H l = none) : l ≠ p ∧ l ≠ c := by
  obtain ⟨ms, i, u, m, e1, e2, r⟩ := h
  exact ⟨(ne_of_none e1 n).symm, (ne_of_none e2 n).symm⟩
/-! ### the text -/
def top (i : Nat) : Stmt := PySem.Challenge.pw_grainmeet_k05_whole_rules_of_products.main.body.getD i (.Pass ⟨0, 0, 0, 0⟩)
abbrev s_GrainError_init : Stmt := inClass (top 2) 0
theorem sc_GrainError_init : FnScope ["self", "tag", "why"] ["self", "tag", "why"] (defScope s_GrainError_init) := ⟨rfl, rfl, rfl, by decide +kernel, rfl, by decide +kernel, by decide +kernel⟩
abbrev s_InvalidFour_init : Stmt := inClass (top 3) 0
theorem sc_InvalidFour_init : FnScope ["self", "given"] ["self", "given"] (defScope s_InvalidFour_init) := ⟨rfl, rfl, rfl, by decide +kernel, rfl, by decide +kernel, by decide +kernel⟩
abbrev s_ParseError_init : Stmt := inClass (top 4) 0
theorem sc_ParseError_init : FnScope ["self", "at"] ["self", "at"] (defScope s_ParseError_init) := ⟨rfl, rfl, rfl, by decide +kernel, rfl, by decide +kernel, by decide +kernel⟩
abbrev s_is_number : Stmt := top 8
theorem sc_is_number : FnScope ["value"] ["value"] (defScope s_is_number) := ⟨rfl, rfl, rfl, by decide +kernel, rfl, by decide +kernel, by decide +kernel⟩
abbrev s_digits_of : Stmt := top 9
theorem sc_digits_of : FnScope ["number", "pieces", "rest", "piece"] ["number"] (defScope s_digits_of) := ⟨rfl, rfl, rfl, by decide +kernel, rfl, by decide +kernel, by decide +kernel⟩
abbrev s_are_digits : Stmt := top 10
theorem sc_are_digits : FnScope ["text"] ["text"] (defScope s_are_digits) := ⟨rfl, rfl, rfl, by decide +kernel, rfl, by decide +kernel, by decide +kernel⟩
abbrev s_number_with : Stmt := top 11
theorem sc_number_with : FnScope ["digits", "start", "number", "at"] ["digits"] (defScope s_number_with) := ⟨rfl, rfl, rfl, by decide +kernel, rfl, by decide +kernel, by decide +kernel⟩
abbrev s_Four_init : Stmt := inClass (top 14) 0
theorem sc_Four_init : FnScope ["self", "halves"] ["self", "halves"] (defScope s_Four_init) := ⟨rfl, rfl, rfl, by decide +kernel, rfl, by decide +kernel, by decide +kernel⟩
abbrev s_Four_whole : Stmt := inClass (top 14) 1
theorem sc_Four_whole : FnScope ["number"] ["number"] (defScope s_Four_whole) := ⟨rfl, rfl, rfl, by decide +kernel, rfl, by decide +kernel, by decide +kernel⟩
abbrev s_Four_read : Stmt := inClass (top 14) 3
theorem sc_Four_read : FnScope ["text", "halves", "four"] ["text"] (defScope s_Four_read) := ⟨rfl, rfl, rfl, by decide +kernel, rfl, by decide +kernel, by decide +kernel⟩
abbrev s_Four_halves : Stmt := inClass (top 14) 4
theorem sc_Four_halves : FnScope ["self"] ["self"] (defScope s_Four_halves) := ⟨rfl, rfl, rfl, by decide +kernel, rfl, by decide +kernel, by decide +kernel⟩
abbrev s_Four_size : Stmt := inClass (top 14) 5
theorem sc_Four_size : FnScope ["self", "a", "b", "c", "d"] ["self"] (defScope s_Four_size) := ⟨rfl, rfl, rfl, by decide +kernel, rfl, by decide +kernel, by decide +kernel⟩
abbrev s_Four_mirrored : Stmt := inClass (top 14) 6
theorem sc_Four_mirrored : FnScope ["self", "a", "b", "c", "d"] ["self"] (defScope s_Four_mirrored) := ⟨rfl, rfl, rfl, by decide +kernel, rfl, by decide +kernel, by decide +kernel⟩
abbrev s_Four_text : Stmt := inClass (top 14) 8
theorem sc_Four_text : FnScope ["self", "parts", "half", "letter"] ["self"] (defScope s_Four_text) := ⟨rfl, rfl, rfl, by decide +kernel, rfl, by decide +kernel, by decide +kernel⟩
abbrev s_Four_add : Stmt := inClass (top 14) 10
theorem sc_Four_add : FnScope ["self", "other", "a", "b", "c", "d", "e", "f", "g", "h"] ["self", "other"] (defScope s_Four_add) := ⟨rfl, rfl, rfl, by decide +kernel, rfl, by decide +kernel, by decide +kernel⟩
abbrev s_Four_sub : Stmt := inClass (top 14) 11
theorem sc_Four_sub : FnScope ["self", "other", "a", "b", "c", "d", "e", "f", "g", "h"] ["self", "other"] (defScope s_Four_sub) := ⟨rfl, rfl, rfl, by decide +kernel, rfl, by decide +kernel, by decide +kernel⟩
abbrev s_Four_mul : Stmt := inClass (top 14) 12
theorem sc_Four_mul : FnScope ["self", "other", "a", "b", "c", "d", "e", "f", "g", "h"] ["self", "other"] (defScope s_Four_mul) := ⟨rfl, rfl, rfl, by decide +kernel, rfl, by decide +kernel, by decide +kernel⟩
abbrev s_Four_neg : Stmt := inClass (top 14) 13
theorem sc_Four_neg : FnScope ["self", "a", "b", "c", "d"] ["self"] (defScope s_Four_neg) := ⟨rfl, rfl, rfl, by decide +kernel, rfl, by decide +kernel, by decide +kernel⟩
abbrev s_Four_bool : Stmt := inClass (top 14) 14
theorem sc_Four_bool : FnScope ["self"] ["self"] (defScope s_Four_bool) := ⟨rfl, rfl, rfl, by decide +kernel, rfl, by decide +kernel, by decide +kernel⟩
abbrev s_Four_eq : Stmt := inClass (top 14) 15
theorem sc_Four_eq : FnScope ["self", "other"] ["self", "other"] (defScope s_Four_eq) := ⟨rfl, rfl, rfl, by decide +kernel, rfl, by decide +kernel, by decide +kernel⟩
abbrev s_Four_repr : Stmt := inClass (top 14) 16
theorem sc_Four_repr : FnScope ["self"] ["self"] (defScope s_Four_repr) := ⟨rfl, rfl, rfl, by decide +kernel, rfl, by decide +kernel, by decide +kernel⟩
abbrev s_are_halves : Stmt := top 15
theorem sc_are_halves : FnScope ["values", "value"] ["values"] (defScope s_are_halves) := ⟨rfl, rfl, rfl, by decide +kernel, rfl, by decide +kernel, by decide +kernel⟩
abbrev s_part_text : Stmt := top 16
theorem sc_part_text : FnScope ["half", "letter", "sign"] ["half", "letter"] (defScope s_part_text) := ⟨rfl, rfl, rfl, by decide +kernel, rfl, by decide +kernel, by decide +kernel⟩
abbrev s_amount_text : Stmt := top 17
theorem sc_amount_text : FnScope ["half", "letter"] ["half", "letter"] (defScope s_amount_text) := ⟨rfl, rfl, rfl, by decide +kernel, rfl, by decide +kernel, by decide +kernel⟩
abbrev s_halves_told : Stmt := top 18
theorem sc_halves_told : FnScope ["text", "halves", "term", "ending"] ["text"] (defScope s_halves_told) := ⟨rfl, rfl, rfl, by decide +kernel, rfl, by decide +kernel, by decide +kernel⟩
abbrev s_terms_of : Stmt := top 19
theorem sc_terms_of : FnScope ["text", "pieces", "piece"] ["text"] (defScope s_terms_of) := ⟨rfl, rfl, rfl, by decide +kernel, rfl, by decide +kernel, by decide +kernel⟩
abbrev s_half_told : Stmt := top 20
theorem sc_half_told : FnScope ["amount", "digits", "sign", "odd"] ["amount"] (defScope s_half_told) := ⟨rfl, rfl, rfl, by decide +kernel, rfl, by decide +kernel, by decide +kernel⟩
abbrev s_L_feed : Stmt := top 22
theorem sc_L_feed : FnScope ["_law_script", "_law_cells", "_law_mark", "_law_cell"] ["_law_script"] (defScope s_L_feed) := ⟨rfl, rfl, rfl, by decide +kernel, rfl, by decide +kernel, by decide +kernel⟩
abbrev s_L_take : Stmt := top 23
theorem sc_L_take : FnScope ["_law_feed_here", "_law_many", "_law_cell", "_law_mixed", "_law_found"] ["_law_feed_here", "_law_many"] (defScope s_L_take) := ⟨rfl, rfl, rfl, by decide +kernel, rfl, by decide +kernel, by decide +kernel⟩
abbrev s_L_same : Stmt := top 24
theorem sc_L_same : FnScope ["_law_found", "_law_due", "_law_one", "_law_other"] ["_law_found", "_law_due"] (defScope s_L_same) := ⟨rfl, rfl, rfl, by decide +kernel, rfl, by decide +kernel, by decide +kernel⟩
abbrev s_L_halves : Stmt := top 25
theorem sc_L_halves : FnScope ["_law_feed_here", "_law_most", "_law_odd", "_law_row", "_law_k"] ["_law_feed_here", "_law_most"] (defScope s_L_halves) := ⟨rfl, rfl, rfl, by decide +kernel, rfl, by decide +kernel, by decide +kernel⟩
abbrev s_L_times : Stmt := top 26
theorem sc_L_times : FnScope ["_law_one", "_law_other", "_law_a", "_law_b", "_law_c", "_law_d", "_law_x", "_law_y", "_law_z", "_law_w", "_law_first", "_law_second", "_law_third"] ["_law_one", "_law_other"] (defScope s_L_times) := ⟨rfl, rfl, rfl, by decide +kernel, rfl, by decide +kernel, by decide +kernel⟩
abbrev s_L_size : Stmt := top 27
theorem sc_L_size : FnScope ["_law_halves_here", "_law_one"] ["_law_halves_here"] (defScope s_L_size) := ⟨rfl, rfl, rfl, by decide +kernel, rfl, by decide +kernel, by decide +kernel⟩
abbrev s_L_four : Stmt := top 28
theorem sc_L_four : FnScope ["_law_halves_here", "_law_a", "_law_b", "_law_c", "_law_d"] ["_law_halves_here"] (defScope s_L_four) := ⟨rfl, rfl, rfl, by decide +kernel, rfl, by decide +kernel, by decide +kernel⟩
abbrev s_law : Stmt := top 29
theorem sc_law : FnScope ["_law_script", "_law_feed_here", "_law_turn", "_law_most", "_law_rows", "_law_a", "_law_b", "_law_c", "_law_due", "_law_halves_here"] ["_law_script"] (defScope s_law) := ⟨rfl, rfl, rfl, by decide +kernel, rfl, by decide +kernel, by decide +kernel⟩
end G
set_option Elab.async false
set_option linter.all false
set_option maxRecDepth 100000
namespace G
open PySem PySem.Spec PyProof.Rows L2
/-! ### the feed -/
def spFeed (K : PySem.W.Frag) : Sp := fun vs H Q _ => ∃ (a : Addr) (ns : List Int), vs = [.ref a] ∧ SqL K H a (ns.map V.int) ∧ ∀ H' p c, Same H H' → H p = none → FeedAt H' p c → Q (.ref p) H'
def spTake : Sp := fun vs H Q _ => ∃ (p c : Addr) (n : Int), vs = [.ref p, .int n] ∧ 0 < n ∧ n.natAbs.log2 < 9000 ∧ FeedAt H p c ∧ ∀ (H' : Hp) (r : Int), 0 ≤ r → r < n → FeedAt H' p c → SameX p H H' → Q (.int r) H'
theorem em' (a b : Int) (h : 0 < b) : 0 ≤ a % b ∧ a % b < b := ⟨Int.emod_nonneg _ (by omega), Int.emod_lt_of_pos _ h⟩
theorem cut63 (xs : List V) : cutV xs none (some 63) = xs.take 63 := by
  unfold cutV
  rw [show HT.sIx xs.length xs.length (some 63) = min 63 xs.length from HT.sIx_nat xs.length xs.length 63, HT.sIx_none]
  show (List.take (min 63 xs.length - 0) xs) = xs.take 63
  rw [Nat.sub_zero, ← List.take_take, List.take_length]
section
variable {P : Program} {w : World} {K : PySem.W.Frag} {mg : Str → Option Value} {base : Heap}
theorem ok_feed {f : Addr} {fd : FuncData} {k : Nat} (F : Fun K "_law_feed" "_law_feed" s_L_feed f fd) (B : Bn mg) : FnOk P w K mg base CX0 (k + 1) f fd ["_law_script"] (spFeed K) := by
  refine F.ok sc_L_feed (fun vs H Q E h => ?_) (fun cdv A outer s H vs Q E hr h => ?_)
  · obtain ⟨a, ns, rfl, _⟩ := h
    rfl
  · obtain ⟨a, ns, rfl, hS, q⟩ := h
    refine ⟨_, (pss_cons (ps_set (i := 1) sc_L_feed.nd rfl (Or.inl rfl) (pe_callTy call_list_of (by rfl) B.list (by decide +kernel) (pa_cons (pe_slice sl_list (pv 0) po_none (po_some pe_int)) pa_nil)))
      (pss_cons (ps_set (i := 2) sc_L_feed.nd rfl (Or.inl rfl) (pe_op op_add pe_int (pe_op op_mulW pe_int (pe_callB call_len_seq (by rfl) B.len PySem.boot_len (pa_cons (pv 1) pa_nil)))))
      (pss_cons (ps_for PassesOwn.never rfl (pi_list (pv 1)) (pg_name (i := 3) sc_L_feed.nd rfl (Or.inl rfl)) (pss_one (ps_set (i := 2) sc_L_feed.nd rfl (Or.inl rfl) (pe_op op_mod (pe_op op_add (pe_op op_add (pe_op op_mulW (pv 2) pe_int) (pe_op op_mod (pe_callTy call_int1 (by rfl) B.int (by decide +kernel) (pa_cons (pv 3) pa_nil)) pe_int)) pe_int) pe_int))))
      (pss_one (ps_ret (pe_lst (pa_cons (pv 1) (pa_cons pe_int (pa_cons pe_int (pa_cons (pv 2) pa_nil)))))))))), ?_⟩
    refine ⟨_, rfl, _, rfl, a, _, rfl, hS, fun c1 n1 => ?_⟩
    refine ⟨c1, _, rfl, .inl (SqL.of upd_same), fun c nc => ?_⟩
    refine ⟨_, rfl, c, _, rfl, .inl (SqL.of upd_same), _, _, rfl, rfl, mw (by decide) ?_, _, _, rfl, rfl, ?_⟩
    · show (((cutV (ns.map V.int) none (some 63)).length : Nat) : Int).natAbs < _
      rw [cut63, List.length_take]
      omega
    · obtain ⟨ms, ecut, l63⟩ : ∃ ms : List Int, cutV (ns.map V.int) none (some 63) = ms.map V.int ∧ ms.length ≤ 63 := ⟨ns.take 63, by rw [cut63, List.map_take], by rw [List.length_take]; omega⟩
      rw [ecut] at nc ⊢
      have s1 : Same H (upd H c1 (.lst (ms.map V.int))) := same_upd n1
      have s2 := s1.trans (same_upd (o := .lst (ms.map V.int)) nc)
      have nH : H c = none := s1.free nc
      refine ⟨_, rfl, c, rfl, ⟨_, SqL.of upd_same⟩, for_list (K := K) (a := c) (xs := ms.map V.int) (fun i σ H' => ∃ (m : Int) (v : Option V), σ = [some (.ref a), some (.ref c), some (.int m), v] ∧ H' = upd (upd H c1 (.lst (ms.map V.int))) c (.lst (ms.map V.int)) ∧ 0 ≤ m ∧ m < 2147483647)
        ⟨_, none, rfl, rfl, ?_, ?_⟩ ?_ ?_ ?_⟩
      · omega
      · rw [List.length_map]; omega
      · rintro i σ H' _ ⟨m, v, rfl, rfl, _⟩
        exact SqL.of upd_same
      · rintro i y σ H' hi ⟨m, v, rfl, rfl, m0, m1⟩
        obtain ⟨u, rfl⟩ : ∃ u, y = V.int u := by
          rw [List.getElem?_map] at hi
          cases e : ms[i]? with
          | none => rw [e] at hi; cases hi
          | some u => rw [e] at hi; exact ⟨u, (Option.some.inj hi).symm⟩
        refine ⟨_, rfl, _, _, rfl, rfl, mw (by omega) (by decide), _, rfl, .inl ⟨_, rfl, _, _, rfl, rfl, (by show (0 : Int) < 1000003; decide), _, _, rfl, rfl, _, _, rfl, rfl, _, _, rfl, rfl, (by show (0 : Int) < 2147483629; decide), ?_⟩⟩
        refine ⟨_, _, rfl, rfl, ?_, ?_⟩ <;> omega
      · rintro σ H' ⟨m, v, rfl, rfl, m0, m1⟩
        refine ⟨_, rfl, _, rfl, (by show 4 ≤ sizeLine; decide), fun p np => ?_⟩
        have npc : c ≠ p := fun e => by rw [← e, upd_same] at np; cases np
        refine q _ p c (s2.trans (same_upd np)) (s2.free np) ⟨ms, 0, 0, m, upd_same, ?_, npc, l63, by omega, m0, m1⟩
        rw [upd_ne npc, upd_same]
theorem ok_take {f : Addr} {fd : FuncData} {k : Nat} (F : Fun K "_law_take" "_law_take" s_L_take f fd) (B : Bn mg) : FnOk P w K mg base CX0 (k + 1) f fd ["_law_feed_here", "_law_many"] spTake := by
  refine F.ok sc_L_take (fun vs H Q E h => ?_) (fun cdv A outer s H vs Q E hr h => ?_)
  · obtain ⟨p, c, n, rfl, _⟩ := h
    rfl
  · obtain ⟨p, c, n, rfl, n0, n1, hF, q⟩ := h
    refine ⟨_, (pss_cons (ps_if (PW.pt (pw_and (pt_cmpR op_eq (pe_ix ix_list (pv 0) pe_int (fun _ _ => rfl)) pe_int (nomark _)) (pw_and1 (pt_cmpR op_lt (pe_ix ix_list (pv 0) pe_int (fun _ _ => rfl)) (pe_callB call_len_seq (by rfl) B.len PySem.boot_len (pa_cons (pe_ix ix_list (pv 0) pe_int (fun _ _ => rfl)) pa_nil)) (nomark _))))) (pss_cons (ps_set (i := 2) sc_L_take.nd rfl (Or.inl rfl) (pe_ix ix_list (pe_ix ix_list (pv 0) pe_int (fun _ _ => rfl)) (pe_ix ix_list (pv 0) pe_int (fun _ _ => rfl)) (fun _ _ => rfl)))
      (pss_cons (ps_asg (pe_op op_add (pe_ix ix_list (pv 0) pe_int (fun _ _ => rfl)) pe_int) (pg_sub (pv 0) pe_int set_list))
      (pss_one (ps_if (pt_cmpR op_ge (pv 2) (pe_op op_pow pe_int pe_int) (nomark _)) (pss_one (ps_asg (pv 2) (pg_sub (pv 0) pe_int set_list))) (pss_cons (ps_set (i := 3) sc_L_take.nd rfl (Or.inl rfl) (pe_op op_add (pe_op op_mulW (pe_ix ix_list (pv 0) pe_int (fun _ _ => rfl)) pe_int) (pe_op op_mod (pe_callTy call_int1 (by rfl) B.int (by decide +kernel) (pa_cons (pv 2) pa_nil)) pe_int)))
      (pss_one (ps_asg (pe_op op_mod (pe_op op_add (pv 3) (pe_op op_mulW (pe_ix ix_list (pv 0) pe_int (fun _ _ => rfl)) pe_int)) pe_int) (pg_sub (pv 0) pe_int set_list)))))))) pss_nil)
      (pss_cons (ps_if (pt_cmpR op_gt (pe_ix ix_list (pv 0) pe_int (fun _ _ => rfl)) pe_int (nomark _)) (pss_cons (ps_set (i := 4) sc_L_take.nd rfl (Or.inl rfl) (pe_op op_mod (pe_callTy call_int1 (by rfl) B.int (by decide +kernel) (pa_cons (pe_ix ix_list (pv 0) pe_int (fun _ _ => rfl)) pa_nil)) (pv 1)))
      (pss_cons (ps_asg (pe_op op_fdivW (pe_ix ix_list (pv 0) pe_int (fun _ _ => rfl)) (pv 1)) (pg_sub (pv 0) pe_int set_list))
      (pss_one (ps_ret (pv 4))))) pss_nil)
      (pss_cons (ps_asg (pe_op op_mod (pe_op op_add (pe_op op_mulW (pe_ix ix_list (pv 0) pe_int (fun _ _ => rfl)) pe_int) pe_int) pe_int) (pg_sub (pv 0) pe_int set_list))
      (pss_one (ps_ret (pe_op op_mod (pe_op op_fdivW (pe_op op_mod (pe_op op_mulW (pe_ix ix_list (pv 0) pe_int (fun _ _ => rfl)) (pe_callTy call_int1 (by rfl) B.int (by decide +kernel) (pa_cons (pe_ix ix_list (pv 0) pe_int (fun _ _ => rfl)) pa_nil))) pe_int) pe_int) (pv 1))))))), ?_⟩
    have hF0 := hF
    obtain ⟨ms, i, u, m, hp, hc, ncp, l63, u0, m0, m1⟩ := hF
    refine seq_cut (fun σ H' => ∃ (x2 x3 x4 : Option V) (i : Nat) (u m : Int), σ = [some (.ref p), some (.int n), x2, x3, x4] ∧ H' p = some (.lst [.ref c, .int i, .int u, .int m]) ∧ SameX p H H' ∧ 0 ≤ u ∧ 0 ≤ m ∧ m < 2147483647) ?_ ?_
    · rintro σ' H' ⟨x2, x3, x4, i, u, m, rfl, hp, sm, u0, m0, m1⟩
      have hc' := sm _ _ ncp hc
      have em := em'
      refine ⟨_, rfl, p, _, _, _, rfl, rfl, SqL.of hp, rfl, _, _, rfl, rfl, _, rfl, ?_⟩
      refine ite2 (fun h => ?_) (fun h => ?_)
      · have hu : 0 < u := by simpa using h
        refine ⟨_, rfl, p, _, _, _, rfl, rfl, SqL.of hp, rfl, .inl ⟨_, rfl, _, rfl, _, _, rfl, rfl, n0, ?_⟩⟩
        refine ⟨_, rfl, p, _, _, _, rfl, rfl, SqL.of hp, rfl, _, rfl, _, _, rfl, rfl, ⟨n0, n1⟩, _, rfl, p, _, _, 2, rfl, rfl, hp, rfl, ?_⟩
        refine ⟨_, rfl, q _ _ (em u n n0).1 (em u n n0).2 ⟨ms, i, u / n, m, upd_same, ?_, ncp, l63, Int.ediv_nonneg u0 (by omega), m0, m1⟩ (sm.trans sameX_upd)⟩
        rw [upd_ne ncp]
        exact hc'
      · refine ⟨_, rfl, p, _, _, _, rfl, rfl, SqL.of hp, rfl, _, _, rfl, rfl, mw (by omega) (by decide), _, _, rfl, rfl, _, _, rfl, rfl, (by show (0 : Int) < 2147483647; decide), _, rfl, p, _, _, 3, rfl, rfl, hp, rfl, ?_⟩
        have e3 := em (m * 69621 + 13) 2147483647 (by decide)
        refine ⟨_, rfl, p, _, _, _, rfl, rfl, SqL.of upd_same, rfl, _, rfl, p, _, _, _, rfl, rfl, SqL.of upd_same, rfl, .inl ⟨_, rfl, _, _, rfl, rfl, mw (by omega) (by omega), _, _, rfl, rfl, (by show (0 : Int) < 998244353; decide), _, _, rfl, rfl, dw (by decide) (by decide), _, rfl, _, _, rfl, rfl, n0, ?_⟩⟩
        refine q _ _ (em _ n n0).1 (em _ n n0).2 ⟨ms, i, u, _, upd_same, ?_, ncp, l63, u0, e3.1, e3.2⟩ (sm.trans sameX_upd)
        rw [upd_ne ncp]
        exact hc'
    · intro cont
      refine ⟨_, rfl, p, _, _, _, rfl, rfl, SqL.of hp, rfl, rfl, _, rfl, ?_⟩
      refine ite2 (fun h => ?_) (fun h => ?_)
      · refine ⟨_, rfl, p, _, _, _, rfl, rfl, SqL.of hp, rfl, _, rfl, p, _, _, _, rfl, rfl, SqL.of hp, rfl, c, _, rfl, .inl (SqL.of hc), _, _, rfl, rfl, _, rfl, ?_⟩
        refine ite2 (fun h2 => ?_) (fun h2 => ?_)
        · have hi : i < ms.length := by simpa using h2
          have hcell : (ms.map V.int)[i]? = some (.int ms[i]) := by rw [List.getElem?_map, List.getElem?_eq_getElem hi]; rfl
          generalize ms[i] = x at *
          refine ⟨_, rfl, p, _, _, _, rfl, rfl, SqL.of hp, rfl, _, rfl, p, _, _, _, rfl, rfl, SqL.of hp, rfl, c, _, _, _, rfl, rfl, SqL.of hc, atI_nat hcell, ?_⟩
          refine ⟨_, rfl, p, _, _, _, rfl, rfl, SqL.of hp, rfl, _, _, rfl, rfl, _, rfl, p, _, _, 1, rfl, rfl, hp, rfl, ?_⟩
          refine ⟨_, rfl, _, _, rfl, rfl, ⟨by decide, by decide, by decide⟩, _, _, rfl, rfl, _, rfl, ?_⟩
          refine ite2 (fun h3 => ?_) (fun h3 => ?_)
          · have hx : 10 ^ 18 ≤ x := by simpa using h3
            refine ⟨_, rfl, _, rfl, p, _, _, 2, rfl, rfl, upd_same, rfl, ?_⟩
            exact cont _ _ ⟨_, _, _, i + 1, x, m, rfl, upd_same, sameX_upd.trans sameX_upd, by omega, m0, m1⟩
          · refine ⟨_, rfl, p, _, _, _, rfl, rfl, SqL.of upd_same, rfl, _, _, rfl, rfl, mw (by omega) (by decide), _, rfl, .inl ⟨_, rfl, _, _, rfl, rfl, (by show (0 : Int) < 2147483563; decide), _, _, rfl, rfl, ?_⟩⟩
            refine ⟨_, rfl, _, rfl, p, _, _, _, rfl, rfl, SqL.of upd_same, rfl, _, _, rfl, rfl, mw (by show ((i : Int) + 1).natAbs < _; omega) (by decide), _, _, rfl, rfl, _, _, rfl, rfl, (by show (0 : Int) < 2147483647; decide), _, rfl, p, _, _, 3, rfl, rfl, upd_same, rfl, ?_⟩
            have e3 := fun a => em' a 2147483647 (by decide)
            exact cont _ _ ⟨_, _, _, i + 1, u, _, rfl, upd_same, sameX_upd.trans sameX_upd, u0, (e3 _).1, (e3 _).2⟩
        · exact cont _ _ ⟨_, _, _, i, u, m, rfl, hp, .refl, u0, m0, m1⟩
      · exact cont _ _ ⟨_, _, _, i, u, m, rfl, hp, .refl, u0, m0, m1⟩
end
end G
set_option Elab.async false
set_option linter.all false
set_option maxRecDepth 100000
namespace G
open PySem PySem.Spec PyProof.Rows L2 RZ
/-! ### the comparison of data -/
theorem _root_.L2.Same.tup {K : PySem.W.Frag} {H H' : Hp} {a : Addr} {xs : List V} (e : Same H H') (h : SqT K H a xs) : SqT K H' a xs := by
  rcases h with (h | ⟨o, h⟩) | h
  · exact .inl (.inl (e _ _ h))
  · exact .inl (.inr ⟨o, e _ _ h⟩)
  · exact .inr h
def flat : V → Bool
  | .non => true
  | .bl _ => true
  | .int _ => true
  | .str _ => true
  | _ => false
def EqV (K : PySem.W.Frag) (H : Hp) : Nat → V → V → Prop
  | 0, _, _ => False
  | n + 1, x, y => (flat x = true ∧ x = y) ∨ ∃ (a b : Addr) (xs ys : List V), x = .ref a ∧ y = .ref b ∧ ((H a = some (.lst xs) ∧ H b = some (.lst ys)) ∨ (SqT K H a xs ∧ SqT K H b ys)) ∧ xs.length = ys.length ∧ xs.length ≤ 1000 ∧ ∀ (i : Nat) (x y : V), xs[i]? = some x → ys[i]? = some y → EqV K H n x y
theorem EqV.same {K : PySem.W.Frag} {H H' : Hp} (e : Same H H') : ∀ (n : Nat) {x y : V}, EqV K H n x y → EqV K H' n x y
  | 0, _, _, h => h
  | n + 1, x, y, h => by
    rcases h with h | ⟨a, b, xs, ys, rfl, rfl, h1, h2, hk, h3⟩
    · exact .inl h
    · refine .inr ⟨a, b, xs, ys, rfl, rfl, ?_, h2, hk, fun i x y h4 h5 => EqV.same e n (h3 i x y h4 h5)⟩
      rcases h1 with ⟨p, q⟩ | ⟨p, q⟩
      · exact .inl ⟨e _ _ p, e _ _ q⟩
      · exact .inr ⟨e.tup p, e.tup q⟩
theorem ty_tup {K : PySem.W.Frag} {H : Hp} {a : Addr} {xs : List V} (h : SqT K H a xs) : TyX K H (.ref a) (.type "tuple") := by
  rcases h with (h | ⟨o, h⟩) | ⟨o, its, n, h, c, _⟩
  · exact .base (.tup h)
  · exact .fTuple h
  · exact .kTuple h c
theorem zip_turns {J : It} {xs ys : List V} {H0 : Hp} {Qd : Hp → Prop} {Bd : (Hp → Prop) → V → Hp → Prop} (hl : xs.length = ys.length) (Sq : Hp → Prop)
    (hgo : ∀ i x y H, Sq H → xs[i]? = some x → ys[i]? = some y → J.go i H) (hst : ∀ H, Sq H → J.stop xs.length H) (hyl : ∀ i v H H', Sq H → J.yld i H v H' → ∃ T x y, v = .ref T ∧ H T = none ∧ H' = upd H T (.tup [x, y]) ∧ xs[i]? = some x ∧ ys[i]? = some y)
    (Pv : Nat → Hp → Prop) (h0 : Pv 0 H0) (hq : ∀ i H, Pv i H → Sq H)
    (hs : ∀ (i : Nat) (x y : V) (T : Addr) (H : Hp), xs[i]? = some x → ys[i]? = some y → Pv i H → H T = none → Bd (Pv (i + 1)) (.ref T) (upd H T (.tup [x, y]))) (hd : ∀ H, Pv xs.length H → Qd H) :
    ∃ W : Nat → Nat → Hp → Prop, (∃ m, W 0 m H0) ∧ ∀ i m H, W i m H → (J.stop i H ∧ Qd H) ∨ (J.go i H ∧ ∃ Nx : Hp → Prop, (∀ H', Nx H' → ∃ m', m' < m ∧ W (i + 1) m' H') ∧ ∀ x H', J.yld i H x H' → Bd Nx x H') := by
  refine ⟨fun i m H => m = xs.length - i ∧ i ≤ xs.length ∧ Pv i H, ⟨xs.length, rfl, Nat.zero_le _, h0⟩, ?_⟩
  rintro i m H ⟨rfl, hi, p⟩
  have q := hq i H p
  by_cases hlt : i < xs.length
  · have hx : xs[i]? = some xs[i] := List.getElem?_eq_getElem hlt
    have hlt2 : i < ys.length := by omega
    have hy : ys[i]? = some ys[i] := List.getElem?_eq_getElem hlt2
    refine .inr ⟨hgo i _ _ H q hx hy, Pv (i + 1), fun H' p' => ⟨xs.length - (i + 1), by omega, rfl, hlt, p'⟩, fun v H' y => ?_⟩
    obtain ⟨T, x', y', rfl, hT, rfl, f1, f2⟩ := hyl i v H H' q y
    exact hs i x' y' T H f1 f2 p hT
  · have e : i = xs.length := by omega
    subst e
    exact .inl ⟨hst H q, hd H p⟩
def spSame (K : PySem.W.Frag) (n : Nat) : Sp := fun vs H Q _ => ∃ x y : V, vs = [x, y] ∧ EqV K H n x y ∧ ∀ H', Same H H' → Q (.bl true) H'
theorem kit {K : PySem.W.Frag} {a b : String} {r : Bool} (h : kitB a b = some r) : PySem.W.kitOne K (.type a) (.type b) = some r := kit_ty h
section
variable {P : Program} {w : World} {K : PySem.W.Frag} {mg : Str → Option Value} {base : Heap}
theorem ok_same {f : Addr} {fd : FuncData} (F : Fun K "_law_same" "_law_same" s_L_same f fd) (B : Bn mg) (mgS : mg "_law_same" = some (.ref f)) (bS : Binds K fd ["_law_found", "_law_due"] []) : ∀ n : Nat, FnOk P w K mg base CX0 (n + 1) f fd ["_law_found", "_law_due"] (spSame K n)
  | 0 => F.ok sc_L_same (fun vs H Q E h => by obtain ⟨x, y, _, h, _⟩ := h; exact h.elim) (fun cdv A outer s H vs Q E hr h => by obtain ⟨x, y, _, h, _⟩ := h; exact h.elim)
  | n + 1 => by
    have D_same : DefOk P w K mg base "_law_same" (n + 1) ["_law_found", "_law_due"] (spSame K n) := ⟨f, fd, ok_same F B mgS bS n, mgS, F.kp, bS⟩
    refine F.ok sc_L_same (fun vs H Q E h => ?_) (fun cdv A outer s H vs Q E hr h => ?_)
    · obtain ⟨x, y, rfl, _⟩ := h
      rfl
    · obtain ⟨x, y, rfl, h, q⟩ := h
      refine ⟨_, (pss_cons (ps_if (pt_cmpR op_isN (pv 1) pe_non (nomark _)) (pss_one (ps_ret (pe_cmpR op_isN (pv 0) pe_non (nomark _)))) pss_nil)
      (pss_cons (ps_if (PW.pt (pw_or (pt_val (pe_callB call_isi (by rfl) B.isinstance (by decide +kernel) (pa_cons (pv 1) (pa_cons (pe_bltn (v := .ty "bool") (u := .type "bool") (by rfl) B.bool (by decide +kernel) rfl) pa_nil)))) (pw_or1 (pt_val (pe_callB call_isi (by rfl) B.isinstance (by decide +kernel) (pa_cons (pv 0) (pa_cons (pe_bltn (v := .ty "bool") (u := .type "bool") (by rfl) B.bool (by decide +kernel) rfl) pa_nil))))))) (pss_one (ps_ret (pe_and (pe_callB call_isi (by rfl) B.isinstance (by decide +kernel) (pa_cons (pv 1) (pa_cons (pe_bltn (v := .ty "bool") (u := .type "bool") (by rfl) B.bool (by decide +kernel) rfl) pa_nil))) (pe_and (pe_callB call_isi (by rfl) B.isinstance (by decide +kernel) (pa_cons (pv 0) (pa_cons (pe_bltn (v := .ty "bool") (u := .type "bool") (by rfl) B.bool (by decide +kernel) rfl) pa_nil))) (pe_one (pe_cmpR op_eq (pv 0) (pv 1) (nomark _))))))) pss_nil)
      (pss_cons (ps_if (pt_val (pe_callB call_isiT (by rfl) B.isinstance (by decide +kernel) (pa_cons (pv 1) (pa_cons (pe_tup (pa_cons (pe_bltn (v := .ty "int") (u := .type "int") (by rfl) B.int (by decide +kernel) rfl) (pa_cons (pe_bltn (v := .ty "str") (u := .type "str") (by rfl) B.str (by decide +kernel) rfl) pa_nil))) pa_nil)))) (pss_one (ps_ret (pe_and (pe_callB call_isiT (by rfl) B.isinstance (by decide +kernel) (pa_cons (pv 0) (pa_cons (pe_tup (pa_cons (pe_bltn (v := .ty "int") (u := .type "int") (by rfl) B.int (by decide +kernel) rfl) (pa_cons (pe_bltn (v := .ty "str") (u := .type "str") (by rfl) B.str (by decide +kernel) rfl) pa_nil))) pa_nil))) (pe_and (pe_cmpR op_eq (pe_callB call_isi (by rfl) B.isinstance (by decide +kernel) (pa_cons (pv 0) (pa_cons (pe_bltn (v := .ty "int") (u := .type "int") (by rfl) B.int (by decide +kernel) rfl) pa_nil))) (pe_callB call_isi (by rfl) B.isinstance (by decide +kernel) (pa_cons (pv 1) (pa_cons (pe_bltn (v := .ty "int") (u := .type "int") (by rfl) B.int (by decide +kernel) rfl) pa_nil))) (nomark _)) (pe_one (pe_cmpR op_eq (pv 0) (pv 1) (nomark _))))))) pss_nil)
      (pss_cons (ps_if (PW.pt (pw_or (pt_cmpR op_ne (pe_callB call_isi (by rfl) B.isinstance (by decide +kernel) (pa_cons (pv 1) (pa_cons (pe_bltn (v := .ty "tuple") (u := .type "tuple") (by rfl) B.tuple (by decide +kernel) rfl) pa_nil))) (pe_callB call_isi (by rfl) B.isinstance (by decide +kernel) (pa_cons (pv 0) (pa_cons (pe_bltn (v := .ty "tuple") (u := .type "tuple") (by rfl) B.tuple (by decide +kernel) rfl) pa_nil))) (nomark _)) (pw_or1 (pt_cmpR op_ne (pe_callB call_isi (by rfl) B.isinstance (by decide +kernel) (pa_cons (pv 1) (pa_cons (pe_bltn (v := .ty "list") (u := .type "list") (by rfl) B.list (by decide +kernel) rfl) pa_nil))) (pe_callB call_isi (by rfl) B.isinstance (by decide +kernel) (pa_cons (pv 0) (pa_cons (pe_bltn (v := .ty "list") (u := .type "list") (by rfl) B.list (by decide +kernel) rfl) pa_nil))) (nomark _))))) (pss_one (ps_ret pe_bl)) pss_nil)
      (pss_one (ps_ret (pe_and (pe_cmpR op_eq (pe_callB call_len_seq (by rfl) B.len PySem.boot_len (pa_cons (pv 0) pa_nil)) (pe_callB call_len_seq (by rfl) B.len PySem.boot_len (pa_cons (pv 1) pa_nil)) (nomark _)) (pe_one (pe_callB (cr_all rfl) (by rfl) B.all (by decide +kernel) (pa_cons (pe_lc (own := [("_law_one", 2), ("_law_other", 3)]) (g := gTup K 2 (gCons (gName 2) (gCons (gName 3) gNil))) (tt := tYes) (by rfl) sc_L_same.nd (pi_zipA (by rfl) B.zip (pa_cons (pv 0) (pa_cons (pv 1) pa_nil))) (blkOk_by (own := [("_law_one", 2), ("_law_other", 3)]) (N := ["_law_found", "_law_due", "_law_one", "_law_other"]) (sc := (defScope s_L_same)) (by decide +kernel)) (fun _ _ _ _ _ => pg_tup (by rfl) (pgs_cons (pg_name (i := 2) sc_L_same.nd rfl (Or.inl rfl)) (pgs_cons (pg_name (i := 3) sc_L_same.nd rfl (Or.inl rfl)) pgs_nil))) (fun _ _ _ _ _ => pts_nil) (fun _ _ _ _ _ => (pe_callD D_same hr (pa_cons (pv 2) (pa_cons (pv 3) pa_nil))))) pa_nil)))))))))), ?_⟩
      rcases h with ⟨hf, rfl⟩ | ⟨a, b, xs, ys, rfl, rfl, hh, hl, hk, he⟩
      · cases x with
        | non =>
          refine ⟨_, rfl, rfl, _, rfl, ifT rfl ?_⟩
          exact ⟨_, rfl, rfl, q _ (.refl _)⟩
        | bl b =>
          refine ⟨_, rfl, rfl, _, rfl, ifF rfl ?_⟩
          refine ⟨_, rfl, _, _, _, _, true, rfl, .ty _, .base (.bl _), kit (by decide +kernel), _, rfl, ifT rfl ?_⟩
          refine ⟨_, rfl, _, _, _, _, true, rfl, .ty _, .base (.bl _), kit (by decide +kernel), _, rfl, ?_⟩
          refine ifT rfl ?_
          refine ⟨_, rfl, _, _, _, _, true, rfl, .ty _, .base (.bl _), kit (by decide +kernel), _, rfl, ifT rfl ?_⟩
          refine ⟨_, rfl, _, rfl, (by cases b <;> rfl), ?_⟩
          rw [show decide (V.bl b = V.bl b) = true from decide_eq_true rfl]
          exact q _ (.refl _)
        | int i =>
          refine ⟨_, rfl, rfl, _, rfl, ifF rfl ?_⟩
          refine ⟨_, rfl, _, _, _, _, false, rfl, .ty _, .base (.int _), kit (by decide +kernel), _, rfl, ifF rfl ?_⟩
          refine ⟨_, rfl, _, _, _, _, false, rfl, .ty _, .base (.int _), kit (by decide +kernel), _, rfl, ifF rfl ?_⟩
          refine ⟨_, rfl, (by show 2 ≤ sizeLine; decide), fun t nt => ?_⟩
          refine ⟨_, t, _, _, _, true, rfl, upd_same, .cons (.ty _) (.cons (.ty _) .nil), .base (.int _), kitAny_cons (b := true) (kit (by decide +kernel)) (fun z => by cases z) (fun _ => rfl), _, rfl, ifT rfl ?_⟩
          refine ⟨_, rfl, (by show 2 ≤ sizeLine; decide), fun t2 nt2 => ?_⟩
          refine ⟨_, t2, _, _, _, true, rfl, upd_same, .cons (.ty _) (.cons (.ty _) .nil), .base (.int _), kitAny_cons (b := true) (kit (by decide +kernel)) (fun z => by cases z) (fun _ => rfl), _, rfl, ifT rfl ?_⟩
          refine ⟨_, rfl, _, _, _, _, true, rfl, .ty _, .base (.int _), kit (by decide +kernel), ?_⟩
          refine ⟨_, rfl, _, _, _, _, true, rfl, .ty _, .base (.int _), kit (by decide +kernel), rfl, _, rfl, ifT rfl ?_⟩
          refine ⟨_, rfl, _, rfl, rfl, ?_⟩
          rw [show decide (V.int i = V.int i) = true from decide_eq_true rfl]
          exact q _ ((same_upd nt).trans (same_upd nt2))
        | str z =>
          refine ⟨_, rfl, rfl, _, rfl, ifF rfl ?_⟩
          refine ⟨_, rfl, _, _, _, _, false, rfl, .ty _, .base (.str _), kit (by decide +kernel), _, rfl, ifF rfl ?_⟩
          refine ⟨_, rfl, _, _, _, _, false, rfl, .ty _, .base (.str _), kit (by decide +kernel), _, rfl, ifF rfl ?_⟩
          refine ⟨_, rfl, (by show 2 ≤ sizeLine; decide), fun t nt => ?_⟩
          refine ⟨_, t, _, _, _, true, rfl, upd_same, .cons (.ty _) (.cons (.ty _) .nil), .base (.str _), kitAny_cons (b := false) (kit (by decide +kernel)) (fun _ => kitAny_cons (b := true) (kit (by decide +kernel)) (fun z => by cases z) (fun _ => rfl)) (fun _ => rfl), _, rfl, ifT rfl ?_⟩
          refine ⟨_, rfl, (by show 2 ≤ sizeLine; decide), fun t2 nt2 => ?_⟩
          refine ⟨_, t2, _, _, _, true, rfl, upd_same, .cons (.ty _) (.cons (.ty _) .nil), .base (.str _), kitAny_cons (b := false) (kit (by decide +kernel)) (fun _ => kitAny_cons (b := true) (kit (by decide +kernel)) (fun z => by cases z) (fun _ => rfl)) (fun _ => rfl), _, rfl, ifT rfl ?_⟩
          refine ⟨_, rfl, _, _, _, _, false, rfl, .ty _, .base (.str _), kit (by decide +kernel), ?_⟩
          refine ⟨_, rfl, _, _, _, _, false, rfl, .ty _, .base (.str _), kit (by decide +kernel), rfl, _, rfl, ifT rfl ?_⟩
          refine ⟨_, rfl, _, rfl, rfl, ?_⟩
          rw [show decide (V.str z = V.str z) = true from decide_eq_true rfl]
          exact q _ ((same_upd nt).trans (same_upd nt2))
        | _ => cases hf
      · obtain ⟨tn, bT, bL, tA, tB, k1, k2, k3, k4, k5⟩ : ∃ (tn : String) (bT bL : Bool), (∀ H', Same H H' → TyX K H' (.ref a) (.type tn)) ∧ (∀ H', Same H H' → TyX K H' (.ref b) (.type tn)) ∧ kitB tn "bool" = some false ∧ kitB tn "int" = some false ∧ kitB tn "str" = some false ∧ kitB tn "tuple" = some bT ∧ kitB tn "list" = some bL := by
          rcases hh with ⟨h1, h2⟩ | ⟨h1, h2⟩
          · exact ⟨"list", false, true, fun H' e => .base (.lst (e _ _ h1)), fun H' e => .base (.lst (e _ _ h2)), by decide +kernel, by decide +kernel, by decide +kernel, by decide +kernel, by decide +kernel⟩
          · exact ⟨"tuple", true, false, fun H' e => ty_tup (e.tup h1), fun H' e => ty_tup (e.tup h2), by decide +kernel, by decide +kernel, by decide +kernel, by decide +kernel, by decide +kernel⟩
        refine ⟨_, rfl, rfl, _, rfl, ifF rfl ?_⟩
        refine ⟨_, rfl, _, _, _, _, false, rfl, .ty _, tB _ (.refl _), kit k1, _, rfl, ifF rfl ?_⟩
        refine ⟨_, rfl, _, _, _, _, false, rfl, .ty _, tA _ (.refl _), kit k1, _, rfl, ifF rfl ?_⟩
        refine ⟨_, rfl, (by show 2 ≤ sizeLine; decide), fun t nt => ?_⟩
        have s1 : Same H (upd H t (.tup [.ty "int", .ty "str"])) := same_upd nt
        refine ⟨_, t, _, _, _, false, rfl, upd_same, .cons (.ty _) (.cons (.ty _) .nil), tB _ s1, kitAny_cons (b := false) (kit k2) (fun _ => kitAny_cons (b := false) (kit k3) (fun _ => kitAny_nil) (fun z => by cases z)) (fun z => by cases z), _, rfl, ifF rfl ?_⟩
        refine ⟨_, rfl, _, _, _, _, bT, rfl, .ty _, tB _ s1, kit k4, _, rfl, _, _, _, _, bT, rfl, .ty _, tA _ s1, kit k4, (by cases bT <;> rfl), _, rfl, ifF (by cases bT <;> rfl) ?_⟩
        refine ⟨_, rfl, _, _, _, _, bL, rfl, .ty _, tB _ s1, kit k5, _, rfl, _, _, _, _, bL, rfl, .ty _, tA _ s1, kit k5, (by cases bL <;> rfl), _, rfl, ifF (by cases bL <;> rfl) ?_⟩
        have hsz : ∀ i, i ≤ xs.length → i < sizeLine := fun i hi => small1000 (by omega)
        rcases hh with ⟨h1, h2⟩ | ⟨h1, h2⟩
        · have q1 : ∀ H', Same (upd H t (.tup [.ty "int", .ty "str"])) H' → H' a = some (.lst xs) ∧ H' b = some (.lst ys) := fun H' e => ⟨e _ _ (s1 _ _ h1), e _ _ (s1 _ _ h2)⟩
          refine ⟨_, rfl, a, _, rfl, .inl (SqL.of (s1 _ _ h1)), _, rfl, b, _, rfl, .inl (SqL.of (s1 _ _ h2)), rfl, _, rfl, ifT (by rw [hl]; exact decide_eq_true rfl) ?_⟩
          refine ⟨_, rfl, _, rfl, a, b, xs, ys, rfl, .inl ⟨SqL.of (s1 _ _ h1), SqL.of (s1 _ _ h2), fun D nD => ?_⟩⟩
          refine zip_turns hl (fun H' => SqL K H' a xs ∧ SqL K H' b ys) (fun i x y H' q hx hy => ⟨xs, ys, x, y, q.1, q.2, hx, hy⟩) (fun H' q => ⟨xs, ys, q.1, q.2, .inl (Nat.le_refl _)⟩) (fun i v H' H2 q hy => ?_)
            (fun i H' => Same (upd H t (.tup [.ty "int", .ty "str"])) H' ∧ H' D = some (.lst ((List.replicate i true).map V.bl))) ⟨same_upd nD, upd_same⟩ (fun i H' q => ⟨SqL.of (q1 _ q.1).1, SqL.of (q1 _ q.1).2⟩) ?_ ?_
          · obtain ⟨T, x', y', rfl, hT, rfl, f1, f2⟩ := hy
            exact ⟨T, x', y', rfl, hT, rfl, f1 _ q.1, f2 _ q.2⟩
          · rintro i x y T H' hx hy ⟨sm, hD⟩ nT
            have sT := same_upd (o := .tup [x, y]) nT
            refine ⟨T, [x, y], rfl, SqT.of upd_same, rfl, x, [y], rfl, y, [], rfl, rfl, rfl, ?_⟩
            dsimp only [tYes]
            rw [if_pos rfl]
            refine ⟨_, rfl, _, rfl, x, y, rfl, ((he i x y hx hy).same ((s1.trans sm).trans sT)), fun H2 s2 => ?_⟩
            refine ⟨_, s2 _ _ (sT _ _ hD), by rw [List.length_map, List.length_replicate]; exact hsz _ (by have := (List.getElem?_eq_some_iff.mp hx).1; omega), ?_, ?_⟩
            · intro c o e
              have nc : c ≠ D := ne_of_none e nD
              rw [upd_ne nc]
              exact s2 _ _ (sT _ _ (sm _ _ e))
            · rw [upd_same, List.replicate_succ', List.map_append]
              rfl
          · rintro H' ⟨sm, hD⟩
            refine ⟨D, List.replicate xs.length true, rfl, SqL.of hD, ?_⟩
            rw [show (List.replicate xs.length true).all id = true by simp]
            exact q _ (s1.trans sm)
        · have q1 : ∀ H', Same (upd H t (.tup [.ty "int", .ty "str"])) H' → SqT K H' a xs ∧ SqT K H' b ys := fun H' e => ⟨e.tup (s1.tup h1), e.tup (s1.tup h2)⟩
          refine ⟨_, rfl, a, _, rfl, .inr (s1.tup h1), _, rfl, b, _, rfl, .inr (s1.tup h2), rfl, _, rfl, ifT (by rw [hl]; exact decide_eq_true rfl) ?_⟩
          refine ⟨_, rfl, _, rfl, a, b, xs, ys, rfl, .inr ⟨s1.tup h1, s1.tup h2, fun D nD => ?_⟩⟩
          refine zip_turns hl (fun H' => SqT K H' a xs ∧ SqT K H' b ys) (fun i x y H' q hx hy => ⟨xs, ys, x, y, q.1, q.2, hx, hy⟩) (fun H' q => ⟨xs, ys, q.1, q.2, .inl (Nat.le_refl _)⟩) (fun i v H' H2 q hy => ?_)
            (fun i H' => Same (upd H t (.tup [.ty "int", .ty "str"])) H' ∧ H' D = some (.lst ((List.replicate i true).map V.bl))) ⟨same_upd nD, upd_same⟩ (fun i H' q => q1 _ q.1) ?_ ?_
          · obtain ⟨T, x', y', rfl, hT, rfl, f1, f2⟩ := hy
            exact ⟨T, x', y', rfl, hT, rfl, f1 _ q.1, f2 _ q.2⟩
          · rintro i x y T H' hx hy ⟨sm, hD⟩ nT
            have sT := same_upd (o := .tup [x, y]) nT
            refine ⟨T, [x, y], rfl, SqT.of upd_same, rfl, x, [y], rfl, y, [], rfl, rfl, rfl, ?_⟩
            dsimp only [tYes]
            rw [if_pos rfl]
            refine ⟨_, rfl, _, rfl, x, y, rfl, ((he i x y hx hy).same ((s1.trans sm).trans sT)), fun H2 s2 => ?_⟩
            refine ⟨_, s2 _ _ (sT _ _ hD), by rw [List.length_map, List.length_replicate]; exact hsz _ (by have := (List.getElem?_eq_some_iff.mp hx).1; omega), ?_, ?_⟩
            · intro c o e
              have nc : c ≠ D := ne_of_none e nD
              rw [upd_ne nc]
              exact s2 _ _ (sT _ _ (sm _ _ e))
            · rw [upd_same, List.replicate_succ', List.map_append]
              rfl
          · rintro H' ⟨sm, hD⟩
            refine ⟨D, List.replicate xs.length true, rfl, SqL.of hD, ?_⟩
            rw [show (List.replicate xs.length true).all id = true by simp]
            exact q _ (s1.trans sm)
end
end G
set_option Elab.async false
set_option linter.all false
set_option maxRecDepth 100000
namespace G
open PySem PySem.Spec PyProof.Rows L2
/-! ### what the top has written -/
section
variable {K : PySem.W.Frag} {C f p g : Addr} {x m qual : Str} {st : Stmt} {oc kV dc pm cd ct mc : Value} {od an : Option Addr} {sl : Array (Option Value)} {rest : List Value} {h : Heap} {mg : Str → Option Value}
def FnAt (K : PySem.W.Frag) (x qual : Str) (st : Stmt) (f : Addr) : Prop := ∃ fd : FuncData, Fun K x qual st f fd
theorem FnAt.mk (l : K.lookup f = some ⟨oc, od, .func (PySem.W.fnOf x qual (defArgs st) (defBody st) (defScope st) .none kV dc pm an cd ct), sl⟩) (c : PySem.W.codeIn K cd qual = true) (k : PySem.W.keepIn K (.ref f) = true) : FnAt K x qual st f := ⟨_, fun_mk (st := st) l c k⟩
def TopFn (K : PySem.W.Frag) (x : Str) (st : Stmt) : Prop := ∃ f : Addr, PySem.W.nsIn K mainGlobals x = some (some (.ref f)) ∧ FnAt K x x st f
theorem TopFn.mk (a : PySem.W.nsIn K mainGlobals x = some (some (.ref f))) (l : K.lookup f = some ⟨oc, od, .func (PySem.W.fnOf x x (defArgs st) (defBody st) (defScope st) .none kV dc pm an cd ct), sl⟩) (c : PySem.W.codeIn K cd x = true) (k : PySem.W.keepIn K (.ref f) = true) : TopFn K x st := ⟨f, a, .mk l c k⟩
theorem TopFn.get (T : TopFn K x st) (X : K.In h) (G : h.Ns mainGlobals mg) : ∃ (f : Addr) (fd : FuncData), Fun K x x st f fd ∧ mg x = some (.ref f) := by
  obtain ⟨f, a, fd, F⟩ := T
  exact ⟨f, fd, F, PySem.W.mg_of X G a⟩
/-- the law itself: with its data told, for the binding -/
def TopLaw (K : PySem.W.Frag) (x : Str) (st : Stmt) : Prop := ∃ (f : Addr) (oc kV dc pm cd ct : Value) (od an : Option Addr) (sl : Array (Option Value)), PySem.W.nsIn K mainGlobals x = some (some (.ref f)) ∧ K.lookup f = some ⟨oc, od, .func (PySem.W.fnOf x x (defArgs st) (defBody st) (defScope st) .none kV dc pm an cd ct), sl⟩ ∧ PySem.W.codeIn K cd x = true ∧ PySem.W.keepIn K (.ref f) = true
theorem TopLaw.mk (a : PySem.W.nsIn K mainGlobals x = some (some (.ref f))) (l : K.lookup f = some ⟨oc, od, .func (PySem.W.fnOf x x (defArgs st) (defBody st) (defScope st) .none kV dc pm an cd ct), sl⟩) (c : PySem.W.codeIn K cd x = true) (k : PySem.W.keepIn K (.ref f) = true) : TopLaw K x st := ⟨f, oc, kV, dc, pm, cd, ct, od, an, sl, a, l, c, k⟩
def TopMeth (K : PySem.W.Frag) (C : Addr) (m qual : Str) (st : Stmt) : Prop := ∃ f : Addr, Meth K C m f ∧ FnAt K m qual st f
theorem TopMeth.mk (a : PySem.W.findIn K (.ref C) m = some (some (.ref f))) (i : PySem.W.isFn K (.ref f) = true) (l : K.lookup f = some ⟨oc, od, .func (PySem.W.fnOf m qual (defArgs st) (defBody st) (defScope st) .none kV dc pm an cd ct), sl⟩) (c : PySem.W.codeIn K cd qual = true) (k : PySem.W.keepIn K (.ref f) = true) : TopMeth K C m qual st := ⟨f, ⟨a, i, k⟩, .mk l c k⟩
def TopProp (K : PySem.W.Frag) (C : Addr) (m qual : Str) (st : Stmt) : Prop := ∃ p g : Addr, PropOf K C m p g ∧ FnAt K m qual st g
theorem TopProp.mk (a : PySem.W.findIn K (.ref C) m = some (some (.ref p))) (s : PySem.W.specialIn K (.ref p) "__get__" = some (some (.builtin "property.__get__"))) (t : PySem.W.takesIn K (.ref p) = some true) (r : PySem.W.recIn K p "property" = some (.ref g :: rest)) (l : K.lookup g = some ⟨oc, od, .func (PySem.W.fnOf m qual (defArgs st) (defBody st) (defScope st) .none kV dc pm an cd ct), sl⟩) (c : PySem.W.codeIn K cd qual = true) (k : PySem.W.keepIn K (.ref g) = true) : TopProp K C m qual st := ⟨p, g, ⟨a, s, t, _, r⟩, .mk l c k⟩
def TopStat (K : PySem.W.Frag) (C : Addr) (m qual : Str) (st : Stmt) : Prop := ∃ (mc : Value) (p g : Addr), SMet K C mc m p g ∧ FnAt K m qual st g
theorem TopStat.mk (ty : PySem.W.typeIn K (.ref C) = some mc) (rd : PySem.W.readsIn K C mc = true) (ga : PySem.W.specialIn K (.ref C) "__getattribute__" = some (some (.builtin "type.__getattribute__"))) (a : PySem.W.findCls K (.ref C) mc m = some (.get (.builtin "staticmethod.__get__") (.ref p) .none (.ref C))) (r : PySem.W.recIn K p "staticmethod" = some (.ref g :: rest)) (l : K.lookup g = some ⟨oc, od, .func (PySem.W.fnOf m qual (defArgs st) (defBody st) (defScope st) .none kV dc pm an cd ct), sl⟩) (c : PySem.W.codeIn K cd qual = true) (k : PySem.W.keepIn K (.ref g) = true) : TopStat K C m qual st := ⟨mc, p, g, ⟨rd, ty, ga, a, ⟨_, r⟩, k⟩, .mk l c k⟩
def TopCls (K : PySem.W.Frag) (x : Str) (C : Addr) : Prop := PySem.W.nsIn K mainGlobals x = some (some (.ref C)) ∧ Cls K C ∧ PySem.W.selfFirst K C = true ∧ PySem.W.mroIn K C (.type "object") = some true ∧ PySem.W.makesIn K C = true ∧ PySem.W.keepIn K (.ref C) = true
theorem TopCls.mk (a : PySem.W.nsIn K mainGlobals x = some (some (.ref C))) (pg : PySem.W.plainGet K C Str.empty = true) (hd : PySem.W.hasDictIn K C = true) (po : PySem.W.plainOver K C = true) (sa : PySem.W.findIn K (.ref C) "__setattr__" = some (some (.builtin "object.__setattr__"))) (sf : PySem.W.selfFirst K C = true) (mr : PySem.W.mroIn K C (.type "object") = some true) (mk : PySem.W.makesIn K C = true) (kc : PySem.W.keepIn K (.ref C) = true) : TopCls K x C := ⟨a, ⟨pg, hd, po, sa⟩, sf, mr, mk, kc⟩
theorem TopCls.facts (T : TopCls K x C) (X : K.In h) (G : h.Ns mainGlobals mg) : ClsFacts K mg x C := ⟨T.2.1, PySem.W.mg_of X G T.1, T.2.2.1, T.2.2.2.1⟩
end
end G
set_option linter.all false
namespace G
/-! ### fours by their halves -/
structure Q4 where
  a : Int
  b : Int
  c : Int
  d : Int
deriving DecidableEq
namespace Q4
def Par (u : Q4) : Prop := u.a % 2 = u.b % 2 ∧ u.a % 2 = u.c % 2 ∧ u.a % 2 = u.d % 2
def add (u v : Q4) : Q4 := ⟨u.a + v.a, u.b + v.b, u.c + v.c, u.d + v.d⟩
def sub (u v : Q4) : Q4 := ⟨u.a - v.a, u.b - v.b, u.c - v.c, u.d - v.d⟩
def neg (u : Q4) : Q4 := ⟨-u.a, -u.b, -u.c, -u.d⟩
def mir (u : Q4) : Q4 := ⟨u.a, -u.b, -u.c, -u.d⟩
def mul (u v : Q4) : Q4 :=
  ⟨(u.a * v.a - u.b * v.b - u.c * v.c - u.d * v.d) / 2, (u.a * v.b + u.b * v.a + u.c * v.d - u.d * v.c) / 2,
   (u.a * v.c - u.b * v.d + u.c * v.a + u.d * v.b) / 2, (u.a * v.d + u.b * v.c - u.c * v.b + u.d * v.a) / 2⟩
def size (u : Q4) : Int := (u.a * u.a + u.b * u.b + u.c * u.c + u.d * u.d) / 4
theorem Par.wit {u : Q4} (h : u.Par) : ∃ x y z, u.b = u.a + 2 * x ∧ u.c = u.a + 2 * y ∧ u.d = u.a + 2 * z := by
  obtain ⟨h1, h2, h3⟩ := h
  exact ⟨(u.b - u.a) / 2, (u.c - u.a) / 2, (u.d - u.a) / 2, by omega, by omega, by omega⟩
theorem Par.mk' {u : Q4} {x y z : Int} (h1 : u.b = u.a + 2 * x) (h2 : u.c = u.a + 2 * y) (h3 : u.d = u.a + 2 * z) : u.Par := ⟨by omega, by omega, by omega⟩
theorem half_eq {n m : Int} (h : n = 2 * m) : n / 2 = m := by omega
/-- the halves of a product, doubled -/
structure Dbl (u v : Q4) : Prop where
  a : 2 * (mul u v).a = u.a * v.a - u.b * v.b - u.c * v.c - u.d * v.d
  b : 2 * (mul u v).b = u.a * v.b + u.b * v.a + u.c * v.d - u.d * v.c
  c : 2 * (mul u v).c = u.a * v.c - u.b * v.d + u.c * v.a + u.d * v.b
  d : 2 * (mul u v).d = u.a * v.d + u.b * v.c - u.c * v.b + u.d * v.a
theorem mul_all {u v : Q4} (hu : u.Par) (hv : v.Par) : Dbl u v ∧ (mul u v).Par := by
  obtain ⟨x, y, z, h1, h2, h3⟩ := hu.wit
  obtain ⟨p, q, r, k1, k2, k3⟩ := hv.wit
  have ea : u.a * v.a - u.b * v.b - u.c * v.c - u.d * v.d = 2 * (-(u.a * v.a) - u.a * p - x * v.a - 2 * x * p - u.a * q - y * v.a - 2 * y * q - u.a * r - z * v.a - 2 * z * r) := by rw [h1, h2, h3, k1, k2, k3]; grind
  have eb : u.a * v.b + u.b * v.a + u.c * v.d - u.d * v.c = 2 * (u.a * v.a + u.a * p + x * v.a + u.a * r + y * v.a + 2 * y * r - u.a * q - z * v.a - 2 * z * q) := by rw [h1, h2, h3, k1, k2, k3]; grind
  have ec : u.a * v.c - u.b * v.d + u.c * v.a + u.d * v.b = 2 * (u.a * v.a + u.a * q + y * v.a - u.a * r - x * v.a - 2 * x * r + u.a * p + z * v.a + 2 * z * p) := by rw [h1, h2, h3, k1, k2, k3]; grind
  have ed : u.a * v.d + u.b * v.c - u.c * v.b + u.d * v.a = 2 * (u.a * v.a + u.a * r + z * v.a + u.a * q + x * v.a + 2 * x * q - u.a * p - y * v.a - 2 * y * p) := by rw [h1, h2, h3, k1, k2, k3]; grind
  have fa := half_eq ea
  have fb := half_eq eb
  have fc := half_eq ec
  have fd := half_eq ed
  refine ⟨⟨?_, ?_, ?_, ?_⟩, Par.mk' (x := u.a * v.a + u.a * p + x * v.a + x * p + u.a * r + y * v.a + y * r + y * q - z * q + z * r) (y := u.a * v.a + u.a * q + y * v.a + y * q + x * p - x * r + u.a * p + z * v.a + z * p + z * r) (z := u.a * v.a + u.a * r + z * v.a + z * r + u.a * q + x * v.a + x * q + x * p + y * q - y * p) ?_ ?_ ?_⟩
  · show 2 * (_ / 2) = _; rw [fa, ea]
  · show 2 * (_ / 2) = _; rw [fb, eb]
  · show 2 * (_ / 2) = _; rw [fc, ec]
  · show 2 * (_ / 2) = _; rw [fd, ed]
  · show _ / 2 = _ / 2 + _; rw [fa, fb]; grind
  · show _ / 2 = _ / 2 + _; rw [fa, fc]; grind
  · show _ / 2 = _ / 2 + _; rw [fa, fd]; grind
theorem ext {u v : Q4} (h1 : u.a = v.a) (h2 : u.b = v.b) (h3 : u.c = v.c) (h4 : u.d = v.d) : u = v := by
  cases u; cases v; simp_all
theorem size4 {u : Q4} (hu : u.Par) : 4 * size u = u.a * u.a + u.b * u.b + u.c * u.c + u.d * u.d := by
  obtain ⟨x, y, z, h1, h2, h3⟩ := hu.wit
  have e : u.a * u.a + u.b * u.b + u.c * u.c + u.d * u.d = 4 * (u.a * u.a + u.a * x + u.a * y + u.a * z + x * x + y * y + z * z) := by rw [h1, h2, h3]; grind
  show 4 * (_ / 4) = _
  omega
theorem add_par {u v : Q4} (hu : u.Par) (hv : v.Par) : (add u v).Par := by
  obtain ⟨h1, h2, h3⟩ := hu; obtain ⟨k1, k2, k3⟩ := hv
  refine ⟨?_, ?_, ?_⟩ <;> simp only [add] <;> omega
theorem sub_par {u v : Q4} (hu : u.Par) (hv : v.Par) : (sub u v).Par := by
  obtain ⟨h1, h2, h3⟩ := hu; obtain ⟨k1, k2, k3⟩ := hv
  refine ⟨?_, ?_, ?_⟩ <;> simp only [sub] <;> omega
theorem neg_par {u : Q4} (hu : u.Par) : (neg u).Par := by
  obtain ⟨h1, h2, h3⟩ := hu
  refine ⟨?_, ?_, ?_⟩ <;> simp only [neg] <;> omega
theorem mir_par {u : Q4} (hu : u.Par) : (mir u).Par := by
  obtain ⟨h1, h2, h3⟩ := hu
  refine ⟨?_, ?_, ?_⟩ <;> simp only [mir] <;> omega
def whole (n : Int) : Q4 := ⟨2 * n, 0, 0, 0⟩
theorem whole_par (n : Int) : (whole n).Par := by refine ⟨?_, ?_, ?_⟩ <;> simp only [whole] <;> omega
theorem two_eq {x y : Int} (h : 2 * x = 2 * y) : x = y := by omega
theorem assoc {u v w : Q4} (hu : u.Par) (hv : v.Par) (hw : w.Par) : mul (mul u v) w = mul u (mul v w) := by
  obtain ⟨A, pA⟩ := mul_all hu hv
  obtain ⟨B, pB⟩ := mul_all hv hw
  obtain ⟨C, _⟩ := mul_all pA hw
  obtain ⟨D, _⟩ := mul_all hu pB
  have a1 := A.a; have a2 := A.b; have a3 := A.c; have a4 := A.d
  have b1 := B.a; have b2 := B.b; have b3 := B.c; have b4 := B.d
  have c1 := C.a; have c2 := C.b; have c3 := C.c; have c4 := C.d
  have d1 := D.a; have d2 := D.b; have d3 := D.c; have d4 := D.d
  generalize mul (mul u v) w = S at *
  generalize mul u (mul v w) = T at *
  generalize mul u v = m at *
  generalize mul v w = n at *
  have ea : S.a = T.a := by
    have h1 : 4 * S.a = (2 * m.a) * w.a - (2 * m.b) * w.b - (2 * m.c) * w.c - (2 * m.d) * w.d := by
      have : 4 * S.a = 2 * (2 * S.a) := by omega
      rw [this, c1]; grind
    have h2 : 4 * T.a = u.a * (2 * n.a) - u.b * (2 * n.b) - u.c * (2 * n.c) - u.d * (2 * n.d) := by
      have : 4 * T.a = 2 * (2 * T.a) := by omega
      rw [this, d1]; grind
    have h3 : 4 * S.a = 4 * T.a := by
      rw [h1, h2, a1, a2, a3, a4, b1, b2, b3, b4]; grind
    omega
  have eb : S.b = T.b := by
    have h1 : 4 * S.b = (2 * m.a) * w.b + (2 * m.b) * w.a + (2 * m.c) * w.d - (2 * m.d) * w.c := by
      have : 4 * S.b = 2 * (2 * S.b) := by omega
      rw [this, c2]; grind
    have h2 : 4 * T.b = u.a * (2 * n.b) + u.b * (2 * n.a) + u.c * (2 * n.d) - u.d * (2 * n.c) := by
      have : 4 * T.b = 2 * (2 * T.b) := by omega
      rw [this, d2]; grind
    have h3 : 4 * S.b = 4 * T.b := by
      rw [h1, h2, a1, a2, a3, a4, b1, b2, b3, b4]; grind
    omega
  have ec : S.c = T.c := by
    have h1 : 4 * S.c = (2 * m.a) * w.c - (2 * m.b) * w.d + (2 * m.c) * w.a + (2 * m.d) * w.b := by
      have : 4 * S.c = 2 * (2 * S.c) := by omega
      rw [this, c3]; grind
    have h2 : 4 * T.c = u.a * (2 * n.c) - u.b * (2 * n.d) + u.c * (2 * n.a) + u.d * (2 * n.b) := by
      have : 4 * T.c = 2 * (2 * T.c) := by omega
      rw [this, d3]; grind
    have h3 : 4 * S.c = 4 * T.c := by
      rw [h1, h2, a1, a2, a3, a4, b1, b2, b3, b4]; grind
    omega
  have ed : S.d = T.d := by
    have h1 : 4 * S.d = (2 * m.a) * w.d + (2 * m.b) * w.c - (2 * m.c) * w.b + (2 * m.d) * w.a := by
      have : 4 * S.d = 2 * (2 * S.d) := by omega
      rw [this, c4]; grind
    have h2 : 4 * T.d = u.a * (2 * n.d) + u.b * (2 * n.c) - u.c * (2 * n.b) + u.d * (2 * n.a) := by
      have : 4 * T.d = 2 * (2 * T.d) := by omega
      rw [this, d4]; grind
    have h3 : 4 * S.d = 4 * T.d := by
      rw [h1, h2, a1, a2, a3, a4, b1, b2, b3, b4]; grind
    omega
  exact ext ea eb ec ed
theorem dist {u v w : Q4} (hu : u.Par) (hv : v.Par) (hw : w.Par) : mul u (add v w) = add (mul u v) (mul u w) := by
  obtain ⟨A, _⟩ := mul_all hu hv
  obtain ⟨B, _⟩ := mul_all hu hw
  obtain ⟨C, _⟩ := mul_all hu (add_par hv hw)
  have a1 := A.a; have a2 := A.b; have a3 := A.c; have a4 := A.d
  have b1 := B.a; have b2 := B.b; have b3 := B.c; have b4 := B.d
  have c1 := C.a; have c2 := C.b; have c3 := C.c; have c4 := C.d
  generalize mul u (add v w) = S at *
  generalize mul u v = m at *
  generalize mul u w = n at *
  refine ext ?_ ?_ ?_ ?_ <;> simp only [add] at * <;> grind
theorem dist' {u v w : Q4} (hu : u.Par) (hv : v.Par) (hw : w.Par) : mul (add u v) w = add (mul u w) (mul v w) := by
  obtain ⟨A, _⟩ := mul_all hu hw
  obtain ⟨B, _⟩ := mul_all hv hw
  obtain ⟨C, _⟩ := mul_all (add_par hu hv) hw
  have a1 := A.a; have a2 := A.b; have a3 := A.c; have a4 := A.d
  have b1 := B.a; have b2 := B.b; have b3 := B.c; have b4 := B.d
  have c1 := C.a; have c2 := C.b; have c3 := C.c; have c4 := C.d
  generalize mul (add u v) w = S at *
  generalize mul u w = m at *
  generalize mul v w = n at *
  refine ext ?_ ?_ ?_ ?_ <;> simp only [add] at * <;> grind
theorem mir_mul {u v : Q4} (hu : u.Par) (hv : v.Par) : mir (mul u v) = mul (mir v) (mir u) := by
  obtain ⟨A, _⟩ := mul_all hu hv
  obtain ⟨B, _⟩ := mul_all (mir_par hv) (mir_par hu)
  have a1 := A.a; have a2 := A.b; have a3 := A.c; have a4 := A.d
  have b1 := B.a; have b2 := B.b; have b3 := B.c; have b4 := B.d
  generalize mul (mir v) (mir u) = S at *
  generalize mul u v = m at *
  refine ext ?_ ?_ ?_ ?_ <;> simp only [mir] at * <;> grind
theorem sub_add {u v : Q4} : add (sub u v) v = u := by refine ext ?_ ?_ ?_ ?_ <;> simp only [add, sub] <;> omega
theorem neg_neg {u : Q4} : neg (neg u) = u := by refine ext ?_ ?_ ?_ ?_ <;> simp only [neg] <;> omega
theorem size_mul {u v : Q4} (hu : u.Par) (hv : v.Par) : size (mul u v) = size u * size v := by
  obtain ⟨A, pA⟩ := mul_all hu hv
  have s1 := size4 hu; have s2 := size4 hv; have s3 := size4 pA
  have a1 := A.a; have a2 := A.b; have a3 := A.c; have a4 := A.d
  generalize size (mul u v) = S at *
  generalize mul u v = m at *
  have e : 16 * S = 16 * (size u * size v) := by
    have h : 16 * S = (2 * m.a) * (2 * m.a) + (2 * m.b) * (2 * m.b) + (2 * m.c) * (2 * m.c) + (2 * m.d) * (2 * m.d) := by grind
    have h2 : 16 * (size u * size v) = (4 * size u) * (4 * size v) := by grind
    rw [h, h2, a1, a2, a3, a4, s1, s2]
    grind
  omega
theorem size_mir {u : Q4} : size (mir u) = size u := by simp only [size, mir, Int.neg_mul_neg]
theorem mul_mir {u : Q4} (hu : u.Par) : mul u (mir u) = whole (size u) := by
  obtain ⟨A, _⟩ := mul_all hu (mir_par hu)
  have s1 := size4 hu
  have a1 := A.a; have a2 := A.b; have a3 := A.c; have a4 := A.d
  generalize mul u (mir u) = S at *
  generalize size u = s at *
  refine ext ?_ ?_ ?_ ?_ <;> simp only [mir, whole] at * <;> grind
theorem mul_whole {u : Q4} (hu : u.Par) (n : Int) : mul u (whole n) = mul (whole n) u := by
  obtain ⟨A, _⟩ := mul_all hu (whole_par n)
  obtain ⟨B, _⟩ := mul_all (whole_par n) hu
  have a1 := A.a; have a2 := A.b; have a3 := A.c; have a4 := A.d
  have b1 := B.a; have b2 := B.b; have b3 := B.c; have b4 := B.d
  generalize mul u (whole n) = S at *
  generalize mul (whole n) u = m at *
  refine ext ?_ ?_ ?_ ?_ <;> simp only [whole] at * <;> grind
/-- all below 2 ^ n -/
def Bd (n : Nat) (u : Q4) : Prop := u.a.natAbs < 2 ^ n ∧ u.b.natAbs < 2 ^ n ∧ u.c.natAbs < 2 ^ n ∧ u.d.natAbs < 2 ^ n
theorem Bd.mono {n m : Nat} {u : Q4} (h : Bd n u) (hn : n ≤ m) : Bd m u := by
  have e : 2 ^ n ≤ 2 ^ m := Nat.pow_le_pow_right (by decide) hn
  exact ⟨Nat.lt_of_lt_of_le h.1 e, Nat.lt_of_lt_of_le h.2.1 e, Nat.lt_of_lt_of_le h.2.2.1 e, Nat.lt_of_lt_of_le h.2.2.2 e⟩
theorem mul_bd {i j : Int} {n : Nat} (h1 : i.natAbs < 2 ^ n) (h2 : j.natAbs < 2 ^ n) : (i * j).natAbs < 2 ^ n * 2 ^ n := by
  rw [Int.natAbs_mul]
  exact Nat.mul_lt_mul'' h1 h2
theorem pow4 (n : Nat) : 2 ^ (2 * n + 2) = 4 * (2 ^ n * 2 ^ n) := by
  rw [Nat.pow_add, Nat.two_mul, Nat.pow_add, Nat.mul_comm]
theorem Bd.mul {n : Nat} {u v : Q4} (h : Bd n u) (k : Bd n v) : Bd (2 * n + 2) (Q4.mul u v) := by
  obtain ⟨h1, h2, h3, h4⟩ := h
  obtain ⟨k1, k2, k3, k4⟩ := k
  have m := fun {i j : Int} (x : i.natAbs < 2 ^ n) (y : j.natAbs < 2 ^ n) => mul_bd x y
  refine ⟨?_, ?_, ?_, ?_⟩ <;> rw [pow4]
  · have a := m h1 k1; have b := m h2 k2; have c := m h3 k3; have d := m h4 k4
    simp only [Q4.mul]
    generalize 2 ^ n * 2 ^ n = P at *
    omega
  · have a := m h1 k2; have b := m h2 k1; have c := m h3 k4; have d := m h4 k3
    simp only [Q4.mul]
    generalize 2 ^ n * 2 ^ n = P at *
    omega
  · have a := m h1 k3; have b := m h2 k4; have c := m h3 k1; have d := m h4 k2
    simp only [Q4.mul]
    generalize 2 ^ n * 2 ^ n = P at *
    omega
  · have a := m h1 k4; have b := m h2 k3; have c := m h3 k2; have d := m h4 k1
    simp only [Q4.mul]
    generalize 2 ^ n * 2 ^ n = P at *
    omega
theorem Bd.add {n : Nat} {u v : Q4} (h : Bd n u) (k : Bd n v) : Bd (n + 1) (Q4.add u v) := by
  obtain ⟨h1, h2, h3, h4⟩ := h
  obtain ⟨k1, k2, k3, k4⟩ := k
  refine ⟨?_, ?_, ?_, ?_⟩ <;> rw [Nat.pow_succ] <;> simp only [Q4.add] <;> generalize 2 ^ n = P at * <;> omega
theorem Bd.mir {n : Nat} {u : Q4} (h : Bd n u) : Bd n (Q4.mir u) := by
  obtain ⟨h1, h2, h3, h4⟩ := h
  refine ⟨?_, ?_, ?_, ?_⟩ <;> simp only [Q4.mir, Int.natAbs_neg] <;> assumption
theorem Bd.size {n : Nat} {u : Q4} (h : Bd n u) : (Q4.size u).natAbs < 2 ^ (2 * n + 2) := by
  obtain ⟨h1, h2, h3, h4⟩ := h
  have a := mul_bd h1 h1; have b := mul_bd h2 h2; have c := mul_bd h3 h3; have d := mul_bd h4 h4
  rw [pow4]
  simp only [Q4.size]
  generalize 2 ^ n * 2 ^ n = P at *
  omega
end Q4
end G
set_option Elab.async false
set_option linter.all false
set_option maxRecDepth 100000
set_option maxHeartbeats 1000000
namespace G
open PySem PySem.Spec PyProof.Rows L2 RZ StX
/-! ### numbers and halves -/
def spIsNum : Sp := fun vs H Q _ => ∃ i : Int, vs = [.int i] ∧ Q (.bl true) H
def okH (ns : List Int) : Bool := decide (ns.length = 4) && (decide ((ns.map (· % 2)).sum = 0) || decide ((ns.map (· % 2)).sum = 4))
theorem in04 (z : Int) : inV (V.int z) [V.int 0, V.int 4] = (decide (z = 0) || decide (z = 4)) := by
  show ((0 == z) || ((4 == z) || false)) = _
  rw [Bool.or_false]
  congr 1
  · rw [Bool.eq_iff_iff]; simp only [beq_iff_eq, decide_eq_true_eq]; omega
  · rw [Bool.eq_iff_iff]; simp only [beq_iff_eq, decide_eq_true_eq]; omega
def spHalves (K : PySem.W.Frag) : Sp := fun vs H Q _ => ∃ (t : Addr) (ns : List Int), vs = [.ref t] ∧ SqT K H t (ns.map V.int) ∧ ns.length ≤ 1000 ∧ ∀ H', Same H H' → Q (.bl (okH ns)) H'
section
variable {P : Program} {w : World} {K : PySem.W.Frag} {mg : Str → Option Value} {base : Heap}
theorem ok_isnum {f : Addr} {fd : FuncData} {k : Nat} (F : Fun K "is_number" "is_number" s_is_number f fd) (B : Bn mg) : FnOk P w K mg base CX0 (k + 1) f fd ["value"] spIsNum := by
  refine F.ok sc_is_number (fun vs H Q E h => ?_) (fun cdv A outer s H vs Q E hr h => ?_)
  · obtain ⟨i, rfl, _⟩ := h
    rfl
  · obtain ⟨i, rfl, q⟩ := h
    refine ⟨_, (pss_one (ps_ret (pe_and (pe_callB call_isi (by rfl) B.isinstance (by decide +kernel) (pa_cons (pv 0) (pa_cons (pe_bltn (v := .ty "int") (u := .type "int") (by rfl) B.int (by decide +kernel) rfl) pa_nil))) (pe_one (pe_not (pe_callB call_isi (by rfl) B.isinstance (by decide +kernel) (pa_cons (pv 0) (pa_cons (pe_bltn (v := .ty "bool") (u := .type "bool") (by rfl) B.bool (by decide +kernel) rfl) pa_nil)))))))), ?_⟩
    refine ⟨_, rfl, _, _, _, _, true, rfl, .ty _, .base (.int _), kit (by decide +kernel), _, rfl, ifT rfl ?_⟩
    exact ⟨_, rfl, _, _, _, _, false, rfl, .ty _, .base (.int _), kit (by decide +kernel), _, rfl, q⟩
theorem ok_halves {f : Addr} {fd : FuncData} {k : Nat} (F : Fun K "are_halves" "are_halves" s_are_halves f fd) (B : Bn mg) (mS : mg "sum" = none) (D_isnum : DefOk P w K mg base "is_number" 1 ["value"] spIsNum) : FnOk P w K mg base CX0 2 f fd ["values"] (spHalves K) := by
  refine F.ok sc_are_halves (fun vs H Q E h => ?_) (fun cdv A outer s H vs Q E hr h => ?_)
  · obtain ⟨t, ns, rfl, _⟩ := h
    rfl
  · obtain ⟨t, ns, rfl, hT, hl, q⟩ := h
    refine ⟨_, (pss_cons (ps_if (PW.pt (pw_or (pt_cmpR op_ne (pe_callB call_len_seq (by rfl) B.len PySem.boot_len (pa_cons (pv 0) pa_nil)) pe_int (nomark _)) (pw_or1 (pt_not (pt_val (pe_callB (cr_all rfl) (by rfl) B.all (by decide +kernel) (pa_cons (pe_lc (own := [("value", 1)]) (g := gName 1) (tt := tYes) (by rfl) sc_are_halves.nd (pi_tup (pv 0)) (blkOk_by (own := [("value", 1)]) (N := ["values", "value"]) (sc := (defScope s_are_halves)) (by decide +kernel)) (fun _ _ _ _ _ => pg_name (i := 1) sc_are_halves.nd rfl (Or.inl rfl)) (fun _ _ _ _ _ => pts_nil) (fun _ _ _ _ _ => (pe_callD D_isnum hr (pa_cons (pv 1) pa_nil)))) pa_nil))))))) (pss_one (ps_ret pe_bl)) pss_nil)
      (pss_one (ps_ret (pe_cmpR op_in_seq (pe_callB (cr_sum rfl) (by rfl) B.sum (by decide +kernel) (pa_cons (pe_lc (own := [("value", 1)]) (g := gName 1) (tt := tYes) (by rfl) sc_are_halves.nd (pi_tup (pv 0)) (blkOk_by (own := [("value", 1)]) (N := ["values", "value"]) (sc := (defScope s_are_halves)) (by decide +kernel)) (fun _ _ _ _ _ => pg_name (i := 1) sc_are_halves.nd rfl (Or.inl rfl)) (fun _ _ _ _ _ => pts_nil) (fun _ _ _ _ _ => (pe_op op_mod (pv 1) pe_int))) pa_nil)) (pe_tup (pa_cons pe_int (pa_cons pe_int pa_nil))) (by rfl))))), ?_⟩
    refine ⟨_, rfl, t, _, rfl, .inr hT, rfl, _, rfl, ?_⟩
    rw [List.length_map]
    refine ite2 (fun h => ?_) (fun h => ?_)
    · have hn : ¬ ns.length = 4 := by
        intro e
        rw [e] at h
        exact absurd h (by decide)
      have := q H (.refl _)
      unfold okH at this
      rw [decide_eq_false hn] at this
      exact this
    · have hn : ns.length = 4 := by
        rcases Decidable.em (ns.length = 4) with e | e
        · exact e
        · exact absurd (show (!decide (V.int ((ns.length : Nat) : Int) = V.int 4)) = true by simp; omega) h
      refine ⟨_, rfl, t, rfl, ⟨_, hT⟩, fun D nD => ?_⟩
      refine lc_tup (K := K) (a := t) (xs := ns.map V.int) (fun i H' => Same H H' ∧ H' D = some (.lst ((List.replicate i true).map V.bl))) ⟨same_upd nD, upd_same⟩ (fun i H' _ h => h.1.tup hT) ?_ ?_
      · rintro i x H' hx ⟨sm, hD⟩
        obtain ⟨u, rfl⟩ : ∃ u, x = V.int u := by
          rw [List.getElem?_map] at hx
          cases e : ns[i]? with
          | none => rw [e] at hx; cases hx
          | some u => rw [e] at hx; exact ⟨u, (Option.some.inj hx).symm⟩
        refine ⟨rfl, ?_⟩
        dsimp only [tYes]
        rw [if_pos rfl]
        have hi := (List.getElem?_eq_some_iff.mp hx).1
        rw [List.length_map] at hi
        refine ⟨_, rfl, u, rfl, _, hD, by rw [List.length_map, List.length_replicate]; exact small1000 (by omega), ?_, ?_⟩
        · intro c o e
          rw [upd_ne (ne_of_none e nD)]
          exact sm _ _ e
        · rw [upd_same, List.replicate_succ', List.map_append]
          rfl
      · rintro H' ⟨sm, hD⟩
        refine ⟨D, List.replicate _ true, rfl, SqL.of hD, true, ?_, ifF rfl ?_⟩
        · simp
        refine ⟨_, rfl, t, rfl, ⟨_, sm.tup hT⟩, fun D2 nD2 => ?_⟩
        refine lc_tup (K := K) (a := t) (xs := ns.map V.int) (fun i H2 => Same H' H2 ∧ H2 D2 = some (.lst (((ns.take i).map (· % 2)).map V.int))) ⟨same_upd nD2, upd_same⟩ (fun i H2 _ h => h.1.tup (sm.tup hT)) ?_ ?_
        · rintro i x H2 hx ⟨sm2, hD2⟩
          obtain ⟨u, rfl, hu⟩ : ∃ u, x = V.int u ∧ ns[i]? = some u := by
            rw [List.getElem?_map] at hx
            cases e : ns[i]? with
            | none => rw [e] at hx; cases hx
            | some u => rw [e] at hx; exact ⟨u, (Option.some.inj hx).symm, rfl⟩
          refine ⟨rfl, ?_⟩
          dsimp only [tYes]
          rw [if_pos rfl]
          have hi := (List.getElem?_eq_some_iff.mp hu).1
          refine ⟨_, rfl, _, _, rfl, rfl, (by show (0 : Int) < 2; decide), _, hD2, by rw [List.length_map, List.length_map, List.length_take]; exact small1000 (by omega), ?_, ?_⟩
          · intro c o e
            rw [upd_ne (ne_of_none e nD2)]
            exact sm2 _ _ e
          · rw [upd_same, List.take_add_one, hu]
            simp
        · rintro H2 ⟨sm2, hD2⟩
          rw [List.length_map, List.take_length] at hD2
          refine ⟨D2, _, rfl, SqL.of hD2, (by show 2 ≤ sizeLine; decide), fun T nT => ⟨T, _, rfl, .inr (SqT.of upd_same), rfl, rfl, ?_⟩⟩
          have e : inV (V.int (ns.map (· % 2)).sum) [V.int 0, V.int 4] = okH ns := by
            unfold okH
            rw [in04, decide_eq_true hn]
            rfl
          show Q (V.bl (inV (V.int (ns.map (· % 2)).sum) [V.int 0, V.int 4])) _
          rw [e]
          exact q _ ((sm.trans sm2).trans (same_upd nT))
end
/-! ### a four -/
def Q4.vs (u : Q4) : List V := [.int u.a, .int u.b, .int u.c, .int u.d]
def FourAt (C : Addr) (H : Hp) (p : Addr) (u : Q4) : Prop := u.Par ∧ ∃ dx t, H p = some (.ins C dx [("doubled", .ref t)]) ∧ H t = some (.tup u.vs)
theorem FourAt.same {C : Addr} {H H' : Hp} {p : Addr} {u : Q4} (h : FourAt C H p u) (s : Same H H') : FourAt C H' p u := by
  obtain ⟨h0, dx, t, h1, h2⟩ := h
  exact ⟨h0, dx, t, s _ _ h1, s _ _ h2⟩
theorem okH_par {u : Q4} (h : u.Par) : okH [u.a, u.b, u.c, u.d] = true := by
  obtain ⟨h1, h2, h3⟩ := h
  unfold okH
  show (true && (decide (u.a % 2 + (u.b % 2 + (u.c % 2 + (u.d % 2 + 0))) = 0) || decide (u.a % 2 + (u.b % 2 + (u.c % 2 + (u.d % 2 + 0))) = 4))) = true
  rw [Bool.true_and, Bool.or_eq_true, decide_eq_true_eq, decide_eq_true_eq]
  omega
def spInit (C : Addr) : Sp := fun vs H Q _ => ∃ (x dx t : Addr) (u : Q4), vs = [.ref x, .ref t] ∧ u.Par ∧ H x = some (.ins C dx []) ∧ H t = some (.tup u.vs) ∧ ∀ H', SameX x H H' → H' x = some (.ins C dx [("doubled", .ref t)]) → Q .non H'
def spInitR (C : Addr) : Sp := fun vs H Q E => ∃ ws rest, vs = ws ++ rest ∧ ws.length = ["self"].length ∧ rest.length ≤ sizeLine ∧ ∀ p, H p = Option.none → spInit C (ws ++ [V.ref p]) (upd H p (.tup rest)) Q E
section
variable {P : Program} {w : World} {K : PySem.W.Frag} {mg : Str → Option Value} {base : Heap}
theorem ok_init {f C : Addr} {fd : FuncData} (F : Fun K "__init__" "Four.__init__" s_Four_init f fd) (cl : Cls K C) (nD : NoAttr K C "doubled") (D_halves : DefOk P w K mg base "are_halves" 2 ["values"] (spHalves K)) : FnR P w K mg base CX0 3 f (spInitR C) := by
  obtain ⟨oc, od, kV, doc, pm, an, cdv, ct, osl, rfl, lk, hcd⟩ := F.ex
  refine fn_star (ps := ["self"]) (pv := "halves") lk hcd sc_Four_init cxUp_none (fun us rest hl => match us, hl with | [a], _ => (by cases rest <;> rfl)) ?_
  intro A outer s H vs Q E hr h
  obtain ⟨x, dx, t, u, rfl, hp, hx, ht, q⟩ := h
  refine ⟨_, (pss_cons (ps_if (pt_not (pt_val (pe_callD D_halves hr (pa_cons (pv 1) pa_nil)))) (pss_one ps_never) pss_nil)
      (pss_one (ps_fld (pv 0) (pv 1) rfl))), ?_⟩
  refine ⟨_, rfl, t, [u.a, u.b, u.c, u.d], rfl, SqT.of ht, by show 4 ≤ 1000; decide, fun H' sm => ⟨_, rfl, ?_⟩⟩
  rw [okH_par hp]
  refine ifF rfl ?_
  refine ⟨_, rfl, _, rfl, x, C, dx, [], rfl, sm _ _ hx, cl, nD, by show 0 < 1000; decide, ?_⟩
  exact q _ ((SameX.of sm).trans sameX_upd) upd_same
end
end G
set_option Elab.async false
set_option linter.all false
set_option maxRecDepth 100000
set_option maxHeartbeats 1000000
namespace G
open PySem PySem.Spec PyProof.Rows L2 RZ StX
structure InitOk (P : Program) (w : World) (K : PySem.W.Frag) (mg : Str → Option Value) (base : Heap) (C : Addr) : Prop where
  ex : ∃ f : Addr, Mk K C f ∧ FnR P w K mg base CX0 3 f (spInitR C)
def tFour (C : Addr) (t : TA) : TE := fun σ H Q => t σ H fun vs H1 => ∃ u : Q4, vs = u.vs ∧ u.Par ∧ ∀ x H2, H1 x = none → Same H1 H2 → FourAt C H2 x u → Q (.ref x) H2
theorem four_made {C : Addr} {H1 : Hp} {u : Q4} {Q : VK} (hp : u.Par) (q : ∀ x H2, H1 x = none → Same H1 H2 → FourAt C H2 x u → Q (.ref x) H2) (x dx : Addr) (hx : H1 x = Option.none) (hdx : H1 dx = Option.none) (ne : dx ≠ x) :
    spInitR C (V.ref x :: u.vs) (upd (upd H1 dx (.own x)) x (.ins C dx [])) (fun v H2 => v = .non ∧ Q (.ref x) H2) E0 := by
  refine ⟨[.ref x], u.vs, rfl, rfl, by show 4 ≤ sizeLine; decide, fun p np => ?_⟩
  have nxp : x ≠ p := fun e => by rw [← e, upd_same] at np; cases np
  refine ⟨x, dx, p, u, rfl, hp, by rw [upd_ne nxp, upd_same], upd_same, fun H' sm hx' => ⟨rfl, ?_⟩⟩
  have hp' : H' p = some (.tup u.vs) := sm _ _ nxp.symm upd_same
  refine q x H' hx (fun b o e => ?_) ⟨hp, dx, p, hx', hp'⟩
  have nbx : b ≠ x := ne_of_none e hx
  have nbd : b ≠ dx := ne_of_none e hdx
  refine sm _ _ nbx ?_
  have nbp : b ≠ p := fun q => by
    rw [← q, upd_ne nbx, upd_ne nbd, e] at np
    cases np
  rw [upd_ne nbp, upd_ne nbx, upd_ne nbd]
  exact e
theorem pe_four {X : Cx} {C : Addr} {x : Str} {p pos : Pos} {e : Expr} {es : List Expr} {t : TA} (I : InitOk X.prog X.w X.K X.mg X.base C) (hr : Room 4 X.A) (hm : X.mg x = some (.ref C)) (ha : PA X (e :: es) t) (hg : Gl X x := by rfl) (hdb : (x == ("__debug__" : Str)) = false := by decide)
    (he : starEach (e :: es) X.env = (false, eval e X.env) :: starEach es X.env := by rfl) (hpl : (backTo pos (starEach es X.env)).any (·.1) = false := by rfl) : PE X (.Call (.Name x p) (e :: es) [] pos) (tFour C t) := by
  obtain ⟨f, M, F⟩ := I.ex
  refine ⟨fun pins s σ H Q I h => ?_⟩
  refine wpAny_Call_Name_kw (ld_glob I hg hm ?_ hdb)
  refine PySem.W.callWith_K (h₀ := X.base) I.ok.mod.kin M.kp (thn (ha.run pos pins s σ H _ I h) fun us s1 ⟨vs, H1, I1, r, u, ev, hp, q⟩ => ⟨I1.kIn, ?_⟩) he hpl
  subst ev
  exact run_makeR M F hr (E := E0) pass0 I1 r (four_made hp q)
/-! ### its methods -/
def spBin (C : Addr) (g : Q4 → Q4 → Q4) (ok : Q4 → Q4 → Prop) : Sp := fun vs H Q _ => ∃ (p q : Addr) (u v : Q4), vs = [.ref p, .ref q] ∧ FourAt C H p u ∧ FourAt C H q v ∧ ok u v ∧ ∀ r H', H r = none → Same H H' → FourAt C H' r (g u v) → Q (.ref r) H'
def spUn (C : Addr) (g : Q4 → Q4) : Sp := fun vs H Q _ => ∃ (p : Addr) (u : Q4), vs = [.ref p] ∧ FourAt C H p u ∧ ∀ r H', H r = none → Same H H' → FourAt C H' r (g u) → Q (.ref r) H'
def mulOk (u v : Q4) : Prop := ∃ n, 0 < n ∧ n ≤ 400000 ∧ u.Bd n ∧ v.Bd n
def spHalvesP (C : Addr) : Sp := fun vs H Q _ => ∃ (p : Addr) (u : Q4), vs = [.ref p] ∧ FourAt C H p u ∧ ∀ t, H t = some (.tup u.vs) → Q (.ref t) H
def spSizeP (C : Addr) : Sp := fun vs H Q _ => ∃ (p : Addr) (u : Q4) (n : Nat), vs = [.ref p] ∧ FourAt C H p u ∧ 0 < n ∧ n ≤ 400000 ∧ u.Bd n ∧ Q (.int u.size) H
def spEqP (C : Addr) : Sp := fun vs H Q _ => ∃ (p q : Addr) (u v : Q4), vs = [.ref p, .ref q] ∧ FourAt C H p u ∧ FourAt C H q v ∧ Q (.bl (decide (u = v))) H
def spWhole (C : Addr) : Sp := fun vs H Q _ => ∃ n : Int, vs = [.int n] ∧ ∀ r H', H r = none → Same H H' → FourAt C H' r (Q4.whole n) → Q (.ref r) H'
structure FourC (K : PySem.W.Frag) (mg : Str → Option Value) (C : Addr) : Prop extends ClsFacts K mg "Four" C where
  nD : NoAttr K C "doubled"
theorem wm {i j : Int} {n : Nat} (h1 : i.natAbs < 2 ^ n) (h2 : j.natAbs < 2 ^ n) (h0 : 0 < n) (h : n ≤ 400000) : CMulW i j := wide_mul (a := n) (b := n) h1 h2 h0 h0 (by omega)
section
variable {P : Program} {w : World} {K : PySem.W.Frag} {mg : Str → Option Value} {base : Heap}
theorem ok_add {f C : Addr} {fd : FuncData} (F : Fun K "__add__" "Four.__add__" s_Four_add f fd) (CF : FourC K mg C) (CI : InitOk P w K mg base C) : FnOk P w K mg base CX0 5 f fd ["self", "other"] (spBin C Q4.add fun _ _ => True) := by
  refine F.ok sc_Four_add (fun vs H Q E h => ?_) (fun cdv A outer s H vs Q E hr h => ?_)
  · obtain ⟨p, q, u, v, rfl, _⟩ := h
    rfl
  · obtain ⟨p, q, u, v, rfl, ⟨pu, dx, t, h1, h2⟩, ⟨pv', dy, t', k1, k2⟩, _, k⟩ := h
    refine ⟨_, (pss_cons (ps_asg (pe_fld (pv 0) rfl) (pg_tup (by rfl) (pgs_cons (pg_name (i := 2) sc_Four_add.nd rfl (Or.inl rfl)) (pgs_cons (pg_name (i := 3) sc_Four_add.nd rfl (Or.inl rfl)) (pgs_cons (pg_name (i := 4) sc_Four_add.nd rfl (Or.inl rfl)) (pgs_cons (pg_name (i := 5) sc_Four_add.nd rfl (Or.inl rfl)) pgs_nil))))))
      (pss_cons (ps_asg (pe_fld (pv 1) rfl) (pg_tup (by rfl) (pgs_cons (pg_name (i := 6) sc_Four_add.nd rfl (Or.inl rfl)) (pgs_cons (pg_name (i := 7) sc_Four_add.nd rfl (Or.inl rfl)) (pgs_cons (pg_name (i := 8) sc_Four_add.nd rfl (Or.inl rfl)) (pgs_cons (pg_name (i := 9) sc_Four_add.nd rfl (Or.inl rfl)) pgs_nil))))))
      (pss_one (ps_ret (pe_four CI (hr.mono (by decide)) CF.mgC (pa_cons (pe_op op_add (pv 2) (pv 6)) (pa_cons (pe_op op_add (pv 3) (pv 7)) (pa_cons (pe_op op_add (pv 4) (pv 8)) (pa_cons (pe_op op_add (pv 5) (pv 9)) pa_nil))))))))), ?_⟩
    refine ⟨_, rfl, p, C, dx, _, _, rfl, h1, CF.cl, CF.nD, rfl, t, _, rfl, SqT.of h2, rfl, _, _, rfl, _, _, rfl, _, _, rfl, _, _, rfl, rfl, ?_⟩
    refine ⟨_, rfl, q, C, dy, _, _, rfl, k1, CF.cl, CF.nD, rfl, t', _, rfl, SqT.of k2, rfl, _, _, rfl, _, _, rfl, _, _, rfl, _, _, rfl, rfl, ?_⟩
    exact ⟨_, rfl, _, rfl, _, _, rfl, rfl, _, rfl, _, rfl, _, _, rfl, rfl, _, rfl, _, rfl, _, _, rfl, rfl, _, rfl, _, rfl, _, _, rfl, rfl, Q4.add u v, rfl, Q4.add_par pu pv', k⟩
theorem ok_sub {f C : Addr} {fd : FuncData} (F : Fun K "__sub__" "Four.__sub__" s_Four_sub f fd) (CF : FourC K mg C) (CI : InitOk P w K mg base C) : FnOk P w K mg base CX0 5 f fd ["self", "other"] (spBin C Q4.sub fun _ _ => True) := by
  refine F.ok sc_Four_sub (fun vs H Q E h => ?_) (fun cdv A outer s H vs Q E hr h => ?_)
  · obtain ⟨p, q, u, v, rfl, _⟩ := h
    rfl
  · obtain ⟨p, q, u, v, rfl, ⟨pu, dx, t, h1, h2⟩, ⟨pv', dy, t', k1, k2⟩, _, k⟩ := h
    refine ⟨_, (pss_cons (ps_asg (pe_fld (pv 0) rfl) (pg_tup (by rfl) (pgs_cons (pg_name (i := 2) sc_Four_sub.nd rfl (Or.inl rfl)) (pgs_cons (pg_name (i := 3) sc_Four_sub.nd rfl (Or.inl rfl)) (pgs_cons (pg_name (i := 4) sc_Four_sub.nd rfl (Or.inl rfl)) (pgs_cons (pg_name (i := 5) sc_Four_sub.nd rfl (Or.inl rfl)) pgs_nil))))))
      (pss_cons (ps_asg (pe_fld (pv 1) rfl) (pg_tup (by rfl) (pgs_cons (pg_name (i := 6) sc_Four_sub.nd rfl (Or.inl rfl)) (pgs_cons (pg_name (i := 7) sc_Four_sub.nd rfl (Or.inl rfl)) (pgs_cons (pg_name (i := 8) sc_Four_sub.nd rfl (Or.inl rfl)) (pgs_cons (pg_name (i := 9) sc_Four_sub.nd rfl (Or.inl rfl)) pgs_nil))))))
      (pss_one (ps_ret (pe_four CI (hr.mono (by decide)) CF.mgC (pa_cons (pe_op op_sub (pv 2) (pv 6)) (pa_cons (pe_op op_sub (pv 3) (pv 7)) (pa_cons (pe_op op_sub (pv 4) (pv 8)) (pa_cons (pe_op op_sub (pv 5) (pv 9)) pa_nil))))))))), ?_⟩
    refine ⟨_, rfl, p, C, dx, _, _, rfl, h1, CF.cl, CF.nD, rfl, t, _, rfl, SqT.of h2, rfl, _, _, rfl, _, _, rfl, _, _, rfl, _, _, rfl, rfl, ?_⟩
    refine ⟨_, rfl, q, C, dy, _, _, rfl, k1, CF.cl, CF.nD, rfl, t', _, rfl, SqT.of k2, rfl, _, _, rfl, _, _, rfl, _, _, rfl, _, _, rfl, rfl, ?_⟩
    exact ⟨_, rfl, _, rfl, _, _, rfl, rfl, _, rfl, _, rfl, _, _, rfl, rfl, _, rfl, _, rfl, _, _, rfl, rfl, _, rfl, _, rfl, _, _, rfl, rfl, Q4.sub u v, rfl, Q4.sub_par pu pv', k⟩
theorem ok_mul {f C : Addr} {fd : FuncData} (F : Fun K "__mul__" "Four.__mul__" s_Four_mul f fd) (CF : FourC K mg C) (CI : InitOk P w K mg base C) : FnOk P w K mg base CX0 5 f fd ["self", "other"] (spBin C Q4.mul mulOk) := by
  refine F.ok sc_Four_mul (fun vs H Q E h => ?_) (fun cdv A outer s H vs Q E hr h => ?_)
  · obtain ⟨p, q, u, v, rfl, _⟩ := h
    rfl
  · obtain ⟨p, q, u, v, rfl, ⟨pu, dx, t, h1, h2⟩, ⟨pv', dy, t', k1, k2⟩, ⟨n, n0, n1, bu, bv⟩, k⟩ := h
    refine ⟨_, (pss_cons (ps_asg (pe_fld (pv 0) rfl) (pg_tup (by rfl) (pgs_cons (pg_name (i := 2) sc_Four_mul.nd rfl (Or.inl rfl)) (pgs_cons (pg_name (i := 3) sc_Four_mul.nd rfl (Or.inl rfl)) (pgs_cons (pg_name (i := 4) sc_Four_mul.nd rfl (Or.inl rfl)) (pgs_cons (pg_name (i := 5) sc_Four_mul.nd rfl (Or.inl rfl)) pgs_nil))))))
      (pss_cons (ps_asg (pe_fld (pv 1) rfl) (pg_tup (by rfl) (pgs_cons (pg_name (i := 6) sc_Four_mul.nd rfl (Or.inl rfl)) (pgs_cons (pg_name (i := 7) sc_Four_mul.nd rfl (Or.inl rfl)) (pgs_cons (pg_name (i := 8) sc_Four_mul.nd rfl (Or.inl rfl)) (pgs_cons (pg_name (i := 9) sc_Four_mul.nd rfl (Or.inl rfl)) pgs_nil))))))
      (pss_one (ps_ret (pe_four CI (hr.mono (by decide)) CF.mgC (pa_cons (pe_op op_fdivW (pe_op op_sub (pe_op op_sub (pe_op op_sub (pe_op op_mulW (pv 2) (pv 6)) (pe_op op_mulW (pv 3) (pv 7))) (pe_op op_mulW (pv 4) (pv 8))) (pe_op op_mulW (pv 5) (pv 9))) pe_int) (pa_cons (pe_op op_fdivW (pe_op op_sub (pe_op op_add (pe_op op_add (pe_op op_mulW (pv 2) (pv 7)) (pe_op op_mulW (pv 3) (pv 6))) (pe_op op_mulW (pv 4) (pv 9))) (pe_op op_mulW (pv 5) (pv 8))) pe_int) (pa_cons (pe_op op_fdivW (pe_op op_add (pe_op op_add (pe_op op_sub (pe_op op_mulW (pv 2) (pv 8)) (pe_op op_mulW (pv 3) (pv 9))) (pe_op op_mulW (pv 4) (pv 6))) (pe_op op_mulW (pv 5) (pv 7))) pe_int) (pa_cons (pe_op op_fdivW (pe_op op_add (pe_op op_sub (pe_op op_add (pe_op op_mulW (pv 2) (pv 9)) (pe_op op_mulW (pv 3) (pv 8))) (pe_op op_mulW (pv 4) (pv 7))) (pe_op op_mulW (pv 5) (pv 6))) pe_int) pa_nil))))))))), ?_⟩
    refine ⟨_, rfl, p, C, dx, _, _, rfl, h1, CF.cl, CF.nD, rfl, t, _, rfl, SqT.of h2, rfl, _, _, rfl, _, _, rfl, _, _, rfl, _, _, rfl, rfl, ?_⟩
    refine ⟨_, rfl, q, C, dy, _, _, rfl, k1, CF.cl, CF.nD, rfl, t', _, rfl, SqT.of k2, rfl, _, _, rfl, _, _, rfl, _, _, rfl, _, _, rfl, rfl, ?_⟩
    exact ⟨_, rfl, _, rfl, _, _, rfl, rfl, wm bu.1 bv.1 n0 n1, _, rfl, _, rfl, _, _, rfl, rfl, wm bu.2.1 bv.2.1 n0 n1, _, _, rfl, rfl, _, rfl, _, rfl, _, _, rfl, rfl, wm bu.2.2.1 bv.2.2.1 n0 n1, _, _, rfl, rfl, _, rfl, _, rfl, _, _, rfl, rfl, wm bu.2.2.2 bv.2.2.2 n0 n1, _, _, rfl, rfl, _, _, rfl, rfl, dw (by decide) (by decide), _, rfl, _, rfl, _, _, rfl, rfl, wm bu.1 bv.2.1 n0 n1, _, rfl, _, rfl, _, _, rfl, rfl, wm bu.2.1 bv.1 n0 n1, _, _, rfl, rfl, _, rfl, _, rfl, _, _, rfl, rfl, wm bu.2.2.1 bv.2.2.2 n0 n1, _, _, rfl, rfl, _, rfl, _, rfl, _, _, rfl, rfl, wm bu.2.2.2 bv.2.2.1 n0 n1, _, _, rfl, rfl, _, _, rfl, rfl, dw (by decide) (by decide), _, rfl, _, rfl, _, _, rfl, rfl, wm bu.1 bv.2.2.1 n0 n1, _, rfl, _, rfl, _, _, rfl, rfl, wm bu.2.1 bv.2.2.2 n0 n1, _, _, rfl, rfl, _, rfl, _, rfl, _, _, rfl, rfl, wm bu.2.2.1 bv.1 n0 n1, _, _, rfl, rfl, _, rfl, _, rfl, _, _, rfl, rfl, wm bu.2.2.2 bv.2.1 n0 n1, _, _, rfl, rfl, _, _, rfl, rfl, dw (by decide) (by decide), _, rfl, _, rfl, _, _, rfl, rfl, wm bu.1 bv.2.2.2 n0 n1, _, rfl, _, rfl, _, _, rfl, rfl, wm bu.2.1 bv.2.2.1 n0 n1, _, _, rfl, rfl, _, rfl, _, rfl, _, _, rfl, rfl, wm bu.2.2.1 bv.2.1 n0 n1, _, _, rfl, rfl, _, rfl, _, rfl, _, _, rfl, rfl, wm bu.2.2.2 bv.1 n0 n1, _, _, rfl, rfl, _, _, rfl, rfl, dw (by decide) (by decide), Q4.mul u v, rfl, (Q4.mul_all pu pv').2, k⟩
theorem ok_neg {f C : Addr} {fd : FuncData} (F : Fun K "__neg__" "Four.__neg__" s_Four_neg f fd) (CF : FourC K mg C) (CI : InitOk P w K mg base C) : FnOk P w K mg base CX0 5 f fd ["self"] (spUn C Q4.neg) := by
  refine F.ok sc_Four_neg (fun vs H Q E h => ?_) (fun cdv A outer s H vs Q E hr h => ?_)
  · obtain ⟨p, u, rfl, _⟩ := h
    rfl
  · obtain ⟨p, u, rfl, ⟨pu, dx, t, h1, h2⟩, k⟩ := h
    refine ⟨_, (pss_cons (ps_asg (pe_fld (pv 0) rfl) (pg_tup (by rfl) (pgs_cons (pg_name (i := 1) sc_Four_neg.nd rfl (Or.inl rfl)) (pgs_cons (pg_name (i := 2) sc_Four_neg.nd rfl (Or.inl rfl)) (pgs_cons (pg_name (i := 3) sc_Four_neg.nd rfl (Or.inl rfl)) (pgs_cons (pg_name (i := 4) sc_Four_neg.nd rfl (Or.inl rfl)) pgs_nil))))))
      (pss_one (ps_ret (pe_four CI (hr.mono (by decide)) CF.mgC (pa_cons (pe_un un_neg (pv 1)) (pa_cons (pe_un un_neg (pv 2)) (pa_cons (pe_un un_neg (pv 3)) (pa_cons (pe_un un_neg (pv 4)) pa_nil)))))))), ?_⟩
    refine ⟨_, rfl, p, C, dx, _, _, rfl, h1, CF.cl, CF.nD, rfl, t, _, rfl, SqT.of h2, rfl, _, _, rfl, _, _, rfl, _, _, rfl, _, _, rfl, rfl, ?_⟩
    exact ⟨_, rfl, _, rfl, _, rfl, _, rfl, _, rfl, _, rfl, _, rfl, _, rfl, Q4.neg u, rfl, Q4.neg_par pu, k⟩
theorem ok_mirrored {f C : Addr} {fd : FuncData} (F : Fun K "mirrored" "Four.mirrored" s_Four_mirrored f fd) (CF : FourC K mg C) (CI : InitOk P w K mg base C) : FnOk P w K mg base CX0 5 f fd ["self"] (spUn C Q4.mir) := by
  refine F.ok sc_Four_mirrored (fun vs H Q E h => ?_) (fun cdv A outer s H vs Q E hr h => ?_)
  · obtain ⟨p, u, rfl, _⟩ := h
    rfl
  · obtain ⟨p, u, rfl, ⟨pu, dx, t, h1, h2⟩, k⟩ := h
    refine ⟨_, (pss_cons (ps_asg (pe_fld (pv 0) rfl) (pg_tup (by rfl) (pgs_cons (pg_name (i := 1) sc_Four_mirrored.nd rfl (Or.inl rfl)) (pgs_cons (pg_name (i := 2) sc_Four_mirrored.nd rfl (Or.inl rfl)) (pgs_cons (pg_name (i := 3) sc_Four_mirrored.nd rfl (Or.inl rfl)) (pgs_cons (pg_name (i := 4) sc_Four_mirrored.nd rfl (Or.inl rfl)) pgs_nil))))))
      (pss_one (ps_ret (pe_four CI (hr.mono (by decide)) CF.mgC (pa_cons (pv 1) (pa_cons (pe_un un_neg (pv 2)) (pa_cons (pe_un un_neg (pv 3)) (pa_cons (pe_un un_neg (pv 4)) pa_nil)))))))), ?_⟩
    refine ⟨_, rfl, p, C, dx, _, _, rfl, h1, CF.cl, CF.nD, rfl, t, _, rfl, SqT.of h2, rfl, _, _, rfl, _, _, rfl, _, _, rfl, _, _, rfl, rfl, ?_⟩
    exact ⟨_, rfl, _, rfl, _, rfl, _, rfl, _, rfl, _, rfl, _, rfl, Q4.mir u, rfl, Q4.mir_par pu, k⟩
theorem ok_halvesP {f C : Addr} {fd : FuncData} {k : Nat} (F : Fun K "halves" "Four.halves" s_Four_halves f fd) (CF : FourC K mg C) : FnOk P w K mg base CX0 (k + 1) f fd ["self"] (spHalvesP C) := by
  refine F.ok sc_Four_halves (fun vs H Q E h => ?_) (fun cdv A outer s H vs Q E hr h => ?_)
  · obtain ⟨p, u, rfl, _⟩ := h
    rfl
  · obtain ⟨p, u, rfl, ⟨pu, dx, t, h1, h2⟩, k⟩ := h
    refine ⟨_, (pss_one (ps_ret (pe_fld (pv 0) rfl))), ?_⟩
    exact ⟨_, rfl, p, C, dx, _, _, rfl, h1, CF.cl, CF.nD, rfl, k t h2⟩
theorem ok_sizeP {f C : Addr} {fd : FuncData} {k : Nat} (F : Fun K "size" "Four.size" s_Four_size f fd) (CF : FourC K mg C) : FnOk P w K mg base CX0 (k + 1) f fd ["self"] (spSizeP C) := by
  refine F.ok sc_Four_size (fun vs H Q E h => ?_) (fun cdv A outer s H vs Q E hr h => ?_)
  · obtain ⟨p, u, n, rfl, _⟩ := h
    rfl
  · obtain ⟨p, u, n, rfl, ⟨pu, dx, t, h1, h2⟩, n0, n1, bu, k⟩ := h
    refine ⟨_, (pss_cons (ps_asg (pe_fld (pv 0) rfl) (pg_tup (by rfl) (pgs_cons (pg_name (i := 1) sc_Four_size.nd rfl (Or.inl rfl)) (pgs_cons (pg_name (i := 2) sc_Four_size.nd rfl (Or.inl rfl)) (pgs_cons (pg_name (i := 3) sc_Four_size.nd rfl (Or.inl rfl)) (pgs_cons (pg_name (i := 4) sc_Four_size.nd rfl (Or.inl rfl)) pgs_nil))))))
      (pss_one (ps_ret (pe_op op_fdivW (pe_op op_add (pe_op op_add (pe_op op_add (pe_op op_mulW (pv 1) (pv 1)) (pe_op op_mulW (pv 2) (pv 2))) (pe_op op_mulW (pv 3) (pv 3))) (pe_op op_mulW (pv 4) (pv 4))) pe_int)))), ?_⟩
    refine ⟨_, rfl, p, C, dx, _, _, rfl, h1, CF.cl, CF.nD, rfl, t, _, rfl, SqT.of h2, rfl, _, _, rfl, _, _, rfl, _, _, rfl, _, _, rfl, rfl, ?_⟩
    exact ⟨_, rfl, _, rfl, _, _, rfl, rfl, wm bu.1 bu.1 n0 n1, _, rfl, _, rfl, _, _, rfl, rfl, wm bu.2.1 bu.2.1 n0 n1, _, _, rfl, rfl, _, rfl, _, rfl, _, _, rfl, rfl, wm bu.2.2.1 bu.2.2.1 n0 n1, _, _, rfl, rfl, _, rfl, _, rfl, _, _, rfl, rfl, wm bu.2.2.2 bu.2.2.2 n0 n1, _, _, rfl, rfl, _, _, rfl, rfl, dw (by decide) (by decide), k⟩
theorem ok_whole {f C : Addr} {fd : FuncData} (F : Fun K "whole" "Four.whole" s_Four_whole f fd) (CF : FourC K mg C) (CI : InitOk P w K mg base C) : FnOk P w K mg base CX0 5 f fd ["number"] (spWhole C) := by
  refine F.ok sc_Four_whole (fun vs H Q E h => ?_) (fun cdv A outer s H vs Q E hr h => ?_)
  · obtain ⟨n, rfl, _⟩ := h
    rfl
  · obtain ⟨n, rfl, k⟩ := h
    refine ⟨_, (pss_one (ps_ret (pe_four CI (hr.mono (by decide)) CF.mgC (pa_cons (pe_op op_mul pe_int (pv 0)) (pa_cons pe_int (pa_cons pe_int (pa_cons pe_int pa_nil))))))), ?_⟩
    exact ⟨_, rfl, _, _, rfl, rfl, .inl ⟨by decide, by decide⟩, Q4.whole n, rfl, Q4.whole_par n, k⟩
end
end G
set_option Elab.async false
set_option linter.all false
set_option maxRecDepth 100000
set_option maxHeartbeats 1000000
namespace G
open PySem PySem.Spec PyProof.Rows L2 RZ StX
/-- what isinstance asks of an instance -/
structure InsFacts (K : PySem.W.Frag) (C : Addr) : Prop where
  ha : PySem.W.findIn K (.ref C) "__class__" = some (some (.builtin "object.__class__"))
  hn : PySem.W.specialIn K (.builtin "object.__class__") "__get__" = some (some (.builtin "getset_descriptor.__get__"))
  ht : PySem.W.takesIn K (.builtin "object.__class__") = some true
theorem Dp.q4 {K : PySem.W.Frag} {H : Hp} {t : Addr} {u : Q4} (h : SqT K H t u.vs) : Dp K H (.ref t) (.tuple [.int u.a, .int u.b, .int u.c, .int u.d]) := .tup h (.cons (.int _) (.cons (.int _) (.cons (.int _) (.cons (.int _) .nil))))
theorem eqv_q4 (u v : Q4) : PyData.eqv (.tuple [.int u.a, .int u.b, .int u.c, .int u.d]) (.tuple [.int v.a, .int v.b, .int v.c, .int v.d]) = decide (u = v) := by
  show (u.a == v.a && (u.b == v.b && (u.c == v.c && (u.d == v.d && true)))) = _
  rw [Bool.eq_iff_iff]
  simp only [Bool.and_eq_true, beq_iff_eq, decide_eq_true_eq, and_true]
  constructor
  · rintro ⟨h1, h2, h3, h4⟩; exact Q4.ext h1 h2 h3 h4
  · rintro rfl; exact ⟨rfl, rfl, rfl, rfl⟩
section
variable {P : Program} {w : World} {K : PySem.W.Frag} {mg : Str → Option Value} {base : Heap}
theorem ok_eqP {f C : Addr} {fd : FuncData} {k : Nat} (F : Fun K "__eq__" "Four.__eq__" s_Four_eq f fd) (CF : FourC K mg C) (IF : InsFacts K C) (B : Bn mg) : FnOk P w K mg base CX0 (k + 1) f fd ["self", "other"] (spEqP C) := by
  refine F.ok sc_Four_eq (fun vs H Q E h => ?_) (fun cdv A outer s H vs Q E hr h => ?_)
  · obtain ⟨p, q, u, v, rfl, _⟩ := h
    rfl
  · obtain ⟨p, q, u, v, rfl, ⟨pu, dx, t, h1, h2⟩, ⟨pv', dy, t', k1, k2⟩, k⟩ := h
    refine ⟨_, (pss_one (ps_ret (pe_and (pe_callB call_isi (by rfl) B.isinstance (by decide +kernel) (pa_cons (pv 1) (pa_cons (pe_glob (v := .ref C) rfl CF.mgC rfl) pa_nil))) (pe_one (pe_cmpR (op_eqD hr.units) (pe_fld (pv 0) rfl) (pe_fld (pv 1) rfl) (nomark _)))))), ?_⟩
    refine ⟨_, rfl, _, _, _, _, true, rfl, .own C, .base (.ins k1 CF.cl IF.ha IF.hn IF.ht CF.mr), if_pos (by simp), _, rfl, ifT rfl ?_⟩
    refine ⟨_, rfl, p, C, dx, _, _, rfl, h1, CF.cl, CF.nD, rfl, _, rfl, q, C, dy, _, _, rfl, k1, CF.cl, CF.nD, rfl, _, _, Dp.q4 (SqT.of h2), Dp.q4 (SqT.of k2), rfl, rfl, ?_⟩
    rw [eqv_q4]
    exact k
/-! ### the law's own helpers -/
def spFour (K : PySem.W.Frag) (C : Addr) : Sp := fun vs H Q _ => ∃ (t : Addr) (u : Q4), vs = [.ref t] ∧ SqT K H t u.vs ∧ u.Par ∧ ∀ r H', H r = none → Same H H' → FourAt C H' r u → Q (.ref r) H'
theorem ok_four {f C : Addr} {fd : FuncData} (F : Fun K "_law_four" "_law_four" s_L_four f fd) (CF : FourC K mg C) (CI : InitOk P w K mg base C) : FnOk P w K mg base CX0 5 f fd ["_law_halves_here"] (spFour K C) := by
  refine F.ok sc_L_four (fun vs H Q E h => ?_) (fun cdv A outer s H vs Q E hr h => ?_)
  · obtain ⟨t, u, rfl, _⟩ := h
    rfl
  · obtain ⟨t, u, rfl, hT, pu, k⟩ := h
    refine ⟨_, (pss_cons (ps_asg (pv 0) (pg_tup (by rfl) (pgs_cons (pg_name (i := 1) sc_L_four.nd rfl (Or.inl rfl)) (pgs_cons (pg_name (i := 2) sc_L_four.nd rfl (Or.inl rfl)) (pgs_cons (pg_name (i := 3) sc_L_four.nd rfl (Or.inl rfl)) (pgs_cons (pg_name (i := 4) sc_L_four.nd rfl (Or.inl rfl)) pgs_nil))))))
      (pss_one (ps_ret (pe_four CI (hr.mono (by decide)) CF.mgC (pa_cons (pv 1) (pa_cons (pv 2) (pa_cons (pv 3) (pa_cons (pv 4) pa_nil)))))))), ?_⟩
    refine ⟨_, rfl, t, _, rfl, hT, rfl, _, _, rfl, _, _, rfl, _, _, rfl, _, _, rfl, rfl, ?_⟩
    exact ⟨_, rfl, _, rfl, _, rfl, _, rfl, u, rfl, pu, k⟩
def spTimes (K : PySem.W.Frag) : Sp := fun vs H Q _ => ∃ (t t' : Addr) (u v : Q4), vs = [.ref t, .ref t'] ∧ SqT K H t u.vs ∧ SqT K H t' v.vs ∧ mulOk u v ∧ ∀ r, H r = none → Q (.ref r) (upd H r (.tup (Q4.mul u v).vs))
theorem ok_times {f : Addr} {fd : FuncData} {k : Nat} (F : Fun K "_law_times" "_law_times" s_L_times f fd) : FnOk P w K mg base CX0 (k + 1) f fd ["_law_one", "_law_other"] (spTimes K) := by
  refine F.ok sc_L_times (fun vs H Q E h => ?_) (fun cdv A outer s H vs Q E hr h => ?_)
  · obtain ⟨t, t', u, v, rfl, _⟩ := h
    rfl
  · obtain ⟨t, t', u, v, rfl, hT, hT', ⟨n, n0, n1, bu, bv⟩, k⟩ := h
    refine ⟨_, (pss_cons (ps_asg (pv 0) (pg_tup (by rfl) (pgs_cons (pg_name (i := 2) sc_L_times.nd rfl (Or.inl rfl)) (pgs_cons (pg_name (i := 3) sc_L_times.nd rfl (Or.inl rfl)) (pgs_cons (pg_name (i := 4) sc_L_times.nd rfl (Or.inl rfl)) (pgs_cons (pg_name (i := 5) sc_L_times.nd rfl (Or.inl rfl)) pgs_nil))))))
      (pss_cons (ps_asg (pv 1) (pg_tup (by rfl) (pgs_cons (pg_name (i := 6) sc_L_times.nd rfl (Or.inl rfl)) (pgs_cons (pg_name (i := 7) sc_L_times.nd rfl (Or.inl rfl)) (pgs_cons (pg_name (i := 8) sc_L_times.nd rfl (Or.inl rfl)) (pgs_cons (pg_name (i := 9) sc_L_times.nd rfl (Or.inl rfl)) pgs_nil))))))
      (pss_cons (ps_set (i := 10) sc_L_times.nd rfl (Or.inl rfl) (pe_op op_fdivW (pe_op op_sub (pe_op op_sub (pe_op op_sub (pe_op op_mulW (pv 2) (pv 6)) (pe_op op_mulW (pv 3) (pv 7))) (pe_op op_mulW (pv 4) (pv 8))) (pe_op op_mulW (pv 5) (pv 9))) pe_int))
      (pss_cons (ps_set (i := 11) sc_L_times.nd rfl (Or.inl rfl) (pe_op op_fdivW (pe_op op_sub (pe_op op_add (pe_op op_add (pe_op op_mulW (pv 2) (pv 7)) (pe_op op_mulW (pv 3) (pv 6))) (pe_op op_mulW (pv 4) (pv 9))) (pe_op op_mulW (pv 5) (pv 8))) pe_int))
      (pss_cons (ps_set (i := 12) sc_L_times.nd rfl (Or.inl rfl) (pe_op op_fdivW (pe_op op_add (pe_op op_add (pe_op op_sub (pe_op op_mulW (pv 2) (pv 8)) (pe_op op_mulW (pv 3) (pv 9))) (pe_op op_mulW (pv 4) (pv 6))) (pe_op op_mulW (pv 5) (pv 7))) pe_int))
      (pss_one (ps_ret (pe_tup (pa_cons (pv 10) (pa_cons (pv 11) (pa_cons (pv 12) (pa_cons (pe_op op_fdivW (pe_op op_add (pe_op op_sub (pe_op op_add (pe_op op_mulW (pv 2) (pv 9)) (pe_op op_mulW (pv 3) (pv 8))) (pe_op op_mulW (pv 4) (pv 7))) (pe_op op_mulW (pv 5) (pv 6))) pe_int) pa_nil)))))))))))), ?_⟩
    refine ⟨_, rfl, t, _, rfl, hT, rfl, _, _, rfl, _, _, rfl, _, _, rfl, _, _, rfl, rfl, ?_⟩
    refine ⟨_, rfl, t', _, rfl, hT', rfl, _, _, rfl, _, _, rfl, _, _, rfl, _, _, rfl, rfl, ?_⟩
    refine nx_norm (σ' := [some (.ref t), some (.ref t'), some (.int u.a), some (.int u.b), some (.int u.c), some (.int u.d), some (.int v.a), some (.int v.b), some (.int v.c), some (.int v.d), none, none, none]) rfl ?_
    refine ⟨_, rfl, _, rfl, _, _, rfl, rfl, wm bu.1 bv.1 n0 n1, _, rfl, _, rfl, _, _, rfl, rfl, wm bu.2.1 bv.2.1 n0 n1, _, _, rfl, rfl, _, rfl, _, rfl, _, _, rfl, rfl, wm bu.2.2.1 bv.2.2.1 n0 n1, _, _, rfl, rfl, _, rfl, _, rfl, _, _, rfl, rfl, wm bu.2.2.2 bv.2.2.2 n0 n1, _, _, rfl, rfl, _, _, rfl, rfl, dw (by decide) (by decide), ?_⟩
    refine nx_norm (σ' := [some (.ref t), some (.ref t'), some (.int u.a), some (.int u.b), some (.int u.c), some (.int u.d), some (.int v.a), some (.int v.b), some (.int v.c), some (.int v.d), some (.int (Q4.mul u v).a), none, none]) rfl ?_
    refine ⟨_, rfl, _, rfl, _, _, rfl, rfl, wm bu.1 bv.2.1 n0 n1, _, rfl, _, rfl, _, _, rfl, rfl, wm bu.2.1 bv.1 n0 n1, _, _, rfl, rfl, _, rfl, _, rfl, _, _, rfl, rfl, wm bu.2.2.1 bv.2.2.2 n0 n1, _, _, rfl, rfl, _, rfl, _, rfl, _, _, rfl, rfl, wm bu.2.2.2 bv.2.2.1 n0 n1, _, _, rfl, rfl, _, _, rfl, rfl, dw (by decide) (by decide), ?_⟩
    refine nx_norm (σ' := [some (.ref t), some (.ref t'), some (.int u.a), some (.int u.b), some (.int u.c), some (.int u.d), some (.int v.a), some (.int v.b), some (.int v.c), some (.int v.d), some (.int (Q4.mul u v).a), some (.int (Q4.mul u v).b), none]) rfl ?_
    refine ⟨_, rfl, _, rfl, _, _, rfl, rfl, wm bu.1 bv.2.2.1 n0 n1, _, rfl, _, rfl, _, _, rfl, rfl, wm bu.2.1 bv.2.2.2 n0 n1, _, _, rfl, rfl, _, rfl, _, rfl, _, _, rfl, rfl, wm bu.2.2.1 bv.1 n0 n1, _, _, rfl, rfl, _, rfl, _, rfl, _, _, rfl, rfl, wm bu.2.2.2 bv.2.1 n0 n1, _, _, rfl, rfl, _, _, rfl, rfl, dw (by decide) (by decide), ?_⟩
    refine nx_norm (σ' := [some (.ref t), some (.ref t'), some (.int u.a), some (.int u.b), some (.int u.c), some (.int u.d), some (.int v.a), some (.int v.b), some (.int v.c), some (.int v.d), some (.int (Q4.mul u v).a), some (.int (Q4.mul u v).b), some (.int (Q4.mul u v).c)]) rfl ?_
    refine ⟨_, rfl, _, rfl, _, rfl, _, rfl, _, rfl, _, _, rfl, rfl, wm bu.1 bv.2.2.2 n0 n1, _, rfl, _, rfl, _, _, rfl, rfl, wm bu.2.1 bv.2.2.1 n0 n1, _, _, rfl, rfl, _, rfl, _, rfl, _, _, rfl, rfl, wm bu.2.2.1 bv.2.1 n0 n1, _, _, rfl, rfl, _, rfl, _, rfl, _, _, rfl, rfl, wm bu.2.2.2 bv.1 n0 n1, _, _, rfl, rfl, _, _, rfl, rfl, dw (by decide) (by decide), (by show 4 ≤ sizeLine; decide), fun r nr => ?_⟩
    exact k r nr
def spSize (K : PySem.W.Frag) : Sp := fun vs H Q _ => ∃ (t : Addr) (u : Q4) (n : Nat), vs = [.ref t] ∧ SqT K H t u.vs ∧ 0 < n ∧ n ≤ 400000 ∧ u.Bd n ∧ ∀ H', Same H H' → Q (.int u.size) H'
theorem ok_size {f : Addr} {fd : FuncData} {k : Nat} (F : Fun K "_law_size" "_law_size" s_L_size f fd) (B : Bn mg) : FnOk P w K mg base CX0 (k + 1) f fd ["_law_halves_here"] (spSize K) := by
  refine F.ok sc_L_size (fun vs H Q E h => ?_) (fun cdv A outer s H vs Q E hr h => ?_)
  · obtain ⟨t, u, n, rfl, _⟩ := h
    rfl
  · obtain ⟨t, u, n, rfl, hT, n0, n1, bu, k⟩ := h
    refine ⟨_, (pss_one (ps_ret (pe_op op_fdivW (pe_callB (cr_sum rfl) (by rfl) B.sum (by decide +kernel) (pa_cons (pe_lc (own := [("_law_one", 1)]) (g := gName 1) (tt := tYes) (by rfl) sc_L_size.nd (pi_tup (pv 0)) (blkOk_by (own := [("_law_one", 1)]) (N := ["_law_halves_here", "_law_one"]) (sc := (defScope s_L_size)) (by decide +kernel)) (fun _ _ _ _ _ => pg_name (i := 1) sc_L_size.nd rfl (Or.inl rfl)) (fun _ _ _ _ _ => pts_nil) (fun _ _ _ _ _ => (pe_op op_mulW (pv 1) (pv 1)))) pa_nil)) pe_int))), ?_⟩
    refine ⟨_, rfl, t, rfl, ⟨_, hT⟩, fun D nD => ?_⟩
    have key : ∀ (i : Nat) (x : V), u.vs[i]? = some x → ∃ z : Int, x = .int z ∧ z.natAbs < 2 ^ n ∧ [u.a * u.a, u.b * u.b, u.c * u.c, u.d * u.d][i]? = some (z * z) ∧ i < 4 := by
      intro i x hx
      match i, hx with
      | 0, hx => cases hx; exact ⟨_, rfl, bu.1, rfl, by decide⟩
      | 1, hx => cases hx; exact ⟨_, rfl, bu.2.1, rfl, by decide⟩
      | 2, hx => cases hx; exact ⟨_, rfl, bu.2.2.1, rfl, by decide⟩
      | 3, hx => cases hx; exact ⟨_, rfl, bu.2.2.2, rfl, by decide⟩
    refine lc_tup (K := K) (a := t) (xs := u.vs) (fun i H' => Same H H' ∧ H' D = some (.lst (([u.a * u.a, u.b * u.b, u.c * u.c, u.d * u.d].take i).map V.int))) ⟨same_upd nD, upd_same⟩ (fun i H' _ h => h.1.tup hT) ?_ ?_
    · rintro i x H' hx ⟨sm, hD⟩
      obtain ⟨z, rfl, hz, hi, h4⟩ := key i x hx
      refine ⟨rfl, ?_⟩
      dsimp only [tYes]
      rw [if_pos rfl]
      refine ⟨_, rfl, _, rfl, _, _, rfl, rfl, wm hz hz n0 n1, _, hD, by rw [List.length_map, List.length_take]; exact small1000 (by omega), ?_, ?_⟩
      · intro c o e
        rw [upd_ne (ne_of_none e nD)]
        exact sm _ _ e
      · rw [upd_same, List.take_add_one, hi]
        simp
    · rintro H' ⟨sm, hD⟩
      refine ⟨D, [u.a * u.a, u.b * u.b, u.c * u.c, u.d * u.d], rfl, SqL.of hD, _, _, rfl, rfl, dw (by decide) (by decide), ?_⟩
      have e : [u.a * u.a, u.b * u.b, u.c * u.c, u.d * u.d].sum / 4 = u.size := by
        unfold Q4.size
        congr 1
        simp only [List.sum_cons, List.sum_nil]
        omega
      show Q (V.int ([u.a * u.a, u.b * u.b, u.c * u.c, u.d * u.d].sum / 4)) _
      rw [e]
      exact k _ sm
end
end G
set_option Elab.async false
set_option linter.all false
set_option maxRecDepth 100000
set_option maxHeartbeats 1000000
namespace G
open PySem PySem.Spec PyProof.Rows L2 RZ StX
/-- every half at most m in size -/
def Q4.Le (m : Int) (u : Q4) : Prop := (-m ≤ u.a ∧ u.a ≤ m) ∧ (-m ≤ u.b ∧ u.b ≤ m) ∧ (-m ≤ u.c ∧ u.c ≤ m) ∧ (-m ≤ u.d ∧ u.d ≤ m)
def spHalvesL : Sp := fun vs H Q _ => ∃ (p c : Addr) (m : Int), vs = [.ref p, .int m] ∧ 0 ≤ m ∧ m < 1000000000000 ∧ FeedAt H p c ∧ ∀ (H' : Hp) (t : Addr) (u : Q4), FeedAt H' p c → SameX p H H' → H t = none → H' t = some (.tup u.vs) → u.Par → u.Le (2 * m + 2) → u ≠ ⟨0, 0, 0, 0⟩ → Q (.ref t) H'
theorem SameX.free {p : Addr} {H H' : Hp} (e : SameX p H H') (h : ∃ o, H' p = some o) {l : Addr} (hl : H' l = none) : H l = none := by
  cases hh : H l with
  | none => rfl
  | some o =>
    rcases Decidable.em (l = p) with z | z
    · obtain ⟨o', h'⟩ := h
      rw [z, h'] at hl
      cases hl
    · rw [e l o z hh] at hl
      cases hl
section
variable {P : Program} {w : World} {K : PySem.W.Frag} {mg : Str → Option Value} {base : Heap}
theorem ok_halvesL {f : Addr} {fd : FuncData} (F : Fun K "_law_halves" "_law_halves" s_L_halves f fd) (B : Bn mg) (D_take : DefOk P w K mg base "_law_take" 1 ["_law_feed_here", "_law_many"] spTake) : FnOk P w K mg base CX0 2 f fd ["_law_feed_here", "_law_most"] spHalvesL := by
  refine F.ok sc_L_halves (fun vs H Q E h => ?_) (fun cdv A outer s H vs Q E hr h => ?_)
  · obtain ⟨p, c, m, rfl, _⟩ := h
    rfl
  · obtain ⟨p, c, m, rfl, m0, m9, hF, q⟩ := h
    refine ⟨_, (pss_cons (ps_set (i := 2) sc_L_halves.nd rfl (Or.inl rfl) (pe_callD D_take hr (pa_cons (pv 0) (pa_cons pe_int pa_nil))))
      (pss_cons (ps_set (i := 3) sc_L_halves.nd rfl (Or.inl rfl) (pe_lst pa_nil))
      (pss_cons (ps_for PassesOwn.never rfl (pi_range1 (by rfl) B.range (pa_cons pe_int pa_nil)) (pg_name (i := 4) sc_L_halves.nd rfl (Or.inl rfl)) (pss_one (ps_expr (pe_bm PySem.F.plainAttrs_list PySem.F.slot_list_append PySem.F.type_list_append mt_append (pv 3) (pa_cons (pe_op op_add (pe_op op_mulW pe_int (pe_op op_sub (pe_callD D_take hr (pa_cons (pv 0) (pa_cons (pe_op op_add (pe_op op_mulW pe_int (pv 1)) pe_int) pa_nil))) (pv 1))) (pv 2)) pa_nil)))))
      (pss_cons (ps_if (pt_cmpR (op_eqD hr.units) (pv 3) (pe_lst (pa_cons pe_int (pa_cons pe_int (pa_cons pe_int (pa_cons pe_int pa_nil))))) (nomark _)) (pss_one (ps_set (i := 3) sc_L_halves.nd rfl (Or.inl rfl) (pe_lst (pa_cons pe_int (pa_cons pe_int (pa_cons pe_int (pa_cons pe_int pa_nil))))))) pss_nil)
      (pss_one (ps_ret (pe_callTy call_tuple_of (by rfl) B.tuple (by decide +kernel) (pa_cons (pv 3) pa_nil)))))))), ?_⟩
    refine ⟨_, rfl, p, c, 2, rfl, by decide, by decide +kernel, hF, fun H1 o o0 o1 hF1 sm1 => ?_⟩
    refine ⟨Nat.zero_le _, fun l nl => ?_⟩
    obtain ⟨nlp, nlc⟩ := hF1.ne nl
    refine ⟨4, rfl, by decide, by decide, for_range (n := 4) (fun i σ H' => ∃ (ns : List Int) (x : Option V), σ = [some (.ref p), some (.int m), some (.int o), some (.ref l), x] ∧ FeedAt H' p c ∧ SameX p H1 H' ∧ H' l = some (.lst (ns.map V.int)) ∧ ns.length = i ∧ ∀ n ∈ ns, n % 2 = o ∧ -(2 * m + 2) ≤ n ∧ n ≤ 2 * m + 2) ⟨[], none, rfl, hF1.same (same_upd nl), .of (same_upd nl), upd_same, rfl, fun n hn => by cases hn⟩ ?_ ?_⟩
    · rintro i σ H' hi ⟨ns, x, rfl, hF2, sm2, hl, hlen, hn⟩
      refine ⟨_, rfl, .inl ⟨rfl, _, SqL.of hl⟩, ?_⟩
      refine ⟨_, rfl, _, rfl, _, _, rfl, rfl, mw (by decide) (by omega), _, _, rfl, rfl, p, c, 2 * m + 1, rfl, by omega, lg (by omega), hF2, fun H3 r r0 r1 hF3 sm3 => ?_⟩
      refine ⟨_, rfl, _, _, rfl, rfl, _, _, rfl, rfl, mw (by decide) (by omega), _, rfl, _, _, rfl, rfl, ?_⟩
      have hl3 := sm3 _ _ nlp hl
      refine ⟨l, _, _, rfl, rfl, hl3, by rw [List.length_map]; exact small1000 (by omega), ?_⟩
      refine ⟨ns ++ [2 * (r - m) + o], _, rfl, ?_, ?_, ?_, ?_, ?_⟩
      · exact hF3.upd nlp nlc
      · intro b ob nb e
        rw [upd_ne (ne_of_none e nl)]
        exact sm3 _ _ nb (sm2 _ _ nb e)
      · rw [upd_same, List.map_append]; rfl
      · rw [List.length_append, hlen]; rfl
      · intro n hn'
        rcases List.mem_append.mp hn' with h | h
        · exact hn n h
        · have : n = 2 * (r - m) + o := by simpa using h
          subst this
          refine ⟨by omega, by omega, by omega⟩
    · rintro σ H' ⟨ns, x, rfl, hF2, sm2, hl, hlen, hn⟩
      obtain ⟨a, b, c', d, rfl⟩ : ∃ a b c' d, ns = [a, b, c', d] := by
        match ns, hlen with
        | [a, b, c', d], _ => exact ⟨a, b, c', d, rfl⟩
      have ha := hn a (by simp)
      have hb := hn b (by simp)
      have hc := hn c' (by simp)
      have hd := hn d (by simp)
      have sm0 : SameX p H H' := sm1.trans sm2
      have fin : ∀ (u : Q4) (l' : Addr) (H2 : Hp), Same H' H2 → SqL K H2 l' u.vs → u.Par → u.Le (2 * m + 2) → u ≠ ⟨0, 0, 0, 0⟩ → ∀ t, H2 t = none → Q (.ref t) (upd H2 t (.tup u.vs)) := by
        intro u l' H2 s2 hL pu lu nu t nt
        refine q _ t u ((hF2.same s2).same (same_upd nt)) ((sm0.trans (.of s2)).trans (.of (same_upd nt))) ?_ upd_same pu lu nu
        exact sm0.free hF2.some (s2.free nt)
      refine ⟨_, rfl, (by show 4 ≤ sizeLine; decide), fun z nz => ?_⟩
      have sz := same_upd (o := .lst [.int 0, .int 0, .int 0, .int 0]) nz
      refine ⟨.list [.int a, .int b, .int c', .int d], .list [.int 0, .int 0, .int 0, .int 0], .lst (SqL.of (sz _ _ hl)) (.cons (.int _) (.cons (.int _) (.cons (.int _) (.cons (.int _) .nil)))), .lst (SqL.of upd_same) (.cons (.int _) (.cons (.int _) (.cons (.int _) (.cons (.int _) .nil)))), rfl, rfl, _, rfl, ?_⟩
      have ev : PyData.eqv (.list [.int a, .int b, .int c', .int d]) (.list [.int 0, .int 0, .int 0, .int 0]) = decide ((⟨a, b, c', d⟩ : Q4) = ⟨0, 0, 0, 0⟩) := eqv_q4 ⟨a, b, c', d⟩ ⟨0, 0, 0, 0⟩
      rw [ev]
      refine ite2 (fun h => ?_) (fun h => ?_)
      · refine ⟨(by show 4 ≤ sizeLine; decide), fun l2 nl2 => ?_⟩
        refine ⟨_, rfl, l2, _, rfl, .inl ⟨SqL.of upd_same, fun t nt => ?_⟩⟩
        exact fin ⟨2, 0, 0, 0⟩ l2 _ (sz.trans (same_upd nl2)) (SqL.of upd_same) ⟨rfl, rfl, rfl⟩ ⟨⟨by dsimp only; omega, by dsimp only; omega⟩, ⟨by dsimp only; omega, by dsimp only; omega⟩, ⟨by dsimp only; omega, by dsimp only; omega⟩, ⟨by dsimp only; omega, by dsimp only; omega⟩⟩ (by decide) t nt
      · refine ⟨_, rfl, l, _, rfl, .inl ⟨SqL.of (sz _ _ hl), fun t nt => ?_⟩⟩
        refine fin ⟨a, b, c', d⟩ l _ sz (SqL.of (sz _ _ hl)) ⟨?_, ?_, ?_⟩ ⟨⟨?_, ?_⟩, ⟨?_, ?_⟩, ⟨?_, ?_⟩, ⟨?_, ?_⟩⟩ (fun e => h (decide_eq_true e)) t nt <;> dsimp only <;> omega
end
end G
set_option Elab.async false
set_option linter.all false
set_option maxRecDepth 100000
set_option maxHeartbeats 1000000
namespace G
open PySem PySem.Spec PyProof.Rows L2 RZ StX
/-! ### readings by fours -/
theorem opr_imp {X : Cx} {f : Value → Value → Sem Value} {r r' : R2} (h : OpR X f r) (i : ∀ x y H Q, r' x y H Q → r x y H Q) : OpR X f r' := fun pins s σ H x y v u Q I rx ry q => h pins s σ H x y v u Q I rx ry (i x y H Q q)
theorem unr_imp {X : Cx} {f : Value → Sem Value} {r r' : V → Hp → VK → Prop} (h : UnR X f r) (i : ∀ x H Q, r' x H Q → r x H Q) : UnR X f r' := fun pins s σ H x v Q I rx q => h pins s σ H x v Q I rx (i x H Q q)
def rF2 (C : Addr) (g : Q4 → Q4 → Q4) (ok : Q4 → Q4 → Prop) : R2 := fun x y H Q => ∃ p q u v, x = .ref p ∧ y = .ref q ∧ FourAt C H p u ∧ FourAt C H q v ∧ ok u v ∧ ∀ r H', H r = none → Same H H' → FourAt C H' r (g u v) → Q (.ref r) H'
def rFne (C : Addr) : R2 := fun x y H Q => ∃ p q u v, x = .ref p ∧ y = .ref q ∧ FourAt C H p u ∧ FourAt C H q v ∧ Q (.bl (!decide (u = v))) H
def rFeq (C : Addr) : R2 := fun x y H Q => ∃ p q u v, x = .ref p ∧ y = .ref q ∧ FourAt C H p u ∧ FourAt C H q v ∧ Q (.bl (decide (u = v))) H
def rF1 (C : Addr) (g : Q4 → Q4) : V → Hp → VK → Prop := fun x H Q => ∃ p u, x = .ref p ∧ FourAt C H p u ∧ ∀ r H', H r = none → Same H H' → FourAt C H' r (g u) → Q (.ref r) H'
section
variable {X : Cx} {C : Addr} {k : Nat} {ps : List Str} {g : Q4 → Q4 → Q4} {g1 : Q4 → Q4} {ok : Q4 → Q4 → Prop} {m : Str}
theorem op_F2 {op : Operator} (c : ClsFacts X.K X.mg "Four" C) (M : MethOk X.prog X.w X.K X.mg X.base C m k ps (spBin C g ok)) (hr : Room k X.A) (hm : PySem.dunder op.info.2 = m := by decide +kernel) : OpR X (binaryOp op) (rF2 C g ok) :=
  opr_imp (op_ownD c M hr hm) fun x y H Q ⟨p, q, u, v, ex, ey, hu, hv, o, z⟩ => by
    obtain ⟨pu, dx, t, h1, h2⟩ := id hu
    obtain ⟨pv', dy, t', k1, k2⟩ := id hv
    exact ⟨p, q, dx, dy, _, _, ex, ey, h1, k1, p, q, u, v, rfl, hu, hv, o, z⟩
theorem op_Fne (c : ClsFacts X.K X.mg "Four" C) (M : MethOk X.prog X.w X.K X.mg X.base C "__eq__" k ps (spEqP C)) (hne : PySem.W.findIn X.K (.ref C) "__ne__" = some (some (.builtin "object.__ne__"))) (hr : Room (k + 1) X.A) : OpR X (compareOp .NotEq) (rFne C) :=
  opr_imp (op_neOwnD c M hne hr) fun x y H Q ⟨p, q, u, v, ex, ey, hu, hv, z⟩ => by
    obtain ⟨pu, dx, t, h1, h2⟩ := id hu
    obtain ⟨pv', dy, t', k1, k2⟩ := id hv
    exact ⟨p, q, dx, dy, _, _, ex, ey, h1, k1, p, q, u, v, rfl, hu, hv, _, rfl, z⟩
theorem op_Feq (M : MethOk X.prog X.w X.K X.mg X.base C "__eq__" k ps (spEqP C)) (hr : Room k X.A) : OpR X (compareOp .Eq) (rFeq C) :=
  opr_imp (op_eqOwnD M hr) fun x y H Q ⟨p, q, u, v, ex, ey, hu, hv, z⟩ => by
    obtain ⟨pu, dx, t, h1, h2⟩ := id hu
    obtain ⟨pv', dy, t', k1, k2⟩ := id hv
    exact ⟨p, q, dx, dy, _, _, ex, ey, h1, k1, p, q, u, v, rfl, hu, hv, z⟩
theorem un_F1 (M : MethOk X.prog X.w X.K X.mg X.base C "__neg__" k ps (spUn C g1)) (hr : Room k X.A) : UnR X (unaryOp .USub) (rF1 C g1) :=
  unr_imp (un_ownD M hr) fun x H Q ⟨p, u, ex, hu, z⟩ => by
    obtain ⟨pu, dx, t, h1, h2⟩ := id hu
    exact ⟨p, dx, _, ex, h1, p, u, rfl, hu, z⟩
variable {o e : Expr} {ta : TE} {apos pos : Pos} {pl : Sem Bool}
def tF1 (C : Addr) (g : Q4 → Q4) (ta : TE) : TE := fun σ H Q => ta σ H fun x H1 => rF1 C g x H1 Q
theorem pe_F1 (he : PE X o ta) (c : ClsFacts X.K X.mg "Four" C) (M : MethOk X.prog X.w X.K X.mg X.base C m k ps (spUn C g1)) (hr : Room k X.A) (hnm : (m == ("doubled" : Str)) = false := by decide +kernel)
    (ht : eval (.Call (.Attribute o m apos) [] [] pos) X.env = (do
      let ov ← eval o X.env
      standAt apos.atName
      let (f, first) ← holding [ov] (getMethod ov m pl)
      callWith pos f first (backTo pos (starEach [] X.env)) (backToKw pos (keywordEach [] X.env))) := by rfl) : PE X (.Call (.Attribute o m apos) [] [] pos) (tF1 C g1 ta) := by
  obtain ⟨f, fd, F, hm, hb⟩ := M.ex
  have key : PE X (.Call (.Attribute o m apos) [] [] pos) (fun σ H Q => ta σ H fun x H1 => ∃ a dx fs, x = .ref a ∧ H1 a = some (.ins C dx fs) ∧ fs.lookup m = none ∧ spUn C g1 [.ref a] H1 Q E0) := pe_imp (pe_meth0 he c.cl hm F hr hb .nil pass0 ht) fun σ H Q h => by
    unfold tMeth
    refine cast (congrArg (ta σ H) ?_) h
    funext x H1
    apply propext
    constructor
    · rintro ⟨a, dx, fs, rfl, h1, h2, h3⟩; exact ⟨a, dx, fs, rfl, h1, h2, h3⟩
    · rintro ⟨a, dx, fs, rfl, h1, h2, h3⟩; exact ⟨a, dx, fs, rfl, h1, h2, h3⟩
  refine pe_imp key fun σ H Q h => cast (congrArg (ta σ H) ?_) h
  funext x H1
  apply propext
  constructor
  · rintro ⟨p, u, rfl, hu, z⟩
    obtain ⟨pu, dx, t, h1, h2⟩ := id hu
    exact ⟨p, dx, _, rfl, h1, by simp [List.lookup, hnm], p, u, rfl, hu, z⟩
  · rintro ⟨a, dx, fs, rfl, h1, h2, p, u, e, hu, z⟩
    cases e
    exact ⟨_, u, rfl, hu, z⟩
def tFh (C : Addr) (ta : TE) : TE := fun σ H Q => ta σ H fun x H1 => ∃ p u, x = .ref p ∧ FourAt C H1 p u ∧ ∀ t, H1 t = some (.tup u.vs) → Q (.ref t) H1
def tFs (C : Addr) (ta : TE) : TE := fun σ H Q => ta σ H fun x H1 => ∃ p u n, x = .ref p ∧ FourAt C H1 p u ∧ 0 < n ∧ n ≤ 400000 ∧ u.Bd n ∧ Q (.int u.size) H1
theorem pe_Fh (he : PE X e ta) (c : ClsFacts X.K X.mg "Four" C) (M : PropOk X.prog X.w X.K X.mg X.base C m k ps (spHalvesP C)) (hr : Room (k + 1) X.A) (hab : attributeBase e m X.env (eval e X.env) = eval e X.env := by rfl) : PE X (.Attribute e m pos) (tFh C ta) := by
  refine pe_imp (pe_propD he c.cl M hr hab) fun σ H Q h => cast (congrArg (ta σ H) ?_) h
  funext x H1
  apply propext
  constructor
  · rintro ⟨p, u, rfl, hu, z⟩
    obtain ⟨pu, dx, t, h1, h2⟩ := id hu
    exact ⟨p, dx, _, rfl, h1, p, u, rfl, hu, z⟩
  · rintro ⟨a, dx, fs, rfl, h1, p, u, e, hu, z⟩
    cases e
    exact ⟨_, u, rfl, hu, z⟩
theorem pe_Fs (he : PE X e ta) (c : ClsFacts X.K X.mg "Four" C) (M : PropOk X.prog X.w X.K X.mg X.base C m k ps (spSizeP C)) (hr : Room (k + 1) X.A) (hab : attributeBase e m X.env (eval e X.env) = eval e X.env := by rfl) : PE X (.Attribute e m pos) (tFs C ta) := by
  refine pe_imp (pe_propD he c.cl M hr hab) fun σ H Q h => cast (congrArg (ta σ H) ?_) h
  funext x H1
  apply propext
  constructor
  · rintro ⟨p, u, n, rfl, hu, a, b, c, z⟩
    obtain ⟨pu, dx, t, h1, h2⟩ := id hu
    exact ⟨p, dx, _, rfl, h1, p, u, n, rfl, hu, a, b, c, z⟩
  · rintro ⟨a, dx, fs, rfl, h1, p, u, n, e, hu, a, b, c, z⟩
    cases e
    exact ⟨_, u, n, rfl, hu, a, b, c, z⟩
end
end G
set_option Elab.async false
set_option linter.all false
set_option maxRecDepth 100000
set_option maxHeartbeats 4000000
namespace G
open PySem PySem.Spec PyProof.Rows L2 RZ StX
def spLaw (K : PySem.W.Frag) : Sp := fun vs H Q _ => ∃ (a : Addr) (ns : List Int), vs = [.ref a] ∧ SqL K H a (ns.map V.int) ∧ ns.length ≤ 63 ∧ ∀ H', Q (.bl true) H'
/-- two lists of ints -/
theorem EqV.ints {K : PySem.W.Frag} {H : Hp} {a b : Addr} {ns : List Int} (h1 : H a = some (.lst (ns.map V.int))) (h2 : H b = some (.lst (ns.map V.int))) (hl : ns.length ≤ 1000) : EqV K H 2 (.ref a) (.ref b) := by
  refine .inr ⟨a, b, _, _, rfl, rfl, .inl ⟨h1, h2⟩, rfl, by rw [List.length_map]; exact hl, fun i x y hx hy => ?_⟩
  rw [hx] at hy
  cases hy
  rw [List.getElem?_map] at hx
  cases e : ns[i]? with
  | none => rw [e] at hx; cases hx
  | some u => rw [e] at hx; cases hx; exact .inl ⟨rfl, rfl⟩
theorem ndf {u v : Q4} (h : u = v) : (!decide (u = v)) = false := by simp [h]
theorem Q4.Le.bd {m : Int} {n : Nat} {u : Q4} (h : u.Le m) (hm : m.natAbs < 2 ^ n) : u.Bd n := by
  obtain ⟨⟨a1, a2⟩, ⟨b1, b2⟩, ⟨c1, c2⟩, d1, d2⟩ := h
  refine ⟨?_, ?_, ?_, ?_⟩ <;> generalize 2 ^ n = P at * <;> omega
section
variable {P : Program} {w : World} {K : PySem.W.Frag} {mg : Str → Option Value} {base : Heap}
theorem ok_law {f C : Addr} {fd : FuncData} (F : Fun K "law" "law" s_law f fd) (B : Bn mg) (CF : FourC K mg C) (CI : InitOk P w K mg base C) (CN : PySem.W.findIn K (.ref C) "__ne__" = some (some (.builtin "object.__ne__"))) (D_feed : DefOk P w K mg base "_law_feed" 1 ["_law_script"] (spFeed K)) (D_take : DefOk P w K mg base "_law_take" 1 ["_law_feed_here", "_law_many"] spTake) (D_same : DefOk P w K mg base "_law_same" 3 ["_law_found", "_law_due"] (spSame K 2))
    (D_halves : DefOk P w K mg base "_law_halves" 2 ["_law_feed_here", "_law_most"] spHalvesL) (D_times : DefOk P w K mg base "_law_times" 1 ["_law_one", "_law_other"] (spTimes K)) (D_size : DefOk P w K mg base "_law_size" 1 ["_law_halves_here"] (spSize K)) (D_four : DefOk P w K mg base "_law_four" 5 ["_law_halves_here"] (spFour K C))
    (M_add : MethOk P w K mg base C "__add__" 5 ["self", "other"] (spBin C Q4.add fun _ _ => True)) (M_sub : MethOk P w K mg base C "__sub__" 5 ["self", "other"] (spBin C Q4.sub fun _ _ => True)) (M_mul : MethOk P w K mg base C "__mul__" 5 ["self", "other"] (spBin C Q4.mul mulOk)) (M_neg : MethOk P w K mg base C "__neg__" 5 ["self"] (spUn C Q4.neg)) (M_mirrored : MethOk P w K mg base C "mirrored" 5 ["self"] (spUn C Q4.mir)) (M_eq : MethOk P w K mg base C "__eq__" 1 ["self", "other"] (spEqP C))
    (P_halves : PropOk P w K mg base C "halves" 1 ["self"] (spHalvesP C)) (P_size : PropOk P w K mg base C "size" 1 ["self"] (spSizeP C)) (S_whole : StatOk P w K mg base C "whole" 5 ["number"] (spWhole C)) : FnOk P w K mg base CX0 6 f fd ["_law_script"] (spLaw K) := by
  refine F.ok sc_law (fun vs H Q E h => ?_) (fun cdv A outer s H vs Q E hr h => ?_)
  · obtain ⟨a, ns, rfl, _⟩ := h
    rfl
  · obtain ⟨a, ns, rfl, hS, hl, q⟩ := h
    refine ⟨_, (pss_cons (ps_set (i := 1) sc_law.nd rfl (Or.inl rfl) (pe_callD D_feed (hr.mono (by decide)) (pa_cons (pv 0) pa_nil)))
      (pss_cons (ps_for PassesOwn.never rfl (pi_range1 (by rfl) B.range (pa_cons pe_int pa_nil)) (pg_name (i := 2) sc_law.nd rfl (Or.inl rfl)) (pss_cons (ps_set (i := 3) sc_law.nd rfl (Or.inl rfl) (pe_ix ix_list (pe_lst (pa_cons pe_int (pa_cons pe_int pa_nil))) (pe_callD D_take (hr.mono (by decide)) (pa_cons (pv 1) (pa_cons pe_int pa_nil))) (fun _ _ => rfl)))
      (pss_cons (ps_set (i := 4) sc_law.nd rfl (Or.inl rfl) (pe_lst (pa_cons (pe_callD D_halves (hr.mono (by decide)) (pa_cons (pv 1) (pa_cons (pv 3) pa_nil))) (pa_cons (pe_callD D_halves (hr.mono (by decide)) (pa_cons (pv 1) (pa_cons (pv 3) pa_nil))) (pa_cons (pe_callD D_halves (hr.mono (by decide)) (pa_cons (pv 1) (pa_cons (pv 3) pa_nil))) pa_nil)))))
      (pss_cons (ps_asg (pe_lc (own := [("_law_halves_here", 9)]) (g := gName 9) (tt := tYes) (by rfl) sc_law.nd (pi_list (pv 4)) (blkOk_by (own := [("_law_halves_here", 9)]) (N := ["_law_script", "_law_feed_here", "_law_turn", "_law_most", "_law_rows", "_law_a", "_law_b", "_law_c", "_law_due", "_law_halves_here"]) (sc := (defScope s_law)) (by decide +kernel)) (fun _ _ _ _ _ => pg_name (i := 9) sc_law.nd rfl (Or.inl rfl)) (fun _ _ _ _ _ => pts_nil) (fun _ _ _ _ _ => (pe_callD D_four (hr.mono (by decide)) (pa_cons (pv 9) pa_nil)))) (pg_unl (by rfl) (pgs_cons (pg_name (i := 5) sc_law.nd rfl (Or.inl rfl)) (pgs_cons (pg_name (i := 6) sc_law.nd rfl (Or.inl rfl)) (pgs_cons (pg_name (i := 7) sc_law.nd rfl (Or.inl rfl)) pgs_nil)))))
      (pss_cons (ps_if (PW.pt (pw_or (pt_cmpR (op_Fne CF.toClsFacts M_eq CN (hr.mono (by decide))) (pe_op (op_F2 CF.toClsFacts M_mul (hr.mono (by decide))) (pe_op (op_F2 CF.toClsFacts M_mul (hr.mono (by decide))) (pv 5) (pv 6)) (pv 7)) (pe_op (op_F2 CF.toClsFacts M_mul (hr.mono (by decide))) (pv 5) (pe_op (op_F2 CF.toClsFacts M_mul (hr.mono (by decide))) (pv 6) (pv 7))) (nomark _)) (pw_or (pt_cmpR (op_Fne CF.toClsFacts M_eq CN (hr.mono (by decide))) (pe_op (op_F2 CF.toClsFacts M_mul (hr.mono (by decide))) (pv 5) (pe_op (op_F2 CF.toClsFacts M_add (hr.mono (by decide))) (pv 6) (pv 7))) (pe_op (op_F2 CF.toClsFacts M_add (hr.mono (by decide))) (pe_op (op_F2 CF.toClsFacts M_mul (hr.mono (by decide))) (pv 5) (pv 6)) (pe_op (op_F2 CF.toClsFacts M_mul (hr.mono (by decide))) (pv 5) (pv 7))) (nomark _)) (pw_or1 (pt_cmpR (op_Fne CF.toClsFacts M_eq CN (hr.mono (by decide))) (pe_op (op_F2 CF.toClsFacts M_mul (hr.mono (by decide))) (pe_op (op_F2 CF.toClsFacts M_add (hr.mono (by decide))) (pv 5) (pv 6)) (pv 7)) (pe_op (op_F2 CF.toClsFacts M_add (hr.mono (by decide))) (pe_op (op_F2 CF.toClsFacts M_mul (hr.mono (by decide))) (pv 5) (pv 7)) (pe_op (op_F2 CF.toClsFacts M_mul (hr.mono (by decide))) (pv 6) (pv 7))) (nomark _)))))) (pss_one (ps_ret pe_bl)) pss_nil)
      (pss_cons (ps_if (pt_cmpR (op_neD hr.units) (pe_Fh (pe_op (op_F2 CF.toClsFacts M_mul (hr.mono (by decide))) (pe_op (op_F2 CF.toClsFacts M_mul (hr.mono (by decide))) (pv 5) (pv 6)) (pv 7)) CF.toClsFacts P_halves (hr.mono (by decide))) (pe_callD D_times (hr.mono (by decide)) (pa_cons (pe_callD D_times (hr.mono (by decide)) (pa_cons (pe_ix ix_list (pv 4) pe_int (fun _ _ => rfl)) (pa_cons (pe_ix ix_list (pv 4) pe_int (fun _ _ => rfl)) pa_nil))) (pa_cons (pe_ix ix_list (pv 4) pe_int (fun _ _ => rfl)) pa_nil))) (nomark _)) (pss_one (ps_ret pe_bl)) pss_nil)
      (pss_cons (ps_if (PW.pt (pw_or (pt_cmpR (op_Fne CF.toClsFacts M_eq CN (hr.mono (by decide))) (pe_F1 (pe_op (op_F2 CF.toClsFacts M_mul (hr.mono (by decide))) (pv 5) (pv 6)) CF.toClsFacts M_mirrored (hr.mono (by decide))) (pe_op (op_F2 CF.toClsFacts M_mul (hr.mono (by decide))) (pe_F1 (pv 6) CF.toClsFacts M_mirrored (hr.mono (by decide))) (pe_F1 (pv 5) CF.toClsFacts M_mirrored (hr.mono (by decide)))) (nomark _)) (pw_or (pt_cmpR (op_Fne CF.toClsFacts M_eq CN (hr.mono (by decide))) (pe_op (op_F2 CF.toClsFacts M_add (hr.mono (by decide))) (pe_op (op_F2 CF.toClsFacts M_sub (hr.mono (by decide))) (pv 5) (pv 6)) (pv 6)) (pv 5) (nomark _)) (pw_or1 (pt_cmpR (op_Fne CF.toClsFacts M_eq CN (hr.mono (by decide))) (pe_un (un_F1 M_neg (hr.mono (by decide))) (pe_un (un_F1 M_neg (hr.mono (by decide))) (pv 5))) (pv 5) (nomark _)))))) (pss_one (ps_ret pe_bl)) pss_nil)
      (pss_cons (ps_set (i := 8) sc_law.nd rfl (Or.inl rfl) (pe_op op_mulW (pe_callD D_size (hr.mono (by decide)) (pa_cons (pe_ix ix_list (pv 4) pe_int (fun _ _ => rfl)) pa_nil)) (pe_callD D_size (hr.mono (by decide)) (pa_cons (pe_ix ix_list (pv 4) pe_int (fun _ _ => rfl)) pa_nil))))
      (pss_cons (ps_if (pt_not (pt_val (pe_callD D_same (hr.mono (by decide)) (pa_cons (pe_lst (pa_cons (pe_Fs (pe_op (op_F2 CF.toClsFacts M_mul (hr.mono (by decide))) (pv 5) (pv 6)) CF.toClsFacts P_size (hr.mono (by decide))) (pa_cons (pe_op op_mulW (pe_Fs (pv 5) CF.toClsFacts P_size (hr.mono (by decide))) (pe_Fs (pv 6) CF.toClsFacts P_size (hr.mono (by decide)))) (pa_cons (pe_Fs (pe_F1 (pv 5) CF.toClsFacts M_mirrored (hr.mono (by decide))) CF.toClsFacts P_size (hr.mono (by decide))) pa_nil)))) (pa_cons (pe_lst (pa_cons (pv 8) (pa_cons (pv 8) (pa_cons (pe_callD D_size (hr.mono (by decide)) (pa_cons (pe_ix ix_list (pv 4) pe_int (fun _ _ => rfl)) pa_nil)) pa_nil)))) pa_nil))))) (pss_one (ps_ret pe_bl)) pss_nil)
      (pss_one (ps_if (PW.pt (pw_or (pt_cmpR (op_Fne CF.toClsFacts M_eq CN (hr.mono (by decide))) (pe_op (op_F2 CF.toClsFacts M_mul (hr.mono (by decide))) (pv 5) (pe_F1 (pv 5) CF.toClsFacts M_mirrored (hr.mono (by decide)))) (pe_statD S_whole (pe_glob (v := .ref C) rfl CF.mgC rfl) (hr.mono (by decide)) (pa_cons (pe_Fs (pv 5) CF.toClsFacts P_size (hr.mono (by decide))) pa_nil)) (nomark _)) (pw_or1 (pt_cmpR (op_Fne CF.toClsFacts M_eq CN (hr.mono (by decide))) (pe_op (op_F2 CF.toClsFacts M_mul (hr.mono (by decide))) (pv 5) (pe_statD S_whole (pe_glob (v := .ref C) rfl CF.mgC rfl) (hr.mono (by decide)) (pa_cons pe_int pa_nil))) (pe_op (op_F2 CF.toClsFacts M_mul (hr.mono (by decide))) (pe_statD S_whole (pe_glob (v := .ref C) rfl CF.mgC rfl) (hr.mono (by decide)) (pa_cons pe_int pa_nil)) (pv 5)) (nomark _))))) (pss_one (ps_ret pe_bl)) pss_nil)))))))))))
      (pss_one (ps_ret pe_bl)))), ?_⟩
    refine ⟨_, rfl, a, ns, rfl, hS, fun H1 p c s1 np hF1 => ?_⟩
    refine ⟨5, rfl, by decide, by decide, for_range (n := 5) (fun i σ H' => ∃ x2 x3 x4 x5 x6 x7 x8 x9, σ = [some (.ref a), some (.ref p), x2, x3, x4, x5, x6, x7, x8, x9] ∧ FeedAt H' p c) ⟨_, _, _, _, _, _, _, _, rfl, hF1⟩ ?_ ?_⟩
    · rintro i σ H2 hi ⟨x2, x3, x4, x5, x6, x7, x8, x9, rfl, hF2⟩
      refine ⟨(by show 2 ≤ sizeLine; decide), fun l3 n3 => ⟨_, rfl, p, c, 2, rfl, by decide, by decide +kernel, hF2.same (same_upd n3), fun H4 r4 a4 b4 hF4 sm4 => ?_⟩⟩
      have h4 := sm4 _ _ (hF2.ne n3).1 upd_same
      obtain ⟨m, hm, m0, m1⟩ : ∃ m : Int, atI [V.int 2, V.int 90000] r4 = some (V.int m) ∧ 0 ≤ m ∧ m ≤ 90000 := by
        rcases (by omega : r4 = 0 ∨ r4 = 1) with e | e
        · subst e; exact ⟨2, rfl, by decide, by decide⟩
        · subst e; exact ⟨90000, rfl, by decide, by decide⟩
      refine ⟨l3, _, _, _, rfl, rfl, SqL.of h4, hm, ?_⟩
      refine nx_norm (σ' := [some (.ref a), some (.ref p), some (.int (0 + i)), some (.int m), x4, x5, x6, x7, x8, x9]) rfl ?_
      refine ⟨_, rfl, _, rfl, p, c, m, rfl, m0, by omega, hF4, fun H5 t1 u hF5 sm5 n5 e5 pu lu zu => ?_⟩
      refine ⟨_, rfl, _, rfl, p, c, m, rfl, m0, by omega, hF5, fun H6 t2 v hF6 sm6 n6 e6 pv' lv zv => ?_⟩
      refine ⟨_, rfl, _, rfl, p, c, m, rfl, m0, by omega, hF6, fun H7 t3 w' hF7 sm7 n7 e7 pw lw zw => ?_⟩
      refine ⟨(by show 3 ≤ sizeLine; decide), fun l8 n8 => ?_⟩
      have d1 := hF5.some
      have nt1 : t1 ≠ p := fun e => by obtain ⟨o, ho⟩ := hF4.some; rw [← e, n5] at ho; cases ho
      have nt2 : t2 ≠ p := fun e => by obtain ⟨o, ho⟩ := hF5.some; rw [← e, n6] at ho; cases ho
      have g1 : (upd H7 l8 (.lst [.ref t1, .ref t2, .ref t3])) t1 = some (.tup u.vs) := same_upd n8 _ _ (sm7 _ _ nt1 (sm6 _ _ nt1 e5))
      have g2 : (upd H7 l8 (.lst [.ref t1, .ref t2, .ref t3])) t2 = some (.tup v.vs) := same_upd n8 _ _ (sm7 _ _ nt2 e6)
      have g3 : (upd H7 l8 (.lst [.ref t1, .ref t2, .ref t3])) t3 = some (.tup w'.vs) := same_upd n8 _ _ e7
      have g8 : (upd H7 l8 (.lst [.ref t1, .ref t2, .ref t3])) l8 = some (.lst [.ref t1, .ref t2, .ref t3]) := upd_same
      have hF8 := hF7.same (same_upd (o := .lst [.ref t1, .ref t2, .ref t3]) n8)
      generalize upd H7 l8 (.lst [.ref t1, .ref t2, .ref t3]) = H8 at *
      dsimp only [gName]
      refine nx_norm (σ' := [some (.ref a), some (.ref p), some (.int (0 + i)), some (.int m), some (.ref l8), x5, x6, x7, x8, x9]) rfl ?_
      -- a, b, c = [_law_four(..) for ..]
      refine ⟨_, rfl, l8, rfl, ⟨_, SqL.of g8⟩, fun D nD => ?_⟩
      refine lc_list (K := K) (a := l8) (xs := [.ref t1, .ref t2, .ref t3]) (fun i H' => Same H8 H' ∧ ∃ fs : List Addr, fs.length = i ∧ H' D = some (.lst (fs.map V.ref)) ∧ ∀ (j : Nat) (f : Addr) (z : Q4), fs[j]? = some f → [u, v, w'][j]? = some z → FourAt C H' f z) ⟨same_upd nD, [], rfl, upd_same, fun j f z h => by simp at h⟩ (fun i H' _ h => SqL.of (h.1 _ _ g8)) ?_ ?_
      · rintro j x H' hx ⟨sm, fs, hlen, hD, hfs⟩
        obtain ⟨t, z, rfl, ht, hz, pz, hj⟩ : ∃ (t : Addr) (z : Q4), x = .ref t ∧ H8 t = some (.tup z.vs) ∧ [u, v, w'][j]? = some z ∧ z.Par ∧ j < 3 := by
          match j, hx with
          | 0, hx => cases hx; exact ⟨_, u, rfl, g1, rfl, pu, by decide⟩
          | 1, hx => cases hx; exact ⟨_, v, rfl, g2, rfl, pv', by decide⟩
          | 2, hx => cases hx; exact ⟨_, w', rfl, g3, rfl, pw, by decide⟩
        refine ⟨rfl, ?_⟩
        dsimp only [tYes]
        rw [if_pos rfl]
        refine ⟨_, rfl, t, z, rfl, SqT.of (sm _ _ ht), pz, fun r H9 nr s9 hr9 => ⟨_, s9 _ _ hD, by rw [List.length_map]; exact small1000 (by omega), ?_, fs ++ [r], ?_, ?_, ?_⟩⟩
        · intro b o e
          rw [upd_ne (ne_of_none e nD)]
          exact s9 _ _ (sm _ _ e)
        · rw [List.length_append, hlen]; rfl
        · rw [upd_same, List.map_append]; rfl
        · have keep : ∀ (f : Addr) (z : Q4), FourAt C H9 f z → FourAt C (upd H9 D (.lst (fs.map V.ref ++ [.ref r]))) f z := by
            rintro f z ⟨pz, dx, t, e1, e2⟩
            have hD9 := s9 _ _ hD
            exact ⟨pz, dx, t, by rw [upd_ne (ne_of e1 hD9 (by intro q; cases q))]; exact e1, by rw [upd_ne (ne_of e2 hD9 (by intro q; cases q))]; exact e2⟩
          intro j' f z' hf hz'
          refine keep f z' ?_
          rcases Nat.lt_or_ge j' fs.length with h | h
          · rw [List.getElem?_append_left h] at hf
            exact (hfs j' f z' hf hz').same s9
          · have : j' = fs.length := by
              have := (List.getElem?_eq_some_iff.mp hf).1
              rw [List.length_append] at this
              have e1 : [r].length = 1 := rfl
              omega
            subst this
            rw [List.getElem?_append_right (Nat.le_refl _), Nat.sub_self] at hf
            cases hf
            rw [hlen, hz] at hz'
            cases hz'
            exact hr9
      · rintro H9 ⟨s9, fs, hlen, hD, hfs⟩
        obtain ⟨f1, f2, f3, rfl⟩ : ∃ f1 f2 f3, fs = [f1, f2, f3] := by
          match fs, hlen with
          | [f1, f2, f3], _ => exact ⟨f1, f2, f3, rfl⟩
        have hA := hfs 0 f1 u rfl rfl
        have hB := hfs 1 f2 v rfl rfl
        have hC := hfs 2 f3 w' rfl rfl
        have e18 : (2 : Nat) ^ 18 = 262144 := by decide
        have bu : u.Bd 18 := lu.bd (by rw [e18]; omega)
        have bv : v.Bd 18 := lv.bd (by rw [e18]; omega)
        have bw : w'.Bd 18 := lw.bd (by rw [e18]; omega)
        have sT := s9
        refine ⟨D, _, rfl, SqL.of hD, rfl, _, _, rfl, _, _, rfl, _, _, rfl, rfl, ?_⟩
        refine nx_norm (σ' := [some (.ref a), some (.ref p), some (.int (0 + i)), some (.int m), some (.ref l8), some (.ref f1), some (.ref f2), some (.ref f3), x8, x9]) rfl ?_
        refine ⟨_, rfl, _, rfl, f1, f2, _, _, rfl, rfl, hA, hB, ⟨18, by decide, by decide, bu.mono (by decide), bv.mono (by decide)⟩, fun r1 K1 n1 s1 h1 => ⟨_, rfl, r1, f3, _, _, rfl, rfl, h1, (hC.same s1), ⟨38, by decide, by decide, (Q4.Bd.mul (n := 18) (bu.mono (by decide)) (bv.mono (by decide))).mono (by decide), bw.mono (by decide)⟩, fun r2 K2 n2 s2 h2 => ⟨_, rfl, _, rfl, _, rfl, f2, f3, _, _, rfl, rfl, (hB.same (s1.trans s2)), (hC.same (s1.trans s2)), ⟨18, by decide, by decide, bv.mono (by decide), bw.mono (by decide)⟩, fun r3 K3 n3 s3 h3 => ⟨f1, r3, _, _, rfl, rfl, (hA.same ((s1.trans s2).trans s3)), h3, ⟨38, by decide, by decide, bu.mono (by decide), (Q4.Bd.mul (n := 18) (bv.mono (by decide)) (bw.mono (by decide))).mono (by decide)⟩, fun r4 K4 n4 s4 h4 => ⟨r2, r4, _, _, rfl, rfl, (h2.same (s3.trans s4)), h4, _, rfl, ifF (ndf (Q4.assoc pu pv' pw)) ?_⟩⟩⟩⟩⟩
        have hA := hA.same (((s1.trans s2).trans s3).trans s4)
        have hB := hB.same (((s1.trans s2).trans s3).trans s4)
        have hC := hC.same (((s1.trans s2).trans s3).trans s4)
        have sT := sT.trans (((s1.trans s2).trans s3).trans s4)
        refine ⟨_, rfl, _, rfl, _, rfl, f2, f3, _, _, rfl, rfl, hB, hC, trivial, fun r1 K1 n1 s1 h1 => ⟨f1, r1, _, _, rfl, rfl, (hA.same s1), h1, ⟨19, by decide, by decide, bu.mono (by decide), (Q4.Bd.add (n := 18) (bv.mono (by decide)) (bw.mono (by decide))).mono (by decide)⟩, fun r2 K2 n2 s2 h2 => ⟨_, rfl, _, rfl, f1, f2, _, _, rfl, rfl, (hA.same (s1.trans s2)), (hB.same (s1.trans s2)), ⟨18, by decide, by decide, bu.mono (by decide), bv.mono (by decide)⟩, fun r3 K3 n3 s3 h3 => ⟨_, rfl, _, rfl, f1, f3, _, _, rfl, rfl, (hA.same ((s1.trans s2).trans s3)), (hC.same ((s1.trans s2).trans s3)), ⟨18, by decide, by decide, bu.mono (by decide), bw.mono (by decide)⟩, fun r4 K4 n4 s4 h4 => ⟨r3, r4, _, _, rfl, rfl, (h3.same s4), h4, trivial, fun r5 K5 n5 s5 h5 => ⟨r2, r5, _, _, rfl, rfl, (h2.same ((s3.trans s4).trans s5)), h5, _, rfl, ifF (ndf (Q4.dist pu pv' pw)) ?_⟩⟩⟩⟩⟩⟩
        have hA := hA.same ((((s1.trans s2).trans s3).trans s4).trans s5)
        have hB := hB.same ((((s1.trans s2).trans s3).trans s4).trans s5)
        have hC := hC.same ((((s1.trans s2).trans s3).trans s4).trans s5)
        have sT := sT.trans ((((s1.trans s2).trans s3).trans s4).trans s5)
        refine ⟨_, rfl, _, rfl, f1, f2, _, _, rfl, rfl, hA, hB, trivial, fun r1 K1 n1 s1 h1 => ⟨_, rfl, r1, f3, _, _, rfl, rfl, h1, (hC.same s1), ⟨19, by decide, by decide, (Q4.Bd.add (n := 18) (bu.mono (by decide)) (bv.mono (by decide))).mono (by decide), bw.mono (by decide)⟩, fun r2 K2 n2 s2 h2 => ⟨_, rfl, _, rfl, f1, f3, _, _, rfl, rfl, (hA.same (s1.trans s2)), (hC.same (s1.trans s2)), ⟨18, by decide, by decide, bu.mono (by decide), bw.mono (by decide)⟩, fun r3 K3 n3 s3 h3 => ⟨_, rfl, _, rfl, f2, f3, _, _, rfl, rfl, (hB.same ((s1.trans s2).trans s3)), (hC.same ((s1.trans s2).trans s3)), ⟨18, by decide, by decide, bv.mono (by decide), bw.mono (by decide)⟩, fun r4 K4 n4 s4 h4 => ⟨r3, r4, _, _, rfl, rfl, (h3.same s4), h4, trivial, fun r5 K5 n5 s5 h5 => ⟨r2, r5, _, _, rfl, rfl, (h2.same ((s3.trans s4).trans s5)), h5, _, rfl, ifF (ndf (Q4.dist' pu pv' pw)) ?_⟩⟩⟩⟩⟩⟩
        have hA := hA.same ((((s1.trans s2).trans s3).trans s4).trans s5)
        have hB := hB.same ((((s1.trans s2).trans s3).trans s4).trans s5)
        have hC := hC.same ((((s1.trans s2).trans s3).trans s4).trans s5)
        have sT := sT.trans ((((s1.trans s2).trans s3).trans s4).trans s5)
        refine ⟨_, rfl, _, rfl, f1, f2, _, _, rfl, rfl, hA, hB, ⟨18, by decide, by decide, bu.mono (by decide), bv.mono (by decide)⟩, fun r1 K1 n1 s1 h1 => ⟨_, rfl, r1, f3, _, _, rfl, rfl, h1, (hC.same s1), ⟨38, by decide, by decide, (Q4.Bd.mul (n := 18) (bu.mono (by decide)) (bv.mono (by decide))).mono (by decide), bw.mono (by decide)⟩, fun r2 K2 n2 s2 h2 => ⟨r2, _, rfl, h2, fun th eth => ⟨_, rfl, l8, _, _, _, rfl, rfl, SqL.of ((sT.trans (s1.trans s2)) _ _ g8), rfl, _, rfl, l8, _, _, _, rfl, rfl, SqL.of ((sT.trans (s1.trans s2)) _ _ g8), rfl, t1, t2, u, v, rfl, SqT.of ((sT.trans (s1.trans s2)) _ _ g1), SqT.of ((sT.trans (s1.trans s2)) _ _ g2), ⟨18, by decide, by decide, bu, bv⟩, fun r3 n3 => ⟨_, rfl, l8, _, _, _, rfl, rfl, SqL.of ((sT.trans ((s1.trans s2).trans (same_upd (o := .tup (Q4.mul u v).vs) n3))) _ _ g8), rfl, r3, t3, Q4.mul u v, w', rfl, SqT.of upd_same, SqT.of ((sT.trans ((s1.trans s2).trans (same_upd (o := .tup (Q4.mul u v).vs) n3))) _ _ g3), ⟨38, by decide, by decide, bu.mul bv, bw.mono (by decide)⟩, fun r4 n4 => ⟨_, _, Dp.q4 (SqT.of (((same_upd (o := .tup (Q4.mul u v).vs) n3).trans (same_upd (o := (.tup (Q4.mul (Q4.mul u v) w').vs)) n4)) _ _ eth)), Dp.q4 (SqT.of upd_same), rfl, rfl, _, rfl, ifF ?_ ?_⟩⟩⟩⟩⟩⟩
        · rw [eqv_q4, decide_eq_true rfl]; rfl
        have hA := hA.same (((s1.trans s2).trans (same_upd (o := .tup (Q4.mul u v).vs) n3)).trans (same_upd (o := (.tup (Q4.mul (Q4.mul u v) w').vs)) n4))
        have hB := hB.same (((s1.trans s2).trans (same_upd (o := .tup (Q4.mul u v).vs) n3)).trans (same_upd (o := (.tup (Q4.mul (Q4.mul u v) w').vs)) n4))
        have hC := hC.same (((s1.trans s2).trans (same_upd (o := .tup (Q4.mul u v).vs) n3)).trans (same_upd (o := (.tup (Q4.mul (Q4.mul u v) w').vs)) n4))
        have sT := sT.trans (((s1.trans s2).trans (same_upd (o := .tup (Q4.mul u v).vs) n3)).trans (same_upd (o := (.tup (Q4.mul (Q4.mul u v) w').vs)) n4))
        refine ⟨_, rfl, _, rfl, f1, f2, _, _, rfl, rfl, hA, hB, ⟨18, by decide, by decide, bu.mono (by decide), bv.mono (by decide)⟩, fun r1 K1 n1 s1 h1 => ⟨r1, _, rfl, h1, fun r2 K2 n2 s2 h2 => ⟨_, rfl, f2, _, rfl, (hB.same (s1.trans s2)), fun r3 K3 n3 s3 h3 => ⟨_, rfl, f1, _, rfl, (hA.same ((s1.trans s2).trans s3)), fun r4 K4 n4 s4 h4 => ⟨r3, r4, _, _, rfl, rfl, (h3.same s4), h4, ⟨18, by decide, by decide, bv.mir.mono (by decide), bu.mir.mono (by decide)⟩, fun r5 K5 n5 s5 h5 => ⟨r2, r5, _, _, rfl, rfl, (h2.same ((s3.trans s4).trans s5)), h5, _, rfl, ifF (ndf (Q4.mir_mul pu pv')) ?_⟩⟩⟩⟩⟩⟩
        have hA := hA.same ((((s1.trans s2).trans s3).trans s4).trans s5)
        have hB := hB.same ((((s1.trans s2).trans s3).trans s4).trans s5)
        have hC := hC.same ((((s1.trans s2).trans s3).trans s4).trans s5)
        have sT := sT.trans ((((s1.trans s2).trans s3).trans s4).trans s5)
        refine ⟨_, rfl, _, rfl, f1, f2, _, _, rfl, rfl, hA, hB, trivial, fun r1 K1 n1 s1 h1 => ⟨_, rfl, r1, f2, _, _, rfl, rfl, h1, (hB.same s1), trivial, fun r2 K2 n2 s2 h2 => ⟨_, rfl, r2, f1, _, _, rfl, rfl, h2, (hA.same (s1.trans s2)), _, rfl, ifF (ndf Q4.sub_add) ?_⟩⟩⟩
        have hA := hA.same (s1.trans s2)
        have hB := hB.same (s1.trans s2)
        have hC := hC.same (s1.trans s2)
        have sT := sT.trans (s1.trans s2)
        refine ⟨_, rfl, f1, _, rfl, hA, fun r1 K1 n1 s1 h1 => ⟨r1, _, rfl, h1, fun r2 K2 n2 s2 h2 => ⟨_, rfl, r2, f1, _, _, rfl, rfl, h2, (hA.same (s1.trans s2)), _, rfl, ifF (ndf Q4.neg_neg) ?_⟩⟩⟩
        have hA := hA.same (s1.trans s2)
        have hB := hB.same (s1.trans s2)
        have hC := hC.same (s1.trans s2)
        have sT := sT.trans (s1.trans s2)
        refine ⟨_, rfl, l8, _, _, _, rfl, rfl, SqL.of (sT _ _ g8), rfl, t1, u, 18, rfl, SqT.of (sT _ _ g1), by decide, by decide, bu, fun H1 s1 => ⟨_, rfl, l8, _, _, _, rfl, rfl, SqL.of ((sT.trans s1) _ _ g8), rfl, t2, v, 18, rfl, SqT.of ((sT.trans s1) _ _ g2), by decide, by decide, bv, fun H2 s2 => ⟨_, _, rfl, rfl, wm (n := 38) bu.size bv.size (by decide) (by decide), ?_⟩⟩⟩
        have hA := hA.same (s1.trans s2)
        have hB := hB.same (s1.trans s2)
        have hC := hC.same (s1.trans s2)
        have sT := sT.trans (s1.trans s2)
        dsimp only [gName]
        refine nx_norm (σ' := [some (.ref a), some (.ref p), some (.int (0 + i)), some (.int m), some (.ref l8), some (.ref f1), some (.ref f2), some (.ref f3), some (.int (u.size * v.size)), x9]) rfl ?_
        refine ⟨_, rfl, _, rfl, f1, f2, _, _, rfl, rfl, hA, hB, ⟨18, by decide, by decide, bu.mono (by decide), bv.mono (by decide)⟩, fun r1 K1 n1 s1 h1 => ⟨r1, _, 38, rfl, h1, by decide, by decide, bu.mul bv, _, rfl, f1, _, 18, rfl, (hA.same s1), by decide, by decide, bu, _, rfl, f2, _, 18, rfl, (hB.same s1), by decide, by decide, bv, _, _, rfl, rfl, wm (n := 38) bu.size bv.size (by decide) (by decide), _, rfl, f1, _, rfl, (hA.same s1), fun r2 K2 n2 s2 h2 => ⟨r2, _, 18, rfl, h2, by decide, by decide, bu.mir, (by show 3 ≤ sizeLine; decide), fun r3 n3 => ⟨_, rfl, _, rfl, _, rfl, l8, _, _, _, rfl, rfl, SqL.of ((sT.trans ((s1.trans s2).trans (same_upd (o := (.lst [.int (Q4.mul u v).size, .int (u.size * v.size), .int (Q4.mir u).size])) n3))) _ _ g8), rfl, t1, u, 18, rfl, SqT.of ((sT.trans ((s1.trans s2).trans (same_upd (o := (.lst [.int (Q4.mul u v).size, .int (u.size * v.size), .int (Q4.mir u).size])) n3))) _ _ g1), by decide, by decide, bu, fun H4 s4 => ⟨(by show 3 ≤ sizeLine; decide), fun r5 n5 => ⟨_, _, rfl, EqV.ints (ns := [u.size * v.size, u.size * v.size, u.size]) ?_ upd_same (by show 3 ≤ 1000; decide), fun H6 s6 => ⟨true, rfl, ifF rfl ?_⟩⟩⟩⟩⟩⟩⟩
        · rw [(s4.trans (same_upd (o := (.lst [.int (u.size * v.size), .int (u.size * v.size), .int u.size])) n5)) _ _ upd_same, Q4.size_mul pu pv', Q4.size_mir]; rfl
        have hA := hA.same (((((s1.trans s2).trans (same_upd (o := (.lst [.int (Q4.mul u v).size, .int (u.size * v.size), .int (Q4.mir u).size])) n3)).trans s4).trans (same_upd (o := (.lst [.int (u.size * v.size), .int (u.size * v.size), .int u.size])) n5)).trans s6)
        have hB := hB.same (((((s1.trans s2).trans (same_upd (o := (.lst [.int (Q4.mul u v).size, .int (u.size * v.size), .int (Q4.mir u).size])) n3)).trans s4).trans (same_upd (o := (.lst [.int (u.size * v.size), .int (u.size * v.size), .int u.size])) n5)).trans s6)
        have hC := hC.same (((((s1.trans s2).trans (same_upd (o := (.lst [.int (Q4.mul u v).size, .int (u.size * v.size), .int (Q4.mir u).size])) n3)).trans s4).trans (same_upd (o := (.lst [.int (u.size * v.size), .int (u.size * v.size), .int u.size])) n5)).trans s6)
        have sT := sT.trans (((((s1.trans s2).trans (same_upd (o := (.lst [.int (Q4.mul u v).size, .int (u.size * v.size), .int (Q4.mir u).size])) n3)).trans s4).trans (same_upd (o := (.lst [.int (u.size * v.size), .int (u.size * v.size), .int u.size])) n5)).trans s6)
        have b3 : (Q4.whole 3).Bd 18 := ⟨by decide, by decide, by decide, by decide⟩
        refine ⟨_, rfl, _, rfl, f1, _, rfl, hA, fun r1 K1 n1 s1 h1 => ⟨f1, r1, _, _, rfl, rfl, (hA.same s1), h1, ⟨18, by decide, by decide, bu.mono (by decide), bu.mir.mono (by decide)⟩, fun r2 K2 n2 s2 h2 => ⟨rfl, _, rfl, f1, _, 18, rfl, (hA.same (s1.trans s2)), by decide, by decide, bu, _, rfl, fun r3 K3 n3 s3 h3 => ⟨r2, r3, _, _, rfl, rfl, (h2.same s3), h3, _, rfl, ifF (ndf (Q4.mul_mir pu)) ?_⟩⟩⟩⟩
        have hA := hA.same ((s1.trans s2).trans s3)
        have hB := hB.same ((s1.trans s2).trans s3)
        have hC := hC.same ((s1.trans s2).trans s3)
        have sT := sT.trans ((s1.trans s2).trans s3)
        refine ⟨_, rfl, rfl, _, rfl, fun r1 K1 n1 s1 h1 => ⟨f1, r1, _, _, rfl, rfl, (hA.same s1), h1, ⟨18, by decide, by decide, bu.mono (by decide), b3.mono (by decide)⟩, fun r2 K2 n2 s2 h2 => ⟨rfl, _, rfl, fun r3 K3 n3 s3 h3 => ⟨_, rfl, r3, f1, _, _, rfl, rfl, h3, (hA.same ((s1.trans s2).trans s3)), ⟨18, by decide, by decide, b3.mono (by decide), bu.mono (by decide)⟩, fun r4 K4 n4 s4 h4 => ⟨r2, r4, _, _, rfl, rfl, (h2.same (s3.trans s4)), h4, _, rfl, ifF (ndf (Q4.mul_whole pu 3)) ?_⟩⟩⟩⟩⟩
        have hA := hA.same (((s1.trans s2).trans s3).trans s4)
        have hB := hB.same (((s1.trans s2).trans s3).trans s4)
        have hC := hC.same (((s1.trans s2).trans s3).trans s4)
        have sT := sT.trans (((s1.trans s2).trans s3).trans s4)
        exact ⟨_, _, _, _, _, _, _, _, rfl, hF8.same sT⟩
    · rintro σ H' ⟨x2, x3, x4, x5, x6, x7, x8, x9, rfl, hF⟩
      exact q _
end
end G
set_option Elab.async false
set_option linter.all false
set_option maxRecDepth 100000
set_option maxHeartbeats 1000000
namespace G
open PySem PySem.Spec PyProof.Rows L2 RZ StX
theorem all_mk {l : PySem.W.OpenLaw} {w : World} {K : PySem.W.Frag} {h : Heap} {mg : Str → Option Value} {fa C : Addr} (X : K.In h) (G : h.Ns mainGlobals mg) (hfa : mg "law" = some (.ref fa)) (t_law : TopLaw K "law" s_law) (t_is_number : TopFn K "is_number" s_is_number) (t_are_halves : TopFn K "are_halves" s_are_halves) (t_L_feed : TopFn K "_law_feed" s_L_feed) (t_L_take : TopFn K "_law_take" s_L_take) (t_L_same : TopFn K "_law_same" s_L_same) (t_L_halves : TopFn K "_law_halves" s_L_halves) (t_L_times : TopFn K "_law_times" s_L_times) (t_L_size : TopFn K "_law_size" s_L_size) (t_L_four : TopFn K "_law_four" s_L_four) (t_cls : TopCls K "Four" C) (t_init : TopMeth K C "__init__" "Four.__init__" s_Four_init) (m_Four_add : TopMeth K C "__add__" "Four.__add__" s_Four_add) (m_Four_sub : TopMeth K C "__sub__" "Four.__sub__" s_Four_sub) (m_Four_mul : TopMeth K C "__mul__" "Four.__mul__" s_Four_mul) (m_Four_neg : TopMeth K C "__neg__" "Four.__neg__" s_Four_neg) (m_Four_mirrored : TopMeth K C "mirrored" "Four.mirrored" s_Four_mirrored) (m_Four_eq : TopMeth K C "__eq__" "Four.__eq__" s_Four_eq) (p_Four_halves : TopProp K C "halves" "Four.halves" s_Four_halves) (p_Four_size : TopProp K C "size" "Four.size" s_Four_size) (u_Four_whole : TopStat K C "whole" "Four.whole" s_Four_whole) (x_nD : PySem.W.findIn K (.ref C) "doubled" = some none) (x_ne : PySem.W.findIn K (.ref C) "__ne__" = some (some (.builtin "object.__ne__"))) (x_ha : PySem.W.findIn K (.ref C) "__class__" = some (some (.builtin "object.__class__"))) (x_hn : PySem.W.specialIn K (.builtin "object.__class__") "__get__" = some (some (.builtin "getset_descriptor.__get__"))) (x_ht : PySem.W.takesIn K (.builtin "object.__class__") = some true) (z_abs : PySem.W.nsIn K mainGlobals "abs" = some none) (z_len : PySem.W.nsIn K mainGlobals "len" = some none) (z_int : PySem.W.nsIn K mainGlobals "int" = some none) (z_list : PySem.W.nsIn K mainGlobals "list" = some none) (z_isinstance : PySem.W.nsIn K mainGlobals "isinstance" = some none) (z_bool : PySem.W.nsIn K mainGlobals "bool" = some none) (z_str : PySem.W.nsIn K mainGlobals "str" = some none) (z_tuple : PySem.W.nsIn K mainGlobals "tuple" = some none) (z_all : PySem.W.nsIn K mainGlobals "all" = some none) (z_zip : PySem.W.nsIn K mainGlobals "zip" = some none) (z_range : PySem.W.nsIn K mainGlobals "range" = some none) (z_sum : PySem.W.nsIn K mainGlobals "sum" = some none) :
    ∃ fd : FuncData, (∀ (s : Shared) (v : Value), BindsTo s fd ⟨[v], []⟩ [("_law_script", v)]) ∧ ∀ base : Heap, K.In base → base.Ns mainGlobals mg → FnOk l.prog w K mg base CX0 6 fa fd ["_law_script"] (spLaw K) := by
  have nn := fun {x : Str} (z : PySem.W.nsIn K mainGlobals x = some none) => PySem.W.mg_none_of X G z
  have B : Bn mg := ⟨nn z_abs, nn z_len, nn z_int, nn z_list, nn z_isinstance, nn z_bool, nn z_str, nn z_tuple, nn z_all, nn z_zip, nn z_range, nn z_sum⟩
  obtain ⟨f_is_number, fd_is_number, F_is_number, g_is_number⟩ := t_is_number.get X G
  obtain ⟨f_are_halves, fd_are_halves, F_are_halves, g_are_halves⟩ := t_are_halves.get X G
  obtain ⟨f_L_feed, fd_L_feed, F_L_feed, g_L_feed⟩ := t_L_feed.get X G
  obtain ⟨f_L_take, fd_L_take, F_L_take, g_L_take⟩ := t_L_take.get X G
  obtain ⟨f_L_same, fd_L_same, F_L_same, g_L_same⟩ := t_L_same.get X G
  obtain ⟨f_L_halves, fd_L_halves, F_L_halves, g_L_halves⟩ := t_L_halves.get X G
  obtain ⟨f_L_times, fd_L_times, F_L_times, g_L_times⟩ := t_L_times.get X G
  obtain ⟨f_L_size, fd_L_size, F_L_size, g_L_size⟩ := t_L_size.get X G
  obtain ⟨f_L_four, fd_L_four, F_L_four, g_L_four⟩ := t_L_four.get X G
  obtain ⟨f_Four_add, e_Four_add, fd_Four_add, F_Four_add⟩ := m_Four_add
  obtain ⟨f_Four_sub, e_Four_sub, fd_Four_sub, F_Four_sub⟩ := m_Four_sub
  obtain ⟨f_Four_mul, e_Four_mul, fd_Four_mul, F_Four_mul⟩ := m_Four_mul
  obtain ⟨f_Four_neg, e_Four_neg, fd_Four_neg, F_Four_neg⟩ := m_Four_neg
  obtain ⟨f_Four_mirrored, e_Four_mirrored, fd_Four_mirrored, F_Four_mirrored⟩ := m_Four_mirrored
  obtain ⟨f_Four_eq, e_Four_eq, fd_Four_eq, F_Four_eq⟩ := m_Four_eq
  obtain ⟨q_Four_halves, f_Four_halves, e_Four_halves, fd_Four_halves, F_Four_halves⟩ := p_Four_halves
  obtain ⟨q_Four_size, f_Four_size, e_Four_size, fd_Four_size, F_Four_size⟩ := p_Four_size
  obtain ⟨c_Four_whole, q_Four_whole, f_Four_whole, e_Four_whole, fd_Four_whole, F_Four_whole⟩ := u_Four_whole
  obtain ⟨f_I, e_I, fd_I, F_I⟩ := t_init
  have CF : FourC K mg C := ⟨t_cls.facts X G, x_nD⟩
  have b_is_number := F_is_number.binds (ps := ["value"]) fun _ _ _ _ _ _ us hl => match us, hl with | [_], _ => rfl
  have b_are_halves := F_are_halves.binds (ps := ["values"]) fun _ _ _ _ _ _ us hl => match us, hl with | [_], _ => rfl
  have b_L_feed := F_L_feed.binds (ps := ["_law_script"]) fun _ _ _ _ _ _ us hl => match us, hl with | [_], _ => rfl
  have b_L_take := F_L_take.binds (ps := ["_law_feed_here", "_law_many"]) fun _ _ _ _ _ _ us hl => match us, hl with | [_, _], _ => rfl
  have b_L_same := F_L_same.binds (ps := ["_law_found", "_law_due"]) fun _ _ _ _ _ _ us hl => match us, hl with | [_, _], _ => rfl
  have b_L_halves := F_L_halves.binds (ps := ["_law_feed_here", "_law_most"]) fun _ _ _ _ _ _ us hl => match us, hl with | [_, _], _ => rfl
  have b_L_times := F_L_times.binds (ps := ["_law_one", "_law_other"]) fun _ _ _ _ _ _ us hl => match us, hl with | [_, _], _ => rfl
  have b_L_size := F_L_size.binds (ps := ["_law_halves_here"]) fun _ _ _ _ _ _ us hl => match us, hl with | [_], _ => rfl
  have b_L_four := F_L_four.binds (ps := ["_law_halves_here"]) fun _ _ _ _ _ _ us hl => match us, hl with | [_], _ => rfl
  have b_Four_add := F_Four_add.binds (ps := ["self", "other"]) fun _ _ _ _ _ _ us hl => match us, hl with | [_, _], _ => rfl
  have b_Four_sub := F_Four_sub.binds (ps := ["self", "other"]) fun _ _ _ _ _ _ us hl => match us, hl with | [_, _], _ => rfl
  have b_Four_mul := F_Four_mul.binds (ps := ["self", "other"]) fun _ _ _ _ _ _ us hl => match us, hl with | [_, _], _ => rfl
  have b_Four_neg := F_Four_neg.binds (ps := ["self"]) fun _ _ _ _ _ _ us hl => match us, hl with | [_], _ => rfl
  have b_Four_mirrored := F_Four_mirrored.binds (ps := ["self"]) fun _ _ _ _ _ _ us hl => match us, hl with | [_], _ => rfl
  have b_Four_eq := F_Four_eq.binds (ps := ["self", "other"]) fun _ _ _ _ _ _ us hl => match us, hl with | [_, _], _ => rfl
  have b_Four_halves := F_Four_halves.binds (ps := ["self"]) fun _ _ _ _ _ _ us hl => match us, hl with | [_], _ => rfl
  have b_Four_size := F_Four_size.binds (ps := ["self"]) fun _ _ _ _ _ _ us hl => match us, hl with | [_], _ => rfl
  have b_Four_whole := F_Four_whole.binds (ps := ["number"]) fun _ _ _ _ _ _ us hl => match us, hl with | [_], _ => rfl
  obtain ⟨f8, oc, kV, dc, pm, cd, ct, od, an, sl, a8, l8, c8, k8⟩ := t_law
  have e := hfa.symm.trans (PySem.W.mg_of X G a8)
  cases e
  refine ⟨PySem.W.fnOf "law" "law" (defArgs s_law) (defBody s_law) (defScope s_law) .none kV dc pm an cd ct, fun s v => .of_eq rfl, fun base _ _ => ?_⟩
  have D1 : DefOk l.prog w K mg base "is_number" 1 ["value"] spIsNum := ⟨_, _, ok_isnum F_is_number B, g_is_number, F_is_number.kp, b_is_number⟩
  have D2 : DefOk l.prog w K mg base "are_halves" 2 ["values"] (spHalves K) := ⟨_, _, ok_halves (k := 0) F_are_halves B B.sum D1, g_are_halves, F_are_halves.kp, b_are_halves⟩
  have CI : InitOk l.prog w K mg base C := ⟨f_I, ⟨t_cls.2.2.2.2.1, e_I.at_, e_I.fn, t_cls.2.2.2.2.2⟩, ok_init F_I CF.cl CF.nD D2⟩
  have D4 : DefOk l.prog w K mg base "_law_take" 1 ["_law_feed_here", "_law_many"] spTake := ⟨_, _, ok_take F_L_take B, g_L_take, F_L_take.kp, b_L_take⟩
  exact ok_law (fun_mk (st := s_law) l8 c8 k8) B CF CI x_ne ⟨_, _, ok_feed F_L_feed B, g_L_feed, F_L_feed.kp, b_L_feed⟩ D4 ⟨_, _, ok_same F_L_same B g_L_same b_L_same 2, g_L_same, F_L_same.kp, b_L_same⟩
    ⟨_, _, ok_halvesL F_L_halves B D4, g_L_halves, F_L_halves.kp, b_L_halves⟩ ⟨_, _, ok_times F_L_times, g_L_times, F_L_times.kp, b_L_times⟩ ⟨_, _, ok_size F_L_size B, g_L_size, F_L_size.kp, b_L_size⟩ ⟨_, _, ok_four F_L_four CF CI, g_L_four, F_L_four.kp, b_L_four⟩
    ⟨_, _, ok_add F_Four_add CF CI, e_Four_add, b_Four_add⟩ ⟨_, _, ok_sub F_Four_sub CF CI, e_Four_sub, b_Four_sub⟩ ⟨_, _, ok_mul F_Four_mul CF CI, e_Four_mul, b_Four_mul⟩ ⟨_, _, ok_neg F_Four_neg CF CI, e_Four_neg, b_Four_neg⟩ ⟨_, _, ok_mirrored F_Four_mirrored CF CI, e_Four_mirrored, b_Four_mirrored⟩ ⟨_, _, ok_eqP F_Four_eq CF ⟨x_ha, x_hn, x_ht⟩ B, e_Four_eq, b_Four_eq⟩
    ⟨_, _, _, ok_halvesP F_Four_halves CF, e_Four_halves, b_Four_halves⟩ ⟨_, _, _, ok_sizeP F_Four_size CF, e_Four_size, b_Four_size⟩ ⟨_, _, _, _, ok_whole F_Four_whole CF CI, e_Four_whole, b_Four_whole⟩
theorem walk {l : PySem.W.OpenLaw} {q : Program} {loose : List Str} {XP : (Str → Option Value) → Heap → Prop} {YP : World → Heap → Prop} {d : DefRec} {K : Params → PySem.W.Frag} (hn : l.most = some 63) (hdf : d.params.defaults = [])
    (hY : ∀ (w : World) (h : Heap), YP w h → (K w.params).In h)
    (F : ∀ (w : World) (mg : Str → Option Value) (fa : Addr) (h : Heap), (K w.params).In h → h.Ns mainGlobals mg → mg d.name = some (.ref fa) →
      ∃ fd : FuncData, (∀ (s : Shared) (u : Value), BindsTo s fd ⟨[u], []⟩ [("_law_script", u)]) ∧ ∀ base : Heap, (K w.params).In base → base.Ns mainGlobals mg → FnOk l.prog w (K w.params) mg base CX0 6 fa fd ["_law_script"] (spLaw (K w.params))) :
    PySem.W.WalkO q loose XP YP l.row.toRowW d [] (fun f vs => PySem.call f vs) :=
  L2.walk_of (n := 63) (k := 6) (x := "_law_script") (CX := fun _ => CX0) (sp := fun w => spLaw (K w.params)) hn (by decide) hdf ⟨rfl, by decide, by decide⟩ hY F (fun _ _ a ns hl _ hS => ⟨a, ns, rfl, hS, hl, fun _ => rfl⟩) fun _ _ _ _ _ z => z
end G
open PySem PySem.W PyProof.Rows in
set_option maxRecDepth 100000 in
set_option maxHeartbeats 0 in
theorem PySem.Challenge.cw_grainmeet_k05_whole_rules_of_products_holds : PySem.Challenge.rw_grainmeet_k05_whole_rules_of_products.Holds := by
  w_on; o_law; k_head; (case hw => w_witness2)
  k_fill
  refine G.walk (l := PySem.Challenge.rw_grainmeet_k05_whole_rules_of_products) rfl rfl (fun w h Y => PySem.W.kIn_of Y) ?F
  case F =>
    intro w mg fa h KX GX hmg
    refine' G.all_mk KX GX hmg ?t_law ?t_is_number ?t_are_halves ?t_L_feed ?t_L_take ?t_L_same ?t_L_halves ?t_L_times ?t_L_size ?t_L_four ?t_cls ?t_init ?m_Four_add ?m_Four_sub ?m_Four_mul ?m_Four_neg ?m_Four_mirrored ?m_Four_eq ?p_Four_halves ?p_Four_size ?u_Four_whole ?x_nD ?x_ne ?x_ha ?x_hn ?x_ht ?z_abs ?z_len ?z_int ?z_list ?z_isinstance ?z_bool ?z_str ?z_tuple ?z_all ?z_zip ?z_range ?z_sum
    (case t_cls => refine' G.TopCls.mk ?a ?pg ?hd ?po ?sa ?sf ?mr ?mk ?kc; (case a => k_is); (case pg => k_is); (case hd => k_is); (case po => k_is); (case sa => k_is); (case sf => k_is); (case mr => k_is); (case mk => k_is); (case kc => k_is))
    (case t_law => refine' G.TopLaw.mk ?a ?l ?c ?k; (case a => k_is); (case l => k_is); (case c => k_is); (case k => k_is))
    (case t_is_number => refine' G.TopFn.mk ?a ?l ?c ?k; (case a => k_is); (case l => k_is); (case c => k_is); (case k => k_is))
    (case t_are_halves => refine' G.TopFn.mk ?a ?l ?c ?k; (case a => k_is); (case l => k_is); (case c => k_is); (case k => k_is))
    (case t_L_feed => refine' G.TopFn.mk ?a ?l ?c ?k; (case a => k_is); (case l => k_is); (case c => k_is); (case k => k_is))
    (case t_L_take => refine' G.TopFn.mk ?a ?l ?c ?k; (case a => k_is); (case l => k_is); (case c => k_is); (case k => k_is))
    (case t_L_same => refine' G.TopFn.mk ?a ?l ?c ?k; (case a => k_is); (case l => k_is); (case c => k_is); (case k => k_is))
    (case t_L_halves => refine' G.TopFn.mk ?a ?l ?c ?k; (case a => k_is); (case l => k_is); (case c => k_is); (case k => k_is))
    (case t_L_times => refine' G.TopFn.mk ?a ?l ?c ?k; (case a => k_is); (case l => k_is); (case c => k_is); (case k => k_is))
    (case t_L_size => refine' G.TopFn.mk ?a ?l ?c ?k; (case a => k_is); (case l => k_is); (case c => k_is); (case k => k_is))
    (case t_L_four => refine' G.TopFn.mk ?a ?l ?c ?k; (case a => k_is); (case l => k_is); (case c => k_is); (case k => k_is))
    (case t_init => refine' G.TopMeth.mk ?a ?i ?l ?c ?k; (case a => k_is); (case i => k_is); (case l => k_is); (case c => k_is); (case k => k_is))
    (case m_Four_add => refine' G.TopMeth.mk ?a ?i ?l ?c ?k; (case a => k_is); (case i => k_is); (case l => k_is); (case c => k_is); (case k => k_is))
    (case m_Four_sub => refine' G.TopMeth.mk ?a ?i ?l ?c ?k; (case a => k_is); (case i => k_is); (case l => k_is); (case c => k_is); (case k => k_is))
    (case m_Four_mul => refine' G.TopMeth.mk ?a ?i ?l ?c ?k; (case a => k_is); (case i => k_is); (case l => k_is); (case c => k_is); (case k => k_is))
    (case m_Four_neg => refine' G.TopMeth.mk ?a ?i ?l ?c ?k; (case a => k_is); (case i => k_is); (case l => k_is); (case c => k_is); (case k => k_is))
    (case m_Four_mirrored => refine' G.TopMeth.mk ?a ?i ?l ?c ?k; (case a => k_is); (case i => k_is); (case l => k_is); (case c => k_is); (case k => k_is))
    (case m_Four_eq => refine' G.TopMeth.mk ?a ?i ?l ?c ?k; (case a => k_is); (case i => k_is); (case l => k_is); (case c => k_is); (case k => k_is))
    (case p_Four_halves => refine' G.TopProp.mk ?a ?s ?t ?r ?l ?c ?k; (case a => k_is); (case s => k_is); (case t => k_is); (case r => k_is); (case l => k_is); (case c => k_is); (case k => k_is))
    (case p_Four_size => refine' G.TopProp.mk ?a ?s ?t ?r ?l ?c ?k; (case a => k_is); (case s => k_is); (case t => k_is); (case r => k_is); (case l => k_is); (case c => k_is); (case k => k_is))
    (case u_Four_whole => refine' G.TopStat.mk ?ty ?rd ?ga ?a ?r ?l ?c ?k; (case ty => k_is); (case rd => k_is); (case ga => k_is); (case a => k_is); (case r => k_is); (case l => k_is); (case c => k_is); (case k => k_is))
    (case x_nD => k_is)
    (case x_ne => k_is)
    (case x_ha => k_is)
    (case x_hn => k_is)
    (case x_ht => k_is)
    (case z_abs => k_is)
    (case z_len => k_is)
    (case z_int => k_is)
    (case z_list => k_is)
    (case z_isinstance => k_is)
    (case z_bool => k_is)
    (case z_str => k_is)
    (case z_tuple => k_is)
    (case z_all => k_is)
    (case z_zip => k_is)
    (case z_range => k_is)
    (case z_sum => k_is)
