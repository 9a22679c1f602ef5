import PyProof.Rows.All
import Wide.All
import OpenK.AllK
import Wide.FinOn
import HandS.ForMost
import HandS.Wide
import HandS.IsInst
import HandS.Zip
import HandS.Flow
import HandS.Star
import HandS.Property
import PyProof.InstNe
import HandS.OwnEq
import HandS.ClsMeth
import HandS.Records
import KE.KCallOwn
import KE.DataAny
import HandS.TupMul
import HandS.TupAny
import HandS.SortRule
import HandS.NamedTupSort
import KE.DataMinMax
import KE.SortData
import KE.DataFind
import HandS.NoneIn
import HandS.Style
import HandS.TupSets
import HandS.Deep
import PyProof.ListIndex
import PySem.Challenge.RW_grainmeet_k17_turns_of_the_cube
set_option Elab.async false
set_option linter.all false
set_option maxRecDepth 100000
namespace G
open PySem PySem.Spec PyProof.Rows L2
/-! ### operators of a class of the text -/
theorem pe_imp {X : Cx} {e : Expr} {t t' : TE} (h : PE X e t) (i : ∀ σ H Q, t' σ H Q → t σ H Q) : PE X e t' := ⟨fun pins s σ H Q I q => h.run pins s σ H Q I (i σ H Q q)⟩
/-- one op other, both of the class at C, by its own method -/
def rOwn (C : Addr) (sp : Sp) : R2 := fun x y H Q => ∃ a b dx dy fs gs, x = .ref a ∧ y = .ref b ∧ H a = some (.ins C dx fs) ∧ H b = some (.ins C dy gs) ∧ sp [.ref a, .ref b] H Q E0
def rOwn1 (C : Addr) (sp : Sp) : V → Hp → VK → Prop := fun x H Q => ∃ a dx fs, x = .ref a ∧ H a = some (.ins C dx fs) ∧ sp [.ref a] H Q E0
section
variable {X : Cx} {k : Nat} {C f : Addr} {fd : FuncData} {ps : List Str} {sp : Sp}
theorem op_own {op : Operator} (F : FnOk X.prog X.w X.K X.mg X.base CX0 k f fd ps sp) (hr : Room k X.A) (hc : PySem.W.selfFirst X.K C = true) (hs : PySem.W.findIn X.K (.ref C) (PySem.dunder op.info.2) = some (some (.ref f))) (hf : PySem.W.isFn X.K (.ref f) = true) (hb : Binds X.K fd ps []) : OpR X (binaryOp op) (rOwn C sp) := by
  intro pins s σ H x y v u Q I rx ry h
  obtain ⟨a, b, dx, dy, fs, gs, rfl, rfl, ha, hb', q⟩ := h
  cases rx
  cases ry
  obtain ⟨mA, J, _⟩ := ins_get I.hok ha
  obtain ⟨mB, J', _⟩ := ins_get I.hok hb'
  obtain ⟨od, J, _⟩ := J.look
  obtain ⟨od', J', _⟩ := J'.look
  obtain ⟨m, hF⟩ := I.fr
  refine PySem.W.binop_K hF I.ok.mod.kin J J'.type hc hs hf ?_
  refine wpAny_mono (run_fn (vs := [.ref a, .ref b]) F hr hb .nil pass0 I (.cons rfl (.cons rfl .nil)) q) (fun r s' hq => ?_) fun _ _ e => e
  obtain ⟨z, H', I', rz, q'⟩ := hq
  cases r <;> first | exact ⟨z, H', I', rz, q'⟩ | (cases z <;> first | (obtain ⟨t, e⟩ := rz; cases e) | cases rz)
theorem un_own (F : FnOk X.prog X.w X.K X.mg X.base CX0 k f fd ps sp) (hr : Room k X.A) (hs : PySem.W.findIn X.K (.ref C) "__neg__" = some (some (.ref f))) (hf : PySem.W.isFn X.K (.ref f) = true) (hb : Binds X.K fd ps []) : UnR X (unaryOp .USub) (rOwn1 C sp) := by
  intro pins s σ H x v Q I rx h
  obtain ⟨a, dx, fs, rfl, ha, q⟩ := h
  cases rx
  obtain ⟨mA, J, _⟩ := ins_get I.hok ha
  obtain ⟨od, J, _⟩ := J.look
  obtain ⟨m, hF⟩ := I.fr
  refine PySem.W.ksp_neg hF I.ok.mod.kin J hs hf ?_
  exact run_fn (vs := [.ref a]) F hr hb .nil pass0 I (.cons rfl .nil) q
end
end G
set_option Elab.async false
set_option linter.all false
set_option maxRecDepth 100000
namespace G
open PySem PySem.W PySem.Spec PyProof.Rows
section
variable {prog : Program} {w : World} {A : Around} {E : Value → Shared → Prop} {s : Shared} {K : Frag} {x C L f : Addr} {h₀ : Heap} {m : Str → Option Value} {ox : Obj} {od : Option Obj} {b : Value}
theorem ifBoundB_K {M : Model} {name : Str} {id T : String} {args : List Value} {Q : Option Value → Shared → Prop} (S : Slot T name id) (X : K.In s.heap) (I : InstAt s.heap x ox C od) (hs : findIn K (.ref C) name = some (some (.builtin id)))
    (h : wpAny M A (call (.builtin id) (.ref x :: args)) (fun v => Q (some v)) E s) : wpAny M A (callSpecialIfBound? (.ref x) name args) Q E s := by
  simp only [callSpecialIfBound?, bindSpecialIfBound?]
  refine wpAny_holding (wpAny_bind (wpAny_bind (wpAny_bind (I.type.here ((looks_findIn X hs).here ?_)))))
  simp only [S.bind]
  refine wpAny_bind (wpAny_askSetting (wpAny_ite ?_))
  have fin : wpAny M A (call (.builtin id) ([.ref x] ++ args) >>= fun v => pure (some v)) Q E s := wpAny_bind (wpAny_mono h (fun v s' h' => wpAny_pure h') fun _ _ h' => h')
  split
  · exact wpAny_bind (wpAny_pure (wpAny_pure fin))
  · exact wpAny_tryCatch (wpAny_bind (wpAny_pure (wpAny_pure fin)))
theorem objNe_K {Q : Fin → Shared → Prop} (X : K.In s.heap) (I : InstAt s.heap x ox C od) (hs : findIn K (.ref C) "__eq__" = some (some (.ref f))) (hf : isFn K (.ref f) = true) (hu : A.units < cLine)
    (h : wpAny (model prog w) A (call (.ref f) [.ref x, b]) (fun v s' => ∃ r, v = .bool r ∧ Q (.done (.ret (.bool (!r)))) s') E s) : wpAny (model prog w) A (Builtin.«object.__ne__» ⟨[.ref x, b], []⟩) Q E s := by
  unfold Builtin.«object.__ne__»
  repeat (first
    | with_reducible refine wpAny_cRoomFor hu ?_
    | (refine wpAny_bind (m := callSpecialIfBound? (.ref x) (Str.ofString "__eq__") [b])
        (ifBound_K X I hs hf (wpAny_mono h (fun r s' hr => by
          obtain ⟨r, rfl, hq⟩ := hr
          repeat (first | exact hq | exact wpAny_pure hq | exact wpAny_truthy_bool hq | (refine wpAny_bind (m := truthy (.bool _)) (wpAny_truthy_bool ?_)) | wp_step)) fun _ _ e => e)))
    | wp_step)
theorem ne_K {Q : Value → Shared → Prop} (hu : A.units + 1 < cLine) (FR : Fr h₀ L s.heap m) (X₀ : K.In h₀) (I : InstAt s.heap x ox C od) (hb : Looks (model prog w) s.heap (typeOf b) (.ref C)) (hm : mroIn K C (.type "object") = some true)
    (hne : findIn K (.ref C) "__ne__" = some (some (.builtin "object.__ne__"))) (hs : findIn K (.ref C) "__eq__" = some (some (.ref f))) (hf : isFn K (.ref f) = true)
    (h : wpAny (model prog w) A.in1 (call (.ref f) [.ref x, b]) (fun v s' => ∃ r, v = .bool r ∧ Q (.bool (!r)) s') E s) : wpAny (model prog w) A (richCompare .NotEq (.ref x) b) Q E s := by
  have X := X₀.keeps FR.keep
  have hin : Looks (model prog w) s.heap (isInstance (.ref x) (.type "object")) true := I.type.andThen (looks_mroIn X hm)
  have S := F.cmp_object.ne
  have one : wpAny (model prog w) A (tryCompare (.ref x) "__ne__" b) (fun r s' => ∃ v, r = some v ∧ Q v s') E s := by
    unfold tryCompare
    refine wpAny_bind (ifBoundB_K S X I hne (wpAny_call (codeAny_call_builtin S.plain F.cmpEntry_ne (check_slot F.cmpKind_ne F.cmpSplit_ne hin (F.cmpArgs_ne _ _) ?_))))
    refine objNe_K X I hs hf hu (wpAny_mono h (fun v s' hv => ?_) fun _ _ e => e)
    obtain ⟨r, rfl, hq⟩ := hv
    exact ⟨r, rfl, wpAny_pure ⟨_, rfl, hq⟩⟩
  unfold richCompare
  simp only [oneThing_ref]
  refine wpAny_holding (wpAny_bind (wpAny_cRoomFor (Nat.lt_of_succ_lt hu) ?_))
  refine wpAny_bind (I.type.here (wpAny_bind (hb.here ?_)))
  rw [cmpInfo_NotEq]
  dsimp only
  rw [show (Value.ref C != Value.ref C) = false from by simp]
  simp only [Bool.false_eq_true, if_false]
  refine wpAny_bind (wpAny_pure ?_)
  simp only [Bool.false_eq_true, if_false]
  refine wpAny_bind (wpAny_mono one (fun r s' z => ?_) fun _ _ e => e)
  obtain ⟨v, rfl, hq⟩ := z
  exact wpAny_pure hq
end
end G
namespace G
open PySem PySem.Spec PyProof.Rows L2
def rNeOwn (C : Addr) (sp : Sp) : R2 := fun x y H Q => ∃ a b dx dy fs gs, x = .ref a ∧ y = .ref b ∧ H a = some (.ins C dx fs) ∧ H b = some (.ins C dy gs) ∧ sp [.ref a, .ref b] H (fun v H' => ∃ r, v = .bl r ∧ Q (.bl (!r)) H') E0
section
variable {X : Cx} {k : Nat} {C f : Addr} {fd : FuncData} {ps : List Str} {sp : Sp}
theorem op_eqOwn (F : FnOk X.prog X.w X.K X.mg X.base CX0 k f fd ps sp) (hr : Room k X.A) (hs : PySem.W.findIn X.K (.ref C) "__eq__" = some (some (.ref f))) (hf : PySem.W.isFn X.K (.ref f) = true) (hb : Binds X.K fd ps []) : OpR X (compareOp .Eq) (rOwn C sp) := by
  intro pins s σ H x y v u Q I rx ry h
  obtain ⟨a, b, dx, dy, fs, gs, rfl, rfl, ha, hb', q⟩ := h
  cases rx
  cases ry
  obtain ⟨mA, J, _⟩ := ins_get I.hok ha
  obtain ⟨mB, J', _⟩ := ins_get I.hok hb'
  obtain ⟨od, J, _⟩ := J.look
  obtain ⟨od', J', _⟩ := J'.look
  obtain ⟨m, hF⟩ := I.fr
  unfold compareOp
  refine PySem.W.cmp_K (op := .Eq) (tb := .ref C) hr.units0 hF I.ok.mod.kin J J'.type (by simp [PySem.W.notFirst]) hs hf ?_
  refine wpAny_mono (run_fn (vs := [.ref a, .ref b]) F hr hb .nil pass0 I (.cons rfl (.cons rfl .nil)) q) (fun r s' hq => ?_) fun _ _ e => e
  obtain ⟨z, H', I', rz, q'⟩ := hq
  cases r <;> first | exact ⟨z, H', I', rz, q'⟩ | (cases z <;> first | (obtain ⟨t, e⟩ := rz; cases e) | cases rz)
theorem op_neOwn (F : FnOk X.prog X.w X.K X.mg X.base CX0 k f fd ps sp) (hr : Room (k + 1) X.A) (hm : PySem.W.mroIn X.K C (.type "object") = some true) (hne : PySem.W.findIn X.K (.ref C) "__ne__" = some (some (.builtin "object.__ne__"))) (hs : PySem.W.findIn X.K (.ref C) "__eq__" = some (some (.ref f))) (hf : PySem.W.isFn X.K (.ref f) = true) (hb : Binds X.K fd ps []) : OpR X (compareOp .NotEq) (rNeOwn C sp) := by
  intro pins s σ H x y v u Q I rx ry h
  obtain ⟨a, b, dx, dy, fs, gs, rfl, rfl, ha, hb', q⟩ := h
  cases rx
  cases ry
  obtain ⟨mA, J, _⟩ := ins_get I.hok ha
  obtain ⟨mB, J', _⟩ := ins_get I.hok hb'
  obtain ⟨od, J, _⟩ := J.look
  obtain ⟨od', J', _⟩ := J'.look
  obtain ⟨m, hF⟩ := I.fr
  unfold compareOp
  refine ne_K (hu_of hr) hF I.ok.mod.kin J J'.type hm hne hs hf ?_
  have e0 : Env0 X.prog X.w X.K X.mg X.base X.A.in1 X.stack s H := by
    have e := I.env0
    exact ⟨e.frames, e.mod, e.bs, e.bsz, e.funs, e.frf, e.hok, e.bare⟩
  have hl := F.len _ _ _ _ q
  have r2 : Vals [V.ref a, V.ref b] [Value.ref a, Value.ref b] := .cons rfl (.cons rfl .nil)
  refine wpAny_call (codeAny_mono (F.run X.A.in1 X.stack s H ⟨[.ref a, .ref b], []⟩ [.ref a, .ref b] [.ref a, .ref b] _ E0 hr.in1 e0 (by
    have := hb s [.ref a, .ref b] I.kIn (by simpa using hl)
    simpa using this) r2 q) fun r s' hq => ?_)
  cases r with
  | error e => exact False.elim hq
  | ok fl =>
    cases fl with
    | ret w =>
      obtain ⟨z, H', I', rz, r, ez, ex⟩ := I.after hq
      subst ez
      cases rz
      exact ⟨r, rfl, .bl (!r), H', I', rfl, ex⟩
    | next => exact False.elim hq
    | brk => exact False.elim hq
    | cont => exact False.elim hq
end
end G
set_option Elab.async false
set_option linter.all false
set_option maxRecDepth 100000
namespace G
open PySem PySem.Spec PyProof.Rows L2 ClX
/-- C.m is a staticmethod: its record at p, its def at g -/
structure SMet (K : PySem.W.Frag) (C : Addr) (mc : Value) (m : Str) (p g : Addr) : Prop where
  rd : PySem.W.readsIn K C mc = true
  ty : PySem.W.typeIn K (.ref C) = some mc
  ga : PySem.W.specialIn K (.ref C) "__getattribute__" = some (some (.builtin "type.__getattribute__"))
  at_ : PySem.W.findCls K (.ref C) mc m = some (.get (.builtin "staticmethod.__get__") (.ref p) .none (.ref C))
  rc : ∃ rest, PySem.W.recIn K p "staticmethod" = some (.ref g :: rest)
  kp : PySem.W.keepIn K (.ref g) = true
def tSMeth (C : Addr) (sp : Sp) (ta : TE) (t : TA) : TE := fun σ H Q => ta σ H fun x H1 => x = .ref C ∧ t σ H1 fun vs H2 => sp vs H2 Q E0
section
variable {X : Cx} {k : Nat} {C p g : Addr} {mc : Value} {m : Str} {fd : FuncData} {ps : List Str} {sp : Sp} {o e : Expr} {es : List Expr} {ta : TE} {t : TA} {apos pos : Pos} {pl : Sem Bool}
theorem getsm_ok {pins : List (Addr × Obj)} {σ : L2.St} {H : Hp} {s : Shared} {A : Around} {E : Value → Shared → Prop} {Q : Value × List Value → Shared → Prop} (I : Inv X pins σ H s) (c : SMet X.K C mc m p g)
    (h : ∀ s', Inv X pins σ H s' → Q (.ref g, []) s') : wpAny (model X.prog X.w) A (getMethod (.ref C) m pl) Q E s := by
  obtain ⟨rest, hp⟩ := c.rc
  obtain ⟨m', hF⟩ := I.fr
  exact PySem.W.method_cls I.kIn c.ga (PySem.W.cls_sm hF I.ok.mod.kin c.ty c.rd c.at_ hp rfl (h _ (I.tok _)))
theorem pe_smeth (he : PE X o ta) (c : SMet X.K C mc m p g) (F : FnOk X.prog X.w X.K X.mg X.base CX0 k g fd ps sp) (hr : Room k X.A) (hb : Binds X.K fd ps []) (ha : PA X (e :: es) t)
    (hst : starEach (e :: es) X.env = (false, eval e X.env) :: starEach es X.env := by rfl) (hpl : (backTo pos (starEach es X.env)).any (·.1) = false := by rfl)
    (ht : eval (.Call (.Attribute o m apos) (e :: es) [] pos) X.env = (do
      let ov ← eval o X.env
      standAt apos.atName
      let (f, first) ← holding [ov] (getMethod ov m pl)
      callWith pos f first (backTo pos (starEach (e :: es) X.env)) (backToKw pos (keywordEach [] X.env))) := by rfl) :
    PE X (.Call (.Attribute o m apos) (e :: es) [] pos) (tSMeth C sp ta t) := by
  refine ⟨fun pins s σ H Q I h => ?_⟩
  refine PySem.W.methodCall_KW (pl := pl) (thn (he.run pins s σ H _ I h) fun u s1 ⟨x, H1, I1, rx, ex, q⟩ => ?_) ht
  subst ex
  obtain rfl : u = Value.ref C := rx
  refine getsm_ok I1 c fun s2 I2 => ?_
  refine PySem.W.callWith_K (h₀ := X.base) I.ok.mod.kin c.kp (thn (ha.run pos pins s2 σ H1 _ I2 q) fun us s3 ⟨vs, H2, I3, r, q2⟩ => ⟨I3.kIn, ?_⟩) hst hpl
  have := run_fn (dvs := []) F hr hb .nil pass0 I3 r (by rw [List.append_nil]; exact q2)
  exact this
end
/-! ### the members of a class, with their promises -/
structure MethOk (P : Program) (w : World) (K : PySem.W.Frag) (mg : Str → Option Value) (base : Heap) (C : Addr) (m : Str) (k : Nat) (ps : List Str) (sp : Sp) : Prop where
  ex : ∃ (f : Addr) (fd : FuncData), FnOk P w K mg base CX0 k f fd ps sp ∧ Meth K C m f ∧ Binds K fd ps []
structure PropOk (P : Program) (w : World) (K : PySem.W.Frag) (mg : Str → Option Value) (base : Heap) (C : Addr) (m : Str) (k : Nat) (ps : List Str) (sp : Sp) : Prop where
  ex : ∃ (p g : Addr) (fd : FuncData), FnOk P w K mg base CX0 k g fd ps sp ∧ PropOf K C m p g ∧ Binds K fd ps []
structure StatOk (P : Program) (w : World) (K : PySem.W.Frag) (mg : Str → Option Value) (base : Heap) (C : Addr) (m : Str) (k : Nat) (ps : List Str) (sp : Sp) : Prop where
  ex : ∃ (mc : Value) (p g : Addr) (fd : FuncData), FnOk P w K mg base CX0 k g fd ps sp ∧ SMet K C mc m p g ∧ Binds K fd ps []
/-- what every class of the text has -/
structure ClsFacts (K : PySem.W.Frag) (mg : Str → Option Value) (x : Str) (C : Addr) : Prop where
  cl : Cls K C
  mgC : mg x = some (.ref C)
  sf : PySem.W.selfFirst K C = true
  mr : PySem.W.mroIn K C (.type "object") = some true
section
variable {X : Cx} {k : Nat} {C : Addr} {x m : Str} {ps : List Str} {sp : Sp} {o e : Expr} {es : List Expr} {ta : TE} {t : TA} {apos pos : Pos} {pl : Sem Bool}
theorem pe_methD {f : Addr} (he : PE X o ta) (c : Cls X.K C) (M : MethOk X.prog X.w X.K X.mg X.base C m k ps sp) (hr : Room k X.A) (ha : PA X (e :: es) t)
    (hst : starEach (e :: es) X.env = (false, eval e X.env) :: starEach es X.env := by rfl) (hpl : (backTo pos (starEach es X.env)).any (·.1) = false := by rfl)
    (ht : eval (.Call (.Attribute o m apos) (e :: es) [] pos) X.env = (do
      let ov ← eval o X.env
      standAt apos.atName
      let (f, first) ← holding [ov] (getMethod ov m pl)
      callWith pos f first (backTo pos (starEach (e :: es) X.env)) (backToKw pos (keywordEach [] X.env))) := by rfl) :
    PE X (.Call (.Attribute o m apos) (e :: es) [] pos) (tMeth C m sp [] E0 ta t) := by
  obtain ⟨f, fd, F, hm, hb⟩ := M.ex
  exact pe_meth he c hm F hr hb .nil pass0 ha hst hpl ht
theorem pe_methD0 (he : PE X o ta) (c : Cls X.K C) (M : MethOk X.prog X.w X.K X.mg X.base C m k ps sp) (hr : Room k X.A)
    (ht : eval (.Call (.Attribute o m apos) [] [] pos) X.env = (do
      let ov ← eval o X.env
      standAt apos.atName
      let (f, first) ← holding [ov] (getMethod ov m pl)
      callWith pos f first (backTo pos (starEach [] X.env)) (backToKw pos (keywordEach [] X.env))) := by rfl) :
    PE X (.Call (.Attribute o m apos) [] [] pos) (tMeth C m sp [] E0 ta tNil) := by
  obtain ⟨f, fd, F, hm, hb⟩ := M.ex
  exact pe_meth0 he c hm F hr hb .nil pass0 ht
theorem pe_propD (he : PE X e ta) (c : Cls X.K C) (M : PropOk X.prog X.w X.K X.mg X.base C m k ps sp) (hr : Room (k + 1) X.A) (hab : attributeBase e m X.env (eval e X.env) = eval e X.env := by rfl) : PE X (.Attribute e m pos) (tProp C sp [] E0 ta) := by
  obtain ⟨p, g, fd, F, hp, hb⟩ := M.ex
  exact pe_prop he c hp F hr hb .nil pass0 hab
theorem pe_statD (M : StatOk X.prog X.w X.K X.mg X.base C m k ps sp) (he : PE X o ta) (hr : Room k X.A) (ha : PA X (e :: es) t)
    (hst : starEach (e :: es) X.env = (false, eval e X.env) :: starEach es X.env := by rfl) (hpl : (backTo pos (starEach es X.env)).any (·.1) = false := by rfl)
    (ht : eval (.Call (.Attribute o m apos) (e :: es) [] pos) X.env = (do
      let ov ← eval o X.env
      standAt apos.atName
      let (f, first) ← holding [ov] (getMethod ov m pl)
      callWith pos f first (backTo pos (starEach (e :: es) X.env)) (backToKw pos (keywordEach [] X.env))) := by rfl) :
    PE X (.Call (.Attribute o m apos) (e :: es) [] pos) (tSMeth C sp ta t) := by
  obtain ⟨mc, p, g, fd, F, c, hb⟩ := M.ex
  exact pe_smeth he c F hr hb ha hst hpl ht
theorem op_ownD {op : Operator} (c : ClsFacts X.K X.mg x C) (M : MethOk X.prog X.w X.K X.mg X.base C m k ps sp) (hr : Room k X.A) (hm : PySem.dunder op.info.2 = m := by decide +kernel) : OpR X (binaryOp op) (rOwn C sp) := by
  obtain ⟨f, fd, F, h, hb⟩ := M.ex
  exact op_own F hr c.sf (by rw [hm]; exact h.at_) h.fn hb
theorem un_ownD (M : MethOk X.prog X.w X.K X.mg X.base C "__neg__" k ps sp) (hr : Room k X.A) : UnR X (unaryOp .USub) (rOwn1 C sp) := by
  obtain ⟨f, fd, F, h, hb⟩ := M.ex
  exact un_own F hr h.at_ h.fn hb
theorem op_eqOwnD (M : MethOk X.prog X.w X.K X.mg X.base C "__eq__" k ps sp) (hr : Room k X.A) : OpR X (compareOp .Eq) (rOwn C sp) := by
  obtain ⟨f, fd, F, h, hb⟩ := M.ex
  exact op_eqOwn F hr h.at_ h.fn hb
theorem op_neOwnD (c : ClsFacts X.K X.mg x C) (M : MethOk X.prog X.w X.K X.mg X.base C "__eq__" k ps sp) (hne : PySem.W.findIn X.K (.ref C) "__ne__" = some (some (.builtin "object.__ne__"))) (hr : Room (k + 1) X.A) : OpR X (compareOp .NotEq) (rNeOwn C sp) := by
  obtain ⟨f, fd, F, h, hb⟩ := M.ex
  exact op_neOwn F hr c.mr hne h.at_ h.fn hb
end
end G
set_option Elab.async false
set_option linter.all false
set_option maxRecDepth 100000
namespace G
open PySem PySem.SeqAt
open AutoSeq1 (wpAny_loadPart')
open MeetsSeq MeetsSeq2 MeetsSeq3 SeqRoads2
section
variable {prog : Program} {w : World} {A : Around} {R : Result → Shared → Prop}
/-- != of two lists of one length whose items are equal: from the place N - k on -/
theorem neLoop {l b : Addr} {N : Nat} {I : Nat → Shared → Prop} (hl : GQ.ListI prog w A (fun e s' => R (.error e) s') l b N I) (fin : ∀ s, I N s → R (.ok (.ret (.bool false))) s) : ∀ (k i : Nat), N - i = k → i ≤ N → ∀ s, I i s →
    wpAny (model prog w) A.in1 (Builtin.«list.__eq__.loop» ⟨[.ref l, .ref b, rawInt i, rawInt 3], []⟩) (GQ.FinOf prog w A R) (fun e s' => R (.error e) s') s
  | 0, i, hk, hi, s, h => by
    obtain ⟨xs, ys, n, m, g1, g2, z1, z2, _⟩ := hl _ _ h
    obtain rfl : i = N := by omega
    have last := fin s h
    obtain ⟨hp, g, d, tk, os⟩ := s
    wp_walk using wpAny_loadPart' g1, wpAny_loadPart' g2
    rw [show xs[((i : Nat) : Int).toNat]? = none from by simp; omega, show ys[((i : Nat) : Int).toNat]? = none from by simp; omega]
    wp_walk using wpAny_loadPart' g1, wpAny_loadPart' g2
    show R (.ok (.ret (.bool (xs.size != ys.size)))) _
    rw [z1, z2]
    simpa using last
  | k + 1, i, hk, hi, s, h => by
    obtain ⟨xs, ys, n, m, g1, g2, z1, z2, step⟩ := hl _ _ h
    have i1 : i < xs.size := by omega
    have i2 : i < ys.size := by omega
    have one := step i1 i2
    obtain ⟨hp, g, d, tk, os⟩ := s
    wp_walk using wpAny_loadPart' g1, wpAny_loadPart' g2
    rw [show xs[((i : Nat) : Int).toNat]? = some xs[i] from by simp [i1], show ys[((i : Nat) : Int).toNat]? = some ys[i] from by simp [i2]]
    refine wpAny_bind (wpAny_mono one (fun r s2 q2 => ?_) fun _ _ x => x)
    obtain ⟨er, q2⟩ := q2
    subst er
    have more := neLoop hl fin k (i + 1) (by omega) (by omega) s2 q2
    obtain ⟨hp2, g', d', tk', os'⟩ := s2
    wp_walk
    rw [show ((i : Int) + 1) = ((i + 1 : Nat) : Int) from by omega]
    refine ⟨plainId_quiet plain_eq_loop _, codeAny_builtin entry_eq_loop ?_⟩
    rw [Around.under_plainId plain_eq_loop _]
    exact more
theorem listNe {l b : Addr} {N : Nat} {I : Nat → Shared → Prop} (hl : GQ.ListI prog w A (fun e s' => R (.error e) s') l b N I) (fin : ∀ s, I N s → R (.ok (.ret (.bool false))) s) {s : Shared} (h : I 0 s) :
    wpAny (model prog w) A.in1 (Builtin.«list.__ne__» ⟨[.ref l, .ref b], []⟩) (GQ.FinOf prog w A R) (fun e s' => R (.error e) s') s := by
  obtain ⟨xs, ys, n, m, g1, g2, z1, z2, _⟩ := hl _ _ h
  have all := neLoop hl fin _ 0 rfl (Nat.zero_le _) s h
  obtain ⟨hp, g, d, tk, os⟩ := s
  have sub := AutoSeq1.sub_list_list
  have same : ¬ (xs.size != ys.size) = true := by simp [z1, z2]
  wp_walk using wpAny_loadPart' g1, wpAny_loadPart' g2
  refine ⟨plainId_quiet plain_eq_loop _, codeAny_builtin entry_eq_loop ?_⟩
  rw [Around.under_plainId plain_eq_loop _]
  exact all
end
end G
namespace G
open PySem PySem.Spec PyProof.Rows L2
def rNeG (D : L2.Eqv) : R2 := fun x y H Q => DList D x y H ∧ ∀ H', L2.Ext H H' → Q (.bl false) H'
theorem op_neG {X : Cx} {n : Nat} {D : L2.Eqv} (hD : Mon D) (h : EqG X n D) (hr : Room (n + 1) X.A) : OpR X (compareOp .NotEq) (rNeG D) := by
  intro pins s σ H x y v u Q I rx ry hq
  obtain ⟨⟨a, b, xs, ys, rfl, rfl, ha, hb, p⟩, q⟩ := hq
  cases rx
  cases ry
  have sb : Sub X (n + 1) X.A := ⟨hr, rfl⟩
  have li : GQ.ListI X.prog X.w X.A X.xe a b xs.length (fun _ s' => LoopI X pins σ H s') := fun i s' lp => by
    obtain ⟨H1, I1, e1⟩ := id lp
    obtain ⟨z, is1, k1, r1, g1⟩ := I1.hok a _ (e1 _ _ ha)
    obtain ⟨z', is2, k2, r2, g2⟩ := I1.hok b _ (e1 _ _ hb)
    exact ⟨is1.toArray, is2.toArray, k1, k2, g1, g2, by rw [List.size_toArray, ← r1.length], by rw [List.size_toArray, ← r2.length, ← p.1], fun h1 h2 => turnG hD h sb p r1 r2 i h1 h2 s' lp⟩
  have st : LoopI X pins σ H s := ⟨H, I, Ext.rfl'⟩
  obtain ⟨o1, o2, m1, m2, g1, g2, _⟩ := li 0 s st
  show wpAny (model X.prog X.w) X.A (richCompare .NotEq (.ref a) (.ref b)) (EP X pins σ Q) X.xe s
  refine wpAny_richCompare_same_room (op := .NotEq) ⟨_, g1, rfl⟩ ⟨_, g2, rfl⟩ F.slot_list_ne (GQ.call_here F.slot_list_ne ⟨_, g1, rfl⟩ F.entry_list_ne (F.args_list_ne_2 _ _) ?_) sb.room.units0
  refine listNe (R := wants (fun v s' => v ≠ .notImplemented ∧ EP X pins σ Q v s') X.xe) li (fun s' lp => ⟨(fun x => nomatch x), ?_⟩) st
  obtain ⟨H', I', e'⟩ := lp
  exact ⟨.bl false, H', I', rfl, q H' e'⟩
end G
set_option Elab.async false
set_option linter.all false
set_option maxRecDepth 100000
/-! ### truth, call and membership by a class's own methods -/
namespace G
open PySem PySem.Spec PySem.Calls PyProof.Rows L2
def rTru (C : Addr) (sp : Sp) : V → Hp → (Bool → Hp → Prop) → Prop := fun x H Q => ∃ a dx fs, x = .ref a ∧ H a = some (.ins C dx fs) ∧ sp [.ref a] H (fun v H' => ∃ b, v = .bl b ∧ Q b H') E0
def tOwnCall (C : Addr) (sp : Sp) (ta : TE) (t : TA) : TE := fun σ H Q => ta σ H fun x H1 => ∃ a dx fs, x = .ref a ∧ H1 a = some (.ins C dx fs) ∧ t σ H1 fun vs H2 => (∃ dy gs, H2 a = some (.ins C dy gs)) ∧ sp (.ref a :: vs) H2 Q E0
def rInOwn (C : Addr) (sp : Sp) : R2 := fun x y H Q => ∃ a dx fs, y = .ref a ∧ H a = some (.ins C dx fs) ∧ sp [.ref a, x] H (fun v H' => ∃ b, v = .bl b ∧ Q (.bl b) H') E0
theorem callWith_inst {M : Model} {A : Around} {E : Value → Shared → Prop} {s : Shared} {env : Env} {pos : Pos} {x : Addr} {e : Expr} {es : List Expr} {Q : Value → Shared → Prop} (hst : starEach (e :: es) env = (false, eval e env) :: starEach es env) (hpl : (backTo pos (starEach es env)).any (·.1) = false)
    (h : wpAny M A (spliced (backTo pos (starEach (e :: es) env))) (fun vs s₁ => PySem.W.Looks M s₁.heap (keeperOf (.ref x)) .caller ∧ wpAny M A (call (.ref x) vs) Q E s₁) E s) :
    wpAny M A (callWith pos (.ref x) [] (backTo pos (starEach (e :: es) env)) []) Q E s := by
  rw [hst] at h ⊢
  have plain : (((backTo pos ((false, eval e env) :: starEach es env)).any (·.1)) || ([] : List (Option Str × Sem Value)).any (·.1.isNone)) = false := by
    show ((false || (backTo pos (starEach es env)).any (·.1)) || false) = false
    rw [hpl]; rfl
  unfold callWith
  refine wpAny_bind (wpAny_holding (wpAny_mono (evalArgs_plain (Q := fun a s₁ => PySem.W.Looks M s₁.heap (keeperOf (.ref x)) .caller ∧ wpAny M A (call (.ref x) a.pos a.kw) Q E s₁) h) (fun a s₁ h₁ => wpAny_bind (wpAny_standAt ?_)) fun _ _ y => y))
  simp only [plain]
  refine wpAny_bind (h₁.1.here ?_)
  refine wpAny_bind (wpAny_mono (wpAny_operateT h₁.2) (fun r s₂ hr => wpAny_bind (wpAny_holding (wpAny_point (wpAny_pure hr)))) fun _ _ y => y)
section
variable {X : Cx} {k : Nat} {C : Addr} {ps : List Str} {sp : Sp}
theorem inst_of {pins : List (Addr × Obj)} {σ : L2.St} {H : Hp} {s : Shared} {a dx : Addr} {fs : List (Str × V)} (I : Inv X pins σ H s) (h : H a = some (.ins C dx fs)) : ∃ ox od, PySem.W.InstAt s.heap a ox C od ∧ ox.data = .plain := by
  obtain ⟨m, J, _⟩ := ins_get I.hok h
  obtain ⟨od, J, _⟩ := J.look
  exact ⟨_, _, J, rfl⟩
theorem tru_own (M : MethOk X.prog X.w X.K X.mg X.base C "__bool__" k ps sp) (hr : Room k X.A) : TruR X (rTru C sp) := by
  intro pins s σ H x v Q I rx h
  obtain ⟨f, fd, F, hm, hb⟩ := M.ex
  obtain ⟨a, dx, fs, rfl, ha, q⟩ := h
  cases rx
  obtain ⟨ox, od, J, _⟩ := inst_of I ha
  obtain ⟨m, hF⟩ := I.fr
  refine PySem.W.truthy_K hF I.ok.mod.kin J hm.at_ hm.fn (wpAny_mono (run_fn (vs := [.ref a]) F hr hb .nil pass0 I (.cons rfl .nil) q) (fun r s' hq => ?_) fun _ _ e => e)
  obtain ⟨z, H', I', rz, b, rfl, q'⟩ := hq
  cases rz
  exact ⟨H', I', q'⟩
theorem op_inOwn (M : MethOk X.prog X.w X.K X.mg X.base C "__contains__" k ps sp) (hr : Room k X.A) : OpR X (compareOp .In) (rInOwn C sp) := by
  intro pins s σ H x y v u Q I rx ry h
  obtain ⟨f, fd, F, hm, hb⟩ := M.ex
  obtain ⟨a, dx, fs, rfl, ha, q⟩ := h
  cases ry
  obtain ⟨ox, od, J, _⟩ := inst_of I ha
  obtain ⟨m, hF⟩ := I.fr
  refine PySem.W.in_K hF I.ok.mod.kin J hm.at_ hm.fn (wpAny_mono (run_fn (vs := [.ref a, x]) F hr hb .nil pass0 I (.cons rfl (.cons rx .nil)) q) (fun r s' hq => ?_) fun _ _ e => e)
  obtain ⟨z, H', I', rz, b, rfl, q'⟩ := hq
  cases rz
  exact wpAny_truthy_bool ⟨.bl b, H', I', rfl, q'⟩
theorem pe_ownCall {fe e : Expr} {es : List Expr} {ta : TE} {t : TA} {pos : Pos} (M : MethOk X.prog X.w X.K X.mg X.base C "__call__" k ps sp) (hr : Room k X.A) (hfn : ∀ f, Meth X.K C "__call__" f → PySem.W.fnIn X.K f = true) (he : PE X fe ta) (ha : PA X (e :: es) t)
    (ht : eval (.Call fe (e :: es) [] pos) X.env = (do
      let f ← eval fe X.env
      callWith pos f [] (backTo pos (starEach (e :: es) X.env)) (backToKw pos (keywordEach [] X.env))) := by rfl)
    (hst : starEach (e :: es) X.env = (false, eval e X.env) :: starEach es X.env := by rfl) (hpl : (backTo pos (starEach es X.env)).any (·.1) = false := by rfl) :
    PE X (.Call fe (e :: es) [] pos) (tOwnCall C sp ta t) := by
  refine ⟨fun pins s σ H Q I h => ?_⟩
  obtain ⟨f, fd, F, hm, hb⟩ := M.ex
  rw [ht]
  refine wpAny_bind (thn (he.run pins s σ H _ I h) fun u s1 ⟨x, H1, I1, rx, a, dx, fs, ex, h1, z⟩ => ?_)
  subst ex
  cases rx
  refine callWith_inst hst hpl (thn (ha.run pos pins s1 σ H1 _ I1 z) fun us s2 ⟨vs, H2, I2, r, ⟨dy, gs, h2⟩, q⟩ => ?_)
  obtain ⟨ox, od, J, hd⟩ := inst_of I2 h2
  refine ⟨PySem.W.kco_keeper J hd, wpAny_call (PySem.W.kco_code (f := f) (a := ⟨us, []⟩) I2.kIn J hd hm.at_ hm.fn (hfn f hm) ?_)⟩
  have r2 : Vals (V.ref a :: vs) (Value.ref a :: us) := .cons rfl r
  have hl := F.len _ _ _ _ q
  refine codeAny_mono (F.run X.A X.stack s2 H2 ⟨.ref a :: us, []⟩ (.ref a :: us) (.ref a :: vs) Q E0 hr I2.env0 (by
    have := hb s2 (.ref a :: us) I2.kIn (by rw [List.append_nil, ← r2.length]; exact hl)
    simpa using this) r2 q) fun r s' hq => ?_
  cases r with
  | error e => exact False.elim hq
  | ok fl =>
    cases fl with
    | ret w =>
      obtain ⟨z, H', I', rz, q'⟩ := I2.after hq
      exact ⟨z, H', I', rz, q'⟩
    | next => exact False.elim hq
    | brk => exact False.elim hq
    | cont => exact False.elim hq
end
end G
set_option Elab.async false
set_option linter.all false
set_option maxRecDepth 100000
/-! ### any of a row of ints -/
namespace G
open PySem PySem.Spec PyProof.Rows L2
theorem dpa_ints {K : PySem.W.Frag} {H : Hp} : ∀ c : List Int, DpAll K H (c.map V.int) (c.map PyData.int)
  | [] => .nil
  | x :: c => .cons (.int x) (dpa_ints c)
theorem plain_ints : ∀ c : List Int, PyData.plainAll (c.map PyData.int) = true
  | [] => rfl
  | x :: c => by
    show (PyData.plain (.int x) && PyData.plainAll (c.map PyData.int)) = true
    rw [plain_ints c]; rfl
def rAnyT (K : PySem.W.Frag) : List V → Hp → VK → Prop := fun vs H Q => ∃ (a : Addr) (c : List Int), vs = [V.ref a] ∧ SqT K H a (c.map V.int) ∧ Q (.bl (c.any (· != 0))) H
theorem cr_anyT {X : Cx} (hc : X.calm = true) : CallR X (.builtin "any") (rAnyT X.K) := by
  intro pins s σ H vs us Q I r h
  obtain ⟨a, c, rfl, hs, q⟩ := h
  obtain ⟨its, rv, hl, _⟩ := I.tuple hs
  rw [Vals.ref1 r]
  obtain ⟨as, hr⟩ := Dp.readsAll I _ _ _ (dpa_ints c) rv
  refine PySem.W.any_tuple_data (I.ok.hd hc) hl hr (plain_ints c) (fun x m => ?_) fun h' tk hk => ?_
  · obtain ⟨i, _, rfl⟩ := List.mem_map.mp m
    trivial
  · refine ⟨.bl _, H, I.kept hk, rfl, ?_⟩
    rw [List.any_map]
    exact q
end G
set_option Elab.async false
set_option linter.all false
set_option maxRecDepth 100000
/-! ### a static method without arguments -/
namespace G
open PySem PySem.Spec PyProof.Rows L2
theorem pe_statD0 {X : Cx} {k : Nat} {C : Addr} {m : Str} {ps : List Str} {sp : Sp} {o : Expr} {ta : TE} {apos pos : Pos} {pl : Sem Bool} (M : StatOk X.prog X.w X.K X.mg X.base C m k ps sp) (he : PE X o ta) (hr : Room k X.A)
    (ht : eval (.Call (.Attribute o m apos) [] [] pos) X.env = (do
      let ov ← eval o X.env
      standAt apos.atName
      let (f, first) ← holding [ov] (getMethod ov m pl)
      callWith pos f first (backTo pos (starEach [] X.env)) (backToKw pos (keywordEach [] X.env))) := by rfl) :
    PE X (.Call (.Attribute o m apos) [] [] pos) (tSMeth C sp ta tNil) := by
  obtain ⟨mc, q, g, fd, F, c, hb⟩ := M.ex
  refine ⟨fun pins s σ H Q I h => PySem.W.methodCall_KW (pl := pl) (thn (he.run pins s σ H _ I h) fun u s1 ⟨x, H1, I1, rx, ex, z⟩ => ?_) ht⟩
  subst ex
  obtain rfl : u = Value.ref C := rx
  refine getsm_ok I1 c fun s2 I2 => PySem.W.callWith_K0 (first := []) I2.kIn c.kp ?_
  exact run_fn (us := []) (vs := []) (dvs := []) F hr hb .nil pass0 I2 .nil z
end G
set_option linter.all false
namespace G
/-! ### fours by their halves -/
structure Q4 where
  a : Int
  b : Int
  c : Int
  d : Int
deriving DecidableEq
namespace Q4
def Par (u : Q4) : Prop := u.a % 2 = u.b % 2 ∧ u.a % 2 = u.c % 2 ∧ u.a % 2 = u.d % 2
def add (u v : Q4) : Q4 := ⟨u.a + v.a, u.b + v.b, u.c + v.c, u.d + v.d⟩
def sub (u v : Q4) : Q4 := ⟨u.a - v.a, u.b - v.b, u.c - v.c, u.d - v.d⟩
def neg (u : Q4) : Q4 := ⟨-u.a, -u.b, -u.c, -u.d⟩
def mir (u : Q4) : Q4 := ⟨u.a, -u.b, -u.c, -u.d⟩
def mul (u v : Q4) : Q4 :=
  ⟨(u.a * v.a - u.b * v.b - u.c * v.c - u.d * v.d) / 2, (u.a * v.b + u.b * v.a + u.c * v.d - u.d * v.c) / 2,
   (u.a * v.c - u.b * v.d + u.c * v.a + u.d * v.b) / 2, (u.a * v.d + u.b * v.c - u.c * v.b + u.d * v.a) / 2⟩
def size (u : Q4) : Int := (u.a * u.a + u.b * u.b + u.c * u.c + u.d * u.d) / 4
theorem Par.wit {u : Q4} (h : u.Par) : ∃ x y z, u.b = u.a + 2 * x ∧ u.c = u.a + 2 * y ∧ u.d = u.a + 2 * z := by
  obtain ⟨h1, h2, h3⟩ := h
  exact ⟨(u.b - u.a) / 2, (u.c - u.a) / 2, (u.d - u.a) / 2, by omega, by omega, by omega⟩
theorem Par.mk' {u : Q4} {x y z : Int} (h1 : u.b = u.a + 2 * x) (h2 : u.c = u.a + 2 * y) (h3 : u.d = u.a + 2 * z) : u.Par := ⟨by omega, by omega, by omega⟩
theorem half_eq {n m : Int} (h : n = 2 * m) : n / 2 = m := by omega
/-- the halves of a product, doubled -/
structure Dbl (u v : Q4) : Prop where
  a : 2 * (mul u v).a = u.a * v.a - u.b * v.b - u.c * v.c - u.d * v.d
  b : 2 * (mul u v).b = u.a * v.b + u.b * v.a + u.c * v.d - u.d * v.c
  c : 2 * (mul u v).c = u.a * v.c - u.b * v.d + u.c * v.a + u.d * v.b
  d : 2 * (mul u v).d = u.a * v.d + u.b * v.c - u.c * v.b + u.d * v.a
theorem mul_all {u v : Q4} (hu : u.Par) (hv : v.Par) : Dbl u v ∧ (mul u v).Par := by
  obtain ⟨x, y, z, h1, h2, h3⟩ := hu.wit
  obtain ⟨p, q, r, k1, k2, k3⟩ := hv.wit
  have ea : u.a * v.a - u.b * v.b - u.c * v.c - u.d * v.d = 2 * (-(u.a * v.a) - u.a * p - x * v.a - 2 * x * p - u.a * q - y * v.a - 2 * y * q - u.a * r - z * v.a - 2 * z * r) := by rw [h1, h2, h3, k1, k2, k3]; grind
  have eb : u.a * v.b + u.b * v.a + u.c * v.d - u.d * v.c = 2 * (u.a * v.a + u.a * p + x * v.a + u.a * r + y * v.a + 2 * y * r - u.a * q - z * v.a - 2 * z * q) := by rw [h1, h2, h3, k1, k2, k3]; grind
  have ec : u.a * v.c - u.b * v.d + u.c * v.a + u.d * v.b = 2 * (u.a * v.a + u.a * q + y * v.a - u.a * r - x * v.a - 2 * x * r + u.a * p + z * v.a + 2 * z * p) := by rw [h1, h2, h3, k1, k2, k3]; grind
  have ed : u.a * v.d + u.b * v.c - u.c * v.b + u.d * v.a = 2 * (u.a * v.a + u.a * r + z * v.a + u.a * q + x * v.a + 2 * x * q - u.a * p - y * v.a - 2 * y * p) := by rw [h1, h2, h3, k1, k2, k3]; grind
  have fa := half_eq ea
  have fb := half_eq eb
  have fc := half_eq ec
  have fd := half_eq ed
  refine ⟨⟨?_, ?_, ?_, ?_⟩, Par.mk' (x := u.a * v.a + u.a * p + x * v.a + x * p + u.a * r + y * v.a + y * r + y * q - z * q + z * r) (y := u.a * v.a + u.a * q + y * v.a + y * q + x * p - x * r + u.a * p + z * v.a + z * p + z * r) (z := u.a * v.a + u.a * r + z * v.a + z * r + u.a * q + x * v.a + x * q + x * p + y * q - y * p) ?_ ?_ ?_⟩
  · show 2 * (_ / 2) = _; rw [fa, ea]
  · show 2 * (_ / 2) = _; rw [fb, eb]
  · show 2 * (_ / 2) = _; rw [fc, ec]
  · show 2 * (_ / 2) = _; rw [fd, ed]
  · show _ / 2 = _ / 2 + _; rw [fa, fb]; grind
  · show _ / 2 = _ / 2 + _; rw [fa, fc]; grind
  · show _ / 2 = _ / 2 + _; rw [fa, fd]; grind
theorem ext {u v : Q4} (h1 : u.a = v.a) (h2 : u.b = v.b) (h3 : u.c = v.c) (h4 : u.d = v.d) : u = v := by
  cases u; cases v; simp_all
theorem size4 {u : Q4} (hu : u.Par) : 4 * size u = u.a * u.a + u.b * u.b + u.c * u.c + u.d * u.d := by
  obtain ⟨x, y, z, h1, h2, h3⟩ := hu.wit
  have e : u.a * u.a + u.b * u.b + u.c * u.c + u.d * u.d = 4 * (u.a * u.a + u.a * x + u.a * y + u.a * z + x * x + y * y + z * z) := by rw [h1, h2, h3]; grind
  show 4 * (_ / 4) = _
  omega
theorem add_par {u v : Q4} (hu : u.Par) (hv : v.Par) : (add u v).Par := by
  obtain ⟨h1, h2, h3⟩ := hu; obtain ⟨k1, k2, k3⟩ := hv
  refine ⟨?_, ?_, ?_⟩ <;> simp only [add] <;> omega
theorem sub_par {u v : Q4} (hu : u.Par) (hv : v.Par) : (sub u v).Par := by
  obtain ⟨h1, h2, h3⟩ := hu; obtain ⟨k1, k2, k3⟩ := hv
  refine ⟨?_, ?_, ?_⟩ <;> simp only [sub] <;> omega
theorem neg_par {u : Q4} (hu : u.Par) : (neg u).Par := by
  obtain ⟨h1, h2, h3⟩ := hu
  refine ⟨?_, ?_, ?_⟩ <;> simp only [neg] <;> omega
theorem mir_par {u : Q4} (hu : u.Par) : (mir u).Par := by
  obtain ⟨h1, h2, h3⟩ := hu
  refine ⟨?_, ?_, ?_⟩ <;> simp only [mir] <;> omega
def whole (n : Int) : Q4 := ⟨2 * n, 0, 0, 0⟩
theorem whole_par (n : Int) : (whole n).Par := by refine ⟨?_, ?_, ?_⟩ <;> simp only [whole] <;> omega
theorem two_eq {x y : Int} (h : 2 * x = 2 * y) : x = y := by omega
theorem assoc {u v w : Q4} (hu : u.Par) (hv : v.Par) (hw : w.Par) : mul (mul u v) w = mul u (mul v w) := by
  obtain ⟨A, pA⟩ := mul_all hu hv
  obtain ⟨B, pB⟩ := mul_all hv hw
  obtain ⟨C, _⟩ := mul_all pA hw
  obtain ⟨D, _⟩ := mul_all hu pB
  have a1 := A.a; have a2 := A.b; have a3 := A.c; have a4 := A.d
  have b1 := B.a; have b2 := B.b; have b3 := B.c; have b4 := B.d
  have c1 := C.a; have c2 := C.b; have c3 := C.c; have c4 := C.d
  have d1 := D.a; have d2 := D.b; have d3 := D.c; have d4 := D.d
  generalize mul (mul u v) w = S at *
  generalize mul u (mul v w) = T at *
  generalize mul u v = m at *
  generalize mul v w = n at *
  have ea : S.a = T.a := by
    have h1 : 4 * S.a = (2 * m.a) * w.a - (2 * m.b) * w.b - (2 * m.c) * w.c - (2 * m.d) * w.d := by
      have : 4 * S.a = 2 * (2 * S.a) := by omega
      rw [this, c1]; grind
    have h2 : 4 * T.a = u.a * (2 * n.a) - u.b * (2 * n.b) - u.c * (2 * n.c) - u.d * (2 * n.d) := by
      have : 4 * T.a = 2 * (2 * T.a) := by omega
      rw [this, d1]; grind
    have h3 : 4 * S.a = 4 * T.a := by
      rw [h1, h2, a1, a2, a3, a4, b1, b2, b3, b4]; grind
    omega
  have eb : S.b = T.b := by
    have h1 : 4 * S.b = (2 * m.a) * w.b + (2 * m.b) * w.a + (2 * m.c) * w.d - (2 * m.d) * w.c := by
      have : 4 * S.b = 2 * (2 * S.b) := by omega
      rw [this, c2]; grind
    have h2 : 4 * T.b = u.a * (2 * n.b) + u.b * (2 * n.a) + u.c * (2 * n.d) - u.d * (2 * n.c) := by
      have : 4 * T.b = 2 * (2 * T.b) := by omega
      rw [this, d2]; grind
    have h3 : 4 * S.b = 4 * T.b := by
      rw [h1, h2, a1, a2, a3, a4, b1, b2, b3, b4]; grind
    omega
  have ec : S.c = T.c := by
    have h1 : 4 * S.c = (2 * m.a) * w.c - (2 * m.b) * w.d + (2 * m.c) * w.a + (2 * m.d) * w.b := by
      have : 4 * S.c = 2 * (2 * S.c) := by omega
      rw [this, c3]; grind
    have h2 : 4 * T.c = u.a * (2 * n.c) - u.b * (2 * n.d) + u.c * (2 * n.a) + u.d * (2 * n.b) := by
      have : 4 * T.c = 2 * (2 * T.c) := by omega
      rw [this, d3]; grind
    have h3 : 4 * S.c = 4 * T.c := by
      rw [h1, h2, a1, a2, a3, a4, b1, b2, b3, b4]; grind
    omega
  have ed : S.d = T.d := by
    have h1 : 4 * S.d = (2 * m.a) * w.d + (2 * m.b) * w.c - (2 * m.c) * w.b + (2 * m.d) * w.a := by
      have : 4 * S.d = 2 * (2 * S.d) := by omega
      rw [this, c4]; grind
    have h2 : 4 * T.d = u.a * (2 * n.d) + u.b * (2 * n.c) - u.c * (2 * n.b) + u.d * (2 * n.a) := by
      have : 4 * T.d = 2 * (2 * T.d) := by omega
      rw [this, d4]; grind
    have h3 : 4 * S.d = 4 * T.d := by
      rw [h1, h2, a1, a2, a3, a4, b1, b2, b3, b4]; grind
    omega
  exact ext ea eb ec ed
theorem dist {u v w : Q4} (hu : u.Par) (hv : v.Par) (hw : w.Par) : mul u (add v w) = add (mul u v) (mul u w) := by
  obtain ⟨A, _⟩ := mul_all hu hv
  obtain ⟨B, _⟩ := mul_all hu hw
  obtain ⟨C, _⟩ := mul_all hu (add_par hv hw)
  have a1 := A.a; have a2 := A.b; have a3 := A.c; have a4 := A.d
  have b1 := B.a; have b2 := B.b; have b3 := B.c; have b4 := B.d
  have c1 := C.a; have c2 := C.b; have c3 := C.c; have c4 := C.d
  generalize mul u (add v w) = S at *
  generalize mul u v = m at *
  generalize mul u w = n at *
  refine ext ?_ ?_ ?_ ?_ <;> simp only [add] at * <;> grind
theorem dist' {u v w : Q4} (hu : u.Par) (hv : v.Par) (hw : w.Par) : mul (add u v) w = add (mul u w) (mul v w) := by
  obtain ⟨A, _⟩ := mul_all hu hw
  obtain ⟨B, _⟩ := mul_all hv hw
  obtain ⟨C, _⟩ := mul_all (add_par hu hv) hw
  have a1 := A.a; have a2 := A.b; have a3 := A.c; have a4 := A.d
  have b1 := B.a; have b2 := B.b; have b3 := B.c; have b4 := B.d
  have c1 := C.a; have c2 := C.b; have c3 := C.c; have c4 := C.d
  generalize mul (add u v) w = S at *
  generalize mul u w = m at *
  generalize mul v w = n at *
  refine ext ?_ ?_ ?_ ?_ <;> simp only [add] at * <;> grind
theorem mir_mul {u v : Q4} (hu : u.Par) (hv : v.Par) : mir (mul u v) = mul (mir v) (mir u) := by
  obtain ⟨A, _⟩ := mul_all hu hv
  obtain ⟨B, _⟩ := mul_all (mir_par hv) (mir_par hu)
  have a1 := A.a; have a2 := A.b; have a3 := A.c; have a4 := A.d
  have b1 := B.a; have b2 := B.b; have b3 := B.c; have b4 := B.d
  generalize mul (mir v) (mir u) = S at *
  generalize mul u v = m at *
  refine ext ?_ ?_ ?_ ?_ <;> simp only [mir] at * <;> grind
theorem sub_add {u v : Q4} : add (sub u v) v = u := by refine ext ?_ ?_ ?_ ?_ <;> simp only [add, sub] <;> omega
theorem neg_neg {u : Q4} : neg (neg u) = u := by refine ext ?_ ?_ ?_ ?_ <;> simp only [neg] <;> omega
theorem size_mul {u v : Q4} (hu : u.Par) (hv : v.Par) : size (mul u v) = size u * size v := by
  obtain ⟨A, pA⟩ := mul_all hu hv
  have s1 := size4 hu; have s2 := size4 hv; have s3 := size4 pA
  have a1 := A.a; have a2 := A.b; have a3 := A.c; have a4 := A.d
  generalize size (mul u v) = S at *
  generalize mul u v = m at *
  have e : 16 * S = 16 * (size u * size v) := by
    have h : 16 * S = (2 * m.a) * (2 * m.a) + (2 * m.b) * (2 * m.b) + (2 * m.c) * (2 * m.c) + (2 * m.d) * (2 * m.d) := by grind
    have h2 : 16 * (size u * size v) = (4 * size u) * (4 * size v) := by grind
    rw [h, h2, a1, a2, a3, a4, s1, s2]
    grind
  omega
theorem size_mir {u : Q4} : size (mir u) = size u := by simp only [size, mir, Int.neg_mul_neg]
theorem mul_mir {u : Q4} (hu : u.Par) : mul u (mir u) = whole (size u) := by
  obtain ⟨A, _⟩ := mul_all hu (mir_par hu)
  have s1 := size4 hu
  have a1 := A.a; have a2 := A.b; have a3 := A.c; have a4 := A.d
  generalize mul u (mir u) = S at *
  generalize size u = s at *
  refine ext ?_ ?_ ?_ ?_ <;> simp only [mir, whole] at * <;> grind
theorem mul_whole {u : Q4} (hu : u.Par) (n : Int) : mul u (whole n) = mul (whole n) u := by
  obtain ⟨A, _⟩ := mul_all hu (whole_par n)
  obtain ⟨B, _⟩ := mul_all (whole_par n) hu
  have a1 := A.a; have a2 := A.b; have a3 := A.c; have a4 := A.d
  have b1 := B.a; have b2 := B.b; have b3 := B.c; have b4 := B.d
  generalize mul u (whole n) = S at *
  generalize mul (whole n) u = m at *
  refine ext ?_ ?_ ?_ ?_ <;> simp only [whole] at * <;> grind
/-- all below 2 ^ n -/
def Bd (n : Nat) (u : Q4) : Prop := u.a.natAbs < 2 ^ n ∧ u.b.natAbs < 2 ^ n ∧ u.c.natAbs < 2 ^ n ∧ u.d.natAbs < 2 ^ n
theorem Bd.mono {n m : Nat} {u : Q4} (h : Bd n u) (hn : n ≤ m) : Bd m u := by
  have e : 2 ^ n ≤ 2 ^ m := Nat.pow_le_pow_right (by decide) hn
  exact ⟨Nat.lt_of_lt_of_le h.1 e, Nat.lt_of_lt_of_le h.2.1 e, Nat.lt_of_lt_of_le h.2.2.1 e, Nat.lt_of_lt_of_le h.2.2.2 e⟩
theorem mul_bd {i j : Int} {n : Nat} (h1 : i.natAbs < 2 ^ n) (h2 : j.natAbs < 2 ^ n) : (i * j).natAbs < 2 ^ n * 2 ^ n := by
  rw [Int.natAbs_mul]
  exact Nat.mul_lt_mul'' h1 h2
theorem pow4 (n : Nat) : 2 ^ (2 * n + 2) = 4 * (2 ^ n * 2 ^ n) := by
  rw [Nat.pow_add, Nat.two_mul, Nat.pow_add, Nat.mul_comm]
theorem Bd.mul {n : Nat} {u v : Q4} (h : Bd n u) (k : Bd n v) : Bd (2 * n + 2) (Q4.mul u v) := by
  obtain ⟨h1, h2, h3, h4⟩ := h
  obtain ⟨k1, k2, k3, k4⟩ := k
  have m := fun {i j : Int} (x : i.natAbs < 2 ^ n) (y : j.natAbs < 2 ^ n) => mul_bd x y
  refine ⟨?_, ?_, ?_, ?_⟩ <;> rw [pow4]
  · have a := m h1 k1; have b := m h2 k2; have c := m h3 k3; have d := m h4 k4
    simp only [Q4.mul]
    generalize 2 ^ n * 2 ^ n = P at *
    omega
  · have a := m h1 k2; have b := m h2 k1; have c := m h3 k4; have d := m h4 k3
    simp only [Q4.mul]
    generalize 2 ^ n * 2 ^ n = P at *
    omega
  · have a := m h1 k3; have b := m h2 k4; have c := m h3 k1; have d := m h4 k2
    simp only [Q4.mul]
    generalize 2 ^ n * 2 ^ n = P at *
    omega
  · have a := m h1 k4; have b := m h2 k3; have c := m h3 k2; have d := m h4 k1
    simp only [Q4.mul]
    generalize 2 ^ n * 2 ^ n = P at *
    omega
theorem Bd.add {n : Nat} {u v : Q4} (h : Bd n u) (k : Bd n v) : Bd (n + 1) (Q4.add u v) := by
  obtain ⟨h1, h2, h3, h4⟩ := h
  obtain ⟨k1, k2, k3, k4⟩ := k
  refine ⟨?_, ?_, ?_, ?_⟩ <;> rw [Nat.pow_succ] <;> simp only [Q4.add] <;> generalize 2 ^ n = P at * <;> omega
theorem Bd.mir {n : Nat} {u : Q4} (h : Bd n u) : Bd n (Q4.mir u) := by
  obtain ⟨h1, h2, h3, h4⟩ := h
  refine ⟨?_, ?_, ?_, ?_⟩ <;> simp only [Q4.mir, Int.natAbs_neg] <;> assumption
theorem Bd.size {n : Nat} {u : Q4} (h : Bd n u) : (Q4.size u).natAbs < 2 ^ (2 * n + 2) := by
  obtain ⟨h1, h2, h3, h4⟩ := h
  have a := mul_bd h1 h1; have b := mul_bd h2 h2; have c := mul_bd h3 h3; have d := mul_bd h4 h4
  rw [pow4]
  simp only [Q4.size]
  generalize 2 ^ n * 2 ^ n = P at *
  omega
end Q4
end G
set_option linter.all false
namespace G
/-! ### the greatest common divisor of a row; tables of turns -/
def gcdL (ns : List Int) : Int := ns.foldl (fun g x => (Int.gcd g x : Int)) 0
theorem gcdF_dvd : ∀ (ns : List Int) (g : Int), ns.foldl (fun g x => (Int.gcd g x : Int)) g ∣ g ∧ ∀ x ∈ ns, ns.foldl (fun g x => (Int.gcd g x : Int)) g ∣ x
  | [], g => ⟨Int.dvd_refl _, fun x m => by cases m⟩
  | y :: ns, g => by
    obtain ⟨h1, h2⟩ := gcdF_dvd ns (Int.gcd g y)
    refine ⟨Int.dvd_trans h1 (Int.gcd_dvd_left _ _), fun x m => ?_⟩
    rcases List.mem_cons.mp m with rfl | m
    · exact Int.dvd_trans h1 (Int.gcd_dvd_right _ _)
    · exact h2 x m
theorem gcdF_great {d : Int} : ∀ (ns : List Int) (g : Int), d ∣ g → (∀ x ∈ ns, d ∣ x) → d ∣ ns.foldl (fun g x => (Int.gcd g x : Int)) g
  | [], g, h, _ => h
  | y :: ns, g, h, k => gcdF_great ns _ (Int.dvd_coe_gcd h (k y (.head _))) fun x m => k x (.tail _ m)
theorem gcdF_pos : ∀ (ns : List Int) (g : Int), 0 ≤ g → 0 ≤ ns.foldl (fun g x => (Int.gcd g x : Int)) g
  | [], _, h => h
  | y :: ns, g, h => gcdF_pos ns _ (Int.natCast_nonneg _)
theorem gcdL_dvd {ns : List Int} {x : Int} (m : x ∈ ns) : gcdL ns ∣ x := (gcdF_dvd ns 0).2 x m
theorem gcdL_great {ns : List Int} {d : Int} (h : ∀ x ∈ ns, d ∣ x) : d ∣ gcdL ns := gcdF_great ns 0 (Int.dvd_zero d) h
theorem gcdL_pos (ns : List Int) : 0 ≤ gcdL ns := gcdF_pos ns 0 (Int.le_refl _)
theorem gcdL_is {ns : List Int} {g : Int} (h0 : 0 ≤ g) (h1 : ∀ x ∈ ns, g ∣ x) (h2 : gcdL ns ∣ g) : gcdL ns = g := Int.dvd_antisymm (gcdL_pos ns) h0 h2 (gcdL_great h1)
theorem gcdL_mul {k : Int} (hk : 0 < k) (ns : List Int) : gcdL (ns.map (k * ·)) = k * gcdL ns := by
  refine gcdL_is (Int.mul_nonneg (by omega) (gcdL_pos ns)) (fun x m => ?_) ?_
  · obtain ⟨y, my, rfl⟩ := List.mem_map.mp m
    exact Int.mul_dvd_mul (Int.dvd_refl k) (gcdL_dvd my)
  · have hkd : k ∣ gcdL (ns.map (k * ·)) := gcdL_great fun x m => by
      obtain ⟨y, _, rfl⟩ := List.mem_map.mp m
      exact Int.dvd_mul_right _ _
    obtain ⟨e, he⟩ := hkd
    rw [he]
    refine Int.mul_dvd_mul (Int.dvd_refl k) (gcdL_great fun x m => ?_)
    have := gcdL_dvd (ns := ns.map (k * ·)) (List.mem_map.mpr ⟨x, m, rfl⟩)
    rw [he] at this
    exact Int.dvd_of_mul_dvd_mul_left (by omega) this
theorem dvd_mul_gcd {D k x y : Int} (h1 : D ∣ k * x) (h2 : D ∣ k * y) : D ∣ k * (Int.gcd x y : Int) := by
  have h := Int.dvd_coe_gcd h1 h2
  rw [Int.gcd_mul_left] at h
  have e : ((k.natAbs * Int.gcd x y : Nat) : Int) = (k.natAbs : Int) * (Int.gcd x y : Int) := Int.natCast_mul _ _
  rw [e] at h
  rcases Int.natAbs_eq k with q | q
  · rw [q]; exact h
  · rw [q, Int.neg_mul]; exact Int.dvd_neg.mpr h
namespace Q4
/-- what all four halves share -/
def g (u : Q4) : Int := Int.gcd (Int.gcd u.a u.b) (Int.gcd u.c u.d)
theorem g_pos (u : Q4) : 0 ≤ u.g := Int.natCast_nonneg _
theorem g_a (u : Q4) : u.g ∣ u.a := Int.dvd_trans (Int.gcd_dvd_left _ _) (Int.gcd_dvd_left _ _)
theorem g_b (u : Q4) : u.g ∣ u.b := Int.dvd_trans (Int.gcd_dvd_left _ _) (Int.gcd_dvd_right _ _)
theorem g_c (u : Q4) : u.g ∣ u.c := Int.dvd_trans (Int.gcd_dvd_right _ _) (Int.gcd_dvd_left _ _)
theorem g_d (u : Q4) : u.g ∣ u.d := Int.dvd_trans (Int.gcd_dvd_right _ _) (Int.gcd_dvd_right _ _)
theorem g_great {u : Q4} {D k : Int} (ha : D ∣ k * u.a) (hb : D ∣ k * u.b) (hc : D ∣ k * u.c) (hd : D ∣ k * u.d) : D ∣ k * u.g := dvd_mul_gcd (dvd_mul_gcd ha hb) (dvd_mul_gcd hc hd)
theorem g_great1 {u : Q4} {D : Int} (ha : D ∣ u.a) (hb : D ∣ u.b) (hc : D ∣ u.c) (hd : D ∣ u.d) : D ∣ u.g := by
  have := g_great (u := u) (D := D) (k := 1) (by rwa [Int.one_mul]) (by rwa [Int.one_mul]) (by rwa [Int.one_mul]) (by rwa [Int.one_mul])
  rwa [Int.one_mul] at this
theorem g_zero {u : Q4} (h : u.g = 0) : u = ⟨0, 0, 0, 0⟩ := by
  have h' : (Int.gcd (Int.gcd u.a u.b) (Int.gcd u.c u.d) : Int) = 0 := h
  have h2 := Int.gcd_eq_zero_iff.mp (Int.ofNat_eq_zero.mp h')
  have h3 := Int.gcd_eq_zero_iff.mp (Int.ofNat_eq_zero.mp h2.1)
  have h4 := Int.gcd_eq_zero_iff.mp (Int.ofNat_eq_zero.mp h2.2)
  exact ext h3.1 h3.2 h4.1 h4.2
/-- the rows of the table, and what divides them, of the halves -/
def e11 (u : Q4) : Int := u.a * u.a + u.b * u.b - u.c * u.c - u.d * u.d
def e12 (u : Q4) : Int := 2 * (u.b * u.c - u.a * u.d)
def e13 (u : Q4) : Int := 2 * (u.b * u.d + u.a * u.c)
def e21 (u : Q4) : Int := 2 * (u.b * u.c + u.a * u.d)
def e22 (u : Q4) : Int := u.a * u.a - u.b * u.b + u.c * u.c - u.d * u.d
def e23 (u : Q4) : Int := 2 * (u.c * u.d - u.a * u.b)
def e31 (u : Q4) : Int := 2 * (u.b * u.d - u.a * u.c)
def e32 (u : Q4) : Int := 2 * (u.c * u.d + u.a * u.b)
def e33 (u : Q4) : Int := u.a * u.a - u.b * u.b - u.c * u.c + u.d * u.d
def nn (u : Q4) : Int := u.a * u.a + u.b * u.b + u.c * u.c + u.d * u.d
def ents (u : Q4) : List Int := [u.e11, u.e12, u.e13, u.e21, u.e22, u.e23, u.e31, u.e32, u.e33, u.nn]
/-- what divides all of them divides four times every product of two halves -/
theorem ents_g {u : Q4} {D : Int} (h : ∀ x ∈ u.ents, D ∣ x) : D ∣ 4 * u.g * u.g := by
  have h11 := h u.e11 (by simp [ents])
  have h12 := h u.e12 (by simp [ents])
  have h13 := h u.e13 (by simp [ents])
  have h21 := h u.e21 (by simp [ents])
  have h22 := h u.e22 (by simp [ents])
  have h23 := h u.e23 (by simp [ents])
  have h31 := h u.e31 (by simp [ents])
  have h32 := h u.e32 (by simp [ents])
  have h33 := h u.e33 (by simp [ents])
  have hn := h u.nn (by simp [ents])
  have aa : D ∣ 4 * u.a * u.a := by
    have := Int.dvd_add (Int.dvd_add h11 h22) (Int.dvd_add h33 hn)
    rwa [show u.e11 + u.e22 + (u.e33 + u.nn) = 4 * u.a * u.a by simp only [e11, e22, e33, nn]; grind] at this
  have bb : D ∣ 4 * u.b * u.b := by
    have := Int.dvd_sub (Int.dvd_add h11 hn) (Int.dvd_add h22 h33)
    rwa [show u.e11 + u.nn - (u.e22 + u.e33) = 4 * u.b * u.b by simp only [e11, e22, e33, nn]; grind] at this
  have cc : D ∣ 4 * u.c * u.c := by
    have := Int.dvd_sub (Int.dvd_add h22 hn) (Int.dvd_add h11 h33)
    rwa [show u.e22 + u.nn - (u.e11 + u.e33) = 4 * u.c * u.c by simp only [e11, e22, e33, nn]; grind] at this
  have dd : D ∣ 4 * u.d * u.d := by
    have := Int.dvd_sub (Int.dvd_add h33 hn) (Int.dvd_add h11 h22)
    rwa [show u.e33 + u.nn - (u.e11 + u.e22) = 4 * u.d * u.d by simp only [e11, e22, e33, nn]; grind] at this
  have bc : D ∣ 4 * u.b * u.c := by
    have := Int.dvd_add h12 h21
    rwa [show u.e12 + u.e21 = 4 * u.b * u.c by simp only [e12, e21]; grind] at this
  have ad : D ∣ 4 * u.a * u.d := by
    have := Int.dvd_sub h21 h12
    rwa [show u.e21 - u.e12 = 4 * u.a * u.d by simp only [e12, e21]; grind] at this
  have bd : D ∣ 4 * u.b * u.d := by
    have := Int.dvd_add h13 h31
    rwa [show u.e13 + u.e31 = 4 * u.b * u.d by simp only [e13, e31]; grind] at this
  have ac : D ∣ 4 * u.a * u.c := by
    have := Int.dvd_sub h13 h31
    rwa [show u.e13 - u.e31 = 4 * u.a * u.c by simp only [e13, e31]; grind] at this
  have cd : D ∣ 4 * u.c * u.d := by
    have := Int.dvd_add h23 h32
    rwa [show u.e23 + u.e32 = 4 * u.c * u.d by simp only [e23, e32]; grind] at this
  have ab : D ∣ 4 * u.a * u.b := by
    have := Int.dvd_sub h32 h23
    rwa [show u.e32 - u.e23 = 4 * u.a * u.b by simp only [e23, e32]; grind] at this
  have sw : ∀ {x y : Int}, D ∣ 4 * x * y → D ∣ 4 * y * x := fun {x y} q => by rwa [show 4 * y * x = 4 * x * y by grind]
  have ga := g_great (u := u) (k := 4 * u.a) aa ab ac ad
  have gb := g_great (u := u) (k := 4 * u.b) (sw ab) bb bc bd
  have gc := g_great (u := u) (k := 4 * u.c) (sw ac) (sw bc) cc cd
  have gd := g_great (u := u) (k := 4 * u.d) (sw ad) (sw bd) (sw cd) dd
  exact g_great (u := u) (k := 4 * u.g) (sw ga) (sw gb) (sw gc) (sw gd)
theorem sq4 (p : Int) : ∃ k, p * p = 4 * k + p % 2 := by
  rcases Int.emod_two_eq p with h | h
  · exact ⟨(p / 2) * (p / 2), by
      have : p = 2 * (p / 2) := by omega
      generalize p / 2 = q at this
      subst this
      rw [h]; grind⟩
  · exact ⟨(p / 2) * (p / 2) + p / 2, by
      have : p = 2 * (p / 2) + 1 := by omega
      generalize p / 2 = q at this
      subst this
      rw [h]; grind⟩
/-- a four of content 1: its halves are odd and share nothing, or are twice integers that share nothing and are not all odd -/
structure Prim (v : Q4) : Prop where
  par : v.Par
  one : (v.a % 2 = 1 ∧ v.g = 1) ∨ ∃ w : Q4, v = ⟨2 * w.a, 2 * w.b, 2 * w.c, 2 * w.d⟩ ∧ w.g = 1 ∧ ¬ (w.a % 2 = 1 ∧ w.b % 2 = 1 ∧ w.c % 2 = 1 ∧ w.d % 2 = 1)
def scale (v : Q4) : Int := if v.size % 2 = 1 then 4 else 8
def spr (v : Q4) : Int := if v.size % 2 = 1 then v.size else v.size / 2
theorem ents_two (w : Q4) : (⟨2 * w.a, 2 * w.b, 2 * w.c, 2 * w.d⟩ : Q4).ents = w.ents.map (4 * ·) := by
  simp only [ents, List.map_cons, List.map_nil, e11, e12, e13, e21, e22, e23, e31, e32, e33, nn]
  congr 1
  · grind
  congr 1
  · grind
  congr 1
  · grind
  congr 1
  · grind
  congr 1
  · grind
  congr 1
  · grind
  congr 1
  · grind
  congr 1
  · grind
  congr 1
  · grind
  congr 1
  grind
/-- not all even: something is odd -/
theorem odd_one {w : Q4} (h : w.g = 1) : w.a % 2 = 1 ∨ w.b % 2 = 1 ∨ w.c % 2 = 1 ∨ w.d % 2 = 1 := by
  rcases Int.emod_two_eq w.a with a | a <;> rcases Int.emod_two_eq w.b with b | b <;> rcases Int.emod_two_eq w.c with c | c <;> rcases Int.emod_two_eq w.d with d | d <;> first | (simp only [a, b, c, d]; decide) | skip
  exfalso
  have : (2 : Int) ∣ w.g := g_great1 (Int.dvd_of_emod_eq_zero a) (Int.dvd_of_emod_eq_zero b) (Int.dvd_of_emod_eq_zero c) (Int.dvd_of_emod_eq_zero d)
  rw [h] at this
  omega
/-- the greatest common divisor of the table of a four of content 1; its size is odd, or twice an odd number -/
theorem Prim.gcd {v : Q4} (h : Prim v) : gcdL v.ents = v.scale ∧ v.nn = 4 * v.size ∧ (v.size % 4 = 1 ∨ v.size % 4 = 3 ∨ v.size % 4 = 2) := by
  have hn : v.nn = 4 * v.size := (size4 h.par).symm
  rcases h.one with ⟨ho, hg⟩ | ⟨w, rfl, hg, hno⟩
  · obtain ⟨p1, p2, p3⟩ := h.par
    obtain ⟨x, hx⟩ : ∃ x, v.a = 2 * x + 1 := ⟨v.a / 2, by omega⟩
    obtain ⟨y, hy⟩ : ∃ y, v.b = 2 * y + 1 := ⟨v.b / 2, by omega⟩
    obtain ⟨z, hz⟩ : ∃ z, v.c = 2 * z + 1 := ⟨v.c / 2, by omega⟩
    obtain ⟨t, ht⟩ : ∃ t, v.d = 2 * t + 1 := ⟨v.d / 2, by omega⟩
    have hs : v.size = x * x + x + (y * y + y) + (z * z + z) + (t * t + t) + 1 := by
      have : 4 * v.size = 4 * (x * x + x + (y * y + y) + (z * z + z) + (t * t + t) + 1) := by
        rw [size4 h.par, hx, hy, hz, ht]; grind
      omega
    obtain ⟨kx, ex⟩ := sq4 x
    obtain ⟨ky, ey⟩ := sq4 y
    obtain ⟨kz, ez⟩ := sq4 z
    obtain ⟨kt, et⟩ := sq4 t
    have so : v.size % 2 = 1 := by omega
    have sc : v.scale = 4 := if_pos so
    refine ⟨?_, hn, by omega⟩
    rw [sc]
    refine gcdL_is (by decide) (fun q m => ?_) ?_
    · simp only [ents, List.mem_cons, List.not_mem_nil, or_false] at m
      have two : ∀ {n k : Int}, n = 4 * k → (4 : Int) ∣ n := fun {n k} e => ⟨k, e⟩
      rcases m with rfl | rfl | rfl | rfl | rfl | rfl | rfl | rfl | rfl | rfl
      · exact two (k := x * x + x + (y * y + y) - (z * z + z) - (t * t + t)) (by simp only [e11]; rw [hx, hy, hz, ht]; grind)
      · exact two (k := 2 * (y * z) + y + z - 2 * (x * t) - x - t) (by simp only [e12]; rw [hx, hy, hz, ht]; grind)
      · exact two (k := 2 * (y * t) + y + t + 2 * (x * z) + x + z + 1) (by simp only [e13]; rw [hx, hy, hz, ht]; grind)
      · exact two (k := 2 * (y * z) + y + z + 2 * (x * t) + x + t + 1) (by simp only [e21]; rw [hx, hy, hz, ht]; grind)
      · exact two (k := x * x + x - (y * y + y) + (z * z + z) - (t * t + t)) (by simp only [e22]; rw [hx, hy, hz, ht]; grind)
      · exact two (k := 2 * (z * t) + z + t - 2 * (x * y) - x - y) (by simp only [e23]; rw [hx, hy, hz, ht]; grind)
      · exact two (k := 2 * (y * t) + y + t - 2 * (x * z) - x - z) (by simp only [e31]; rw [hx, hy, hz, ht]; grind)
      · exact two (k := 2 * (z * t) + z + t + 2 * (x * y) + x + y + 1) (by simp only [e32]; rw [hx, hy, hz, ht]; grind)
      · exact two (k := x * x + x - (y * y + y) - (z * z + z) + (t * t + t)) (by simp only [e33]; rw [hx, hy, hz, ht]; grind)
      · exact two hn
    · have := ents_g (u := v) (D := gcdL v.ents) fun x m => gcdL_dvd m
      rw [hg] at this
      exact this
  · have hw : (⟨2 * w.a, 2 * w.b, 2 * w.c, 2 * w.d⟩ : Q4).size = w.nn := by
      have : 4 * (⟨2 * w.a, 2 * w.b, 2 * w.c, 2 * w.d⟩ : Q4).size = 4 * w.nn := by rw [← hn]; simp only [nn]; grind
      omega
    obtain ⟨ka, ea⟩ := sq4 w.a
    obtain ⟨kb, eb⟩ := sq4 w.b
    obtain ⟨kc, ec⟩ := sq4 w.c
    obtain ⟨kd, ed⟩ := sq4 w.d
    have hnn : w.nn = 4 * (ka + kb + kc + kd) + (w.a % 2 + w.b % 2 + w.c % 2 + w.d % 2) := by simp only [nn]; rw [ea, eb, ec, ed]; omega
    have h1 := odd_one hg
    have a2 := Int.emod_two_eq w.a
    have b2 := Int.emod_two_eq w.b
    have c2 := Int.emod_two_eq w.c
    have d2 := Int.emod_two_eq w.d
    have m4 : w.nn % 4 = 1 ∨ w.nn % 4 = 3 ∨ w.nn % 4 = 2 := by omega
    refine ⟨?_, hn, by rw [hw]; exact m4⟩
    rw [ents_two, gcdL_mul (by decide)]
    have h4 : gcdL w.ents ∣ 4 := by
      have := ents_g (u := w) (D := gcdL w.ents) fun x m => gcdL_dvd m
      rw [hg] at this
      exact this
    have hN : gcdL w.ents ∣ w.nn := gcdL_dvd (by simp [ents])
    have p0 := gcdL_pos w.ents
    generalize hG : gcdL w.ents = Gd at *
    have le : Gd ≤ 4 := Int.le_of_dvd (by decide) h4
    unfold scale
    rw [hw]
    have n3 : Gd ≠ 3 := by rintro rfl; omega
    have n0 : Gd ≠ 0 := by rintro rfl; omega
    have n4 : Gd ≠ 4 := by rintro rfl; omega
    by_cases so : w.nn % 2 = 1
    · rw [if_pos so]
      have n2 : Gd ≠ 2 := by rintro rfl; omega
      omega
    · rw [if_neg so]
      have e2 : (2 : Int) ∣ Gd := by
        rw [← hG]
        refine gcdL_great fun q m => ?_
        simp only [ents, List.mem_cons, List.not_mem_nil, or_false] at m
        rcases m with rfl | rfl | rfl | rfl | rfl | rfl | rfl | rfl | rfl | rfl
        · simp only [e11]; rw [ea, eb, ec, ed]; omega
        · exact Int.dvd_mul_right _ _
        · exact Int.dvd_mul_right _ _
        · exact Int.dvd_mul_right _ _
        · simp only [e22]; rw [ea, eb, ec, ed]; omega
        · exact Int.dvd_mul_right _ _
        · exact Int.dvd_mul_right _ _
        · exact Int.dvd_mul_right _ _
        · simp only [e33]; rw [ea, eb, ec, ed]; omega
        · omega
      omega
end Q4
end G
set_option linter.all false
namespace G
namespace Q4
/-! ### the content, the four of a turn -/
def over (u : Q4) (n : Int) : Q4 := ⟨u.a / n, u.b / n, u.c / n, u.d / n⟩
def smul (k : Int) (u : Q4) : Q4 := ⟨k * u.a, k * u.b, k * u.c, k * u.d⟩
def Odd4 (w : Q4) : Prop := w.a % 2 = 1 ∧ w.b % 2 = 1 ∧ w.c % 2 = 1 ∧ w.d % 2 = 1
def Even4 (w : Q4) : Prop := w.a % 2 = 0 ∧ w.b % 2 = 0 ∧ w.c % 2 = 0 ∧ w.d % 2 = 0
instance (w : Q4) : Decidable (Odd4 w) := inferInstanceAs (Decidable (_ ∧ _ ∧ _ ∧ _))
instance (w : Q4) : Decidable (Even4 w) := inferInstanceAs (Decidable (_ ∧ _ ∧ _ ∧ _))
def con (u : Q4) : Int := if Odd4 (u.over u.g) ∨ Even4 (u.over u.g) then u.g else u.g / 2
theorem over_mul {u : Q4} {n : Int} (ha : n ∣ u.a) (hb : n ∣ u.b) (hc : n ∣ u.c) (hd : n ∣ u.d) : smul n (u.over n) = u := by
  unfold smul over
  exact ext (Int.mul_ediv_cancel' ha) (Int.mul_ediv_cancel' hb) (Int.mul_ediv_cancel' hc) (Int.mul_ediv_cancel' hd)
theorem smul_over {n : Int} (h : n ≠ 0) (u : Q4) : (smul n u).over n = u := by
  unfold smul over
  exact ext (Int.mul_ediv_cancel_left _ h) (Int.mul_ediv_cancel_left _ h) (Int.mul_ediv_cancel_left _ h) (Int.mul_ediv_cancel_left _ h)
theorem g_smul {k : Int} (hk : 0 ≤ k) (u : Q4) : (smul k u).g = k * u.g := by
  have e : (smul k u).g = (k.natAbs : Int) * u.g := by
    show ((Int.gcd (Int.gcd (k * u.a) (k * u.b)) (Int.gcd (k * u.c) (k * u.d)) : Nat) : Int) = _
    rw [Int.gcd_mul_left, Int.gcd_mul_left, Int.natCast_mul, Int.natCast_mul, Int.gcd_mul_left, Int.natCast_mul]
    rfl
  rw [e]
  congr 1
  omega
theorem g_over {u : Q4} (nu : u ≠ ⟨0, 0, 0, 0⟩) : 0 < u.g ∧ (u.over u.g).g = 1 ∧ smul u.g (u.over u.g) = u := by
  have g0 : 0 < u.g := by
    have := g_pos u
    rcases Int.lt_or_eq_of_le this with h | h
    · exact h
    · exact absurd (g_zero h.symm) nu
  have e := over_mul (g_a u) (g_b u) (g_c u) (g_d u)
  refine ⟨g0, ?_, e⟩
  have : u.g * (u.over u.g).g = u.g * 1 := by rw [← g_smul (by omega), e, Int.mul_one]
  exact Int.eq_of_mul_eq_mul_left (by omega) this
theorem not_even {w : Q4} (h : w.g = 1) : ¬ Even4 w := by
  rintro ⟨a, b, c, d⟩
  have := odd_one h
  omega
/-- what the content leaves -/
theorem con_all {u : Q4} (pu : u.Par) (nu : u ≠ ⟨0, 0, 0, 0⟩) : 0 < u.con ∧ Prim (u.over u.con) ∧ smul u.con (u.over u.con) = u ∧ u.con ≤ u.g := by
  obtain ⟨g0, g1, ge⟩ := g_over nu
  unfold con
  by_cases ho : Odd4 (u.over u.g) ∨ Even4 (u.over u.g)
  · rw [if_pos ho]
    have ho' : Odd4 (u.over u.g) := ho.resolve_right (not_even g1)
    obtain ⟨a, b, c, d⟩ := ho'
    exact ⟨g0, ⟨⟨by omega, by omega, by omega⟩, .inl ⟨a, g1⟩⟩, ge, Int.le_refl _⟩
  · rw [if_neg ho]
    generalize hw : u.over u.g = w at *
    -- what is shared is even
    have ev : u.g % 2 = 0 := by
      rcases Int.emod_two_eq u.g with h | h
      · exact h
      · exfalso
        obtain ⟨k, hk⟩ : ∃ k, u.g = 2 * k + 1 := ⟨u.g / 2, by omega⟩
        have ea : u.a = 2 * (k * w.a) + w.a := by have := congrArg Q4.a ge; simp only [smul] at this; rw [hk] at this; rw [← this]; grind
        have eb : u.b = 2 * (k * w.b) + w.b := by have := congrArg Q4.b ge; simp only [smul] at this; rw [hk] at this; rw [← this]; grind
        have ec : u.c = 2 * (k * w.c) + w.c := by have := congrArg Q4.c ge; simp only [smul] at this; rw [hk] at this; rw [← this]; grind
        have ed : u.d = 2 * (k * w.d) + w.d := by have := congrArg Q4.d ge; simp only [smul] at this; rw [hk] at this; rw [← this]; grind
        obtain ⟨p1, p2, p3⟩ := pu
        apply ho
        unfold Odd4 Even4
        omega
    obtain ⟨m, hm⟩ : ∃ m, u.g = 2 * m := ⟨u.g / 2, by omega⟩
    have em : u.g / 2 = m := by omega
    rw [em]
    have e2 : smul m ⟨2 * w.a, 2 * w.b, 2 * w.c, 2 * w.d⟩ = u := by
      rw [← ge, hm]
      unfold smul
      exact ext (by dsimp only; grind) (by dsimp only; grind) (by dsimp only; grind) (by dsimp only; grind)
    have e3 : u.over m = ⟨2 * w.a, 2 * w.b, 2 * w.c, 2 * w.d⟩ := by rw [← e2, smul_over (by omega)]
    refine ⟨by omega, ?_, by rw [e3, e2], by omega⟩
    rw [e3]
    exact ⟨⟨by dsimp only; omega, by dsimp only; omega, by dsimp only; omega⟩, .inr ⟨w, rfl, g1, fun h => ho (.inl h)⟩⟩
theorem g_neg (u : Q4) : u.neg.g = u.g := by
  show ((Int.gcd (Int.gcd (-u.a) (-u.b)) (Int.gcd (-u.c) (-u.d)) : Nat) : Int) = _
  rw [Int.gcd_neg, Int.neg_gcd, Int.gcd_neg, Int.neg_gcd]; rfl
theorem Prim.neg {v : Q4} (h : Prim v) : Prim v.neg := by
  refine ⟨neg_par h.par, ?_⟩
  rcases h.one with ⟨ho, hg⟩ | ⟨w, e, hg, hno⟩
  · exact .inl ⟨by show (-v.a) % 2 = 1; omega, by rw [g_neg]; exact hg⟩
  · refine .inr ⟨w.neg, ?_, by rw [g_neg]; exact hg, ?_⟩
    · rw [e]; unfold Q4.neg; exact ext (by dsimp only; omega) (by dsimp only; omega) (by dsimp only; omega) (by dsimp only; omega)
    · intro h
      apply hno
      obtain ⟨a, b, c, d⟩ := h
      simp only [Q4.neg] at a b c d
      omega
theorem ents_neg (v : Q4) : v.neg.ents = v.ents := by
  simp only [ents, e11, e12, e13, e21, e22, e23, e31, e32, e33, nn, Q4.neg, Int.neg_mul_neg]
theorem ents_smul (m : Int) (v : Q4) : (smul m v).ents = v.ents.map (m * m * ·) := by
  simp only [ents, List.map_cons, List.map_nil, e11, e12, e13, e21, e22, e23, e31, e32, e33, nn, smul]
  refine List.cons_eq_cons.mpr ⟨by grind, List.cons_eq_cons.mpr ⟨by grind, List.cons_eq_cons.mpr ⟨by grind, List.cons_eq_cons.mpr ⟨by grind, List.cons_eq_cons.mpr ⟨by grind, List.cons_eq_cons.mpr ⟨by grind, List.cons_eq_cons.mpr ⟨by grind, List.cons_eq_cons.mpr ⟨by grind, List.cons_eq_cons.mpr ⟨by grind, List.cons_eq_cons.mpr ⟨by grind, rfl⟩⟩⟩⟩⟩⟩⟩⟩⟩⟩
theorem size_neg (v : Q4) : v.neg.size = v.size := by simp only [size, Q4.neg, Int.neg_mul_neg]
theorem Prim.ne {v : Q4} (h : Prim v) : v ≠ ⟨0, 0, 0, 0⟩ := by
  rintro rfl
  rcases h.one with ⟨a, _⟩ | ⟨w, e, hg, _⟩
  · exact absurd a (by decide)
  · have e1 := congrArg Q4.a e
    have e2 := congrArg Q4.b e
    have e3 := congrArg Q4.c e
    have e4 := congrArg Q4.d e
    simp only at e1 e2 e3 e4
    have := odd_one hg
    omega
theorem sq_nn (x : Int) : 0 ≤ x * x := by rw [← Int.natAbs_mul_self]; exact Int.natCast_nonneg _
theorem size_pos {v : Q4} (h : Prim v) : 0 < v.size := by
  obtain ⟨_, hn, hm⟩ := h.gcd
  have : 0 ≤ v.nn := by
    unfold nn
    have a := sq_nn v.a
    have b := sq_nn v.b
    have c := sq_nn v.c
    have d := sq_nn v.d
    omega
  omega
/-- the table of a four, by the four of content 1 in it -/
theorem table_of {u v : Q4} {m : Int} (hm : 0 < m) (hv : Prim v) (hu : u.ents = v.ents.map (m * m * ·)) : gcdL u.ents = m * m * v.scale ∧ 0 < v.scale ∧ v.nn / v.scale = v.spr ∧ 0 < v.spr ∧ v.spr % 2 = 1 ∧ 4 * v.size / v.spr = v.scale := by
  obtain ⟨hg, hn, h4⟩ := hv.gcd
  have mm : 0 < m * m := Int.mul_pos hm hm
  have sp := size_pos hv
  refine ⟨by rw [hu, gcdL_mul mm, hg], ?_, ?_, ?_, ?_, ?_⟩
  · unfold scale; split <;> decide
  · rw [hn]; unfold scale spr; split <;> omega
  · unfold spr; split <;> omega
  · unfold spr; split <;> omega
  · unfold scale spr
    split
    · exact Int.mul_ediv_cancel _ (by omega)
    · obtain ⟨t, ht⟩ : ∃ t, v.size = 2 * t := ⟨v.size / 2, by omega⟩
      rw [ht, show 2 * t / 2 = t by omega, show 4 * (2 * t) = 8 * t by omega]
      exact Int.mul_ediv_cancel _ (by omega)
end Q4
end G
set_option Elab.async false
set_option linter.all false
set_option maxRecDepth 100000
namespace G
open PySem PySem.Spec PyProof.Rows L2
open AutoSeq1 (wpAny_loadPart')
/-! ### a tuple taken once, or no times -/
theorem tupOnce (l : Addr) (items : Array Value) (n : Nat) (dd : Option Addr) (sl : Array (Option Value)) (u : Tok) :
    Meets (Builtin.«tuple.__mul__» ⟨[.ref l, .int 1 u], []⟩) (fun _ R s => s.heap.get? l = some { cls := .type "tuple", dict := dd, data := .seq items n, slots := sl } ∧ R (.ok (.ret (Value.ref l))) s) :=
  .of_wp fun prog w A R s h => by
    obtain ⟨hp, g, d, tk, os⟩ := s
    obtain ⟨hl, h⟩ := h
    have f1 := AutoSeq1.idx_int
    wp_walk using wpAny_loadPart' hl
    exact ⟨_, rfl, h⟩
theorem tupNone (l : Addr) (items : Array Value) (n : Nat) (dd : Option Addr) (sl : Array (Option Value)) (u : Tok) (hi : items.isEmpty = false) :
    Meets (Builtin.«tuple.__mul__» ⟨[.ref l, .int 0 u], []⟩) (fun _ R s => s.heap.get? l = some { cls := .type "tuple", dict := dd, data := .seq items n, slots := sl } ∧
      R (.ok (.ret (Value.ref s.heap.objs.size))) { s with heap := s.heap.push { cls := Value.type "tuple", data := Data.seq #[] }, toks := s.toks }) :=
  .of_wp fun prog w A R s h => by
    obtain ⟨hp, g, d, tk, os⟩ := s
    obtain ⟨hl, h⟩ := h
    have f1 := AutoSeq1.idx_int
    wp_walk using wpAny_loadPart' hl
    exact ⟨_, rfl, h⟩
/-- a tuple that is not empty, times a small number -/
def rRepA (K : PySem.W.Frag) : R2 := fun x y H Q => ∃ (l : Addr) (k : Int) (xs : List V), x = .ref l ∧ y = .int k ∧ SqT K H l xs ∧ xs ≠ [] ∧ 0 ≤ k ∧ k ≤ 1000 ∧ xs.length ≤ 1000 ∧ (k = 1 → Q (.ref l) H) ∧ (k ≠ 1 → ∀ p, H p = none → Q (.ref p) (upd H p (.tup (List.replicate k.toNat xs).flatten)))
theorem op_repA {X : Cx} : OpR X (binaryOp .Mult) (rRepA X.K) := by
  intro pins s σ H x y v u Q I rx ry h
  obtain ⟨l, k, xs, ex, ey, hT, hne, k0, k9, hz, q1, q2⟩ := h
  rcases (by omega : k = 0 ∨ k = 1 ∨ 2 ≤ k) with hk | hk | hk
  · subst hk; subst ex; subst ey
    cases rx
    obtain ⟨t, rfl⟩ := ry
    obtain ⟨its, r, ⟨⟨cls, dd, data, sl⟩, ho, hc, n, hd⟩, hs⟩ := I.tuple hT
    simp only at hc hd
    subst hc hd
    have hi : its.toArray.isEmpty = false := by
      cases its with
      | nil => cases r; exact absurd rfl hne
      | cons a b => rfl
    refine wpAny_binaryOp_repeat_ref (T := "tuple") (U := "int") (by decide) ⟨_, ho, rfl⟩ (fun s' => typeIs_int s' 0 t) noFill_tuple_mul F.fills_int_mul F.slot_int_rmul repeat_tuple F.slot_int_index.lookup (call_meets F.slot_int_rmul (typeIs_int s 0 t) F.entry_int_rmul (F.args_int_rmul_2 _ _) (int_rmul_tuple 0 t l its.toArray n dd sl)
      ⟨ho, rfl, ⟨_, ho, rfl⟩, call_meets F.slot_tuple_mul ⟨_, ho, rfl⟩ F.entry_tuple_mul (F.args_tuple_mul_2 _ _) (tupNone l its.toArray n dd sl t hi) ⟨ho, ?_⟩⟩)
    refine ⟨.ref s.heap.objs.size, _, I.laid (t' := s.toks) (o := .tup []) (fun b ob z => Heap.get?_push_of_some _ z) (Nat.le_refl _) ?_, rfl, q2 (by decide) _ (I.hok.fresh (Nat.le_refl _))⟩
    exact ⟨Nat.zero_le _, [], .nil, IsTup.new _ _⟩
  · subst hk; subst ex; subst ey
    cases rx
    obtain ⟨t, rfl⟩ := ry
    obtain ⟨its, r, ⟨⟨cls, dd, data, sl⟩, ho, hc, n, hd⟩, hs⟩ := I.tuple hT
    simp only at hc hd
    subst hc hd
    refine wpAny_binaryOp_repeat_ref (T := "tuple") (U := "int") (by decide) ⟨_, ho, rfl⟩ (fun s' => typeIs_int s' 1 t) noFill_tuple_mul F.fills_int_mul F.slot_int_rmul repeat_tuple F.slot_int_index.lookup (call_meets F.slot_int_rmul (typeIs_int s 1 t) F.entry_int_rmul (F.args_int_rmul_2 _ _) (int_rmul_tuple 1 t l its.toArray n dd sl)
      ⟨ho, rfl, ⟨_, ho, rfl⟩, call_meets F.slot_tuple_mul ⟨_, ho, rfl⟩ F.entry_tuple_mul (F.args_tuple_mul_2 _ _) (tupOnce l its.toArray n dd sl t) ⟨ho, ?_⟩⟩)
    exact ⟨.ref l, H, I, rfl, q1 rfl⟩
  · exact op_repT pins s σ H x y v u Q I rx ry ⟨l, k, xs, ex, ey, hT, hne, hk, k9, hz, q2 (by omega)⟩
end G
set_option Elab.async false
set_option linter.all false
set_option maxRecDepth 100000
set_option maxHeartbeats 1000000
/-! ### rows of ints, of any sign: their order, and sorted -/
namespace G
open PySem PySem.Spec PyProof.Rows L2
/-- rows told in the order of tuples -/
abbrev rowLt (c d : List Int) : Bool := HT.lexLt c d
section
variable {prog : Program} {w : World} {A : Around} {s : Shared}
/-- what a pair of rows is asked, from place i on -/
theorem rows_lex {b fin : Bool} {Q : Bool → Shared → Prop} : ∀ (c d : List Int) (us vs : List Value) (i : Nat), IntsAre us c → IntsAre vs d → fin = decide (c.length < d.length) → Q (rowLt c d) s →
    PySem.W.KatLex prog w A b fin Q (us.zip vs) i s := by
  intro c
  induction c with
  | nil =>
    intro d us vs i hu hv hf q
    cases hu
    refine PySem.W.kat_nil ?_
    rw [hf]
    cases d with
    | nil => exact q
    | cons y d => exact q
  | cons x c ih =>
    intro d us vs i hu hv hf q
    cases hu with
    | cons _ t hu =>
      cases hv with
      | nil =>
        refine PySem.W.kat_nil ?_
        rw [hf]
        exact q
      | @cons y u vs d hv =>
        refine PySem.W.kat_cons (wpAny_eqBool_int ?_)
        have q' : Q (if x = y then rowLt c d else decide (x < y)) s := q
        cases e : x == y with
        | true =>
          rw [if_pos (by simpa using e)] at q'
          exact PySem.W.kat_yes (ih d _ vs (i + 1) hu hv (by rw [hf]; simp) q')
        | false =>
          rw [if_neg (by simpa using e)] at q'
          exact PySem.W.kat_no (TS.oneLt_ints _ q')
/-- at v stands the row c, which is not empty -/
def RowOf (h : Heap) (v : Value) (c : List Int) : Prop := ∃ (a : Addr) (o : Obj) (n : Nat) (us : Array Value), v = .ref a ∧ h.get? a = some o ∧ o.cls = .type "tuple" ∧ o.data = .seq us n ∧ IntsAre us.toList c ∧ c ≠ []
theorem RowOf.on {h h' : Heap} {v : Value} {c : List Int} (r : RowOf h v c) (k : ∀ b o, v = .ref b → h.get? b = some o → h'.get? b = some o) : RowOf h' v c := by
  obtain ⟨a, o, n, us, e, g, z⟩ := r
  exact ⟨a, o, n, us, e, k _ _ e g, z⟩
theorem rows_heads {h : Heap} {k : Value → List Int} : ∀ vs : List Value, (∀ v ∈ vs, RowOf h v (k v)) → ∃ fs : List Value, PySem.W.KatTups h vs fs ∧ fs.length = vs.length ∧ ∀ f ∈ fs, ∃ i t, f = Value.int i t
  | [], _ => ⟨[], PySem.W.KatTups.nil, rfl, fun f m => by cases m⟩
  | v :: vs, r => by
    obtain ⟨fs, t, l, i⟩ := rows_heads vs fun u m => r u (.tail _ m)
    obtain ⟨a, o, n, us, rfl, g, c, d, z, ne⟩ := r v (.head _)
    match hk : k (.ref a), hu : us.toList, z, ne with
    | x :: _, _ :: _, .cons _ u _, _ =>
      refine ⟨.int x u :: fs, PySem.W.KatTups.cons g c d ?_ t, by rw [List.length_cons, List.length_cons, l], fun f m => ?_⟩
      · rw [← Array.getElem?_toList, hu]; rfl
      · rcases List.mem_cons.mp m with rfl | m
        · exact ⟨_, _, rfl⟩
        · exact i f m
theorem rows_ask {vs : List Value} {k : Value → List Int} (r : ∀ v ∈ vs, RowOf s.heap v (k v)) : SrtO.Cmp prog w A s (tuples' true) (fun p => p.1 ∈ vs) (SrtO.lt2 fun u v => rowLt (k u) (k v)) := by
  rintro ⟨u, u'⟩ ⟨v, v'⟩ hu hv
  have r1 := r u hu
  have r2 := r v hv
  show wpAny _ _ (keyLt' (tuples' true) u v) (fun b s' => s' = s ∧ b = rowLt (k u) (k v)) _ s
  obtain ⟨a, o, n, us, e, g, c, d, z, _⟩ := r1
  obtain ⟨a', o', n', us', e', g', c', d', z', _⟩ := r2
  rw [e, e']
  rw [e] at z; rw [e'] at z'
  refine PySem.W.kat_lt g d g' d' (rows_lex _ _ _ _ 0 z z' ?_ ⟨rfl, rfl⟩)
  rw [← z.length, ← z'.length, Array.length_toList, Array.length_toList]
end
/-- x is the row c -/
def RowV (K : PySem.W.Frag) (H : Hp) (x : V) (c : List Int) : Prop := ∃ t, x = V.ref t ∧ SqT K H t (c.map V.int)
/-- what the machine reads of it -/
def readRow (h : Heap) : V → List Int
  | .ref a => TS.intsOf h (.ref a)
  | _ => []
theorem RowV.read {X : Cx} {pins : List (Addr × Obj)} {s : Shared} {σ : L2.St} {H : Hp} {x : V} {c : List Int} (I : Inv X pins σ H s) (r : RowV X.K H x c) : readRow s.heap x = c := by
  obtain ⟨t, rfl, ht⟩ := r
  obtain ⟨us, r, hi, _⟩ := I.tuple ht
  exact TS.TupInts.ints ⟨t, _, rfl, hi, intsAre_of r⟩
theorem RowV.at {X : Cx} {pins : List (Addr × Obj)} {s : Shared} {σ : L2.St} {H : Hp} {t : Addr} {c : List Int} (I : Inv X pins σ H s) (r : RowV X.K H (.ref t) c) (hn : c ≠ []) : RowOf s.heap (.ref t) (readRow s.heap (.ref t)) := by
  rw [r.read I]
  obtain ⟨t', e, ht⟩ := r
  cases e
  obtain ⟨us, r, ⟨o, ho, hc, n, hd⟩, _⟩ := I.tuple ht
  exact ⟨t, o, n, _, rfl, ho, hc, hd, intsAre_of r, hn⟩
/-- sorted(xs), xs a list of rows: a new list, in order; k tells what each row is -/
def rSortedR (K : PySem.W.Frag) : List V → Hp → VK → Prop := fun vs H Q => ∃ (a : Addr) (xs : List V), vs = [V.ref a] ∧ SqL K H a xs ∧ (∀ x ∈ xs, ∃ c, RowV K H x c ∧ c ≠ []) ∧
  ∀ (k : V → List Int) ys p, (∀ x c, RowV K H x c → k x = c) → ys.Pairwise (fun x y => rowLt (k y) (k x) = false) → ys.Perm xs → H p = none → Q (.ref p) (upd H p (.lst ys))
theorem cr_sortedR {X : Cx} : CallR X (.builtin "sorted") (rSortedR X.K) := by
  intro pins s σ H vs us Q I r h
  obtain ⟨a, xs, rfl, hs, hx, q⟩ := h
  obtain ⟨its, rv, hl, hz⟩ := I.list hs
  obtain ⟨u, rfl, ru⟩ := vals1 r
  obtain rfl : u = Value.ref a := ru
  obtain ⟨e1, e2⟩ := refs_back rv fun x m => by
    obtain ⟨c, ⟨t, e, _⟩, _⟩ := hx x m
    exact ⟨t, e⟩
  have rows : ∀ v ∈ its, RowOf s.heap v (readRow s.heap (backV v)) := fun v hv => by
    obtain ⟨t, rfl⟩ := e2 v hv
    obtain ⟨c, hc, hn⟩ := hx (V.ref t) (by rw [e1]; exact List.mem_map.mpr ⟨_, hv, rfl⟩)
    exact hc.at I hn
  refine SrtO.sorted_ord (ltv := fun u v => rowLt (readRow s.heap (backV u)) (readRow s.heap (backV v))) (NtL.swo_lexL _) hl.isList (by rw [← rv.length]; exact hz) (fun h2 h₁ b hb keep => ?_) fun out o1 o2 => ?_
  · intro h' keep'
    have rows' : ∀ v ∈ its, RowOf h' v (readRow s.heap (backV v)) := fun v hv => (rows v hv).on fun c o _ g => keep' c o (keep c o g).1 (keep c o g).2
    obtain ⟨fs, t, l, i⟩ := rows_heads its rows'
    refine ⟨tuples' true, fun Q E hq => PySem.W.kat_kind (T := .type "int") t (by omega) (fun f m => ?_) rfl hq, rows_ask rows'⟩
    obtain ⟨x, t, rfl⟩ := i f m
    exact PySem.W.Looks.now
  · have back : ∀ u ∈ out, ∃ a, u = Value.ref a := fun u m => e2 u (o2.perm.mem_iff.mp m)
    obtain ⟨n, hn⟩ := sortedAll_at s.heap its out.toArray
    have pm : (out.map backV).Perm xs := by rw [e1]; exact o2.perm.map _
    refine ⟨.ref _, upd H _ (.lst (out.map backV)), I.laid (t' := s.toks) (fun b o e => sortedAll_old e) (Nat.le_succ _) ⟨by rw [pm.length_eq]; exact hz, out, n, vals_back back, hn⟩, rfl, q (readRow s.heap) _ _ (fun x c r => r.read I) (List.pairwise_map.mpr o1) pm (I.hok.fresh (Nat.le_succ _))⟩
/-- rows in order are told by what they are -/
theorem rowLt_eq : ∀ {c d : List Int}, rowLt c d = false → rowLt d c = false → c = d
  | [], [], _, _ => rfl
  | [], _ :: _, h, _ => by cases h
  | _ :: _, [], _, h => by cases h
  | x :: c, y :: d, h1, h2 => by
    have h1' : (if x = y then rowLt c d else decide (x < y)) = false := h1
    have h2' : (if y = x then rowLt d c else decide (y < x)) = false := h2
    by_cases e : x = y
    · subst e
      rw [if_pos rfl] at h1' h2'
      rw [rowLt_eq h1' h2']
    · rw [if_neg e] at h1'
      rw [if_neg (Ne.symm e)] at h2'
      have a := of_decide_eq_false h1'
      have b := of_decide_eq_false h2'
      omega
theorem sorted_uniq : ∀ {l m : List (List Int)}, l.Pairwise (fun x y => rowLt y x = false) → m.Pairwise (fun x y => rowLt y x = false) → l.Perm m → l = m
  | [], m, _, _, p => (p.symm.eq_nil).symm
  | x :: l, [], _, _, p => absurd p.length_eq (by simp)
  | x :: l, y :: m, hl, hm, p => by
    have a := List.pairwise_cons.mp hl
    have b := List.pairwise_cons.mp hm
    have e : x = y := by
      rcases List.mem_cons.mp (p.mem_iff.mp (.head _)) with e | h1
      · exact e
      · rcases List.mem_cons.mp (p.mem_iff.mpr (.head _)) with e | h2
        · exact e.symm
        · exact rowLt_eq (b.1 _ h1) (a.1 _ h2)
    subst e
    rw [sorted_uniq a.2 b.2 p.cons_inv]
end G
set_option Elab.async false
set_option linter.all false
set_option maxRecDepth 100000
set_option maxHeartbeats 1000000
/-! ### lists of things that stand in the heap; rows that the top has written -/
namespace G
open PySem PySem.Spec PyProof.Rows L2
theorem same_new {H : Hp} {p : Addr} {o : HO} (h : H p = none) : Same H (upd H p o) := fun b x e => by
  rw [upd_ne (ne_of_none e h)]
  exact e
/-- what is said of a thing stays when others are made, or a list is changed -/
structure Tame {α : Type} (R : Hp → Addr → α → Prop) : Prop where
  same : ∀ {H H' t u}, R H t u → Same H H' → R H' t u
  but : ∀ {H H' D t u ys}, R H t u → H D = some (.lst ys) → (∀ a o, a ≠ D → H a = some o → H' a = some o) → R H' t u
section
variable {α : Type} {R : Hp → Addr → α → Prop}
theorem Tame.list (T : Tame R) {H : Hp} {D t : Addr} {u : α} {ys zs : List V} (h : R H t u) (hD : H D = some (.lst ys)) : R (upd H D (.lst zs)) t u := T.but h hD fun a o n e => by rw [upd_ne n]; exact e
def ObjsAt (R : Hp → Addr → α → Prop) (H : Hp) (l : Addr) (us : List α) : Prop := ∃ ts : List Addr, H l = some (.lst (ts.map V.ref)) ∧ ts.length = us.length ∧ ∀ (j : Nat) (t : Addr) (u : α), ts[j]? = some t → us[j]? = some u → R H t u
/-- the first i of us made, in the list at D -/
def MadeO (R : Hp → Addr → α → Prop) (H0 : Hp) (D : Addr) (us : List α) (i : Nat) (H' : Hp) : Prop := Same H0 H' ∧ ∃ ts : List Addr, H' D = some (.lst (ts.map V.ref)) ∧ ts.length = i ∧ ∀ (j : Nat) (t : Addr) (u : α), ts[j]? = some t → us[j]? = some u → R H' t u
theorem MadeO.zero {H0 : Hp} {D : Addr} {us : List α} (nD : H0 D = none) : MadeO R H0 D us 0 (upd H0 D (.lst [])) := ⟨same_new nD, [], upd_same, rfl, fun j t c h => by simp at h⟩
theorem MadeO.snoc (T : Tame R) {H0 H' H4 : Hp} {D r : Addr} {us : List α} {i : Nat} {c : α} (h : MadeO R H0 D us i H') (s : Same H' H4) (nD : H0 D = none) (hc : us[i]? = some c) (hr : R H4 r c) (hi : i ≤ 1000) :
    ∃ acc, H4 D = some (.lst acc) ∧ acc.length < sizeLine ∧ MadeO R H0 D us (i + 1) (upd H4 D (.lst (acc ++ [.ref r]))) := by
  obtain ⟨sm, ts, hD, hl, ht⟩ := h
  have hD4 := s _ _ hD
  refine ⟨_, hD4, by rw [List.length_map, hl, sizeLine_eq]; omega, fun b o e => ?_, ts ++ [r], by rw [upd_same, List.map_append]; rfl, by rw [List.length_append, hl]; rfl, fun j t u hj hu => ?_⟩
  · rw [upd_ne (ne_of_none e nD)]
    exact s _ _ (sm _ _ e)
  · refine T.list ?_ hD4
    rcases Nat.lt_or_ge j ts.length with q | q
    · rw [List.getElem?_append_left q] at hj
      exact T.same (ht j t u hj hu) s
    · have e : j = ts.length := by
        have := (List.getElem?_eq_some_iff.mp hj).1
        rw [List.length_append, List.length_singleton] at this
        omega
      subst e
      rw [List.getElem?_append_right (Nat.le_refl _), Nat.sub_self] at hj
      cases hj
      rw [hl, hc] at hu
      cases hu
      exact hr
theorem MadeO.objs {H0 H' : Hp} {D : Addr} {us : List α} {n : Nat} (h : MadeO R H0 D us n H') (e : n = us.length) : ObjsAt R H' D us := by
  subst e
  obtain ⟨_, ts, hD, hl, ht⟩ := h
  exact ⟨ts, hD, hl, ht⟩
theorem ObjsAt.same (T : Tame R) {H H' : Hp} {l : Addr} {us : List α} (h : ObjsAt R H l us) (s : Same H H') : ObjsAt R H' l us := by
  obtain ⟨ts, h1, h2, h3⟩ := h
  exact ⟨ts, s _ _ h1, h2, fun j t u a b => T.same (h3 j t u a b) s⟩
theorem ObjsAt.but (T : Tame R) {H H' : Hp} {l p : Addr} {us : List α} {ys : List V} (h : ObjsAt R H l us) (hp : H p = some (.lst ys)) (n : l ≠ p) (s : ∀ a o, a ≠ p → H a = some o → H' a = some o) : ObjsAt R H' l us := by
  obtain ⟨ts, h1, h2, h3⟩ := h
  exact ⟨ts, s _ _ n h1, h2, fun j t u a b => T.but (h3 j t u a b) hp s⟩
/-- the item at a place -/
theorem ObjsAt.item {H : Hp} {l : Addr} {us : List α} (h : ObjsAt R H l us) {i : Int} (h0 : 0 ≤ i) (h1 : i < us.length) : ∃ (xs : List V) (t : Addr) (u : α), H l = some (.lst xs) ∧ atI xs i = some (.ref t) ∧ us[i.toNat]? = some u ∧ R H t u ∧ xs.length = us.length := by
  obtain ⟨ts, a, b, c⟩ := h
  have hn : i.toNat < us.length := by omega
  have e1 : us[i.toNat]? = some us[i.toNat] := List.getElem?_eq_getElem hn
  have e2 : ts[i.toNat]? = some ts[i.toNat] := List.getElem?_eq_getElem (by omega)
  refine ⟨_, _, _, a, ?_, e1, c _ _ _ e2 e1, by rw [List.length_map, b]⟩
  have key : ∀ (n : Nat) (z : Addr), ts[n]? = some z → atI (ts.map V.ref) ((n : Nat) : Int) = some (.ref z) := fun n z e => atI_nat (by rw [List.getElem?_map, e]; rfl)
  have := key _ _ e2
  rwa [Int.toNat_of_nonneg h0] at this
/-- a turn's item -/
theorem ref_at {ts : List Addr} {us : List α} {j : Nat} {x : V} (h : ts.length = us.length) (hx : (ts.map V.ref)[j]? = some x) : ∃ t u, x = V.ref t ∧ ts[j]? = some t ∧ us[j]? = some u ∧ j < us.length := by
  rw [List.getElem?_map] at hx
  cases e : ts[j]? with
  | none => rw [e] at hx; cases hx
  | some t =>
    rw [e] at hx
    have hj := (List.getElem?_eq_some_iff.mp e).1
    exact ⟨t, us[j], (Option.some.inj hx).symm, rfl, List.getElem?_eq_getElem (by omega), by omega⟩
end
/-! rows -/
def RowAt (K : PySem.W.Frag) (H : Hp) (t : Addr) (c : List Int) : Prop := SqT K H t (c.map V.int)
theorem tame_row {K : PySem.W.Frag} : Tame (RowAt K) where
  same := fun {H H' t u} h s => by
    rcases h with (h | ⟨o, h⟩) | h
    · exact .inl (.inl (s _ _ h))
    · exact .inl (.inr ⟨o, s _ _ h⟩)
    · exact .inr h
  but := fun {H H' D t u ys} h hD s => by
    rcases h with (h | ⟨o, h⟩) | h
    · exact .inl (.inl (s _ _ (ne_of h hD (by intro q; cases q)) h))
    · exact .inl (.inr ⟨o, s _ _ (ne_of h hD (by intro q; cases q)) h⟩)
    · exact .inr h
inductive RowsIn (K : PySem.W.Frag) : List Value → List (List Int) → Prop
  | nil : RowsIn K [] []
  | cons {a : Addr} {d : Option Addr} {us : List Value} {n : Nat} {sl : Array (Option Value)} {vs : List Value} {c : List Int} {cs : List (List Int)} (l : K.lookup a = some ⟨.type "tuple", d, .seq us.toArray n, sl⟩) (i : IntsAre us c) (r : RowsIn K vs cs) : RowsIn K (.ref a :: vs) (c :: cs)
/-- x is a tuple of rows that the top has written -/
def TopRows (K : PySem.W.Frag) (x : Str) (cs : List (List Int)) : Prop := ∃ (u : Addr) (d : Option Addr) (vs : List Value) (n : Nat) (sl : Array (Option Value)), PySem.W.nsIn K mainGlobals x = some (some (.ref u)) ∧ K.lookup u = some ⟨.type "tuple", d, .seq vs.toArray n, sl⟩ ∧ RowsIn K vs cs
theorem TopRows.mk {K : PySem.W.Frag} {x : Str} {cs : List (List Int)} {u : Addr} {d : Option Addr} {vs : List Value} {n : Nat} {sl : Array (Option Value)} (a : PySem.W.nsIn K mainGlobals x = some (some (.ref u))) (l : K.lookup u = some ⟨.type "tuple", d, .seq vs.toArray n, sl⟩) (r : RowsIn K vs cs) : TopRows K x cs := ⟨u, d, vs, n, sl, a, l, r⟩
/-- .. as the text reads it -/
def Rows0 (K : PySem.W.Frag) (mg : Str → Option Value) (x : Str) (cs : List (List Int)) : Prop := ∃ (u : Addr) (ts : List Addr), mg x = some (.ref u) ∧ ts.length = cs.length ∧ ∀ H : Hp, SqT K H u (ts.map V.ref) ∧ ∀ (j : Nat) (t : Addr) (c : List Int), ts[j]? = some t → cs[j]? = some c → RowAt K H t c
theorem RowsIn.get {K : PySem.W.Frag} {vs : List Value} {cs : List (List Int)} (r : RowsIn K vs cs) (hz : ∀ c ∈ cs, c.length ≤ 1000) : ∃ ts : List Addr, vs = ts.map Value.ref ∧ ts.length = cs.length ∧ ∀ (H : Hp) (j : Nat) (t : Addr) (c : List Int), ts[j]? = some t → cs[j]? = some c → RowAt K H t c := by
  induction r with
  | nil => exact ⟨[], rfl, rfl, fun H j t c h => by simp at h⟩
  | @cons a d us n sl vs c cs l i r ih =>
    obtain ⟨ts, e, hl, h⟩ := ih fun c m => hz c (.tail _ m)
    refine ⟨a :: ts, by rw [e]; rfl, by rw [List.length_cons, List.length_cons, hl], fun H j t c' ht hc => ?_⟩
    cases j with
    | zero =>
      cases ht; cases hc
      refine .inr ⟨_, _, _, l, rfl, rfl, ?_, vals_ints i⟩
      have := hz c (.head _)
      rw [List.size_toArray, i.length, sizeLine_eq]
      omega
    | succ j => exact h H j t c' ht hc
theorem vals_refs : ∀ ts : List Addr, Vals (ts.map V.ref) (ts.map Value.ref)
  | [] => .nil
  | t :: ts => .cons rfl (vals_refs ts)
theorem TopRows.get {K : PySem.W.Frag} {x : Str} {cs : List (List Int)} {h : Heap} {mg : Str → Option Value} (T : TopRows K x cs) (X : K.In h) (G : h.Ns mainGlobals mg) (hz : ∀ c ∈ cs, c.length ≤ 1000) (hn : cs.length ≤ 1000) : Rows0 K mg x cs := by
  obtain ⟨u, d, vs, n, sl, a, l, r⟩ := T
  obtain ⟨ts, rfl, hl, g⟩ := r.get hz
  refine ⟨u, ts, PySem.W.mg_of X G a, hl, fun H => ⟨.inr ⟨_, _, _, l, rfl, rfl, ?_, vals_refs ts⟩, g H⟩⟩
  rw [List.size_toArray, List.length_map, hl, sizeLine_eq]
  omega
end G
set_option Elab.async false
set_option linter.all false
set_option maxRecDepth 100000
set_option maxHeartbeats 1000000
/-! ### the greatest of a list of rows -/
namespace G
open PySem PySem.Spec PyProof.Rows L2
def dR (c : List Int) : PyData := .tuple (c.map PyData.int)
theorem dpb_ints {K : PySem.W.Frag} {H : Hp} : ∀ c : List Int, DpAll K H (c.map V.int) (c.map PyData.int)
  | [] => .nil
  | x :: c => .cons (.int x) (dpb_ints c)
theorem rowLt_lt : ∀ c d : List Int, rowLt c d = decide (c < d)
  | [], [] => by simp [rowLt, HT.lexLt]
  | [], _ :: _ => by simp [rowLt, HT.lexLt]
  | _ :: _, [] => by simp [rowLt, HT.lexLt]
  | x :: c, y :: d => by
    show (if x = y then rowLt c d else decide (x < y)) = _
    rw [rowLt_lt c d, Bool.eq_iff_iff, decide_eq_true_eq, List.cons_lt_cons_iff]
    by_cases e : x = y
    · subst e; simp
    · rw [if_neg e, decide_eq_true_eq]
      constructor
      · exact .inl
      · rintro (h | ⟨h, _⟩)
        · exact h
        · exact absurd h e
theorem dR_lt (c d : List Int) : PySem.W.dataLt (dR c) (dR d) = rowLt c d := by
  unfold dR
  rw [PySem.W.dataLt_tuple]
  show PySem.W.rowLt (c.map PyData.int) (d.map PyData.int) = _
  rw [PySem.W.dataLt_ints, rowLt_lt]
theorem alike_ints : ∀ c d : List Int, PySem.W.alikeAll (c.map PyData.int) (d.map PyData.int) = true
  | [], _ => by cases ‹List Int› <;> rfl
  | _ :: _, [] => rfl
  | x :: c, y :: d => by
    show (PySem.W.alike (.int x) (.int y) && PySem.W.alikeAll (c.map PyData.int) (d.map PyData.int)) = true
    rw [alike_ints c d]; rfl
theorem argBest_max (cs : List (List Int)) : ∀ k, k < cs.length → argBest (fun i j => rowLt (cs.getD j []) (cs.getD i [])) k ≤ k ∧ ∀ j ≤ k, rowLt (cs.getD (argBest (fun i j => rowLt (cs.getD j []) (cs.getD i [])) k) []) (cs.getD j []) = false
  | 0, _ => ⟨Nat.le_refl _, fun j hj => by
      obtain rfl : j = 0 := by omega
      exact (NtL.swo_lexL id).refl _⟩
  | k + 1, h => by
    obtain ⟨h1, h2⟩ := argBest_max cs k (by omega)
    have O := NtL.swo_lexL (id : List Int → List Int)
    unfold argBest
    cases e : rowLt (cs.getD (argBest (fun i j => rowLt (cs.getD j []) (cs.getD i [])) k) []) (cs.getD (k + 1) []) with
    | true =>
      rw [if_pos rfl]
      refine ⟨Nat.le_refl _, fun j hj => ?_⟩
      rcases Nat.lt_or_ge k j with q | q
      · obtain rfl : j = k + 1 := by omega
        exact O.refl _
      · have a := O.asym _ _ e
        exact O.tr _ _ _ (h2 j q) a
    | false =>
      rw [if_neg (by decide)]
      refine ⟨by omega, fun j hj => ?_⟩
      rcases Nat.lt_or_ge k j with q | q
      · obtain rfl : j = k + 1 := by omega
        exact e
      · exact h2 j q
theorem argBest_eq {f g : Nat → Nat → Bool} : ∀ k, (∀ i j, i ≤ k → j ≤ k → f i j = g i j) → argBest f k = argBest g k ∧ argBest g k ≤ k
  | 0, _ => ⟨rfl, Nat.le_refl _⟩
  | k + 1, h => by
    obtain ⟨e, l⟩ := argBest_eq k fun i j a b => h i j (by omega) (by omega)
    unfold argBest
    rw [e, h (k + 1) (argBest g k) (Nat.le_refl _) (by omega)]
    refine ⟨rfl, ?_⟩
    split <;> omega
/-- max(xs), xs a list of rows -/
def rMaxR2 (K : PySem.W.Frag) : List V → Hp → VK → Prop := fun vs H Q => ∃ (a : Addr) (ts : List Addr) (cs : List (List Int)), vs = [V.ref a] ∧ SqL K H a (ts.map V.ref) ∧ ts.length = cs.length ∧ (∀ (j : Nat) (t : Addr) (c : List Int), ts[j]? = some t → cs[j]? = some c → RowAt K H t c) ∧ 0 < cs.length ∧
  ∀ (j : Nat) (t : Addr) (c : List Int), ts[j]? = some t → cs[j]? = some c → (∀ d ∈ cs, rowLt c d = false) → Q (.ref t) H
def rMaxR (K : PySem.W.Frag) : List V → Hp → VK → Prop := fun vs H Q => ∃ (a : Addr) (ts : List Addr) (cs : List (List Int)), vs = [V.ref a] ∧ SqL K H a (ts.map V.ref) ∧ ts.length = cs.length ∧ (∀ (j : Nat) (t : Addr) (c : List Int), ts[j]? = some t → cs[j]? = some c → RowAt K H t c) ∧ 0 < cs.length ∧
  ∀ (t : Addr) (c : List Int), c ∈ cs → RowAt K H t c → (∀ d ∈ cs, rowLt c d = false) → Q (.ref t) H
theorem dpa_rows {K : PySem.W.Frag} {H : Hp} : ∀ (ts : List Addr) (cs : List (List Int)), ts.length = cs.length → (∀ (j : Nat) (t : Addr) (c : List Int), ts[j]? = some t → cs[j]? = some c → RowAt K H t c) → DpAll K H (ts.map V.ref) (cs.map dR)
  | [], [], _, _ => .nil
  | t :: ts, c :: cs, h, r => .cons (.tup (r 0 t c rfl rfl) (dpb_ints c)) (dpa_rows ts cs (by simpa using h) fun j t c a b => r (j + 1) t c a b)
  | [], _ :: _, h, _ => by simp at h
  | _ :: _, [], h, _ => by simp at h
theorem depth_rows : ∀ cs : List (List Int), PyData.depthAll (cs.map dR) ≤ 3 := by
  have h1 : ∀ c : List Int, PyData.depthAll (c.map PyData.int) ≤ 1 := by
    intro c
    induction c with
    | nil => decide
    | cons x c ih =>
      show max (PyData.depth (.int x)) (PyData.depthAll (c.map PyData.int)) ≤ 1
      exact Nat.max_le.mpr ⟨by simp [PyData.depth], ih⟩
  intro cs
  induction cs with
  | nil => decide
  | cons c cs ih =>
    show max (PyData.depth (.tuple (c.map PyData.int))) (PyData.depthAll (cs.map dR)) ≤ 3
    refine Nat.max_le.mpr ⟨?_, ih⟩
    have := h1 c
    show PyData.depthAll (c.map PyData.int) + 1 ≤ 3
    omega
theorem cr_maxR2 {X : Cx} (hc : X.calm = true) (hu : X.A.units + 64 < cLine) : CallR X (.builtin "max") (rMaxR2 X.K) := by
  intro pins s σ H vs us Q I r h
  obtain ⟨a, ts, cs, rfl, hs, hl, hr, h0, q⟩ := h
  obtain ⟨its, rv, hi, hz⟩ := I.list hs
  rw [Vals.ref1 r]
  obtain ⟨as, hR⟩ := Dp.readsAll I _ _ _ (dpa_rows ts cs hl hr) rv
  have hn : its.toArray.size = cs.length := by rw [List.size_toArray, ← rv.length, List.length_map, hl]
  have al : PySem.W.AlikeAll (cs.map dR) := by
    refine ⟨fun x mx y my => ?_, fun x mx => ?_⟩
    · obtain ⟨c, _, rfl⟩ := List.mem_map.mp mx
      obtain ⟨d, _, rfl⟩ := List.mem_map.mp my
      exact alike_ints c d
    · obtain ⟨c, _, rfl⟩ := List.mem_map.mp mx
      intro e; cases e
  refine PySem.call_max_walkH (PySem.W.iter_listW (A := X.A.in1) (I.ok.hd hc) hi.isList fun s₂ e W st hfp hw hk => ?_)
  have dp := depth_rows cs
  refine ⟨_, _, _, _, _, _, _, s.heap, _, rfl, W, st, hfp, by rw [hn]; exact h0, hw, hk, PySem.W.cmpIn_gt (A := X.A.in1) (vs := its.toArray) hR al (by show X.A.units + 1 + _ < _; omega), fun v s' hP m => ?_⟩
  obtain ⟨h', tk, rfl, hk'⟩ := PySem.W.moved_old e rfl m
  rw [hn] at hP
  obtain ⟨eb, bl⟩ := argBest_eq (f := fun i j => PySem.W.dataLt ((cs.map dR).getD j .none) ((cs.map dR).getD i .none)) (g := fun i j => rowLt (cs.getD j []) (cs.getD i [])) (cs.length - 1) fun i j hi hj => by
    have gi : ∀ i, i < cs.length → (cs.map dR).getD i .none = dR (cs.getD i []) := fun i hi => by
      rw [List.getD_eq_getElem?_getD, List.getD_eq_getElem?_getD, List.getElem?_map, List.getElem?_eq_getElem hi]; rfl
    rw [gi i (by omega), gi j (by omega), dR_lt]
  have hP' : its[argBest (fun i j => rowLt (cs.getD j []) (cs.getD i [])) (cs.length - 1)]? = some v := by
    rw [← eb]
    simpa using hP
  obtain ⟨_, mx⟩ := argBest_max cs (cs.length - 1) (by omega)
  generalize argBest (fun i j => rowLt (cs.getD j []) (cs.getD i [])) (cs.length - 1) = b at *
  obtain ⟨e1, e2⟩ := refs_back rv fun x m => by
    obtain ⟨t, _, rfl⟩ := List.mem_map.mp m
    exact ⟨t, rfl⟩
  obtain ⟨t, rfl⟩ := e2 v (List.mem_of_getElem? hP')
  have hb : b < cs.length := by omega
  have et : ts[b]? = some t := by
    have := congrArg (fun l : List V => l[b]?) e1
    simp only [List.getElem?_map, hP', Option.map_some] at this
    cases h : ts[b]? with
    | none => rw [h] at this; cases this
    | some t' => rw [h] at this; simp only [Option.map_some, Option.some.injEq] at this; cases this; rfl
  have ec : cs[b]? = some cs[b] := List.getElem?_eq_getElem hb
  have gb : cs.getD b [] = cs[b] := by rw [List.getD_eq_getElem?_getD, ec]; rfl
  refine ⟨.ref t, H, I.kept hk', rfl, q b t cs[b] et ec fun d md => ?_⟩
  obtain ⟨j, hj, ej⟩ := List.getElem_of_mem md
  have := mx j (by omega)
  rw [gb, List.getD_eq_getElem?_getD, List.getElem?_eq_getElem hj] at this
  rw [← ej]
  exact this
theorem cr_maxR {X : Cx} (hc : X.calm = true) (hu : X.A.units + 64 < cLine) : CallR X (.builtin "max") (rMaxR X.K) := fun pins s σ H vs us Q I r h => by
  obtain ⟨a, ts, cs, e, hs, hl, hr, h0, q⟩ := h
  exact cr_maxR2 hc hu pins s σ H vs us Q I r ⟨a, ts, cs, e, hs, hl, hr, h0, fun j t c et ec m => q t c (List.mem_of_getElem? ec) (hr j t c et ec) m⟩
end G
set_option Elab.async false
set_option linter.all false
set_option maxRecDepth 100000
/-! ### how often a row stands in a list of rows -/
namespace G
open PySem PySem.Spec PyProof.Rows L2
theorem plain_row (c : List Int) : (dR c).plain = true := by
  have key : ∀ c : List Int, PyData.plainAll (c.map PyData.int) = true := by
    intro c
    induction c with
    | nil => rfl
    | cons x c ih =>
      show (PyData.plain (.int x) && PyData.plainAll (c.map PyData.int)) = true
      rw [ih]; rfl
  exact key c
theorem plain_rows : ∀ cs : List (List Int), PyData.plainAll (cs.map dR) = true
  | [] => rfl
  | c :: cs => by
    show (PyData.plain (dR c) && PyData.plainAll (cs.map dR)) = true
    rw [plain_row, plain_rows cs]; rfl
theorem eqv_dR : ∀ c d : List Int, PyData.eqv (dR c) (dR d) = decide (c = d) := by
  have key : ∀ c d : List Int, PyData.eqvAll (c.map PyData.int) (d.map PyData.int) = decide (c = d) := by
    intro c
    induction c with
    | nil => intro d; cases d <;> rfl
    | cons x c ih =>
      intro d
      cases d with
      | nil => rfl
      | cons y d =>
        show (x == y && PyData.eqvAll (c.map PyData.int) (d.map PyData.int)) = _
        rw [ih, Bool.eq_iff_iff]
        simp
  intro c d
  exact key c d
def rCntR (K : PySem.W.Frag) : V → List V → Hp → VK → Prop := fun x vs H Q => ∃ (a t : Addr) (ts : List Addr) (cs : List (List Int)) (c : List Int), x = V.ref a ∧ vs = [V.ref t] ∧ SqL K H a (ts.map V.ref) ∧ ts.length = cs.length ∧ (∀ (j : Nat) (t : Addr) (c : List Int), ts[j]? = some t → cs[j]? = some c → RowAt K H t c) ∧ RowAt K H t c ∧ Q (.int (cs.count c : Nat)) H
theorem mt_countR {X : Cx} (hu : X.A.units + 64 < cLine) : MtR X "list.count" (rCntR X.K) := by
  intro pins s σ H x vs v us Q I rx r h
  obtain ⟨a, t, ts, cs, c, rfl, rfl, hs, hl, hr, hc, q⟩ := h
  cases rx
  obtain ⟨its, rv, hi, hz⟩ := I.list hs
  rw [Vals.ref1 r]
  obtain ⟨as, hR⟩ := Dp.readsAll I _ _ _ (dpa_rows ts cs hl hr) rv
  obtain ⟨bs, hB⟩ := Dp.reads I (dR c) (.ref t) (.ref t) (.tup hc (dpb_ints c)) rfl
  have dp := depth_rows cs
  refine PySem.SeqAt.count_list_data hi.isList hR hB (plain_rows cs) (plain_row c) (by have := Nat.min_le_left (PyData.depthAll (cs.map dR)) (dR c).depth; omega) ?_
  refine ⟨.int _, H, I.tok _, ⟨_, rfl⟩, ?_⟩
  have e : (cs.map dR).countP (fun y => PyData.eqv y (dR c)) = cs.count c := by
    rw [List.countP_map]
    unfold List.count
    congr 1
    funext d
    show PyData.eqv (dR d) (dR c) = (d == c)
    rw [eqv_dR, Bool.eq_iff_iff]
    simp
  rw [e]
  exact q
end G
set_option Elab.async false
set_option linter.all false
set_option maxRecDepth 100000
namespace G
open PySem PySem.Spec PyProof.Rows L2
/-! ### a def of the top, with its promise -/
structure DefOk (P : Program) (w : World) (K : PySem.W.Frag) (mg : Str → Option Value) (base : Heap) (x : Str) (k : Nat) (ps : List Str) (sp : Sp) : Prop where
  ex : ∃ (f : Addr) (fd : FuncData), FnOk P w K mg base CX0 k f fd ps sp ∧ mg x = some (.ref f) ∧ PySem.W.keepIn K (.ref f) = true ∧ Binds K fd ps []
theorem pe_callD {X : Cx} {k : Nat} {ps : List Str} {sp : Sp} {x : Str} {p pos : Pos} {e : Expr} {es : List Expr} {t : TA} (D : DefOk X.prog X.w X.K X.mg X.base x k ps sp) (hr : Room k X.A) (ha : PA X (e :: es) t) (hg : Gl X x := by rfl)
    (hdb : (x == ("__debug__" : Str)) = false := by decide) (he : starEach (e :: es) X.env = (false, eval e X.env) :: starEach es X.env := by rfl) (hpl : (backTo pos (starEach es X.env)).any (·.1) = false := by rfl) :
    PE X (.Call (.Name x p) (e :: es) [] pos) (tCall sp [] E0 t) := by
  obtain ⟨f, fd, G, m, kp, b⟩ := D.ex
  exact pe_call G hr hg m kp b .nil pass0 ha hdb he hpl
theorem pe_callD0 {X : Cx} {k : Nat} {ps : List Str} {sp : Sp} {x : Str} {p pos : Pos} (D : DefOk X.prog X.w X.K X.mg X.base x k ps sp) (hr : Room k X.A) (hg : Gl X x := by rfl)
    (hdb : (x == ("__debug__" : Str)) = false := by decide) : PE X (.Call (.Name x p) [] [] pos) (tCall sp [] E0 tNil) := by
  obtain ⟨f, fd, G, m, kp, b⟩ := D.ex
  exact pe_call0 G hr hg m kp b .nil pass0 hdb
/-- the built-ins that the text names -/
structure Bn (mg : Str → Option Value) : Prop where
  abs : mg "abs" = none
  len : mg "len" = none
  int : mg "int" = none
  list : mg "list" = none
  isinstance : mg "isinstance" = none
  bool : mg "bool" = none
  str : mg "str" = none
  tuple : mg "tuple" = none
  all : mg "all" = none
  zip : mg "zip" = none
  range : mg "range" = none
  sum : mg "sum" = none
theorem mw {i j : Int} (h1 : i.natAbs < 18446744073709551616) (h2 : j.natAbs < 18446744073709551616) : CMulW i j := wide_mul (a := 64) (b := 64) h1 h2 (by decide) (by decide) (by decide)
theorem dw {i j : Int} (h : 0 < j) (h2 : j.natAbs < 18446744073709551616) : CDivW i j := wide_div (b := 64) h h2 (by decide) (by decide)
theorem ifT {c : Bool} {A B : Prop} (hc : c = true) (h : A) : if c = true then A else B := by rw [if_pos hc]; exact h
theorem ifF {c : Bool} {A B : Prop} (hc : c = false) (h : B) : if c = true then A else B := by rw [if_neg (by rw [hc]; decide)]; exact h
theorem nx_norm {f : L2.St → Hp → Prop} {σ σ' : L2.St} {H : Hp} (e : σ = σ') (h : f σ' H) : f σ H := e ▸ h
theorem lg {n : Int} (h : n.natAbs < 18446744073709551616) : n.natAbs.log2 < 9000 := Nat.lt_of_lt_of_le (PySem.Flt.log2_lt_of (by decide) (show n.natAbs < 2 ^ 64 from h)) (by decide)
/-! ### heaps -/
theorem same_upd {H : Hp} {p : Addr} {o : HO} (h : H p = none) : Same H (upd H p o) := fun b x e => by
  rw [upd_ne (ne_of_none e h)]
  exact e
theorem seq_mk {t1 t2 : TS} {D : Ends} {σ : L2.St} {H : Hp} (h : t1 { D with nx := t2 D } σ H) : tSeq t1 t2 D σ H := h
theorem seq_cut (Mid : L2.St → Hp → Prop) {t u : TS} {D : Ends} {σ : L2.St} {H : Hp} (h2 : ∀ σ' H', Mid σ' H' → u D σ' H') (h1 : (∀ σ' H', Mid σ' H' → u D σ' H') → t { D with nx := u D } σ H) : tSeq t u D σ H := h1 h2
/-- all but p stays -/
def SameX (p : Addr) (H H' : Hp) : Prop := ∀ a o, a ≠ p → H a = some o → H' a = some o
theorem SameX.refl {p : Addr} {H : Hp} : SameX p H H := fun _ _ _ e => e
theorem SameX.trans {p : Addr} {H H' H2 : Hp} (h : SameX p H H') (h' : SameX p H' H2) : SameX p H H2 := fun a o n e => h' a o n (h a o n e)
theorem SameX.of {p : Addr} {H H' : Hp} (h : Same H H') : SameX p H H' := fun a o _ e => h a o e
theorem sameX_upd {p : Addr} {H : Hp} {o : HO} : SameX p H (upd H p o) := fun a x n e => by rw [upd_ne n]; exact e
/-- the feed that stands at p -/
def FeedAt (H : Hp) (p c : Addr) : Prop := ∃ (ms : List Int) (i : Nat) (u m : Int), H p = some (.lst [.ref c, .int i, .int u, .int m]) ∧ H c = some (.lst (ms.map V.int)) ∧ c ≠ p ∧ ms.length ≤ 63 ∧ 0 ≤ u ∧ 0 ≤ m ∧ m < 2147483647
theorem FeedAt.same {H H' : Hp} {p c : Addr} (h : FeedAt H p c) (s : Same H H') : FeedAt H' p c := by
  obtain ⟨ms, i, u, m, h1, h2, r⟩ := h
  exact ⟨ms, i, u, m, s _ _ h1, s _ _ h2, r⟩
theorem FeedAt.some {H : Hp} {p c : Addr} (h : FeedAt H p c) : ∃ o, H p = some o := by
  obtain ⟨ms, i, u, m, h1, _⟩ := h
  exact ⟨_, h1⟩
/-- another list that is written leaves the feed -/
theorem FeedAt.upd {H : Hp} {p c l : Addr} {o : HO} (h : FeedAt H p c) (h1 : l ≠ p) (h2 : l ≠ c) : FeedAt (L2.upd H l o) p c := by
  obtain ⟨ms, i, u, m, e1, e2, r⟩ := h
  exact ⟨ms, i, u, m, by rw [upd_ne h1.symm]; exact e1, by rw [upd_ne h2.symm]; exact e2, r⟩
theorem FeedAt.ne {H : Hp} {p c l : Addr} (h : FeedAt H p c) (n : H l = none) : l ≠ p ∧ l ≠ c := by
  obtain ⟨ms, i, u, m, e1, e2, r⟩ := h
  exact ⟨(ne_of_none e1 n).symm, (ne_of_none e2 n).symm⟩
/-! ### the text -/
def top (i : Nat) : Stmt := PySem.Challenge.pw_grainmeet_k17_turns_of_the_cube.main.body.getD i (.Pass ⟨0, 0, 0, 0⟩)
abbrev s_GrainError_init : Stmt := inClass (top 2) 0
theorem sc_GrainError_init : FnScope ["self", "tag", "why"] ["self", "tag", "why"] (defScope s_GrainError_init) := ⟨rfl, rfl, rfl, by decide +kernel, rfl, by decide +kernel, by decide +kernel⟩
abbrev s_InvalidFour_init : Stmt := inClass (top 3) 0
theorem sc_InvalidFour_init : FnScope ["self", "given"] ["self", "given"] (defScope s_InvalidFour_init) := ⟨rfl, rfl, rfl, by decide +kernel, rfl, by decide +kernel, by decide +kernel⟩
abbrev s_InvalidNumber_init : Stmt := inClass (top 4) 0
theorem sc_InvalidNumber_init : FnScope ["self", "given"] ["self", "given"] (defScope s_InvalidNumber_init) := ⟨rfl, rfl, rfl, by decide +kernel, rfl, by decide +kernel, by decide +kernel⟩
abbrev s_ParseError_init : Stmt := inClass (top 5) 0
theorem sc_ParseError_init : FnScope ["self", "at"] ["self", "at"] (defScope s_ParseError_init) := ⟨rfl, rfl, rfl, by decide +kernel, rfl, by decide +kernel, by decide +kernel⟩
abbrev s_is_number : Stmt := top 9
theorem sc_is_number : FnScope ["value"] ["value"] (defScope s_is_number) := ⟨rfl, rfl, rfl, by decide +kernel, rfl, by decide +kernel, by decide +kernel⟩
abbrev s_common : Stmt := top 10
theorem sc_common : FnScope ["one", "other", "greater", "lesser"] ["one", "other"] (defScope s_common) := ⟨rfl, rfl, rfl, by decide +kernel, rfl, by decide +kernel, by decide +kernel⟩
abbrev s_digits_of : Stmt := top 11
theorem sc_digits_of : FnScope ["number", "pieces", "rest", "piece"] ["number"] (defScope s_digits_of) := ⟨rfl, rfl, rfl, by decide +kernel, rfl, by decide +kernel, by decide +kernel⟩
abbrev s_are_digits : Stmt := top 12
theorem sc_are_digits : FnScope ["text"] ["text"] (defScope s_are_digits) := ⟨rfl, rfl, rfl, by decide +kernel, rfl, by decide +kernel, by decide +kernel⟩
abbrev s_number_with : Stmt := top 13
theorem sc_number_with : FnScope ["digits", "start", "number", "at"] ["digits"] (defScope s_number_with) := ⟨rfl, rfl, rfl, by decide +kernel, rfl, by decide +kernel, by decide +kernel⟩
abbrev s_Four_init : Stmt := inClass (top 16) 0
theorem sc_Four_init : FnScope ["self", "halves"] ["self", "halves"] (defScope s_Four_init) := ⟨rfl, rfl, rfl, by decide +kernel, rfl, by decide +kernel, by decide +kernel⟩
abbrev s_Four_read : Stmt := inClass (top 16) 3
theorem sc_Four_read : FnScope ["text", "halves", "four"] ["text"] (defScope s_Four_read) := ⟨rfl, rfl, rfl, by decide +kernel, rfl, by decide +kernel, by decide +kernel⟩
abbrev s_Four_halves : Stmt := inClass (top 16) 4
theorem sc_Four_halves : FnScope ["self"] ["self"] (defScope s_Four_halves) := ⟨rfl, rfl, rfl, by decide +kernel, rfl, by decide +kernel, by decide +kernel⟩
abbrev s_Four_size : Stmt := inClass (top 16) 5
theorem sc_Four_size : FnScope ["self", "a", "b", "c", "d"] ["self"] (defScope s_Four_size) := ⟨rfl, rfl, rfl, by decide +kernel, rfl, by decide +kernel, by decide +kernel⟩
abbrev s_Four_mirrored : Stmt := inClass (top 16) 6
theorem sc_Four_mirrored : FnScope ["self", "a", "b", "c", "d"] ["self"] (defScope s_Four_mirrored) := ⟨rfl, rfl, rfl, by decide +kernel, rfl, by decide +kernel, by decide +kernel⟩
abbrev s_Four_content : Stmt := inClass (top 16) 7
theorem sc_Four_content : FnScope ["self", "a", "b", "c", "d", "shared", "half"] ["self"] (defScope s_Four_content) := ⟨rfl, rfl, rfl, by decide +kernel, rfl, by decide +kernel, by decide +kernel⟩
abbrev s_Four_text : Stmt := inClass (top 16) 8
theorem sc_Four_text : FnScope ["self", "parts", "half", "letter"] ["self"] (defScope s_Four_text) := ⟨rfl, rfl, rfl, by decide +kernel, rfl, by decide +kernel, by decide +kernel⟩
abbrev s_Four_divided : Stmt := inClass (top 16) 9
theorem sc_Four_divided : FnScope ["self", "number", "a", "b", "c", "d"] ["self", "number"] (defScope s_Four_divided) := ⟨rfl, rfl, rfl, by decide +kernel, rfl, by decide +kernel, by decide +kernel⟩
abbrev s_Four_add : Stmt := inClass (top 16) 10
theorem sc_Four_add : FnScope ["self", "other", "a", "b", "c", "d", "e", "f", "g", "h"] ["self", "other"] (defScope s_Four_add) := ⟨rfl, rfl, rfl, by decide +kernel, rfl, by decide +kernel, by decide +kernel⟩
abbrev s_Four_sub : Stmt := inClass (top 16) 11
theorem sc_Four_sub : FnScope ["self", "other", "a", "b", "c", "d", "e", "f", "g", "h"] ["self", "other"] (defScope s_Four_sub) := ⟨rfl, rfl, rfl, by decide +kernel, rfl, by decide +kernel, by decide +kernel⟩
abbrev s_Four_mul : Stmt := inClass (top 16) 12
theorem sc_Four_mul : FnScope ["self", "other", "a", "b", "c", "d", "e", "f", "g", "h"] ["self", "other"] (defScope s_Four_mul) := ⟨rfl, rfl, rfl, by decide +kernel, rfl, by decide +kernel, by decide +kernel⟩
abbrev s_Four_neg : Stmt := inClass (top 16) 13
theorem sc_Four_neg : FnScope ["self", "a", "b", "c", "d"] ["self"] (defScope s_Four_neg) := ⟨rfl, rfl, rfl, by decide +kernel, rfl, by decide +kernel, by decide +kernel⟩
abbrev s_Four_bool : Stmt := inClass (top 16) 14
theorem sc_Four_bool : FnScope ["self"] ["self"] (defScope s_Four_bool) := ⟨rfl, rfl, rfl, by decide +kernel, rfl, by decide +kernel, by decide +kernel⟩
abbrev s_Four_eq : Stmt := inClass (top 16) 15
theorem sc_Four_eq : FnScope ["self", "other"] ["self", "other"] (defScope s_Four_eq) := ⟨rfl, rfl, rfl, by decide +kernel, rfl, by decide +kernel, by decide +kernel⟩
abbrev s_Four_repr : Stmt := inClass (top 16) 16
theorem sc_Four_repr : FnScope ["self"] ["self"] (defScope s_Four_repr) := ⟨rfl, rfl, rfl, by decide +kernel, rfl, by decide +kernel, by decide +kernel⟩
abbrev s_are_halves : Stmt := top 17
theorem sc_are_halves : FnScope ["values", "value"] ["values"] (defScope s_are_halves) := ⟨rfl, rfl, rfl, by decide +kernel, rfl, by decide +kernel, by decide +kernel⟩
abbrev s_part_text : Stmt := top 18
theorem sc_part_text : FnScope ["half", "letter", "sign"] ["half", "letter"] (defScope s_part_text) := ⟨rfl, rfl, rfl, by decide +kernel, rfl, by decide +kernel, by decide +kernel⟩
abbrev s_amount_text : Stmt := top 19
theorem sc_amount_text : FnScope ["half", "letter"] ["half", "letter"] (defScope s_amount_text) := ⟨rfl, rfl, rfl, by decide +kernel, rfl, by decide +kernel, by decide +kernel⟩
abbrev s_halves_told : Stmt := top 20
theorem sc_halves_told : FnScope ["text", "halves", "term", "ending"] ["text"] (defScope s_halves_told) := ⟨rfl, rfl, rfl, by decide +kernel, rfl, by decide +kernel, by decide +kernel⟩
abbrev s_terms_of : Stmt := top 21
theorem sc_terms_of : FnScope ["text", "pieces", "piece"] ["text"] (defScope s_terms_of) := ⟨rfl, rfl, rfl, by decide +kernel, rfl, by decide +kernel, by decide +kernel⟩
abbrev s_half_told : Stmt := top 22
theorem sc_half_told : FnScope ["amount", "digits", "sign", "odd"] ["amount"] (defScope s_half_told) := ⟨rfl, rfl, rfl, by decide +kernel, rfl, by decide +kernel, by decide +kernel⟩
abbrev s_dotted : Stmt := top 24
theorem sc_dotted : FnScope ["one", "other", "left", "right"] ["one", "other"] (defScope s_dotted) := ⟨rfl, rfl, rfl, by decide +kernel, rfl, by decide +kernel, by decide +kernel⟩
abbrev s_common_of : Stmt := top 25
theorem sc_common_of : FnScope ["row", "shared", "number"] ["row"] (defScope s_common_of) := ⟨rfl, rfl, rfl, by decide +kernel, rfl, by decide +kernel, by decide +kernel⟩
abbrev s_Turn_init : Stmt := inClass (top 28) 0
theorem sc_Turn_init : FnScope ["self", "four"] ["self", "four"] (defScope s_Turn_init) := ⟨rfl, rfl, rfl, by decide +kernel, rfl, by decide +kernel, by decide +kernel⟩
abbrev s_Turn_cube : Stmt := inClass (top 28) 2
theorem sc_Turn_cube : FnScope ["halves"] [] (defScope s_Turn_cube) := ⟨rfl, rfl, rfl, by decide +kernel, rfl, by decide +kernel, by decide +kernel⟩
abbrev s_Turn_read : Stmt := inClass (top 28) 3
theorem sc_Turn_read : FnScope ["text"] ["text"] (defScope s_Turn_read) := ⟨rfl, rfl, rfl, by decide +kernel, rfl, by decide +kernel, by decide +kernel⟩
abbrev s_Turn_four : Stmt := inClass (top 28) 4
theorem sc_Turn_four : FnScope ["self"] ["self"] (defScope s_Turn_four) := ⟨rfl, rfl, rfl, by decide +kernel, rfl, by decide +kernel, by decide +kernel⟩
abbrev s_Turn_spread : Stmt := inClass (top 28) 5
theorem sc_Turn_spread : FnScope ["self", "size"] ["self"] (defScope s_Turn_spread) := ⟨rfl, rfl, rfl, by decide +kernel, rfl, by decide +kernel, by decide +kernel⟩
abbrev s_Turn_rows : Stmt := inClass (top 28) 6
theorem sc_Turn_rows : FnScope ["self", "a", "b", "c", "d", "scale", "table", "x", "y", "z"] ["self"] (defScope s_Turn_rows) := ⟨rfl, rfl, rfl, by decide +kernel, rfl, by decide +kernel, by decide +kernel⟩
abbrev s_Turn_image : Stmt := inClass (top 28) 7
theorem sc_Turn_image : FnScope ["self", "point", "spread", "x", "y", "z", "shared", "row"] ["self", "point"] (defScope s_Turn_image) := ⟨rfl, rfl, rfl, by decide +kernel, rfl, by decide +kernel, by decide +kernel⟩
abbrev s_Turn_call : Stmt := inClass (top 28) 9
theorem sc_Turn_call : FnScope ["self", "point"] ["self", "point"] (defScope s_Turn_call) := ⟨rfl, rfl, rfl, by decide +kernel, rfl, by decide +kernel, by decide +kernel⟩
abbrev s_Turn_mul : Stmt := inClass (top 28) 10
theorem sc_Turn_mul : FnScope ["self", "other"] ["self", "other"] (defScope s_Turn_mul) := ⟨rfl, rfl, rfl, by decide +kernel, rfl, by decide +kernel, by decide +kernel⟩
abbrev s_Turn_neg : Stmt := inClass (top 28) 11
theorem sc_Turn_neg : FnScope ["self"] ["self"] (defScope s_Turn_neg) := ⟨rfl, rfl, rfl, by decide +kernel, rfl, by decide +kernel, by decide +kernel⟩
abbrev s_Turn_eq : Stmt := inClass (top 28) 12
theorem sc_Turn_eq : FnScope ["self", "other"] ["self", "other"] (defScope s_Turn_eq) := ⟨rfl, rfl, rfl, by decide +kernel, rfl, by decide +kernel, by decide +kernel⟩
abbrev s_Turn_repr : Stmt := inClass (top 28) 13
theorem sc_Turn_repr : FnScope ["self"] ["self"] (defScope s_Turn_repr) := ⟨rfl, rfl, rfl, by decide +kernel, rfl, by decide +kernel, by decide +kernel⟩
abbrev s_turn_with : Stmt := top 29
theorem sc_turn_with : FnScope ["halves"] ["halves"] (defScope s_turn_with) := ⟨rfl, rfl, rfl, by decide +kernel, rfl, by decide +kernel, by decide +kernel⟩
abbrev s_lead_of : Stmt := top 30
theorem sc_lead_of : FnScope ["four", "lead"] ["four"] (defScope s_lead_of) := ⟨rfl, rfl, rfl, by decide +kernel, rfl, by decide +kernel, by decide +kernel⟩
abbrev s_L_feed : Stmt := top 32
theorem sc_L_feed : FnScope ["_law_script", "_law_cells", "_law_mark", "_law_cell"] ["_law_script"] (defScope s_L_feed) := ⟨rfl, rfl, rfl, by decide +kernel, rfl, by decide +kernel, by decide +kernel⟩
abbrev s_L_take : Stmt := top 33
theorem sc_L_take : FnScope ["_law_feed_here", "_law_many", "_law_cell", "_law_mixed", "_law_found"] ["_law_feed_here", "_law_many"] (defScope s_L_take) := ⟨rfl, rfl, rfl, by decide +kernel, rfl, by decide +kernel, by decide +kernel⟩
abbrev s_L_same : Stmt := top 34
theorem sc_L_same : FnScope ["_law_found", "_law_due", "_law_one", "_law_other"] ["_law_found", "_law_due"] (defScope s_L_same) := ⟨rfl, rfl, rfl, by decide +kernel, rfl, by decide +kernel, by decide +kernel⟩
abbrev s_L_halves : Stmt := top 35
theorem sc_L_halves : FnScope ["_law_feed_here", "_law_most", "_law_odd", "_law_row", "_law_k"] ["_law_feed_here", "_law_most"] (defScope s_L_halves) := ⟨rfl, rfl, rfl, by decide +kernel, rfl, by decide +kernel, by decide +kernel⟩
abbrev s_L_gcd : Stmt := top 36
theorem sc_L_gcd : FnScope ["_law_one", "_law_other"] ["_law_one", "_law_other"] (defScope s_L_gcd) := ⟨rfl, rfl, rfl, by decide +kernel, rfl, by decide +kernel, by decide +kernel⟩
abbrev s_L_gcd_of : Stmt := top 37
theorem sc_L_gcd_of : FnScope ["_law_row", "_law_found", "_law_one"] ["_law_row"] (defScope s_L_gcd_of) := ⟨rfl, rfl, rfl, by decide +kernel, rfl, by decide +kernel, by decide +kernel⟩
abbrev s_L_content : Stmt := top 38
theorem sc_L_content : FnScope ["_law_halves_here", "_law_both", "_law_odd", "_law_one"] ["_law_halves_here"] (defScope s_L_content) := ⟨rfl, rfl, rfl, by decide +kernel, rfl, by decide +kernel, by decide +kernel⟩
abbrev s_L_lowest : Stmt := top 39
theorem sc_L_lowest : FnScope ["_law_halves_here", "_law_both", "_law_row", "_law_first", "_law_one"] ["_law_halves_here"] (defScope s_L_lowest) := ⟨rfl, rfl, rfl, by decide +kernel, rfl, by decide +kernel, by decide +kernel⟩
abbrev s_L_table : Stmt := top 40
theorem sc_L_table : FnScope ["_law_halves_here", "_law_a", "_law_b", "_law_c", "_law_d", "_law_rows", "_law_under", "_law_both", "_law_row", "_law_one"] ["_law_halves_here"] (defScope s_L_table) := ⟨rfl, rfl, rfl, by decide +kernel, rfl, by decide +kernel, by decide +kernel⟩
abbrev s_law : Stmt := top 41
theorem sc_law : FnScope ["_law_script", "_law_feed_here", "_law_found", "_law_rows", "_law_at", "_law_other", "_law_halves_here", "_law_one"] ["_law_script"] (defScope s_law) := ⟨rfl, rfl, rfl, by decide +kernel, rfl, by decide +kernel, by decide +kernel⟩
end G
set_option Elab.async false
set_option linter.all false
set_option maxRecDepth 100000
namespace G
open PySem PySem.Spec PyProof.Rows L2
/-! ### the feed -/
def spFeed (K : PySem.W.Frag) : Sp := fun vs H Q _ => ∃ (a : Addr) (ns : List Int), vs = [.ref a] ∧ SqL K H a (ns.map V.int) ∧ ∀ H' p c, Same H H' → H p = none → FeedAt H' p c → Q (.ref p) H'
def spTake : Sp := fun vs H Q _ => ∃ (p c : Addr) (n : Int), vs = [.ref p, .int n] ∧ 0 < n ∧ n.natAbs.log2 < 9000 ∧ FeedAt H p c ∧ ∀ (H' : Hp) (r : Int), 0 ≤ r → r < n → FeedAt H' p c → SameX p H H' → Q (.int r) H'
theorem em' (a b : Int) (h : 0 < b) : 0 ≤ a % b ∧ a % b < b := ⟨Int.emod_nonneg _ (by omega), Int.emod_lt_of_pos _ h⟩
theorem cut63 (xs : List V) : cutV xs none (some 63) = xs.take 63 := by
  unfold cutV
  rw [show HT.sIx xs.length xs.length (some 63) = min 63 xs.length from HT.sIx_nat xs.length xs.length 63, HT.sIx_none]
  show (List.take (min 63 xs.length - 0) xs) = xs.take 63
  rw [Nat.sub_zero, ← List.take_take, List.take_length]
section
variable {P : Program} {w : World} {K : PySem.W.Frag} {mg : Str → Option Value} {base : Heap}
theorem ok_feed {f : Addr} {fd : FuncData} {k : Nat} (F : Fun K "_law_feed" "_law_feed" s_L_feed f fd) (B : Bn mg) : FnOk P w K mg base CX0 (k + 1) f fd ["_law_script"] (spFeed K) := by
  refine F.ok sc_L_feed (fun vs H Q E h => ?_) (fun cdv A outer s H vs Q E hr h => ?_)
  · obtain ⟨a, ns, rfl, _⟩ := h
    rfl
  · obtain ⟨a, ns, rfl, hS, q⟩ := h
    refine ⟨_, (pss_cons (ps_set (i := 1) sc_L_feed.nd rfl (Or.inl rfl) (pe_callTy call_list_of (by rfl) B.list (by decide +kernel) (pa_cons (pe_slice sl_list (pv 0) po_none (po_some pe_int)) pa_nil)))
      (pss_cons (ps_set (i := 2) sc_L_feed.nd rfl (Or.inl rfl) (pe_op op_add pe_int (pe_op op_mulW pe_int (pe_callB call_len_seq (by rfl) B.len PySem.boot_len (pa_cons (pv 1) pa_nil)))))
      (pss_cons (ps_for PassesOwn.never rfl (pi_list (pv 1)) (pg_name (i := 3) sc_L_feed.nd rfl (Or.inl rfl)) (pss_one (ps_set (i := 2) sc_L_feed.nd rfl (Or.inl rfl) (pe_op op_mod (pe_op op_add (pe_op op_add (pe_op op_mulW (pv 2) pe_int) (pe_op op_mod (pe_callTy call_int1 (by rfl) B.int (by decide +kernel) (pa_cons (pv 3) pa_nil)) pe_int)) pe_int) pe_int))))
      (pss_one (ps_ret (pe_lst (pa_cons (pv 1) (pa_cons pe_int (pa_cons pe_int (pa_cons (pv 2) pa_nil)))))))))), ?_⟩
    refine ⟨_, rfl, _, rfl, a, _, rfl, hS, fun c1 n1 => ?_⟩
    refine ⟨c1, _, rfl, .inl (SqL.of upd_same), fun c nc => ?_⟩
    refine ⟨_, rfl, c, _, rfl, .inl (SqL.of upd_same), _, _, rfl, rfl, mw (by decide) ?_, _, _, rfl, rfl, ?_⟩
    · show (((cutV (ns.map V.int) none (some 63)).length : Nat) : Int).natAbs < _
      rw [cut63, List.length_take]
      omega
    · obtain ⟨ms, ecut, l63⟩ : ∃ ms : List Int, cutV (ns.map V.int) none (some 63) = ms.map V.int ∧ ms.length ≤ 63 := ⟨ns.take 63, by rw [cut63, List.map_take], by rw [List.length_take]; omega⟩
      rw [ecut] at nc ⊢
      have s1 : Same H (upd H c1 (.lst (ms.map V.int))) := same_upd n1
      have s2 := s1.trans (same_upd (o := .lst (ms.map V.int)) nc)
      have nH : H c = none := s1.free nc
      refine ⟨_, rfl, c, rfl, ⟨_, SqL.of upd_same⟩, for_list (K := K) (a := c) (xs := ms.map V.int) (fun i σ H' => ∃ (m : Int) (v : Option V), σ = [some (.ref a), some (.ref c), some (.int m), v] ∧ H' = upd (upd H c1 (.lst (ms.map V.int))) c (.lst (ms.map V.int)) ∧ 0 ≤ m ∧ m < 2147483647)
        ⟨_, none, rfl, rfl, ?_, ?_⟩ ?_ ?_ ?_⟩
      · omega
      · rw [List.length_map]; omega
      · rintro i σ H' _ ⟨m, v, rfl, rfl, _⟩
        exact SqL.of upd_same
      · rintro i y σ H' hi ⟨m, v, rfl, rfl, m0, m1⟩
        obtain ⟨u, rfl⟩ : ∃ u, y = V.int u := by
          rw [List.getElem?_map] at hi
          cases e : ms[i]? with
          | none => rw [e] at hi; cases hi
          | some u => rw [e] at hi; exact ⟨u, (Option.some.inj hi).symm⟩
        refine ⟨_, rfl, _, _, rfl, rfl, mw (by omega) (by decide), _, rfl, .inl ⟨_, rfl, _, _, rfl, rfl, (by show (0 : Int) < 1000003; decide), _, _, rfl, rfl, _, _, rfl, rfl, _, _, rfl, rfl, (by show (0 : Int) < 2147483629; decide), ?_⟩⟩
        refine ⟨_, _, rfl, rfl, ?_, ?_⟩ <;> omega
      · rintro σ H' ⟨m, v, rfl, rfl, m0, m1⟩
        refine ⟨_, rfl, _, rfl, (by show 4 ≤ sizeLine; decide), fun p np => ?_⟩
        have npc : c ≠ p := fun e => by rw [← e, upd_same] at np; cases np
        refine q _ p c (s2.trans (same_upd np)) (s2.free np) ⟨ms, 0, 0, m, upd_same, ?_, npc, l63, by omega, m0, m1⟩
        rw [upd_ne npc, upd_same]
theorem ok_take {f : Addr} {fd : FuncData} {k : Nat} (F : Fun K "_law_take" "_law_take" s_L_take f fd) (B : Bn mg) : FnOk P w K mg base CX0 (k + 1) f fd ["_law_feed_here", "_law_many"] spTake := by
  refine F.ok sc_L_take (fun vs H Q E h => ?_) (fun cdv A outer s H vs Q E hr h => ?_)
  · obtain ⟨p, c, n, rfl, _⟩ := h
    rfl
  · obtain ⟨p, c, n, rfl, n0, n1, hF, q⟩ := h
    refine ⟨_, (pss_cons (ps_if (PW.pt (pw_and (pt_cmpR op_eq (pe_ix ix_list (pv 0) pe_int (fun _ _ => rfl)) pe_int (nomark _)) (pw_and1 (pt_cmpR op_lt (pe_ix ix_list (pv 0) pe_int (fun _ _ => rfl)) (pe_callB call_len_seq (by rfl) B.len PySem.boot_len (pa_cons (pe_ix ix_list (pv 0) pe_int (fun _ _ => rfl)) pa_nil)) (nomark _))))) (pss_cons (ps_set (i := 2) sc_L_take.nd rfl (Or.inl rfl) (pe_ix ix_list (pe_ix ix_list (pv 0) pe_int (fun _ _ => rfl)) (pe_ix ix_list (pv 0) pe_int (fun _ _ => rfl)) (fun _ _ => rfl)))
      (pss_cons (ps_asg (pe_op op_add (pe_ix ix_list (pv 0) pe_int (fun _ _ => rfl)) pe_int) (pg_sub (pv 0) pe_int set_list))
      (pss_one (ps_if (pt_cmpR op_ge (pv 2) (pe_op op_pow pe_int pe_int) (nomark _)) (pss_one (ps_asg (pv 2) (pg_sub (pv 0) pe_int set_list))) (pss_cons (ps_set (i := 3) sc_L_take.nd rfl (Or.inl rfl) (pe_op op_add (pe_op op_mulW (pe_ix ix_list (pv 0) pe_int (fun _ _ => rfl)) pe_int) (pe_op op_mod (pe_callTy call_int1 (by rfl) B.int (by decide +kernel) (pa_cons (pv 2) pa_nil)) pe_int)))
      (pss_one (ps_asg (pe_op op_mod (pe_op op_add (pv 3) (pe_op op_mulW (pe_ix ix_list (pv 0) pe_int (fun _ _ => rfl)) pe_int)) pe_int) (pg_sub (pv 0) pe_int set_list)))))))) pss_nil)
      (pss_cons (ps_if (pt_cmpR op_gt (pe_ix ix_list (pv 0) pe_int (fun _ _ => rfl)) pe_int (nomark _)) (pss_cons (ps_set (i := 4) sc_L_take.nd rfl (Or.inl rfl) (pe_op op_mod (pe_callTy call_int1 (by rfl) B.int (by decide +kernel) (pa_cons (pe_ix ix_list (pv 0) pe_int (fun _ _ => rfl)) pa_nil)) (pv 1)))
      (pss_cons (ps_asg (pe_op op_fdivW (pe_ix ix_list (pv 0) pe_int (fun _ _ => rfl)) (pv 1)) (pg_sub (pv 0) pe_int set_list))
      (pss_one (ps_ret (pv 4))))) pss_nil)
      (pss_cons (ps_asg (pe_op op_mod (pe_op op_add (pe_op op_mulW (pe_ix ix_list (pv 0) pe_int (fun _ _ => rfl)) pe_int) pe_int) pe_int) (pg_sub (pv 0) pe_int set_list))
      (pss_one (ps_ret (pe_op op_mod (pe_op op_fdivW (pe_op op_mod (pe_op op_mulW (pe_ix ix_list (pv 0) pe_int (fun _ _ => rfl)) (pe_callTy call_int1 (by rfl) B.int (by decide +kernel) (pa_cons (pe_ix ix_list (pv 0) pe_int (fun _ _ => rfl)) pa_nil))) pe_int) pe_int) (pv 1))))))), ?_⟩
    have hF0 := hF
    obtain ⟨ms, i, u, m, hp, hc, ncp, l63, u0, m0, m1⟩ := hF
    refine seq_cut (fun σ H' => ∃ (x2 x3 x4 : Option V) (i : Nat) (u m : Int), σ = [some (.ref p), some (.int n), x2, x3, x4] ∧ H' p = some (.lst [.ref c, .int i, .int u, .int m]) ∧ SameX p H H' ∧ 0 ≤ u ∧ 0 ≤ m ∧ m < 2147483647) ?_ ?_
    · rintro σ' H' ⟨x2, x3, x4, i, u, m, rfl, hp, sm, u0, m0, m1⟩
      have hc' := sm _ _ ncp hc
      have em := em'
      refine ⟨_, rfl, p, _, _, _, rfl, rfl, SqL.of hp, rfl, _, _, rfl, rfl, _, rfl, ?_⟩
      refine ite2 (fun h => ?_) (fun h => ?_)
      · have hu : 0 < u := by simpa using h
        refine ⟨_, rfl, p, _, _, _, rfl, rfl, SqL.of hp, rfl, .inl ⟨_, rfl, _, rfl, _, _, rfl, rfl, n0, ?_⟩⟩
        refine ⟨_, rfl, p, _, _, _, rfl, rfl, SqL.of hp, rfl, _, rfl, _, _, rfl, rfl, ⟨n0, n1⟩, _, rfl, p, _, _, 2, rfl, rfl, hp, rfl, ?_⟩
        refine ⟨_, rfl, q _ _ (em u n n0).1 (em u n n0).2 ⟨ms, i, u / n, m, upd_same, ?_, ncp, l63, Int.ediv_nonneg u0 (by omega), m0, m1⟩ (sm.trans sameX_upd)⟩
        rw [upd_ne ncp]
        exact hc'
      · refine ⟨_, rfl, p, _, _, _, rfl, rfl, SqL.of hp, rfl, _, _, rfl, rfl, mw (by omega) (by decide), _, _, rfl, rfl, _, _, rfl, rfl, (by show (0 : Int) < 2147483647; decide), _, rfl, p, _, _, 3, rfl, rfl, hp, rfl, ?_⟩
        have e3 := em (m * 69621 + 13) 2147483647 (by decide)
        refine ⟨_, rfl, p, _, _, _, rfl, rfl, SqL.of upd_same, rfl, _, rfl, p, _, _, _, rfl, rfl, SqL.of upd_same, rfl, .inl ⟨_, rfl, _, _, rfl, rfl, mw (by omega) (by omega), _, _, rfl, rfl, (by show (0 : Int) < 998244353; decide), _, _, rfl, rfl, dw (by decide) (by decide), _, rfl, _, _, rfl, rfl, n0, ?_⟩⟩
        refine q _ _ (em _ n n0).1 (em _ n n0).2 ⟨ms, i, u, _, upd_same, ?_, ncp, l63, u0, e3.1, e3.2⟩ (sm.trans sameX_upd)
        rw [upd_ne ncp]
        exact hc'
    · intro cont
      refine ⟨_, rfl, p, _, _, _, rfl, rfl, SqL.of hp, rfl, rfl, _, rfl, ?_⟩
      refine ite2 (fun h => ?_) (fun h => ?_)
      · refine ⟨_, rfl, p, _, _, _, rfl, rfl, SqL.of hp, rfl, _, rfl, p, _, _, _, rfl, rfl, SqL.of hp, rfl, c, _, rfl, .inl (SqL.of hc), _, _, rfl, rfl, _, rfl, ?_⟩
        refine ite2 (fun h2 => ?_) (fun h2 => ?_)
        · have hi : i < ms.length := by simpa using h2
          have hcell : (ms.map V.int)[i]? = some (.int ms[i]) := by rw [List.getElem?_map, List.getElem?_eq_getElem hi]; rfl
          generalize ms[i] = x at *
          refine ⟨_, rfl, p, _, _, _, rfl, rfl, SqL.of hp, rfl, _, rfl, p, _, _, _, rfl, rfl, SqL.of hp, rfl, c, _, _, _, rfl, rfl, SqL.of hc, atI_nat hcell, ?_⟩
          refine ⟨_, rfl, p, _, _, _, rfl, rfl, SqL.of hp, rfl, _, _, rfl, rfl, _, rfl, p, _, _, 1, rfl, rfl, hp, rfl, ?_⟩
          refine ⟨_, rfl, _, _, rfl, rfl, ⟨by decide, by decide, by decide⟩, _, _, rfl, rfl, _, rfl, ?_⟩
          refine ite2 (fun h3 => ?_) (fun h3 => ?_)
          · have hx : 10 ^ 18 ≤ x := by simpa using h3
            refine ⟨_, rfl, _, rfl, p, _, _, 2, rfl, rfl, upd_same, rfl, ?_⟩
            exact cont _ _ ⟨_, _, _, i + 1, x, m, rfl, upd_same, sameX_upd.trans sameX_upd, by omega, m0, m1⟩
          · refine ⟨_, rfl, p, _, _, _, rfl, rfl, SqL.of upd_same, rfl, _, _, rfl, rfl, mw (by omega) (by decide), _, rfl, .inl ⟨_, rfl, _, _, rfl, rfl, (by show (0 : Int) < 2147483563; decide), _, _, rfl, rfl, ?_⟩⟩
            refine ⟨_, rfl, _, rfl, p, _, _, _, rfl, rfl, SqL.of upd_same, rfl, _, _, rfl, rfl, mw (by show ((i : Int) + 1).natAbs < _; omega) (by decide), _, _, rfl, rfl, _, _, rfl, rfl, (by show (0 : Int) < 2147483647; decide), _, rfl, p, _, _, 3, rfl, rfl, upd_same, rfl, ?_⟩
            have e3 := fun a => em' a 2147483647 (by decide)
            exact cont _ _ ⟨_, _, _, i + 1, u, _, rfl, upd_same, sameX_upd.trans sameX_upd, u0, (e3 _).1, (e3 _).2⟩
        · exact cont _ _ ⟨_, _, _, i, u, m, rfl, hp, .refl, u0, m0, m1⟩
      · exact cont _ _ ⟨_, _, _, i, u, m, rfl, hp, .refl, u0, m0, m1⟩
end
end G
set_option Elab.async false
set_option linter.all false
set_option maxRecDepth 100000
namespace G
open PySem PySem.Spec PyProof.Rows L2 RZ
/-! ### the comparison of data -/
theorem _root_.L2.Same.tup {K : PySem.W.Frag} {H H' : Hp} {a : Addr} {xs : List V} (e : Same H H') (h : SqT K H a xs) : SqT K H' a xs := by
  rcases h with (h | ⟨o, h⟩) | h
  · exact .inl (.inl (e _ _ h))
  · exact .inl (.inr ⟨o, e _ _ h⟩)
  · exact .inr h
def flat : V → Bool
  | .non => true
  | .bl _ => true
  | .int _ => true
  | .str _ => true
  | _ => false
def EqV (K : PySem.W.Frag) (H : Hp) : Nat → V → V → Prop
  | 0, _, _ => False
  | n + 1, x, y => (flat x = true ∧ x = y) ∨ ∃ (a b : Addr) (xs ys : List V), x = .ref a ∧ y = .ref b ∧ ((H a = some (.lst xs) ∧ H b = some (.lst ys)) ∨ (SqT K H a xs ∧ SqT K H b ys)) ∧ xs.length = ys.length ∧ xs.length ≤ 1000 ∧ ∀ (i : Nat) (x y : V), xs[i]? = some x → ys[i]? = some y → EqV K H n x y
theorem EqV.same {K : PySem.W.Frag} {H H' : Hp} (e : Same H H') : ∀ (n : Nat) {x y : V}, EqV K H n x y → EqV K H' n x y
  | 0, _, _, h => h
  | n + 1, x, y, h => by
    rcases h with h | ⟨a, b, xs, ys, rfl, rfl, h1, h2, hk, h3⟩
    · exact .inl h
    · refine .inr ⟨a, b, xs, ys, rfl, rfl, ?_, h2, hk, fun i x y h4 h5 => EqV.same e n (h3 i x y h4 h5)⟩
      rcases h1 with ⟨p, q⟩ | ⟨p, q⟩
      · exact .inl ⟨e _ _ p, e _ _ q⟩
      · exact .inr ⟨e.tup p, e.tup q⟩
theorem ty_tup {K : PySem.W.Frag} {H : Hp} {a : Addr} {xs : List V} (h : SqT K H a xs) : TyX K H (.ref a) (.type "tuple") := by
  rcases h with (h | ⟨o, h⟩) | ⟨o, its, n, h, c, _⟩
  · exact .base (.tup h)
  · exact .fTuple h
  · exact .kTuple h c
theorem zip_turns {J : It} {xs ys : List V} {H0 : Hp} {Qd : Hp → Prop} {Bd : (Hp → Prop) → V → Hp → Prop} (hl : xs.length = ys.length) (Sq : Hp → Prop)
    (hgo : ∀ i x y H, Sq H → xs[i]? = some x → ys[i]? = some y → J.go i H) (hst : ∀ H, Sq H → J.stop xs.length H) (hyl : ∀ i v H H', Sq H → J.yld i H v H' → ∃ T x y, v = .ref T ∧ H T = none ∧ H' = upd H T (.tup [x, y]) ∧ xs[i]? = some x ∧ ys[i]? = some y)
    (Pv : Nat → Hp → Prop) (h0 : Pv 0 H0) (hq : ∀ i H, Pv i H → Sq H)
    (hs : ∀ (i : Nat) (x y : V) (T : Addr) (H : Hp), xs[i]? = some x → ys[i]? = some y → Pv i H → H T = none → Bd (Pv (i + 1)) (.ref T) (upd H T (.tup [x, y]))) (hd : ∀ H, Pv xs.length H → Qd H) :
    ∃ W : Nat → Nat → Hp → Prop, (∃ m, W 0 m H0) ∧ ∀ i m H, W i m H → (J.stop i H ∧ Qd H) ∨ (J.go i H ∧ ∃ Nx : Hp → Prop, (∀ H', Nx H' → ∃ m', m' < m ∧ W (i + 1) m' H') ∧ ∀ x H', J.yld i H x H' → Bd Nx x H') := by
  refine ⟨fun i m H => m = xs.length - i ∧ i ≤ xs.length ∧ Pv i H, ⟨xs.length, rfl, Nat.zero_le _, h0⟩, ?_⟩
  rintro i m H ⟨rfl, hi, p⟩
  have q := hq i H p
  by_cases hlt : i < xs.length
  · have hx : xs[i]? = some xs[i] := List.getElem?_eq_getElem hlt
    have hlt2 : i < ys.length := by omega
    have hy : ys[i]? = some ys[i] := List.getElem?_eq_getElem hlt2
    refine .inr ⟨hgo i _ _ H q hx hy, Pv (i + 1), fun H' p' => ⟨xs.length - (i + 1), by omega, rfl, hlt, p'⟩, fun v H' y => ?_⟩
    obtain ⟨T, x', y', rfl, hT, rfl, f1, f2⟩ := hyl i v H H' q y
    exact hs i x' y' T H f1 f2 p hT
  · have e : i = xs.length := by omega
    subst e
    exact .inl ⟨hst H q, hd H p⟩
def spSame (K : PySem.W.Frag) (n : Nat) : Sp := fun vs H Q _ => ∃ x y : V, vs = [x, y] ∧ EqV K H n x y ∧ ∀ H', Same H H' → Q (.bl true) H'
theorem kit {K : PySem.W.Frag} {a b : String} {r : Bool} (h : kitB a b = some r) : PySem.W.kitOne K (.type a) (.type b) = some r := kit_ty h
section
variable {P : Program} {w : World} {K : PySem.W.Frag} {mg : Str → Option Value} {base : Heap}
theorem ok_same {f : Addr} {fd : FuncData} (F : Fun K "_law_same" "_law_same" s_L_same f fd) (B : Bn mg) (mgS : mg "_law_same" = some (.ref f)) (bS : Binds K fd ["_law_found", "_law_due"] []) : ∀ n : Nat, FnOk P w K mg base CX0 (n + 1) f fd ["_law_found", "_law_due"] (spSame K n)
  | 0 => F.ok sc_L_same (fun vs H Q E h => by obtain ⟨x, y, _, h, _⟩ := h; exact h.elim) (fun cdv A outer s H vs Q E hr h => by obtain ⟨x, y, _, h, _⟩ := h; exact h.elim)
  | n + 1 => by
    have D_same : DefOk P w K mg base "_law_same" (n + 1) ["_law_found", "_law_due"] (spSame K n) := ⟨f, fd, ok_same F B mgS bS n, mgS, F.kp, bS⟩
    refine F.ok sc_L_same (fun vs H Q E h => ?_) (fun cdv A outer s H vs Q E hr h => ?_)
    · obtain ⟨x, y, rfl, _⟩ := h
      rfl
    · obtain ⟨x, y, rfl, h, q⟩ := h
      refine ⟨_, (pss_cons (ps_if (pt_cmpR op_isN (pv 1) pe_non (nomark _)) (pss_one (ps_ret (pe_cmpR op_isN (pv 0) pe_non (nomark _)))) pss_nil)
      (pss_cons (ps_if (PW.pt (pw_or (pt_val (pe_callB call_isi (by rfl) B.isinstance (by decide +kernel) (pa_cons (pv 1) (pa_cons (pe_bltn (v := .ty "bool") (u := .type "bool") (by rfl) B.bool (by decide +kernel) rfl) pa_nil)))) (pw_or1 (pt_val (pe_callB call_isi (by rfl) B.isinstance (by decide +kernel) (pa_cons (pv 0) (pa_cons (pe_bltn (v := .ty "bool") (u := .type "bool") (by rfl) B.bool (by decide +kernel) rfl) pa_nil))))))) (pss_one (ps_ret (pe_and (pe_callB call_isi (by rfl) B.isinstance (by decide +kernel) (pa_cons (pv 1) (pa_cons (pe_bltn (v := .ty "bool") (u := .type "bool") (by rfl) B.bool (by decide +kernel) rfl) pa_nil))) (pe_and (pe_callB call_isi (by rfl) B.isinstance (by decide +kernel) (pa_cons (pv 0) (pa_cons (pe_bltn (v := .ty "bool") (u := .type "bool") (by rfl) B.bool (by decide +kernel) rfl) pa_nil))) (pe_one (pe_cmpR op_eq (pv 0) (pv 1) (nomark _))))))) pss_nil)
      (pss_cons (ps_if (pt_val (pe_callB call_isiT (by rfl) B.isinstance (by decide +kernel) (pa_cons (pv 1) (pa_cons (pe_tup (pa_cons (pe_bltn (v := .ty "int") (u := .type "int") (by rfl) B.int (by decide +kernel) rfl) (pa_cons (pe_bltn (v := .ty "str") (u := .type "str") (by rfl) B.str (by decide +kernel) rfl) pa_nil))) pa_nil)))) (pss_one (ps_ret (pe_and (pe_callB call_isiT (by rfl) B.isinstance (by decide +kernel) (pa_cons (pv 0) (pa_cons (pe_tup (pa_cons (pe_bltn (v := .ty "int") (u := .type "int") (by rfl) B.int (by decide +kernel) rfl) (pa_cons (pe_bltn (v := .ty "str") (u := .type "str") (by rfl) B.str (by decide +kernel) rfl) pa_nil))) pa_nil))) (pe_and (pe_cmpR op_eq (pe_callB call_isi (by rfl) B.isinstance (by decide +kernel) (pa_cons (pv 0) (pa_cons (pe_bltn (v := .ty "int") (u := .type "int") (by rfl) B.int (by decide +kernel) rfl) pa_nil))) (pe_callB call_isi (by rfl) B.isinstance (by decide +kernel) (pa_cons (pv 1) (pa_cons (pe_bltn (v := .ty "int") (u := .type "int") (by rfl) B.int (by decide +kernel) rfl) pa_nil))) (nomark _)) (pe_one (pe_cmpR op_eq (pv 0) (pv 1) (nomark _))))))) pss_nil)
      (pss_cons (ps_if (PW.pt (pw_or (pt_cmpR op_ne (pe_callB call_isi (by rfl) B.isinstance (by decide +kernel) (pa_cons (pv 1) (pa_cons (pe_bltn (v := .ty "tuple") (u := .type "tuple") (by rfl) B.tuple (by decide +kernel) rfl) pa_nil))) (pe_callB call_isi (by rfl) B.isinstance (by decide +kernel) (pa_cons (pv 0) (pa_cons (pe_bltn (v := .ty "tuple") (u := .type "tuple") (by rfl) B.tuple (by decide +kernel) rfl) pa_nil))) (nomark _)) (pw_or1 (pt_cmpR op_ne (pe_callB call_isi (by rfl) B.isinstance (by decide +kernel) (pa_cons (pv 1) (pa_cons (pe_bltn (v := .ty "list") (u := .type "list") (by rfl) B.list (by decide +kernel) rfl) pa_nil))) (pe_callB call_isi (by rfl) B.isinstance (by decide +kernel) (pa_cons (pv 0) (pa_cons (pe_bltn (v := .ty "list") (u := .type "list") (by rfl) B.list (by decide +kernel) rfl) pa_nil))) (nomark _))))) (pss_one (ps_ret pe_bl)) pss_nil)
      (pss_one (ps_ret (pe_and (pe_cmpR op_eq (pe_callB call_len_seq (by rfl) B.len PySem.boot_len (pa_cons (pv 0) pa_nil)) (pe_callB call_len_seq (by rfl) B.len PySem.boot_len (pa_cons (pv 1) pa_nil)) (nomark _)) (pe_one (pe_callB (cr_all rfl) (by rfl) B.all (by decide +kernel) (pa_cons (pe_lc (own := [("_law_one", 2), ("_law_other", 3)]) (g := gTup K 2 (gCons (gName 2) (gCons (gName 3) gNil))) (tt := tYes) (by rfl) sc_L_same.nd (pi_zipA (by rfl) B.zip (pa_cons (pv 0) (pa_cons (pv 1) pa_nil))) (blkOk_by (own := [("_law_one", 2), ("_law_other", 3)]) (N := ["_law_found", "_law_due", "_law_one", "_law_other"]) (sc := (defScope s_L_same)) (by decide +kernel)) (fun _ _ _ _ _ => pg_tup (by rfl) (pgs_cons (pg_name (i := 2) sc_L_same.nd rfl (Or.inl rfl)) (pgs_cons (pg_name (i := 3) sc_L_same.nd rfl (Or.inl rfl)) pgs_nil))) (fun _ _ _ _ _ => pts_nil) (fun _ _ _ _ _ => (pe_callD D_same hr (pa_cons (pv 2) (pa_cons (pv 3) pa_nil))))) pa_nil)))))))))), ?_⟩
      rcases h with ⟨hf, rfl⟩ | ⟨a, b, xs, ys, rfl, rfl, hh, hl, hk, he⟩
      · cases x with
        | non =>
          refine ⟨_, rfl, rfl, _, rfl, ifT rfl ?_⟩
          exact ⟨_, rfl, rfl, q _ (.refl _)⟩
        | bl b =>
          refine ⟨_, rfl, rfl, _, rfl, ifF rfl ?_⟩
          refine ⟨_, rfl, _, _, _, _, true, rfl, .ty _, .base (.bl _), kit (by decide +kernel), _, rfl, ifT rfl ?_⟩
          refine ⟨_, rfl, _, _, _, _, true, rfl, .ty _, .base (.bl _), kit (by decide +kernel), _, rfl, ?_⟩
          refine ifT rfl ?_
          refine ⟨_, rfl, _, _, _, _, true, rfl, .ty _, .base (.bl _), kit (by decide +kernel), _, rfl, ifT rfl ?_⟩
          refine ⟨_, rfl, _, rfl, (by cases b <;> rfl), ?_⟩
          rw [show decide (V.bl b = V.bl b) = true from decide_eq_true rfl]
          exact q _ (.refl _)
        | int i =>
          refine ⟨_, rfl, rfl, _, rfl, ifF rfl ?_⟩
          refine ⟨_, rfl, _, _, _, _, false, rfl, .ty _, .base (.int _), kit (by decide +kernel), _, rfl, ifF rfl ?_⟩
          refine ⟨_, rfl, _, _, _, _, false, rfl, .ty _, .base (.int _), kit (by decide +kernel), _, rfl, ifF rfl ?_⟩
          refine ⟨_, rfl, (by show 2 ≤ sizeLine; decide), fun t nt => ?_⟩
          refine ⟨_, t, _, _, _, true, rfl, upd_same, .cons (.ty _) (.cons (.ty _) .nil), .base (.int _), kitAny_cons (b := true) (kit (by decide +kernel)) (fun z => by cases z) (fun _ => rfl), _, rfl, ifT rfl ?_⟩
          refine ⟨_, rfl, (by show 2 ≤ sizeLine; decide), fun t2 nt2 => ?_⟩
          refine ⟨_, t2, _, _, _, true, rfl, upd_same, .cons (.ty _) (.cons (.ty _) .nil), .base (.int _), kitAny_cons (b := true) (kit (by decide +kernel)) (fun z => by cases z) (fun _ => rfl), _, rfl, ifT rfl ?_⟩
          refine ⟨_, rfl, _, _, _, _, true, rfl, .ty _, .base (.int _), kit (by decide +kernel), ?_⟩
          refine ⟨_, rfl, _, _, _, _, true, rfl, .ty _, .base (.int _), kit (by decide +kernel), rfl, _, rfl, ifT rfl ?_⟩
          refine ⟨_, rfl, _, rfl, rfl, ?_⟩
          rw [show decide (V.int i = V.int i) = true from decide_eq_true rfl]
          exact q _ ((same_upd nt).trans (same_upd nt2))
        | str z =>
          refine ⟨_, rfl, rfl, _, rfl, ifF rfl ?_⟩
          refine ⟨_, rfl, _, _, _, _, false, rfl, .ty _, .base (.str _), kit (by decide +kernel), _, rfl, ifF rfl ?_⟩
          refine ⟨_, rfl, _, _, _, _, false, rfl, .ty _, .base (.str _), kit (by decide +kernel), _, rfl, ifF rfl ?_⟩
          refine ⟨_, rfl, (by show 2 ≤ sizeLine; decide), fun t nt => ?_⟩
          refine ⟨_, t, _, _, _, true, rfl, upd_same, .cons (.ty _) (.cons (.ty _) .nil), .base (.str _), kitAny_cons (b := false) (kit (by decide +kernel)) (fun _ => kitAny_cons (b := true) (kit (by decide +kernel)) (fun z => by cases z) (fun _ => rfl)) (fun _ => rfl), _, rfl, ifT rfl ?_⟩
          refine ⟨_, rfl, (by show 2 ≤ sizeLine; decide), fun t2 nt2 => ?_⟩
          refine ⟨_, t2, _, _, _, true, rfl, upd_same, .cons (.ty _) (.cons (.ty _) .nil), .base (.str _), kitAny_cons (b := false) (kit (by decide +kernel)) (fun _ => kitAny_cons (b := true) (kit (by decide +kernel)) (fun z => by cases z) (fun _ => rfl)) (fun _ => rfl), _, rfl, ifT rfl ?_⟩
          refine ⟨_, rfl, _, _, _, _, false, rfl, .ty _, .base (.str _), kit (by decide +kernel), ?_⟩
          refine ⟨_, rfl, _, _, _, _, false, rfl, .ty _, .base (.str _), kit (by decide +kernel), rfl, _, rfl, ifT rfl ?_⟩
          refine ⟨_, rfl, _, rfl, rfl, ?_⟩
          rw [show decide (V.str z = V.str z) = true from decide_eq_true rfl]
          exact q _ ((same_upd nt).trans (same_upd nt2))
        | _ => cases hf
      · obtain ⟨tn, bT, bL, tA, tB, k1, k2, k3, k4, k5⟩ : ∃ (tn : String) (bT bL : Bool), (∀ H', Same H H' → TyX K H' (.ref a) (.type tn)) ∧ (∀ H', Same H H' → TyX K H' (.ref b) (.type tn)) ∧ kitB tn "bool" = some false ∧ kitB tn "int" = some false ∧ kitB tn "str" = some false ∧ kitB tn "tuple" = some bT ∧ kitB tn "list" = some bL := by
          rcases hh with ⟨h1, h2⟩ | ⟨h1, h2⟩
          · exact ⟨"list", false, true, fun H' e => .base (.lst (e _ _ h1)), fun H' e => .base (.lst (e _ _ h2)), by decide +kernel, by decide +kernel, by decide +kernel, by decide +kernel, by decide +kernel⟩
          · exact ⟨"tuple", true, false, fun H' e => ty_tup (e.tup h1), fun H' e => ty_tup (e.tup h2), by decide +kernel, by decide +kernel, by decide +kernel, by decide +kernel, by decide +kernel⟩
        refine ⟨_, rfl, rfl, _, rfl, ifF rfl ?_⟩
        refine ⟨_, rfl, _, _, _, _, false, rfl, .ty _, tB _ (.refl _), kit k1, _, rfl, ifF rfl ?_⟩
        refine ⟨_, rfl, _, _, _, _, false, rfl, .ty _, tA _ (.refl _), kit k1, _, rfl, ifF rfl ?_⟩
        refine ⟨_, rfl, (by show 2 ≤ sizeLine; decide), fun t nt => ?_⟩
        have s1 : Same H (upd H t (.tup [.ty "int", .ty "str"])) := same_upd nt
        refine ⟨_, t, _, _, _, false, rfl, upd_same, .cons (.ty _) (.cons (.ty _) .nil), tB _ s1, kitAny_cons (b := false) (kit k2) (fun _ => kitAny_cons (b := false) (kit k3) (fun _ => kitAny_nil) (fun z => by cases z)) (fun z => by cases z), _, rfl, ifF rfl ?_⟩
        refine ⟨_, rfl, _, _, _, _, bT, rfl, .ty _, tB _ s1, kit k4, _, rfl, _, _, _, _, bT, rfl, .ty _, tA _ s1, kit k4, (by cases bT <;> rfl), _, rfl, ifF (by cases bT <;> rfl) ?_⟩
        refine ⟨_, rfl, _, _, _, _, bL, rfl, .ty _, tB _ s1, kit k5, _, rfl, _, _, _, _, bL, rfl, .ty _, tA _ s1, kit k5, (by cases bL <;> rfl), _, rfl, ifF (by cases bL <;> rfl) ?_⟩
        have hsz : ∀ i, i ≤ xs.length → i < sizeLine := fun i hi => small1000 (by omega)
        rcases hh with ⟨h1, h2⟩ | ⟨h1, h2⟩
        · have q1 : ∀ H', Same (upd H t (.tup [.ty "int", .ty "str"])) H' → H' a = some (.lst xs) ∧ H' b = some (.lst ys) := fun H' e => ⟨e _ _ (s1 _ _ h1), e _ _ (s1 _ _ h2)⟩
          refine ⟨_, rfl, a, _, rfl, .inl (SqL.of (s1 _ _ h1)), _, rfl, b, _, rfl, .inl (SqL.of (s1 _ _ h2)), rfl, _, rfl, ifT (by rw [hl]; exact decide_eq_true rfl) ?_⟩
          refine ⟨_, rfl, _, rfl, a, b, xs, ys, rfl, .inl ⟨SqL.of (s1 _ _ h1), SqL.of (s1 _ _ h2), fun D nD => ?_⟩⟩
          refine zip_turns hl (fun H' => SqL K H' a xs ∧ SqL K H' b ys) (fun i x y H' q hx hy => ⟨xs, ys, x, y, q.1, q.2, hx, hy⟩) (fun H' q => ⟨xs, ys, q.1, q.2, .inl (Nat.le_refl _)⟩) (fun i v H' H2 q hy => ?_)
            (fun i H' => Same (upd H t (.tup [.ty "int", .ty "str"])) H' ∧ H' D = some (.lst ((List.replicate i true).map V.bl))) ⟨same_upd nD, upd_same⟩ (fun i H' q => ⟨SqL.of (q1 _ q.1).1, SqL.of (q1 _ q.1).2⟩) ?_ ?_
          · obtain ⟨T, x', y', rfl, hT, rfl, f1, f2⟩ := hy
            exact ⟨T, x', y', rfl, hT, rfl, f1 _ q.1, f2 _ q.2⟩
          · rintro i x y T H' hx hy ⟨sm, hD⟩ nT
            have sT := same_upd (o := .tup [x, y]) nT
            refine ⟨T, [x, y], rfl, SqT.of upd_same, rfl, x, [y], rfl, y, [], rfl, rfl, rfl, ?_⟩
            dsimp only [tYes]
            rw [if_pos rfl]
            refine ⟨_, rfl, _, rfl, x, y, rfl, ((he i x y hx hy).same ((s1.trans sm).trans sT)), fun H2 s2 => ?_⟩
            refine ⟨_, s2 _ _ (sT _ _ hD), by rw [List.length_map, List.length_replicate]; exact hsz _ (by have := (List.getElem?_eq_some_iff.mp hx).1; omega), ?_, ?_⟩
            · intro c o e
              have nc : c ≠ D := ne_of_none e nD
              rw [upd_ne nc]
              exact s2 _ _ (sT _ _ (sm _ _ e))
            · rw [upd_same, List.replicate_succ', List.map_append]
              rfl
          · rintro H' ⟨sm, hD⟩
            refine ⟨D, List.replicate xs.length true, rfl, SqL.of hD, ?_⟩
            rw [show (List.replicate xs.length true).all id = true by simp]
            exact q _ (s1.trans sm)
        · have q1 : ∀ H', Same (upd H t (.tup [.ty "int", .ty "str"])) H' → SqT K H' a xs ∧ SqT K H' b ys := fun H' e => ⟨e.tup (s1.tup h1), e.tup (s1.tup h2)⟩
          refine ⟨_, rfl, a, _, rfl, .inr (s1.tup h1), _, rfl, b, _, rfl, .inr (s1.tup h2), rfl, _, rfl, ifT (by rw [hl]; exact decide_eq_true rfl) ?_⟩
          refine ⟨_, rfl, _, rfl, a, b, xs, ys, rfl, .inr ⟨s1.tup h1, s1.tup h2, fun D nD => ?_⟩⟩
          refine zip_turns hl (fun H' => SqT K H' a xs ∧ SqT K H' b ys) (fun i x y H' q hx hy => ⟨xs, ys, x, y, q.1, q.2, hx, hy⟩) (fun H' q => ⟨xs, ys, q.1, q.2, .inl (Nat.le_refl _)⟩) (fun i v H' H2 q hy => ?_)
            (fun i H' => Same (upd H t (.tup [.ty "int", .ty "str"])) H' ∧ H' D = some (.lst ((List.replicate i true).map V.bl))) ⟨same_upd nD, upd_same⟩ (fun i H' q => q1 _ q.1) ?_ ?_
          · obtain ⟨T, x', y', rfl, hT, rfl, f1, f2⟩ := hy
            exact ⟨T, x', y', rfl, hT, rfl, f1 _ q.1, f2 _ q.2⟩
          · rintro i x y T H' hx hy ⟨sm, hD⟩ nT
            have sT := same_upd (o := .tup [x, y]) nT
            refine ⟨T, [x, y], rfl, SqT.of upd_same, rfl, x, [y], rfl, y, [], rfl, rfl, rfl, ?_⟩
            dsimp only [tYes]
            rw [if_pos rfl]
            refine ⟨_, rfl, _, rfl, x, y, rfl, ((he i x y hx hy).same ((s1.trans sm).trans sT)), fun H2 s2 => ?_⟩
            refine ⟨_, s2 _ _ (sT _ _ hD), by rw [List.length_map, List.length_replicate]; exact hsz _ (by have := (List.getElem?_eq_some_iff.mp hx).1; omega), ?_, ?_⟩
            · intro c o e
              have nc : c ≠ D := ne_of_none e nD
              rw [upd_ne nc]
              exact s2 _ _ (sT _ _ (sm _ _ e))
            · rw [upd_same, List.replicate_succ', List.map_append]
              rfl
          · rintro H' ⟨sm, hD⟩
            refine ⟨D, List.replicate xs.length true, rfl, SqL.of hD, ?_⟩
            rw [show (List.replicate xs.length true).all id = true by simp]
            exact q _ (s1.trans sm)
end
end G
set_option Elab.async false
set_option linter.all false
set_option maxRecDepth 100000
namespace G
open PySem PySem.Spec PyProof.Rows L2
/-! ### what the top has written -/
section
variable {K : PySem.W.Frag} {C f p g : Addr} {x m qual : Str} {st : Stmt} {oc kV dc pm cd ct mc : Value} {od an : Option Addr} {sl : Array (Option Value)} {rest : List Value} {h : Heap} {mg : Str → Option Value}
def FnAt (K : PySem.W.Frag) (x qual : Str) (st : Stmt) (f : Addr) : Prop := ∃ fd : FuncData, Fun K x qual st f fd
theorem FnAt.mk (l : K.lookup f = some ⟨oc, od, .func (PySem.W.fnOf x qual (defArgs st) (defBody st) (defScope st) .none kV dc pm an cd ct), sl⟩) (c : PySem.W.codeIn K cd qual = true) (k : PySem.W.keepIn K (.ref f) = true) : FnAt K x qual st f := ⟨_, fun_mk (st := st) l c k⟩
def TopFn (K : PySem.W.Frag) (x : Str) (st : Stmt) : Prop := ∃ f : Addr, PySem.W.nsIn K mainGlobals x = some (some (.ref f)) ∧ FnAt K x x st f
theorem TopFn.mk (a : PySem.W.nsIn K mainGlobals x = some (some (.ref f))) (l : K.lookup f = some ⟨oc, od, .func (PySem.W.fnOf x x (defArgs st) (defBody st) (defScope st) .none kV dc pm an cd ct), sl⟩) (c : PySem.W.codeIn K cd x = true) (k : PySem.W.keepIn K (.ref f) = true) : TopFn K x st := ⟨f, a, .mk l c k⟩
theorem TopFn.get (T : TopFn K x st) (X : K.In h) (G : h.Ns mainGlobals mg) : ∃ (f : Addr) (fd : FuncData), Fun K x x st f fd ∧ mg x = some (.ref f) := by
  obtain ⟨f, a, fd, F⟩ := T
  exact ⟨f, fd, F, PySem.W.mg_of X G a⟩
/-- the law itself: with its data told, for the binding -/
def TopLaw (K : PySem.W.Frag) (x : Str) (st : Stmt) : Prop := ∃ (f : Addr) (oc kV dc pm cd ct : Value) (od an : Option Addr) (sl : Array (Option Value)), PySem.W.nsIn K mainGlobals x = some (some (.ref f)) ∧ K.lookup f = some ⟨oc, od, .func (PySem.W.fnOf x x (defArgs st) (defBody st) (defScope st) .none kV dc pm an cd ct), sl⟩ ∧ PySem.W.codeIn K cd x = true ∧ PySem.W.keepIn K (.ref f) = true
theorem TopLaw.mk (a : PySem.W.nsIn K mainGlobals x = some (some (.ref f))) (l : K.lookup f = some ⟨oc, od, .func (PySem.W.fnOf x x (defArgs st) (defBody st) (defScope st) .none kV dc pm an cd ct), sl⟩) (c : PySem.W.codeIn K cd x = true) (k : PySem.W.keepIn K (.ref f) = true) : TopLaw K x st := ⟨f, oc, kV, dc, pm, cd, ct, od, an, sl, a, l, c, k⟩
def TopMeth (K : PySem.W.Frag) (C : Addr) (m qual : Str) (st : Stmt) : Prop := ∃ f : Addr, Meth K C m f ∧ FnAt K m qual st f
theorem TopMeth.mk (a : PySem.W.findIn K (.ref C) m = some (some (.ref f))) (i : PySem.W.isFn K (.ref f) = true) (l : K.lookup f = some ⟨oc, od, .func (PySem.W.fnOf m qual (defArgs st) (defBody st) (defScope st) .none kV dc pm an cd ct), sl⟩) (c : PySem.W.codeIn K cd qual = true) (k : PySem.W.keepIn K (.ref f) = true) : TopMeth K C m qual st := ⟨f, ⟨a, i, k⟩, .mk l c k⟩
def TopProp (K : PySem.W.Frag) (C : Addr) (m qual : Str) (st : Stmt) : Prop := ∃ p g : Addr, PropOf K C m p g ∧ FnAt K m qual st g
theorem TopProp.mk (a : PySem.W.findIn K (.ref C) m = some (some (.ref p))) (s : PySem.W.specialIn K (.ref p) "__get__" = some (some (.builtin "property.__get__"))) (t : PySem.W.takesIn K (.ref p) = some true) (r : PySem.W.recIn K p "property" = some (.ref g :: rest)) (l : K.lookup g = some ⟨oc, od, .func (PySem.W.fnOf m qual (defArgs st) (defBody st) (defScope st) .none kV dc pm an cd ct), sl⟩) (c : PySem.W.codeIn K cd qual = true) (k : PySem.W.keepIn K (.ref g) = true) : TopProp K C m qual st := ⟨p, g, ⟨a, s, t, _, r⟩, .mk l c k⟩
def TopStat (K : PySem.W.Frag) (C : Addr) (m qual : Str) (st : Stmt) : Prop := ∃ (mc : Value) (p g : Addr), SMet K C mc m p g ∧ FnAt K m qual st g
theorem TopStat.mk (ty : PySem.W.typeIn K (.ref C) = some mc) (rd : PySem.W.readsIn K C mc = true) (ga : PySem.W.specialIn K (.ref C) "__getattribute__" = some (some (.builtin "type.__getattribute__"))) (a : PySem.W.findCls K (.ref C) mc m = some (.get (.builtin "staticmethod.__get__") (.ref p) .none (.ref C))) (r : PySem.W.recIn K p "staticmethod" = some (.ref g :: rest)) (l : K.lookup g = some ⟨oc, od, .func (PySem.W.fnOf m qual (defArgs st) (defBody st) (defScope st) .none kV dc pm an cd ct), sl⟩) (c : PySem.W.codeIn K cd qual = true) (k : PySem.W.keepIn K (.ref g) = true) : TopStat K C m qual st := ⟨mc, p, g, ⟨rd, ty, ga, a, ⟨_, r⟩, k⟩, .mk l c k⟩
def TopCls (K : PySem.W.Frag) (x : Str) (C : Addr) : Prop := PySem.W.nsIn K mainGlobals x = some (some (.ref C)) ∧ Cls K C ∧ PySem.W.selfFirst K C = true ∧ PySem.W.mroIn K C (.type "object") = some true ∧ PySem.W.makesIn K C = true ∧ PySem.W.keepIn K (.ref C) = true
theorem TopCls.mk (a : PySem.W.nsIn K mainGlobals x = some (some (.ref C))) (pg : PySem.W.plainGet K C Str.empty = true) (hd : PySem.W.hasDictIn K C = true) (po : PySem.W.plainOver K C = true) (sa : PySem.W.findIn K (.ref C) "__setattr__" = some (some (.builtin "object.__setattr__"))) (sf : PySem.W.selfFirst K C = true) (mr : PySem.W.mroIn K C (.type "object") = some true) (mk : PySem.W.makesIn K C = true) (kc : PySem.W.keepIn K (.ref C) = true) : TopCls K x C := ⟨a, ⟨pg, hd, po, sa⟩, sf, mr, mk, kc⟩
theorem TopCls.facts (T : TopCls K x C) (X : K.In h) (G : h.Ns mainGlobals mg) : ClsFacts K mg x C := ⟨T.2.1, PySem.W.mg_of X G T.1, T.2.2.1, T.2.2.2.1⟩
end
end G
set_option Elab.async false
set_option linter.all false
set_option maxRecDepth 100000
set_option maxHeartbeats 1000000
namespace G
open PySem PySem.Spec PyProof.Rows L2 RZ StX
/-! ### numbers and halves -/
def spIsNum : Sp := fun vs H Q _ => ∃ i : Int, vs = [.int i] ∧ Q (.bl true) H
def okH (ns : List Int) : Bool := decide (ns.length = 4) && (decide ((ns.map (· % 2)).sum = 0) || decide ((ns.map (· % 2)).sum = 4))
theorem in04 (z : Int) : inV (V.int z) [V.int 0, V.int 4] = (decide (z = 0) || decide (z = 4)) := by
  show ((0 == z) || ((4 == z) || false)) = _
  rw [Bool.or_false]
  congr 1
  · rw [Bool.eq_iff_iff]; simp only [beq_iff_eq, decide_eq_true_eq]; omega
  · rw [Bool.eq_iff_iff]; simp only [beq_iff_eq, decide_eq_true_eq]; omega
def spHalves (K : PySem.W.Frag) : Sp := fun vs H Q _ => ∃ (t : Addr) (ns : List Int), vs = [.ref t] ∧ SqT K H t (ns.map V.int) ∧ ns.length ≤ 1000 ∧ ∀ H', Same H H' → Q (.bl (okH ns)) H'
section
variable {P : Program} {w : World} {K : PySem.W.Frag} {mg : Str → Option Value} {base : Heap}
theorem ok_isnum {f : Addr} {fd : FuncData} {k : Nat} (F : Fun K "is_number" "is_number" s_is_number f fd) (B : Bn mg) : FnOk P w K mg base CX0 (k + 1) f fd ["value"] spIsNum := by
  refine F.ok sc_is_number (fun vs H Q E h => ?_) (fun cdv A outer s H vs Q E hr h => ?_)
  · obtain ⟨i, rfl, _⟩ := h
    rfl
  · obtain ⟨i, rfl, q⟩ := h
    refine ⟨_, (pss_one (ps_ret (pe_and (pe_callB call_isi (by rfl) B.isinstance (by decide +kernel) (pa_cons (pv 0) (pa_cons (pe_bltn (v := .ty "int") (u := .type "int") (by rfl) B.int (by decide +kernel) rfl) pa_nil))) (pe_one (pe_not (pe_callB call_isi (by rfl) B.isinstance (by decide +kernel) (pa_cons (pv 0) (pa_cons (pe_bltn (v := .ty "bool") (u := .type "bool") (by rfl) B.bool (by decide +kernel) rfl) pa_nil)))))))), ?_⟩
    refine ⟨_, rfl, _, _, _, _, true, rfl, .ty _, .base (.int _), kit (by decide +kernel), _, rfl, ifT rfl ?_⟩
    exact ⟨_, rfl, _, _, _, _, false, rfl, .ty _, .base (.int _), kit (by decide +kernel), _, rfl, q⟩
theorem ok_halves {f : Addr} {fd : FuncData} {k : Nat} (F : Fun K "are_halves" "are_halves" s_are_halves f fd) (B : Bn mg) (mS : mg "sum" = none) (D_isnum : DefOk P w K mg base "is_number" 1 ["value"] spIsNum) : FnOk P w K mg base CX0 2 f fd ["values"] (spHalves K) := by
  refine F.ok sc_are_halves (fun vs H Q E h => ?_) (fun cdv A outer s H vs Q E hr h => ?_)
  · obtain ⟨t, ns, rfl, _⟩ := h
    rfl
  · obtain ⟨t, ns, rfl, hT, hl, q⟩ := h
    refine ⟨_, (pss_cons (ps_if (PW.pt (pw_or (pt_cmpR op_ne (pe_callB call_len_seq (by rfl) B.len PySem.boot_len (pa_cons (pv 0) pa_nil)) pe_int (nomark _)) (pw_or1 (pt_not (pt_val (pe_callB (cr_all rfl) (by rfl) B.all (by decide +kernel) (pa_cons (pe_lc (own := [("value", 1)]) (g := gName 1) (tt := tYes) (by rfl) sc_are_halves.nd (pi_tup (pv 0)) (blkOk_by (own := [("value", 1)]) (N := ["values", "value"]) (sc := (defScope s_are_halves)) (by decide +kernel)) (fun _ _ _ _ _ => pg_name (i := 1) sc_are_halves.nd rfl (Or.inl rfl)) (fun _ _ _ _ _ => pts_nil) (fun _ _ _ _ _ => (pe_callD D_isnum hr (pa_cons (pv 1) pa_nil)))) pa_nil))))))) (pss_one (ps_ret pe_bl)) pss_nil)
      (pss_one (ps_ret (pe_cmpR op_in_seq (pe_callB (cr_sum rfl) (by rfl) B.sum (by decide +kernel) (pa_cons (pe_lc (own := [("value", 1)]) (g := gName 1) (tt := tYes) (by rfl) sc_are_halves.nd (pi_tup (pv 0)) (blkOk_by (own := [("value", 1)]) (N := ["values", "value"]) (sc := (defScope s_are_halves)) (by decide +kernel)) (fun _ _ _ _ _ => pg_name (i := 1) sc_are_halves.nd rfl (Or.inl rfl)) (fun _ _ _ _ _ => pts_nil) (fun _ _ _ _ _ => (pe_op op_mod (pv 1) pe_int))) pa_nil)) (pe_tup (pa_cons pe_int (pa_cons pe_int pa_nil))) (by rfl))))), ?_⟩
    refine ⟨_, rfl, t, _, rfl, .inr hT, rfl, _, rfl, ?_⟩
    rw [List.length_map]
    refine ite2 (fun h => ?_) (fun h => ?_)
    · have hn : ¬ ns.length = 4 := by
        intro e
        rw [e] at h
        exact absurd h (by decide)
      have := q H (.refl _)
      unfold okH at this
      rw [decide_eq_false hn] at this
      exact this
    · have hn : ns.length = 4 := by
        rcases Decidable.em (ns.length = 4) with e | e
        · exact e
        · exact absurd (show (!decide (V.int ((ns.length : Nat) : Int) = V.int 4)) = true by simp; omega) h
      refine ⟨_, rfl, t, rfl, ⟨_, hT⟩, fun D nD => ?_⟩
      refine lc_tup (K := K) (a := t) (xs := ns.map V.int) (fun i H' => Same H H' ∧ H' D = some (.lst ((List.replicate i true).map V.bl))) ⟨same_upd nD, upd_same⟩ (fun i H' _ h => h.1.tup hT) ?_ ?_
      · rintro i x H' hx ⟨sm, hD⟩
        obtain ⟨u, rfl⟩ : ∃ u, x = V.int u := by
          rw [List.getElem?_map] at hx
          cases e : ns[i]? with
          | none => rw [e] at hx; cases hx
          | some u => rw [e] at hx; exact ⟨u, (Option.some.inj hx).symm⟩
        refine ⟨rfl, ?_⟩
        dsimp only [tYes]
        rw [if_pos rfl]
        have hi := (List.getElem?_eq_some_iff.mp hx).1
        rw [List.length_map] at hi
        refine ⟨_, rfl, u, rfl, _, hD, by rw [List.length_map, List.length_replicate]; exact small1000 (by omega), ?_, ?_⟩
        · intro c o e
          rw [upd_ne (ne_of_none e nD)]
          exact sm _ _ e
        · rw [upd_same, List.replicate_succ', List.map_append]
          rfl
      · rintro H' ⟨sm, hD⟩
        refine ⟨D, List.replicate _ true, rfl, SqL.of hD, true, ?_, ifF rfl ?_⟩
        · simp
        refine ⟨_, rfl, t, rfl, ⟨_, sm.tup hT⟩, fun D2 nD2 => ?_⟩
        refine lc_tup (K := K) (a := t) (xs := ns.map V.int) (fun i H2 => Same H' H2 ∧ H2 D2 = some (.lst (((ns.take i).map (· % 2)).map V.int))) ⟨same_upd nD2, upd_same⟩ (fun i H2 _ h => h.1.tup (sm.tup hT)) ?_ ?_
        · rintro i x H2 hx ⟨sm2, hD2⟩
          obtain ⟨u, rfl, hu⟩ : ∃ u, x = V.int u ∧ ns[i]? = some u := by
            rw [List.getElem?_map] at hx
            cases e : ns[i]? with
            | none => rw [e] at hx; cases hx
            | some u => rw [e] at hx; exact ⟨u, (Option.some.inj hx).symm, rfl⟩
          refine ⟨rfl, ?_⟩
          dsimp only [tYes]
          rw [if_pos rfl]
          have hi := (List.getElem?_eq_some_iff.mp hu).1
          refine ⟨_, rfl, _, _, rfl, rfl, (by show (0 : Int) < 2; decide), _, hD2, by rw [List.length_map, List.length_map, List.length_take]; exact small1000 (by omega), ?_, ?_⟩
          · intro c o e
            rw [upd_ne (ne_of_none e nD2)]
            exact sm2 _ _ e
          · rw [upd_same, List.take_add_one, hu]
            simp
        · rintro H2 ⟨sm2, hD2⟩
          rw [List.length_map, List.take_length] at hD2
          refine ⟨D2, _, rfl, SqL.of hD2, (by show 2 ≤ sizeLine; decide), fun T nT => ⟨T, _, rfl, .inr (SqT.of upd_same), rfl, rfl, ?_⟩⟩
          have e : inV (V.int (ns.map (· % 2)).sum) [V.int 0, V.int 4] = okH ns := by
            unfold okH
            rw [in04, decide_eq_true hn]
            rfl
          show Q (V.bl (inV (V.int (ns.map (· % 2)).sum) [V.int 0, V.int 4])) _
          rw [e]
          exact q _ ((sm.trans sm2).trans (same_upd nT))
end
/-! ### a four -/
def Q4.vs (u : Q4) : List V := [.int u.a, .int u.b, .int u.c, .int u.d]
def FourAt (C : Addr) (H : Hp) (p : Addr) (u : Q4) : Prop := u.Par ∧ ∃ dx t, H p = some (.ins C dx [("doubled", .ref t)]) ∧ H t = some (.tup u.vs)
theorem FourAt.same {C : Addr} {H H' : Hp} {p : Addr} {u : Q4} (h : FourAt C H p u) (s : Same H H') : FourAt C H' p u := by
  obtain ⟨h0, dx, t, h1, h2⟩ := h
  exact ⟨h0, dx, t, s _ _ h1, s _ _ h2⟩
theorem okH_par {u : Q4} (h : u.Par) : okH [u.a, u.b, u.c, u.d] = true := by
  obtain ⟨h1, h2, h3⟩ := h
  unfold okH
  show (true && (decide (u.a % 2 + (u.b % 2 + (u.c % 2 + (u.d % 2 + 0))) = 0) || decide (u.a % 2 + (u.b % 2 + (u.c % 2 + (u.d % 2 + 0))) = 4))) = true
  rw [Bool.true_and, Bool.or_eq_true, decide_eq_true_eq, decide_eq_true_eq]
  omega
def spInit (C : Addr) : Sp := fun vs H Q _ => ∃ (x dx t : Addr) (u : Q4), vs = [.ref x, .ref t] ∧ u.Par ∧ H x = some (.ins C dx []) ∧ H t = some (.tup u.vs) ∧ ∀ H', SameX x H H' → H' x = some (.ins C dx [("doubled", .ref t)]) → Q .non H'
def spInitR (C : Addr) : Sp := fun vs H Q E => ∃ ws rest, vs = ws ++ rest ∧ ws.length = ["self"].length ∧ rest.length ≤ sizeLine ∧ ∀ p, H p = Option.none → spInit C (ws ++ [V.ref p]) (upd H p (.tup rest)) Q E
section
variable {P : Program} {w : World} {K : PySem.W.Frag} {mg : Str → Option Value} {base : Heap}
theorem ok_init {f C : Addr} {fd : FuncData} (F : Fun K "__init__" "Four.__init__" s_Four_init f fd) (cl : Cls K C) (nD : NoAttr K C "doubled") (D_halves : DefOk P w K mg base "are_halves" 2 ["values"] (spHalves K)) : FnR P w K mg base CX0 3 f (spInitR C) := by
  obtain ⟨oc, od, kV, doc, pm, an, cdv, ct, osl, rfl, lk, hcd⟩ := F.ex
  refine fn_star (ps := ["self"]) (pv := "halves") lk hcd sc_Four_init cxUp_none (fun us rest hl => match us, hl with | [a], _ => (by cases rest <;> rfl)) ?_
  intro A outer s H vs Q E hr h
  obtain ⟨x, dx, t, u, rfl, hp, hx, ht, q⟩ := h
  refine ⟨_, (pss_cons (ps_if (pt_not (pt_val (pe_callD D_halves hr (pa_cons (pv 1) pa_nil)))) (pss_one ps_never) pss_nil)
      (pss_one (ps_fld (pv 0) (pv 1) rfl))), ?_⟩
  refine ⟨_, rfl, t, [u.a, u.b, u.c, u.d], rfl, SqT.of ht, by show 4 ≤ 1000; decide, fun H' sm => ⟨_, rfl, ?_⟩⟩
  rw [okH_par hp]
  refine ifF rfl ?_
  refine ⟨_, rfl, _, rfl, x, C, dx, [], rfl, sm _ _ hx, cl, nD, by show 0 < 1000; decide, ?_⟩
  exact q _ ((SameX.of sm).trans sameX_upd) upd_same
end
end G
set_option Elab.async false
set_option linter.all false
set_option maxRecDepth 100000
set_option maxHeartbeats 1000000
namespace G
open PySem PySem.Spec PyProof.Rows L2 RZ StX
structure InitOk (P : Program) (w : World) (K : PySem.W.Frag) (mg : Str → Option Value) (base : Heap) (C : Addr) : Prop where
  ex : ∃ f : Addr, Mk K C f ∧ FnR P w K mg base CX0 3 f (spInitR C)
def tFour (C : Addr) (t : TA) : TE := fun σ H Q => t σ H fun vs H1 => ∃ u : Q4, vs = u.vs ∧ u.Par ∧ ∀ x H2, H1 x = none → Same H1 H2 → FourAt C H2 x u → Q (.ref x) H2
theorem four_made {C : Addr} {H1 : Hp} {u : Q4} {Q : VK} (hp : u.Par) (q : ∀ x H2, H1 x = none → Same H1 H2 → FourAt C H2 x u → Q (.ref x) H2) (x dx : Addr) (hx : H1 x = Option.none) (hdx : H1 dx = Option.none) (ne : dx ≠ x) :
    spInitR C (V.ref x :: u.vs) (upd (upd H1 dx (.own x)) x (.ins C dx [])) (fun v H2 => v = .non ∧ Q (.ref x) H2) E0 := by
  refine ⟨[.ref x], u.vs, rfl, rfl, by show 4 ≤ sizeLine; decide, fun p np => ?_⟩
  have nxp : x ≠ p := fun e => by rw [← e, upd_same] at np; cases np
  refine ⟨x, dx, p, u, rfl, hp, by rw [upd_ne nxp, upd_same], upd_same, fun H' sm hx' => ⟨rfl, ?_⟩⟩
  have hp' : H' p = some (.tup u.vs) := sm _ _ nxp.symm upd_same
  refine q x H' hx (fun b o e => ?_) ⟨hp, dx, p, hx', hp'⟩
  have nbx : b ≠ x := ne_of_none e hx
  have nbd : b ≠ dx := ne_of_none e hdx
  refine sm _ _ nbx ?_
  have nbp : b ≠ p := fun q => by
    rw [← q, upd_ne nbx, upd_ne nbd, e] at np
    cases np
  rw [upd_ne nbp, upd_ne nbx, upd_ne nbd]
  exact e
theorem pe_four {X : Cx} {C : Addr} {x : Str} {p pos : Pos} {e : Expr} {es : List Expr} {t : TA} (I : InitOk X.prog X.w X.K X.mg X.base C) (hr : Room 4 X.A) (hm : X.mg x = some (.ref C)) (ha : PA X (e :: es) t) (hg : Gl X x := by rfl) (hdb : (x == ("__debug__" : Str)) = false := by decide)
    (he : starEach (e :: es) X.env = (false, eval e X.env) :: starEach es X.env := by rfl) (hpl : (backTo pos (starEach es X.env)).any (·.1) = false := by rfl) : PE X (.Call (.Name x p) (e :: es) [] pos) (tFour C t) := by
  obtain ⟨f, M, F⟩ := I.ex
  refine ⟨fun pins s σ H Q I h => ?_⟩
  refine wpAny_Call_Name_kw (ld_glob I hg hm ?_ hdb)
  refine PySem.W.callWith_K (h₀ := X.base) I.ok.mod.kin M.kp (thn (ha.run pos pins s σ H _ I h) fun us s1 ⟨vs, H1, I1, r, u, ev, hp, q⟩ => ⟨I1.kIn, ?_⟩) he hpl
  subst ev
  exact run_makeR M F hr (E := E0) pass0 I1 r (four_made hp q)
/-! ### its methods -/
def spBin (C : Addr) (g : Q4 → Q4 → Q4) (ok : Q4 → Q4 → Prop) : Sp := fun vs H Q _ => ∃ (p q : Addr) (u v : Q4), vs = [.ref p, .ref q] ∧ FourAt C H p u ∧ FourAt C H q v ∧ ok u v ∧ ∀ r H', H r = none → Same H H' → FourAt C H' r (g u v) → Q (.ref r) H'
def spUn (C : Addr) (g : Q4 → Q4) : Sp := fun vs H Q _ => ∃ (p : Addr) (u : Q4), vs = [.ref p] ∧ FourAt C H p u ∧ ∀ r H', H r = none → Same H H' → FourAt C H' r (g u) → Q (.ref r) H'
def mulOk (u v : Q4) : Prop := ∃ n, 0 < n ∧ n ≤ 400000 ∧ u.Bd n ∧ v.Bd n
def spHalvesP (C : Addr) : Sp := fun vs H Q _ => ∃ (p : Addr) (u : Q4), vs = [.ref p] ∧ FourAt C H p u ∧ ∀ t, H t = some (.tup u.vs) → Q (.ref t) H
def spSizeP (C : Addr) : Sp := fun vs H Q _ => ∃ (p : Addr) (u : Q4) (n : Nat), vs = [.ref p] ∧ FourAt C H p u ∧ 0 < n ∧ n ≤ 400000 ∧ u.Bd n ∧ Q (.int u.size) H
def spEqP (C : Addr) : Sp := fun vs H Q _ => ∃ (p q : Addr) (u v : Q4), vs = [.ref p, .ref q] ∧ FourAt C H p u ∧ FourAt C H q v ∧ Q (.bl (decide (u = v))) H
def spWhole (C : Addr) : Sp := fun vs H Q _ => ∃ n : Int, vs = [.int n] ∧ ∀ r H', H r = none → Same H H' → FourAt C H' r (Q4.whole n) → Q (.ref r) H'
structure FourC (K : PySem.W.Frag) (mg : Str → Option Value) (C : Addr) : Prop extends ClsFacts K mg "Four" C where
  nD : NoAttr K C "doubled"
theorem wm {i j : Int} {n : Nat} (h1 : i.natAbs < 2 ^ n) (h2 : j.natAbs < 2 ^ n) (h0 : 0 < n) (h : n ≤ 400000) : CMulW i j := wide_mul (a := n) (b := n) h1 h2 h0 h0 (by omega)
section
variable {P : Program} {w : World} {K : PySem.W.Frag} {mg : Str → Option Value} {base : Heap}
theorem ok_add {f C : Addr} {fd : FuncData} (F : Fun K "__add__" "Four.__add__" s_Four_add f fd) (CF : FourC K mg C) (CI : InitOk P w K mg base C) : FnOk P w K mg base CX0 5 f fd ["self", "other"] (spBin C Q4.add fun _ _ => True) := by
  refine F.ok sc_Four_add (fun vs H Q E h => ?_) (fun cdv A outer s H vs Q E hr h => ?_)
  · obtain ⟨p, q, u, v, rfl, _⟩ := h
    rfl
  · obtain ⟨p, q, u, v, rfl, ⟨pu, dx, t, h1, h2⟩, ⟨pv', dy, t', k1, k2⟩, _, k⟩ := h
    refine ⟨_, (pss_cons (ps_asg (pe_fld (pv 0) rfl) (pg_tup (by rfl) (pgs_cons (pg_name (i := 2) sc_Four_add.nd rfl (Or.inl rfl)) (pgs_cons (pg_name (i := 3) sc_Four_add.nd rfl (Or.inl rfl)) (pgs_cons (pg_name (i := 4) sc_Four_add.nd rfl (Or.inl rfl)) (pgs_cons (pg_name (i := 5) sc_Four_add.nd rfl (Or.inl rfl)) pgs_nil))))))
      (pss_cons (ps_asg (pe_fld (pv 1) rfl) (pg_tup (by rfl) (pgs_cons (pg_name (i := 6) sc_Four_add.nd rfl (Or.inl rfl)) (pgs_cons (pg_name (i := 7) sc_Four_add.nd rfl (Or.inl rfl)) (pgs_cons (pg_name (i := 8) sc_Four_add.nd rfl (Or.inl rfl)) (pgs_cons (pg_name (i := 9) sc_Four_add.nd rfl (Or.inl rfl)) pgs_nil))))))
      (pss_one (ps_ret (pe_four CI (hr.mono (by decide)) CF.mgC (pa_cons (pe_op op_add (pv 2) (pv 6)) (pa_cons (pe_op op_add (pv 3) (pv 7)) (pa_cons (pe_op op_add (pv 4) (pv 8)) (pa_cons (pe_op op_add (pv 5) (pv 9)) pa_nil))))))))), ?_⟩
    refine ⟨_, rfl, p, C, dx, _, _, rfl, h1, CF.cl, CF.nD, rfl, t, _, rfl, SqT.of h2, rfl, _, _, rfl, _, _, rfl, _, _, rfl, _, _, rfl, rfl, ?_⟩
    refine ⟨_, rfl, q, C, dy, _, _, rfl, k1, CF.cl, CF.nD, rfl, t', _, rfl, SqT.of k2, rfl, _, _, rfl, _, _, rfl, _, _, rfl, _, _, rfl, rfl, ?_⟩
    exact ⟨_, rfl, _, rfl, _, _, rfl, rfl, _, rfl, _, rfl, _, _, rfl, rfl, _, rfl, _, rfl, _, _, rfl, rfl, _, rfl, _, rfl, _, _, rfl, rfl, Q4.add u v, rfl, Q4.add_par pu pv', k⟩
theorem ok_sub {f C : Addr} {fd : FuncData} (F : Fun K "__sub__" "Four.__sub__" s_Four_sub f fd) (CF : FourC K mg C) (CI : InitOk P w K mg base C) : FnOk P w K mg base CX0 5 f fd ["self", "other"] (spBin C Q4.sub fun _ _ => True) := by
  refine F.ok sc_Four_sub (fun vs H Q E h => ?_) (fun cdv A outer s H vs Q E hr h => ?_)
  · obtain ⟨p, q, u, v, rfl, _⟩ := h
    rfl
  · obtain ⟨p, q, u, v, rfl, ⟨pu, dx, t, h1, h2⟩, ⟨pv', dy, t', k1, k2⟩, _, k⟩ := h
    refine ⟨_, (pss_cons (ps_asg (pe_fld (pv 0) rfl) (pg_tup (by rfl) (pgs_cons (pg_name (i := 2) sc_Four_sub.nd rfl (Or.inl rfl)) (pgs_cons (pg_name (i := 3) sc_Four_sub.nd rfl (Or.inl rfl)) (pgs_cons (pg_name (i := 4) sc_Four_sub.nd rfl (Or.inl rfl)) (pgs_cons (pg_name (i := 5) sc_Four_sub.nd rfl (Or.inl rfl)) pgs_nil))))))
      (pss_cons (ps_asg (pe_fld (pv 1) rfl) (pg_tup (by rfl) (pgs_cons (pg_name (i := 6) sc_Four_sub.nd rfl (Or.inl rfl)) (pgs_cons (pg_name (i := 7) sc_Four_sub.nd rfl (Or.inl rfl)) (pgs_cons (pg_name (i := 8) sc_Four_sub.nd rfl (Or.inl rfl)) (pgs_cons (pg_name (i := 9) sc_Four_sub.nd rfl (Or.inl rfl)) pgs_nil))))))
      (pss_one (ps_ret (pe_four CI (hr.mono (by decide)) CF.mgC (pa_cons (pe_op op_sub (pv 2) (pv 6)) (pa_cons (pe_op op_sub (pv 3) (pv 7)) (pa_cons (pe_op op_sub (pv 4) (pv 8)) (pa_cons (pe_op op_sub (pv 5) (pv 9)) pa_nil))))))))), ?_⟩
    refine ⟨_, rfl, p, C, dx, _, _, rfl, h1, CF.cl, CF.nD, rfl, t, _, rfl, SqT.of h2, rfl, _, _, rfl, _, _, rfl, _, _, rfl, _, _, rfl, rfl, ?_⟩
    refine ⟨_, rfl, q, C, dy, _, _, rfl, k1, CF.cl, CF.nD, rfl, t', _, rfl, SqT.of k2, rfl, _, _, rfl, _, _, rfl, _, _, rfl, _, _, rfl, rfl, ?_⟩
    exact ⟨_, rfl, _, rfl, _, _, rfl, rfl, _, rfl, _, rfl, _, _, rfl, rfl, _, rfl, _, rfl, _, _, rfl, rfl, _, rfl, _, rfl, _, _, rfl, rfl, Q4.sub u v, rfl, Q4.sub_par pu pv', k⟩
theorem ok_mul {f C : Addr} {fd : FuncData} (F : Fun K "__mul__" "Four.__mul__" s_Four_mul f fd) (CF : FourC K mg C) (CI : InitOk P w K mg base C) : FnOk P w K mg base CX0 5 f fd ["self", "other"] (spBin C Q4.mul mulOk) := by
  refine F.ok sc_Four_mul (fun vs H Q E h => ?_) (fun cdv A outer s H vs Q E hr h => ?_)
  · obtain ⟨p, q, u, v, rfl, _⟩ := h
    rfl
  · obtain ⟨p, q, u, v, rfl, ⟨pu, dx, t, h1, h2⟩, ⟨pv', dy, t', k1, k2⟩, ⟨n, n0, n1, bu, bv⟩, k⟩ := h
    refine ⟨_, (pss_cons (ps_asg (pe_fld (pv 0) rfl) (pg_tup (by rfl) (pgs_cons (pg_name (i := 2) sc_Four_mul.nd rfl (Or.inl rfl)) (pgs_cons (pg_name (i := 3) sc_Four_mul.nd rfl (Or.inl rfl)) (pgs_cons (pg_name (i := 4) sc_Four_mul.nd rfl (Or.inl rfl)) (pgs_cons (pg_name (i := 5) sc_Four_mul.nd rfl (Or.inl rfl)) pgs_nil))))))
      (pss_cons (ps_asg (pe_fld (pv 1) rfl) (pg_tup (by rfl) (pgs_cons (pg_name (i := 6) sc_Four_mul.nd rfl (Or.inl rfl)) (pgs_cons (pg_name (i := 7) sc_Four_mul.nd rfl (Or.inl rfl)) (pgs_cons (pg_name (i := 8) sc_Four_mul.nd rfl (Or.inl rfl)) (pgs_cons (pg_name (i := 9) sc_Four_mul.nd rfl (Or.inl rfl)) pgs_nil))))))
      (pss_one (ps_ret (pe_four CI (hr.mono (by decide)) CF.mgC (pa_cons (pe_op op_fdivW (pe_op op_sub (pe_op op_sub (pe_op op_sub (pe_op op_mulW (pv 2) (pv 6)) (pe_op op_mulW (pv 3) (pv 7))) (pe_op op_mulW (pv 4) (pv 8))) (pe_op op_mulW (pv 5) (pv 9))) pe_int) (pa_cons (pe_op op_fdivW (pe_op op_sub (pe_op op_add (pe_op op_add (pe_op op_mulW (pv 2) (pv 7)) (pe_op op_mulW (pv 3) (pv 6))) (pe_op op_mulW (pv 4) (pv 9))) (pe_op op_mulW (pv 5) (pv 8))) pe_int) (pa_cons (pe_op op_fdivW (pe_op op_add (pe_op op_add (pe_op op_sub (pe_op op_mulW (pv 2) (pv 8)) (pe_op op_mulW (pv 3) (pv 9))) (pe_op op_mulW (pv 4) (pv 6))) (pe_op op_mulW (pv 5) (pv 7))) pe_int) (pa_cons (pe_op op_fdivW (pe_op op_add (pe_op op_sub (pe_op op_add (pe_op op_mulW (pv 2) (pv 9)) (pe_op op_mulW (pv 3) (pv 8))) (pe_op op_mulW (pv 4) (pv 7))) (pe_op op_mulW (pv 5) (pv 6))) pe_int) pa_nil))))))))), ?_⟩
    refine ⟨_, rfl, p, C, dx, _, _, rfl, h1, CF.cl, CF.nD, rfl, t, _, rfl, SqT.of h2, rfl, _, _, rfl, _, _, rfl, _, _, rfl, _, _, rfl, rfl, ?_⟩
    refine ⟨_, rfl, q, C, dy, _, _, rfl, k1, CF.cl, CF.nD, rfl, t', _, rfl, SqT.of k2, rfl, _, _, rfl, _, _, rfl, _, _, rfl, _, _, rfl, rfl, ?_⟩
    exact ⟨_, rfl, _, rfl, _, _, rfl, rfl, wm bu.1 bv.1 n0 n1, _, rfl, _, rfl, _, _, rfl, rfl, wm bu.2.1 bv.2.1 n0 n1, _, _, rfl, rfl, _, rfl, _, rfl, _, _, rfl, rfl, wm bu.2.2.1 bv.2.2.1 n0 n1, _, _, rfl, rfl, _, rfl, _, rfl, _, _, rfl, rfl, wm bu.2.2.2 bv.2.2.2 n0 n1, _, _, rfl, rfl, _, _, rfl, rfl, dw (by decide) (by decide), _, rfl, _, rfl, _, _, rfl, rfl, wm bu.1 bv.2.1 n0 n1, _, rfl, _, rfl, _, _, rfl, rfl, wm bu.2.1 bv.1 n0 n1, _, _, rfl, rfl, _, rfl, _, rfl, _, _, rfl, rfl, wm bu.2.2.1 bv.2.2.2 n0 n1, _, _, rfl, rfl, _, rfl, _, rfl, _, _, rfl, rfl, wm bu.2.2.2 bv.2.2.1 n0 n1, _, _, rfl, rfl, _, _, rfl, rfl, dw (by decide) (by decide), _, rfl, _, rfl, _, _, rfl, rfl, wm bu.1 bv.2.2.1 n0 n1, _, rfl, _, rfl, _, _, rfl, rfl, wm bu.2.1 bv.2.2.2 n0 n1, _, _, rfl, rfl, _, rfl, _, rfl, _, _, rfl, rfl, wm bu.2.2.1 bv.1 n0 n1, _, _, rfl, rfl, _, rfl, _, rfl, _, _, rfl, rfl, wm bu.2.2.2 bv.2.1 n0 n1, _, _, rfl, rfl, _, _, rfl, rfl, dw (by decide) (by decide), _, rfl, _, rfl, _, _, rfl, rfl, wm bu.1 bv.2.2.2 n0 n1, _, rfl, _, rfl, _, _, rfl, rfl, wm bu.2.1 bv.2.2.1 n0 n1, _, _, rfl, rfl, _, rfl, _, rfl, _, _, rfl, rfl, wm bu.2.2.1 bv.2.1 n0 n1, _, _, rfl, rfl, _, rfl, _, rfl, _, _, rfl, rfl, wm bu.2.2.2 bv.1 n0 n1, _, _, rfl, rfl, _, _, rfl, rfl, dw (by decide) (by decide), Q4.mul u v, rfl, (Q4.mul_all pu pv').2, k⟩
theorem ok_neg {f C : Addr} {fd : FuncData} (F : Fun K "__neg__" "Four.__neg__" s_Four_neg f fd) (CF : FourC K mg C) (CI : InitOk P w K mg base C) : FnOk P w K mg base CX0 5 f fd ["self"] (spUn C Q4.neg) := by
  refine F.ok sc_Four_neg (fun vs H Q E h => ?_) (fun cdv A outer s H vs Q E hr h => ?_)
  · obtain ⟨p, u, rfl, _⟩ := h
    rfl
  · obtain ⟨p, u, rfl, ⟨pu, dx, t, h1, h2⟩, k⟩ := h
    refine ⟨_, (pss_cons (ps_asg (pe_fld (pv 0) rfl) (pg_tup (by rfl) (pgs_cons (pg_name (i := 1) sc_Four_neg.nd rfl (Or.inl rfl)) (pgs_cons (pg_name (i := 2) sc_Four_neg.nd rfl (Or.inl rfl)) (pgs_cons (pg_name (i := 3) sc_Four_neg.nd rfl (Or.inl rfl)) (pgs_cons (pg_name (i := 4) sc_Four_neg.nd rfl (Or.inl rfl)) pgs_nil))))))
      (pss_one (ps_ret (pe_four CI (hr.mono (by decide)) CF.mgC (pa_cons (pe_un un_neg (pv 1)) (pa_cons (pe_un un_neg (pv 2)) (pa_cons (pe_un un_neg (pv 3)) (pa_cons (pe_un un_neg (pv 4)) pa_nil)))))))), ?_⟩
    refine ⟨_, rfl, p, C, dx, _, _, rfl, h1, CF.cl, CF.nD, rfl, t, _, rfl, SqT.of h2, rfl, _, _, rfl, _, _, rfl, _, _, rfl, _, _, rfl, rfl, ?_⟩
    exact ⟨_, rfl, _, rfl, _, rfl, _, rfl, _, rfl, _, rfl, _, rfl, _, rfl, Q4.neg u, rfl, Q4.neg_par pu, k⟩
theorem ok_mirrored {f C : Addr} {fd : FuncData} (F : Fun K "mirrored" "Four.mirrored" s_Four_mirrored f fd) (CF : FourC K mg C) (CI : InitOk P w K mg base C) : FnOk P w K mg base CX0 5 f fd ["self"] (spUn C Q4.mir) := by
  refine F.ok sc_Four_mirrored (fun vs H Q E h => ?_) (fun cdv A outer s H vs Q E hr h => ?_)
  · obtain ⟨p, u, rfl, _⟩ := h
    rfl
  · obtain ⟨p, u, rfl, ⟨pu, dx, t, h1, h2⟩, k⟩ := h
    refine ⟨_, (pss_cons (ps_asg (pe_fld (pv 0) rfl) (pg_tup (by rfl) (pgs_cons (pg_name (i := 1) sc_Four_mirrored.nd rfl (Or.inl rfl)) (pgs_cons (pg_name (i := 2) sc_Four_mirrored.nd rfl (Or.inl rfl)) (pgs_cons (pg_name (i := 3) sc_Four_mirrored.nd rfl (Or.inl rfl)) (pgs_cons (pg_name (i := 4) sc_Four_mirrored.nd rfl (Or.inl rfl)) pgs_nil))))))
      (pss_one (ps_ret (pe_four CI (hr.mono (by decide)) CF.mgC (pa_cons (pv 1) (pa_cons (pe_un un_neg (pv 2)) (pa_cons (pe_un un_neg (pv 3)) (pa_cons (pe_un un_neg (pv 4)) pa_nil)))))))), ?_⟩
    refine ⟨_, rfl, p, C, dx, _, _, rfl, h1, CF.cl, CF.nD, rfl, t, _, rfl, SqT.of h2, rfl, _, _, rfl, _, _, rfl, _, _, rfl, _, _, rfl, rfl, ?_⟩
    exact ⟨_, rfl, _, rfl, _, rfl, _, rfl, _, rfl, _, rfl, _, rfl, Q4.mir u, rfl, Q4.mir_par pu, k⟩
theorem ok_halvesP {f C : Addr} {fd : FuncData} {k : Nat} (F : Fun K "halves" "Four.halves" s_Four_halves f fd) (CF : FourC K mg C) : FnOk P w K mg base CX0 (k + 1) f fd ["self"] (spHalvesP C) := by
  refine F.ok sc_Four_halves (fun vs H Q E h => ?_) (fun cdv A outer s H vs Q E hr h => ?_)
  · obtain ⟨p, u, rfl, _⟩ := h
    rfl
  · obtain ⟨p, u, rfl, ⟨pu, dx, t, h1, h2⟩, k⟩ := h
    refine ⟨_, (pss_one (ps_ret (pe_fld (pv 0) rfl))), ?_⟩
    exact ⟨_, rfl, p, C, dx, _, _, rfl, h1, CF.cl, CF.nD, rfl, k t h2⟩
theorem ok_sizeP {f C : Addr} {fd : FuncData} {k : Nat} (F : Fun K "size" "Four.size" s_Four_size f fd) (CF : FourC K mg C) : FnOk P w K mg base CX0 (k + 1) f fd ["self"] (spSizeP C) := by
  refine F.ok sc_Four_size (fun vs H Q E h => ?_) (fun cdv A outer s H vs Q E hr h => ?_)
  · obtain ⟨p, u, n, rfl, _⟩ := h
    rfl
  · obtain ⟨p, u, n, rfl, ⟨pu, dx, t, h1, h2⟩, n0, n1, bu, k⟩ := h
    refine ⟨_, (pss_cons (ps_asg (pe_fld (pv 0) rfl) (pg_tup (by rfl) (pgs_cons (pg_name (i := 1) sc_Four_size.nd rfl (Or.inl rfl)) (pgs_cons (pg_name (i := 2) sc_Four_size.nd rfl (Or.inl rfl)) (pgs_cons (pg_name (i := 3) sc_Four_size.nd rfl (Or.inl rfl)) (pgs_cons (pg_name (i := 4) sc_Four_size.nd rfl (Or.inl rfl)) pgs_nil))))))
      (pss_one (ps_ret (pe_op op_fdivW (pe_op op_add (pe_op op_add (pe_op op_add (pe_op op_mulW (pv 1) (pv 1)) (pe_op op_mulW (pv 2) (pv 2))) (pe_op op_mulW (pv 3) (pv 3))) (pe_op op_mulW (pv 4) (pv 4))) pe_int)))), ?_⟩
    refine ⟨_, rfl, p, C, dx, _, _, rfl, h1, CF.cl, CF.nD, rfl, t, _, rfl, SqT.of h2, rfl, _, _, rfl, _, _, rfl, _, _, rfl, _, _, rfl, rfl, ?_⟩
    exact ⟨_, rfl, _, rfl, _, _, rfl, rfl, wm bu.1 bu.1 n0 n1, _, rfl, _, rfl, _, _, rfl, rfl, wm bu.2.1 bu.2.1 n0 n1, _, _, rfl, rfl, _, rfl, _, rfl, _, _, rfl, rfl, wm bu.2.2.1 bu.2.2.1 n0 n1, _, _, rfl, rfl, _, rfl, _, rfl, _, _, rfl, rfl, wm bu.2.2.2 bu.2.2.2 n0 n1, _, _, rfl, rfl, _, _, rfl, rfl, dw (by decide) (by decide), k⟩
end
end G
set_option Elab.async false
set_option linter.all false
set_option maxRecDepth 100000
set_option maxHeartbeats 1000000
namespace G
open PySem PySem.Spec PyProof.Rows L2 RZ StX
/-- what isinstance asks of an instance -/
structure InsFacts (K : PySem.W.Frag) (C : Addr) : Prop where
  ha : PySem.W.findIn K (.ref C) "__class__" = some (some (.builtin "object.__class__"))
  hn : PySem.W.specialIn K (.builtin "object.__class__") "__get__" = some (some (.builtin "getset_descriptor.__get__"))
  ht : PySem.W.takesIn K (.builtin "object.__class__") = some true
theorem Dp.q4 {K : PySem.W.Frag} {H : Hp} {t : Addr} {u : Q4} (h : SqT K H t u.vs) : Dp K H (.ref t) (.tuple [.int u.a, .int u.b, .int u.c, .int u.d]) := .tup h (.cons (.int _) (.cons (.int _) (.cons (.int _) (.cons (.int _) .nil))))
theorem eqv_q4 (u v : Q4) : PyData.eqv (.tuple [.int u.a, .int u.b, .int u.c, .int u.d]) (.tuple [.int v.a, .int v.b, .int v.c, .int v.d]) = decide (u = v) := by
  show (u.a == v.a && (u.b == v.b && (u.c == v.c && (u.d == v.d && true)))) = _
  rw [Bool.eq_iff_iff]
  simp only [Bool.and_eq_true, beq_iff_eq, decide_eq_true_eq, and_true]
  constructor
  · rintro ⟨h1, h2, h3, h4⟩; exact Q4.ext h1 h2 h3 h4
  · rintro rfl; exact ⟨rfl, rfl, rfl, rfl⟩
section
variable {P : Program} {w : World} {K : PySem.W.Frag} {mg : Str → Option Value} {base : Heap}
theorem ok_eqP {f C : Addr} {fd : FuncData} {k : Nat} (F : Fun K "__eq__" "Four.__eq__" s_Four_eq f fd) (CF : FourC K mg C) (IF : InsFacts K C) (B : Bn mg) : FnOk P w K mg base CX0 (k + 1) f fd ["self", "other"] (spEqP C) := by
  refine F.ok sc_Four_eq (fun vs H Q E h => ?_) (fun cdv A outer s H vs Q E hr h => ?_)
  · obtain ⟨p, q, u, v, rfl, _⟩ := h
    rfl
  · obtain ⟨p, q, u, v, rfl, ⟨pu, dx, t, h1, h2⟩, ⟨pv', dy, t', k1, k2⟩, k⟩ := h
    refine ⟨_, (pss_one (ps_ret (pe_and (pe_callB call_isi (by rfl) B.isinstance (by decide +kernel) (pa_cons (pv 1) (pa_cons (pe_glob (v := .ref C) rfl CF.mgC rfl) pa_nil))) (pe_one (pe_cmpR (op_eqD hr.units) (pe_fld (pv 0) rfl) (pe_fld (pv 1) rfl) (nomark _)))))), ?_⟩
    refine ⟨_, rfl, _, _, _, _, true, rfl, .own C, .base (.ins k1 CF.cl IF.ha IF.hn IF.ht CF.mr), if_pos (by simp), _, rfl, ifT rfl ?_⟩
    refine ⟨_, rfl, p, C, dx, _, _, rfl, h1, CF.cl, CF.nD, rfl, _, rfl, q, C, dy, _, _, rfl, k1, CF.cl, CF.nD, rfl, _, _, Dp.q4 (SqT.of h2), Dp.q4 (SqT.of k2), rfl, rfl, ?_⟩
    rw [eqv_q4]
    exact k
/-! ### the law's own helpers -/
def spFour (K : PySem.W.Frag) (C : Addr) : Sp := fun vs H Q _ => ∃ (t : Addr) (u : Q4), vs = [.ref t] ∧ SqT K H t u.vs ∧ u.Par ∧ ∀ r H', H r = none → Same H H' → FourAt C H' r u → Q (.ref r) H'
def spTimes (K : PySem.W.Frag) : Sp := fun vs H Q _ => ∃ (t t' : Addr) (u v : Q4), vs = [.ref t, .ref t'] ∧ SqT K H t u.vs ∧ SqT K H t' v.vs ∧ mulOk u v ∧ ∀ r, H r = none → Q (.ref r) (upd H r (.tup (Q4.mul u v).vs))
def spSize (K : PySem.W.Frag) : Sp := fun vs H Q _ => ∃ (t : Addr) (u : Q4) (n : Nat), vs = [.ref t] ∧ SqT K H t u.vs ∧ 0 < n ∧ n ≤ 400000 ∧ u.Bd n ∧ ∀ H', Same H H' → Q (.int u.size) H'
end
end G
set_option Elab.async false
set_option linter.all false
set_option maxRecDepth 100000
set_option maxHeartbeats 1000000
namespace G
open PySem PySem.Spec PyProof.Rows L2 RZ StX
/-! ### readings by fours -/
theorem opr_imp {X : Cx} {f : Value → Value → Sem Value} {r r' : R2} (h : OpR X f r) (i : ∀ x y H Q, r' x y H Q → r x y H Q) : OpR X f r' := fun pins s σ H x y v u Q I rx ry q => h pins s σ H x y v u Q I rx ry (i x y H Q q)
theorem unr_imp {X : Cx} {f : Value → Sem Value} {r r' : V → Hp → VK → Prop} (h : UnR X f r) (i : ∀ x H Q, r' x H Q → r x H Q) : UnR X f r' := fun pins s σ H x v Q I rx q => h pins s σ H x v Q I rx (i x H Q q)
def rF2 (C : Addr) (g : Q4 → Q4 → Q4) (ok : Q4 → Q4 → Prop) : R2 := fun x y H Q => ∃ p q u v, x = .ref p ∧ y = .ref q ∧ FourAt C H p u ∧ FourAt C H q v ∧ ok u v ∧ ∀ r H', H r = none → Same H H' → FourAt C H' r (g u v) → Q (.ref r) H'
def rFne (C : Addr) : R2 := fun x y H Q => ∃ p q u v, x = .ref p ∧ y = .ref q ∧ FourAt C H p u ∧ FourAt C H q v ∧ Q (.bl (!decide (u = v))) H
def rFeq (C : Addr) : R2 := fun x y H Q => ∃ p q u v, x = .ref p ∧ y = .ref q ∧ FourAt C H p u ∧ FourAt C H q v ∧ Q (.bl (decide (u = v))) H
def rF1 (C : Addr) (g : Q4 → Q4) : V → Hp → VK → Prop := fun x H Q => ∃ p u, x = .ref p ∧ FourAt C H p u ∧ ∀ r H', H r = none → Same H H' → FourAt C H' r (g u) → Q (.ref r) H'
section
variable {X : Cx} {C : Addr} {k : Nat} {ps : List Str} {g : Q4 → Q4 → Q4} {g1 : Q4 → Q4} {ok : Q4 → Q4 → Prop} {m : Str}
theorem op_F2 {op : Operator} (c : ClsFacts X.K X.mg "Four" C) (M : MethOk X.prog X.w X.K X.mg X.base C m k ps (spBin C g ok)) (hr : Room k X.A) (hm : PySem.dunder op.info.2 = m := by decide +kernel) : OpR X (binaryOp op) (rF2 C g ok) :=
  opr_imp (op_ownD c M hr hm) fun x y H Q ⟨p, q, u, v, ex, ey, hu, hv, o, z⟩ => by
    obtain ⟨pu, dx, t, h1, h2⟩ := id hu
    obtain ⟨pv', dy, t', k1, k2⟩ := id hv
    exact ⟨p, q, dx, dy, _, _, ex, ey, h1, k1, p, q, u, v, rfl, hu, hv, o, z⟩
theorem op_Fne (c : ClsFacts X.K X.mg "Four" C) (M : MethOk X.prog X.w X.K X.mg X.base C "__eq__" k ps (spEqP C)) (hne : PySem.W.findIn X.K (.ref C) "__ne__" = some (some (.builtin "object.__ne__"))) (hr : Room (k + 1) X.A) : OpR X (compareOp .NotEq) (rFne C) :=
  opr_imp (op_neOwnD c M hne hr) fun x y H Q ⟨p, q, u, v, ex, ey, hu, hv, z⟩ => by
    obtain ⟨pu, dx, t, h1, h2⟩ := id hu
    obtain ⟨pv', dy, t', k1, k2⟩ := id hv
    exact ⟨p, q, dx, dy, _, _, ex, ey, h1, k1, p, q, u, v, rfl, hu, hv, _, rfl, z⟩
theorem op_Feq (M : MethOk X.prog X.w X.K X.mg X.base C "__eq__" k ps (spEqP C)) (hr : Room k X.A) : OpR X (compareOp .Eq) (rFeq C) :=
  opr_imp (op_eqOwnD M hr) fun x y H Q ⟨p, q, u, v, ex, ey, hu, hv, z⟩ => by
    obtain ⟨pu, dx, t, h1, h2⟩ := id hu
    obtain ⟨pv', dy, t', k1, k2⟩ := id hv
    exact ⟨p, q, dx, dy, _, _, ex, ey, h1, k1, p, q, u, v, rfl, hu, hv, z⟩
theorem un_F1 (M : MethOk X.prog X.w X.K X.mg X.base C "__neg__" k ps (spUn C g1)) (hr : Room k X.A) : UnR X (unaryOp .USub) (rF1 C g1) :=
  unr_imp (un_ownD M hr) fun x H Q ⟨p, u, ex, hu, z⟩ => by
    obtain ⟨pu, dx, t, h1, h2⟩ := id hu
    exact ⟨p, dx, _, ex, h1, p, u, rfl, hu, z⟩
variable {o e : Expr} {ta : TE} {apos pos : Pos} {pl : Sem Bool}
def tF1 (C : Addr) (g : Q4 → Q4) (ta : TE) : TE := fun σ H Q => ta σ H fun x H1 => rF1 C g x H1 Q
theorem pe_F1 (he : PE X o ta) (c : ClsFacts X.K X.mg "Four" C) (M : MethOk X.prog X.w X.K X.mg X.base C m k ps (spUn C g1)) (hr : Room k X.A) (hnm : (m == ("doubled" : Str)) = false := by decide +kernel)
    (ht : eval (.Call (.Attribute o m apos) [] [] pos) X.env = (do
      let ov ← eval o X.env
      standAt apos.atName
      let (f, first) ← holding [ov] (getMethod ov m pl)
      callWith pos f first (backTo pos (starEach [] X.env)) (backToKw pos (keywordEach [] X.env))) := by rfl) : PE X (.Call (.Attribute o m apos) [] [] pos) (tF1 C g1 ta) := by
  obtain ⟨f, fd, F, hm, hb⟩ := M.ex
  have key : PE X (.Call (.Attribute o m apos) [] [] pos) (fun σ H Q => ta σ H fun x H1 => ∃ a dx fs, x = .ref a ∧ H1 a = some (.ins C dx fs) ∧ fs.lookup m = none ∧ spUn C g1 [.ref a] H1 Q E0) := pe_imp (pe_meth0 he c.cl hm F hr hb .nil pass0 ht) fun σ H Q h => by
    unfold tMeth
    refine cast (congrArg (ta σ H) ?_) h
    funext x H1
    apply propext
    constructor
    · rintro ⟨a, dx, fs, rfl, h1, h2, h3⟩; exact ⟨a, dx, fs, rfl, h1, h2, h3⟩
    · rintro ⟨a, dx, fs, rfl, h1, h2, h3⟩; exact ⟨a, dx, fs, rfl, h1, h2, h3⟩
  refine pe_imp key fun σ H Q h => cast (congrArg (ta σ H) ?_) h
  funext x H1
  apply propext
  constructor
  · rintro ⟨p, u, rfl, hu, z⟩
    obtain ⟨pu, dx, t, h1, h2⟩ := id hu
    exact ⟨p, dx, _, rfl, h1, by simp [List.lookup, hnm], p, u, rfl, hu, z⟩
  · rintro ⟨a, dx, fs, rfl, h1, h2, p, u, e, hu, z⟩
    cases e
    exact ⟨_, u, rfl, hu, z⟩
def tFh (C : Addr) (ta : TE) : TE := fun σ H Q => ta σ H fun x H1 => ∃ p u, x = .ref p ∧ FourAt C H1 p u ∧ ∀ t, H1 t = some (.tup u.vs) → Q (.ref t) H1
def tFs (C : Addr) (ta : TE) : TE := fun σ H Q => ta σ H fun x H1 => ∃ p u n, x = .ref p ∧ FourAt C H1 p u ∧ 0 < n ∧ n ≤ 400000 ∧ u.Bd n ∧ Q (.int u.size) H1
theorem pe_Fh (he : PE X e ta) (c : ClsFacts X.K X.mg "Four" C) (M : PropOk X.prog X.w X.K X.mg X.base C m k ps (spHalvesP C)) (hr : Room (k + 1) X.A) (hab : attributeBase e m X.env (eval e X.env) = eval e X.env := by rfl) : PE X (.Attribute e m pos) (tFh C ta) := by
  refine pe_imp (pe_propD he c.cl M hr hab) fun σ H Q h => cast (congrArg (ta σ H) ?_) h
  funext x H1
  apply propext
  constructor
  · rintro ⟨p, u, rfl, hu, z⟩
    obtain ⟨pu, dx, t, h1, h2⟩ := id hu
    exact ⟨p, dx, _, rfl, h1, p, u, rfl, hu, z⟩
  · rintro ⟨a, dx, fs, rfl, h1, p, u, e, hu, z⟩
    cases e
    exact ⟨_, u, rfl, hu, z⟩
theorem pe_Fs (he : PE X e ta) (c : ClsFacts X.K X.mg "Four" C) (M : PropOk X.prog X.w X.K X.mg X.base C m k ps (spSizeP C)) (hr : Room (k + 1) X.A) (hab : attributeBase e m X.env (eval e X.env) = eval e X.env := by rfl) : PE X (.Attribute e m pos) (tFs C ta) := by
  refine pe_imp (pe_propD he c.cl M hr hab) fun σ H Q h => cast (congrArg (ta σ H) ?_) h
  funext x H1
  apply propext
  constructor
  · rintro ⟨p, u, n, rfl, hu, a, b, c, z⟩
    obtain ⟨pu, dx, t, h1, h2⟩ := id hu
    exact ⟨p, dx, _, rfl, h1, p, u, n, rfl, hu, a, b, c, z⟩
  · rintro ⟨a, dx, fs, rfl, h1, p, u, n, e, hu, a, b, c, z⟩
    cases e
    exact ⟨_, u, n, rfl, hu, a, b, c, z⟩
end
end G
set_option Elab.async false
set_option linter.all false
set_option maxRecDepth 100000
set_option maxHeartbeats 1000000
namespace G
open PySem PySem.Spec PyProof.Rows L2 RZ StX
/-! ### lists of fours, lists of rows -/
theorem nx_norm2 {f : L2.St → Hp → Prop} {σ σ' : L2.St} {H H' : Hp} (e : σ = σ') (e2 : H = H') (h : f σ' H') : f σ H := by subst e; subst e2; exact h
def RF (C : Addr) : Addr → Addr → Hp → Prop := fun a b H => ∃ u, FourAt C H a u ∧ FourAt C H b u
theorem monF {C : Addr} : Mon (DIns C (RF C)) := mon_ins fun a b H H' e ⟨u, h1, h2⟩ => ⟨u, h1.same e, h2.same e⟩
theorem eq_weak {C : Addr} : ∀ vs H Q E, spEq (RF C) vs H Q E → spEqP C vs H Q E := by
  rintro vs H Q E ⟨a, b, rfl, ⟨u, h1, h2⟩, q⟩
  refine ⟨a, b, u, u, rfl, h1, h2, ?_⟩
  rw [decide_eq_true rfl]
  exact q H (fun _ _ e => e)
section
variable {X : Cx} {C : Addr} {k : Nat} {ps : List Str}
theorem op_neFL (M : MethOk X.prog X.w X.K X.mg X.base C "__eq__" k ps (spEqP C)) (hr : Room (k + 1) X.A) : OpR X (compareOp .NotEq) (rNeG (DIns C (RF C))) := by
  obtain ⟨f, fd, F, h, hb⟩ := M.ex
  exact op_neG monF (eqG_ins (E := E0) (F.imp eq_weak) h.at_ h.fn hb pass0) hr
theorem op_eqFL (M : MethOk X.prog X.w X.K X.mg X.base C "__eq__" k ps (spEqP C)) (hr : Room (k + 1) X.A) : OpR X (compareOp .Eq) (rEqG (DList (DIns C (RF C)))) := by
  obtain ⟨f, fd, F, h, hb⟩ := M.ex
  exact op_eqG (rcG_list monF (eqG_ins (E := E0) (F.imp eq_weak) h.at_ h.fn hb pass0)) hr
end
theorem din {C : Addr} {H : Hp} {a b : Addr} {u : Q4} (h1 : FourAt C H a u) (h2 : FourAt C H b u) : DIns C (RF C) (.ref a) (.ref b) H := by
  obtain ⟨_, dx, _, e1, _⟩ := id h1
  obtain ⟨_, dy, _, e2, _⟩ := id h2
  exact ⟨a, b, dx, dy, _, _, rfl, rfl, e1, e2, u, h1, h2⟩
/-- two rows of the same halves -/
theorem EqV.row {K : PySem.W.Frag} {H : Hp} {t t' : Addr} {u : Q4} (h1 : SqT K H t u.vs) (h2 : SqT K H t' u.vs) : EqV K H 2 (.ref t) (.ref t') := by
  refine .inr ⟨t, t', u.vs, u.vs, rfl, rfl, .inr ⟨h1, h2⟩, rfl, by show 4 ≤ 1000; decide, fun i x y hx hy => ?_⟩
  rw [hx] at hy
  cases hy
  match i, hx with
  | 0, hx => cases hx; exact .inl ⟨rfl, rfl⟩
  | 1, hx => cases hx; exact .inl ⟨rfl, rfl⟩
  | 2, hx => cases hx; exact .inl ⟨rfl, rfl⟩
  | 3, hx => cases hx; exact .inl ⟨rfl, rfl⟩
/-- two lists of four such rows -/
theorem EqV.rows4 {K : PySem.W.Frag} {H : Hp} {a b t1 t2 t3 t4 s1 s2 s3 s4 : Addr} {u1 u2 u3 u4 : Q4} (h1 : H a = some (.lst [.ref t1, .ref t2, .ref t3, .ref t4])) (h2 : H b = some (.lst [.ref s1, .ref s2, .ref s3, .ref s4]))
    (a1 : SqT K H t1 u1.vs) (a2 : SqT K H t2 u2.vs) (a3 : SqT K H t3 u3.vs) (a4 : SqT K H t4 u4.vs) (b1 : SqT K H s1 u1.vs) (b2 : SqT K H s2 u2.vs) (b3 : SqT K H s3 u3.vs) (b4 : SqT K H s4 u4.vs) : EqV K H 3 (.ref a) (.ref b) := by
  refine .inr ⟨a, b, _, _, rfl, rfl, .inl ⟨h1, h2⟩, rfl, by show 4 ≤ 1000; decide, fun i x y hx hy => ?_⟩
  match i, hx, hy with
  | 0, hx, hy => cases hx; cases hy; exact EqV.row a1 b1
  | 1, hx, hy => cases hx; cases hy; exact EqV.row a2 b2
  | 2, hx, hy => cases hx; cases hy; exact EqV.row a3 b3
  | 3, hx, hy => cases hx; cases hy; exact EqV.row a4 b4
/-- a comprehension over the zip of two rows: a list of four ints -/
theorem zip4 {K : PySem.W.Frag} {t1 t2 D : Addr} {u v : Q4} {H : Hp} (g : Int → Int → Int) {Qd : Hp → Prop} {Bd' : (Hp → Prop) → V → Hp → Prop} (h1 : H t1 = some (.tup u.vs)) (h2 : H t2 = some (.tup v.vs)) (nD : H D = none)
    (turn : ∀ (N : Hp → Prop) (x y : Int) (T : Addr) (H' : Hp) (acc : List V), H' T = none → H' D = some (.lst acc) → acc.length ≤ 4 → T ≠ D → N (upd (upd H' T (.tup [.int x, .int y])) D (.lst (acc ++ [.int (g x y)]))) → Bd' N (.ref T) (upd H' T (.tup [.int x, .int y])))
    (hd : ∀ H', Same H H' → H' D = some (.lst [.int (g u.a v.a), .int (g u.b v.b), .int (g u.c v.c), .int (g u.d v.d)]) → Qd H') :
    ∃ W : Nat → Nat → Hp → Prop, (∃ m, W 0 m (upd H D (.lst []))) ∧ ∀ i m H, W i m H → ((ItzT K t1 t2).stop i H ∧ Qd H) ∨ ((ItzT K t1 t2).go i H ∧ ∃ Nx : Hp → Prop, (∀ H', Nx H' → ∃ m', m' < m ∧ W (i + 1) m' H') ∧ ∀ x H', (ItzT K t1 t2).yld i H x H' → Bd' Nx x H') := by
  have key : ∀ (i : Nat) (x y : V), u.vs[i]? = some x → v.vs[i]? = some y → ∃ p q : Int, x = .int p ∧ y = .int q ∧ [g u.a v.a, g u.b v.b, g u.c v.c, g u.d v.d][i]? = some (g p q) ∧ i < 4 := by
    intro i x y hx hy
    match i, hx, hy with
    | 0, hx, hy => cases hx; cases hy; exact ⟨_, _, rfl, rfl, rfl, by decide⟩
    | 1, hx, hy => cases hx; cases hy; exact ⟨_, _, rfl, rfl, rfl, by decide⟩
    | 2, hx, hy => cases hx; cases hy; exact ⟨_, _, rfl, rfl, rfl, by decide⟩
    | 3, hx, hy => cases hx; cases hy; exact ⟨_, _, rfl, rfl, rfl, by decide⟩
  refine zip_turns (xs := u.vs) (ys := v.vs) rfl (fun H' => SqT K H' t1 u.vs ∧ SqT K H' t2 v.vs) (fun i x y H' q hx hy => ⟨_, _, x, y, q.1, q.2, hx, hy⟩) (fun H' q => ⟨_, _, q.1, q.2, .inl (Nat.le_refl _)⟩) (fun i z H' H2 q hy => ?_)
    (fun i H' => Same H H' ∧ H' D = some (.lst (([g u.a v.a, g u.b v.b, g u.c v.c, g u.d v.d].take i).map V.int))) ⟨same_upd nD, upd_same⟩ (fun i H' q => ⟨SqT.of (q.1 _ _ h1), SqT.of (q.1 _ _ h2)⟩) ?_ ?_
  · obtain ⟨T, x', y', rfl, hT, rfl, f1, f2⟩ := hy
    exact ⟨T, x', y', rfl, hT, rfl, f1 _ q.1, f2 _ q.2⟩
  · rintro i x y T H' hx hy ⟨sm, hD⟩ nT
    obtain ⟨p, q, rfl, rfl, hg, hi⟩ := key i x y hx hy
    have nTD : T ≠ D := (ne_of_none hD nT).symm
    refine turn _ p q T H' _ nT hD (by rw [List.length_map, List.length_take]; omega) nTD ⟨?_, ?_⟩
    · intro b o e
      rw [upd_ne (ne_of_none e nD), upd_ne (ne_of_none (sm _ _ e) nT)]
      exact sm _ _ e
    · rw [upd_same, List.take_add_one, hg]
      simp
  · rintro H' ⟨sm, hD⟩
    exact hd H' sm hD
end G
set_option Elab.async false
set_option linter.all false
set_option maxRecDepth 100000
set_option maxHeartbeats 1000000
namespace G
open PySem PySem.Spec PyProof.Rows L2 RZ StX
/-- every half at most m in size -/
def Q4.Le (m : Int) (u : Q4) : Prop := (-m ≤ u.a ∧ u.a ≤ m) ∧ (-m ≤ u.b ∧ u.b ≤ m) ∧ (-m ≤ u.c ∧ u.c ≤ m) ∧ (-m ≤ u.d ∧ u.d ≤ m)
def spHalvesL : Sp := fun vs H Q _ => ∃ (p c : Addr) (m : Int), vs = [.ref p, .int m] ∧ 0 ≤ m ∧ m < 1000000000000 ∧ FeedAt H p c ∧ ∀ (H' : Hp) (t : Addr) (u : Q4), FeedAt H' p c → SameX p H H' → H t = none → H' t = some (.tup u.vs) → u.Par → u.Le (2 * m + 2) → u ≠ ⟨0, 0, 0, 0⟩ → Q (.ref t) H'
theorem SameX.free {p : Addr} {H H' : Hp} (e : SameX p H H') (h : ∃ o, H' p = some o) {l : Addr} (hl : H' l = none) : H l = none := by
  cases hh : H l with
  | none => rfl
  | some o =>
    rcases Decidable.em (l = p) with z | z
    · obtain ⟨o', h'⟩ := h
      rw [z, h'] at hl
      cases hl
    · rw [e l o z hh] at hl
      cases hl
section
variable {P : Program} {w : World} {K : PySem.W.Frag} {mg : Str → Option Value} {base : Heap}
theorem ok_halvesL {f : Addr} {fd : FuncData} (F : Fun K "_law_halves" "_law_halves" s_L_halves f fd) (B : Bn mg) (D_take : DefOk P w K mg base "_law_take" 1 ["_law_feed_here", "_law_many"] spTake) : FnOk P w K mg base CX0 2 f fd ["_law_feed_here", "_law_most"] spHalvesL := by
  refine F.ok sc_L_halves (fun vs H Q E h => ?_) (fun cdv A outer s H vs Q E hr h => ?_)
  · obtain ⟨p, c, m, rfl, _⟩ := h
    rfl
  · obtain ⟨p, c, m, rfl, m0, m9, hF, q⟩ := h
    refine ⟨_, (pss_cons (ps_set (i := 2) sc_L_halves.nd rfl (Or.inl rfl) (pe_callD D_take hr (pa_cons (pv 0) (pa_cons pe_int pa_nil))))
      (pss_cons (ps_set (i := 3) sc_L_halves.nd rfl (Or.inl rfl) (pe_lst pa_nil))
      (pss_cons (ps_for PassesOwn.never rfl (pi_range1 (by rfl) B.range (pa_cons pe_int pa_nil)) (pg_name (i := 4) sc_L_halves.nd rfl (Or.inl rfl)) (pss_one (ps_expr (pe_bm PySem.F.plainAttrs_list PySem.F.slot_list_append PySem.F.type_list_append mt_append (pv 3) (pa_cons (pe_op op_add (pe_op op_mulW pe_int (pe_op op_sub (pe_callD D_take hr (pa_cons (pv 0) (pa_cons (pe_op op_add (pe_op op_mulW pe_int (pv 1)) pe_int) pa_nil))) (pv 1))) (pv 2)) pa_nil)))))
      (pss_cons (ps_if (pt_cmpR (op_eqD hr.units) (pv 3) (pe_lst (pa_cons pe_int (pa_cons pe_int (pa_cons pe_int (pa_cons pe_int pa_nil))))) (nomark _)) (pss_one (ps_set (i := 3) sc_L_halves.nd rfl (Or.inl rfl) (pe_lst (pa_cons pe_int (pa_cons pe_int (pa_cons pe_int (pa_cons pe_int pa_nil))))))) pss_nil)
      (pss_one (ps_ret (pe_callTy call_tuple_of (by rfl) B.tuple (by decide +kernel) (pa_cons (pv 3) pa_nil)))))))), ?_⟩
    refine ⟨_, rfl, p, c, 2, rfl, by decide, by decide +kernel, hF, fun H1 o o0 o1 hF1 sm1 => ?_⟩
    refine ⟨Nat.zero_le _, fun l nl => ?_⟩
    obtain ⟨nlp, nlc⟩ := hF1.ne nl
    refine ⟨4, rfl, by decide, by decide, for_range (n := 4) (fun i σ H' => ∃ (ns : List Int) (x : Option V), σ = [some (.ref p), some (.int m), some (.int o), some (.ref l), x] ∧ FeedAt H' p c ∧ SameX p H1 H' ∧ H' l = some (.lst (ns.map V.int)) ∧ ns.length = i ∧ ∀ n ∈ ns, n % 2 = o ∧ -(2 * m + 2) ≤ n ∧ n ≤ 2 * m + 2) ⟨[], none, rfl, hF1.same (same_upd nl), .of (same_upd nl), upd_same, rfl, fun n hn => by cases hn⟩ ?_ ?_⟩
    · rintro i σ H' hi ⟨ns, x, rfl, hF2, sm2, hl, hlen, hn⟩
      refine ⟨_, rfl, .inl ⟨rfl, _, SqL.of hl⟩, ?_⟩
      refine ⟨_, rfl, _, rfl, _, _, rfl, rfl, mw (by decide) (by omega), _, _, rfl, rfl, p, c, 2 * m + 1, rfl, by omega, lg (by omega), hF2, fun H3 r r0 r1 hF3 sm3 => ?_⟩
      refine ⟨_, rfl, _, _, rfl, rfl, _, _, rfl, rfl, mw (by decide) (by omega), _, rfl, _, _, rfl, rfl, ?_⟩
      have hl3 := sm3 _ _ nlp hl
      refine ⟨l, _, _, rfl, rfl, hl3, by rw [List.length_map]; exact small1000 (by omega), ?_⟩
      refine ⟨ns ++ [2 * (r - m) + o], _, rfl, ?_, ?_, ?_, ?_, ?_⟩
      · exact hF3.upd nlp nlc
      · intro b ob nb e
        rw [upd_ne (ne_of_none e nl)]
        exact sm3 _ _ nb (sm2 _ _ nb e)
      · rw [upd_same, List.map_append]; rfl
      · rw [List.length_append, hlen]; rfl
      · intro n hn'
        rcases List.mem_append.mp hn' with h | h
        · exact hn n h
        · have : n = 2 * (r - m) + o := by simpa using h
          subst this
          refine ⟨by omega, by omega, by omega⟩
    · rintro σ H' ⟨ns, x, rfl, hF2, sm2, hl, hlen, hn⟩
      obtain ⟨a, b, c', d, rfl⟩ : ∃ a b c' d, ns = [a, b, c', d] := by
        match ns, hlen with
        | [a, b, c', d], _ => exact ⟨a, b, c', d, rfl⟩
      have ha := hn a (by simp)
      have hb := hn b (by simp)
      have hc := hn c' (by simp)
      have hd := hn d (by simp)
      have sm0 : SameX p H H' := sm1.trans sm2
      have fin : ∀ (u : Q4) (l' : Addr) (H2 : Hp), Same H' H2 → SqL K H2 l' u.vs → u.Par → u.Le (2 * m + 2) → u ≠ ⟨0, 0, 0, 0⟩ → ∀ t, H2 t = none → Q (.ref t) (upd H2 t (.tup u.vs)) := by
        intro u l' H2 s2 hL pu lu nu t nt
        refine q _ t u ((hF2.same s2).same (same_upd nt)) ((sm0.trans (.of s2)).trans (.of (same_upd nt))) ?_ upd_same pu lu nu
        exact sm0.free hF2.some (s2.free nt)
      refine ⟨_, rfl, (by show 4 ≤ sizeLine; decide), fun z nz => ?_⟩
      have sz := same_upd (o := .lst [.int 0, .int 0, .int 0, .int 0]) nz
      refine ⟨.list [.int a, .int b, .int c', .int d], .list [.int 0, .int 0, .int 0, .int 0], .lst (SqL.of (sz _ _ hl)) (.cons (.int _) (.cons (.int _) (.cons (.int _) (.cons (.int _) .nil)))), .lst (SqL.of upd_same) (.cons (.int _) (.cons (.int _) (.cons (.int _) (.cons (.int _) .nil)))), rfl, rfl, _, rfl, ?_⟩
      have ev : PyData.eqv (.list [.int a, .int b, .int c', .int d]) (.list [.int 0, .int 0, .int 0, .int 0]) = decide ((⟨a, b, c', d⟩ : Q4) = ⟨0, 0, 0, 0⟩) := eqv_q4 ⟨a, b, c', d⟩ ⟨0, 0, 0, 0⟩
      rw [ev]
      refine ite2 (fun h => ?_) (fun h => ?_)
      · refine ⟨(by show 4 ≤ sizeLine; decide), fun l2 nl2 => ?_⟩
        refine ⟨_, rfl, l2, _, rfl, .inl ⟨SqL.of upd_same, fun t nt => ?_⟩⟩
        exact fin ⟨2, 0, 0, 0⟩ l2 _ (sz.trans (same_upd nl2)) (SqL.of upd_same) ⟨rfl, rfl, rfl⟩ ⟨⟨by dsimp only; omega, by dsimp only; omega⟩, ⟨by dsimp only; omega, by dsimp only; omega⟩, ⟨by dsimp only; omega, by dsimp only; omega⟩, ⟨by dsimp only; omega, by dsimp only; omega⟩⟩ (by decide) t nt
      · refine ⟨_, rfl, l, _, rfl, .inl ⟨SqL.of (sz _ _ hl), fun t nt => ?_⟩⟩
        refine fin ⟨a, b, c', d⟩ l _ sz (SqL.of (sz _ _ hl)) ⟨?_, ?_, ?_⟩ ⟨⟨?_, ?_⟩, ⟨?_, ?_⟩, ⟨?_, ?_⟩, ⟨?_, ?_⟩⟩ (fun e => h (decide_eq_true e)) t nt <;> dsimp only <;> omega
end
end G
set_option Elab.async false
set_option linter.all false
set_option maxRecDepth 100000
set_option maxHeartbeats 1000000
namespace G
open PySem PySem.Spec PyProof.Rows L2 RZ StX
/-! ### a static method without arguments; a four of a starred row -/
theorem pe_fourS {X : Cx} {C : Addr} {x : Str} {p pos sp_ : Pos} {e : Expr} {te : TE} (I : InitOk X.prog X.w X.K X.mg X.base C) (hr : Room 4 X.A) (hm : X.mg x = some (.ref C)) (he : PE X e te) (hg : Gl X x := by rfl) (hd : (x == ("__debug__" : Str)) = false := by decide) (hst : starEach [.Starred e sp_] X.env = [(true, eval e X.env)] := by rfl) :
    PE X (.Call (.Name x p) [.Starred e sp_] [] pos) (fun σ H Q => te σ H fun y H1 => ∃ (a : Addr) (u : Q4), y = V.ref a ∧ (SqT X.K H1 a u.vs ∨ SqL X.K H1 a u.vs) ∧ u.Par ∧ ∀ z H2, H1 z = none → Same H1 H2 → FourAt C H2 z u → Q (.ref z) H2) := by
  obtain ⟨f, M, F⟩ := I.ex
  refine ⟨fun pins s σ H Q I h => wpAny_Call_Name_kw (ld_glob I hg hm ?_ hd)⟩
  refine PySem.W.callWith_S (h₀ := X.base) I.ok.mod.kin M.kp (thn (he.run pins s σ H _ I h) fun v s1 ⟨y, H1, I1, ry, a, u, ey, hxs, pu, q⟩ => ?_) hst
  subst ey
  obtain rfl : v = Value.ref a := ry
  exact star_any I1 hxs fun us s2 I2 rv => ⟨I2.kIn, run_makeR M F hr (E := E0) pass0 I2 rv (four_made pu q)⟩
end G
set_option Elab.async false
set_option linter.all false
set_option maxRecDepth 100000
set_option maxHeartbeats 1000000
namespace G
open PySem PySem.Spec PyProof.Rows L2 RZ StX
/-! ### lists of rows of ints -/
theorem sqt_updL {K : PySem.W.Frag} {H : Hp} {t D : Addr} {xs ys zs : List V} (h : SqT K H t xs) (hD : H D = some (.lst ys)) : SqT K (upd H D (.lst zs)) t xs := by
  rcases h with (h | ⟨o, h⟩) | h
  · exact .inl (.inl (by rw [upd_ne (ne_of h hD (by intro q; cases q))]; exact h))
  · exact .inl (.inr ⟨o, by rw [upd_ne (ne_of h hD (by intro q; cases q))]; exact h⟩)
  · exact .inr h
def rCatB (K : PySem.W.Frag) : R2 := fun x y H Q => ∃ a b xs ys, x = .ref a ∧ y = .ref b ∧ SqT K H a xs ∧ SqT K H b ys ∧ xs.length + ys.length ≤ 1000 ∧ ∀ r H', Same H H' → SqT K H' r (xs ++ ys) → Q (.ref r) H'
theorem op_catB {X : Cx} : OpR X (binaryOp .Add) (rCatB X.K) := opr_imp op_catA fun x y H Q ⟨a, b, xs, ys, ex, ey, h1, h2, hl, q⟩ =>
  ⟨a, b, xs, ys, ex, ey, h1, h2, Nat.le_of_lt (small1000 hl), fun e => q b H (.refl _) (by rw [e]; exact h2), fun _ e => q a H (.refl _) (by rw [e, List.append_nil]; exact h1), fun _ _ p np => q p _ (same_upd np) (SqT.of upd_same)⟩
def rRepB (K : PySem.W.Frag) : R2 := fun x y H Q => ∃ (l : Addr) (k : Int) (xs : List V), x = .ref l ∧ y = .int k ∧ SqT K H l xs ∧ xs ≠ [] ∧ 0 ≤ k ∧ k ≤ 1000 ∧ xs.length ≤ 1000 ∧ ∀ r H', Same H H' → SqT K H' r (List.replicate k.toNat xs).flatten → Q (.ref r) H'
theorem op_repB {X : Cx} : OpR X (binaryOp .Mult) (rRepB X.K) := opr_imp op_repA fun x y H Q ⟨l, k, xs, ex, ey, h1, h2, h3, h4, h5, q⟩ =>
  ⟨l, k, xs, ex, ey, h1, h2, h3, h4, h5, fun e => q l H (.refl _) (by subst e; simpa using h1), fun _ p np => q p _ (same_upd np) (SqT.of upd_same)⟩
/-- a list at l of rows -/
def RowsAt (K : PySem.W.Frag) (H : Hp) (l : Addr) (cs : List (List Int)) : Prop := ∃ ts : List Addr, H l = some (.lst (ts.map V.ref)) ∧ ts.length = cs.length ∧ ∀ (j : Nat) (t : Addr) (c : List Int), ts[j]? = some t → cs[j]? = some c → SqT K H t (c.map V.int)
/-- the first i of the rows fs made, in the list at D -/
def Made (K : PySem.W.Frag) (H0 : Hp) (D : Addr) (fs : List (List Int)) (i : Nat) (H' : Hp) : Prop := Same H0 H' ∧ ∃ ts : List Addr, H' D = some (.lst (ts.map V.ref)) ∧ ts.length = i ∧ ∀ (j : Nat) (t : Addr) (c : List Int), ts[j]? = some t → fs[j]? = some c → SqT K H' t (c.map V.int)
theorem Made.zero {K : PySem.W.Frag} {H0 : Hp} {D : Addr} {fs : List (List Int)} (nD : H0 D = none) : Made K H0 D fs 0 (upd H0 D (.lst [])) := ⟨same_upd nD, [], upd_same, rfl, fun j t c h => by simp at h⟩
theorem Made.snoc {K : PySem.W.Frag} {H0 H' H4 : Hp} {D r : Addr} {fs : List (List Int)} {i : Nat} {c : List Int} (h : Made K H0 D fs i H') (s : Same H' H4) (nD : H0 D = none) (hc : fs[i]? = some c) (hr : SqT K H4 r (c.map V.int)) (hi : i ≤ 1000) :
    ∃ acc, H4 D = some (.lst acc) ∧ acc.length < sizeLine ∧ Made K H0 D fs (i + 1) (upd H4 D (.lst (acc ++ [.ref r]))) := by
  obtain ⟨sm, ts, hD, hl, ht⟩ := h
  have hD4 := s _ _ hD
  refine ⟨_, hD4, by rw [List.length_map, hl]; exact small1000 hi, fun b o e => ?_, ts ++ [r], ?_, ?_, ?_⟩
  · rw [upd_ne (ne_of_none e nD)]
    exact s _ _ (sm _ _ e)
  · rw [upd_same, List.map_append]; rfl
  · rw [List.length_append, hl]; rfl
  · intro j t c' hj hc'
    refine sqt_updL ?_ hD4
    rcases Nat.lt_or_ge j ts.length with q | q
    · rw [List.getElem?_append_left q] at hj
      exact s.tup (ht j t c' hj hc')
    · have e : j = ts.length := by
        have := (List.getElem?_eq_some_iff.mp hj).1
        rw [List.length_append, List.length_singleton] at this
        omega
      subst e
      rw [List.getElem?_append_right (Nat.le_refl _), Nat.sub_self] at hj
      cases hj
      rw [hl, hc] at hc'
      cases hc'
      exact hr
theorem Made.rows {K : PySem.W.Frag} {H0 H' : Hp} {D : Addr} {fs : List (List Int)} (h : Made K H0 D fs fs.length H') : RowsAt K H' D fs := by
  obtain ⟨_, ts, hD, hl, ht⟩ := h
  exact ⟨ts, hD, hl, ht⟩
theorem RowsAt.same {K : PySem.W.Frag} {H H' : Hp} {l : Addr} {cs : List (List Int)} (h : RowsAt K H l cs) (s : Same H H') : RowsAt K H' l cs := by
  obtain ⟨ts, h1, h2, h3⟩ := h
  exact ⟨ts, s _ _ h1, h2, fun j t c a b => s.tup (h3 j t c a b)⟩
theorem RowsAt.cat {K : PySem.W.Frag} {H : Hp} {l m p : Addr} {xs ys : List V} {cs ds : List (List Int)} (h : RowsAt K H l cs) (k : RowsAt K H m ds) (hx : H l = some (.lst xs)) (hy : H m = some (.lst ys)) (np : H p = none) : RowsAt K (upd H p (.lst (xs ++ ys))) p (cs ++ ds) := by
  obtain ⟨ts, h1, h2, h3⟩ := h
  obtain ⟨us, k1, k2, k3⟩ := k
  rw [h1] at hx; cases hx
  rw [k1] at hy; cases hy
  refine ⟨ts ++ us, by rw [upd_same, List.map_append], by rw [List.length_append, List.length_append, h2, k2], fun j t c a b => (same_upd np).tup ?_⟩
  rcases Nat.lt_or_ge j ts.length with q | q
  · rw [List.getElem?_append_left q] at a
    rw [List.getElem?_append_left (by omega)] at b
    exact h3 j t c a b
  · rw [List.getElem?_append_right q] at a
    rw [List.getElem?_append_right (by omega), ← h2] at b
    exact k3 _ t c a b
end G
set_option Elab.async false
set_option linter.all false
set_option maxRecDepth 100000
set_option maxHeartbeats 1000000
namespace G
open PySem PySem.Spec PyProof.Rows L2 RZ StX
/-! ### the law's own units -/
def unitRows : List (List Int) := [[-2, 0, 0, 0], [-1, -1, -1, -1], [-1, -1, -1, 1], [-1, -1, 1, -1], [-1, -1, 1, 1], [-1, 1, -1, -1], [-1, 1, -1, 1], [-1, 1, 1, -1], [-1, 1, 1, 1], [0, -2, 0, 0], [0, 0, -2, 0], [0, 0, 0, -2], [0, 0, 0, 2], [0, 0, 2, 0], [0, 2, 0, 0], [1, -1, -1, -1], [1, -1, -1, 1], [1, -1, 1, -1], [1, -1, 1, 1], [1, 1, -1, -1], [1, 1, -1, 1], [1, 1, 1, -1], [1, 1, 1, 1], [2, 0, 0, 0]]
/-- rows of i ones with their signs -/
def signs : Nat → List (List Int)
  | 0 => [[]]
  | i + 1 => (signs i).map (· ++ [-1]) ++ (signs i).map (· ++ [1])
theorem signs_len : ∀ i, (signs i).length = 2 ^ i
  | 0 => rfl
  | i + 1 => by
    show ((signs i).map _ ++ (signs i).map _).length = _
    rw [List.length_append, List.length_map, List.length_map, signs_len i, Nat.pow_succ]
    omega
def axes (i : Nat) : List (List Int) := [2, -2].map fun s => List.replicate i 0 ++ [s] ++ List.replicate (3 - i) 0
def both : Nat → List (List Int)
  | 0 => signs 4
  | i + 1 => both i ++ axes i
theorem RowsAt.sorted {K : PySem.W.Frag} {H : Hp} {l p : Addr} {xs ys : List V} {cs ds : List (List Int)} {k : V → List Int} (h : RowsAt K H l cs) (hx : H l = some (.lst xs)) (hk : ∀ x c, RowV K H x c → k x = c) (hs : ys.Pairwise (fun x y => rowLt (k y) (k x) = false)) (hp : ys.Perm xs) (np : H p = none)
    (hd : ds.Pairwise (fun x y => rowLt y x = false)) (pd : cs.Perm ds) : RowsAt K (upd H p (.lst ys)) p ds := by
  obtain ⟨ts, h1, h2, h3⟩ := h
  rw [h1] at hx; cases hx
  have e1 : (ts.map V.ref).map k = cs := by
    refine List.ext_getElem? fun j => ?_
    rw [List.getElem?_map, List.getElem?_map]
    cases ej : ts[j]? with
    | none => rw [List.getElem?_eq_none_iff] at ej; rw [List.getElem?_eq_none_iff.mpr (by omega)]; rfl
    | some t =>
      have hj := (List.getElem?_eq_some_iff.mp ej).1
      have ec : cs[j]? = some cs[j] := List.getElem?_eq_getElem (by omega)
      rw [ec]
      exact congrArg some (hk _ _ ⟨t, rfl, h3 j t _ ej ec⟩)
  have e2 : ys.map k = ds := sorted_uniq (List.pairwise_map.mpr hs) hd (((hp.map k).trans (by rw [e1])).trans pd)
  have back : ∀ y ∈ ys, ∃ t c, y = V.ref t ∧ SqT K H t (c.map V.int) ∧ k y = c := fun y m => by
    have m' := hp.mem_iff.mp m
    obtain ⟨t, mt, rfl⟩ := List.mem_map.mp m'
    obtain ⟨j, hj, ej⟩ := List.getElem_of_mem mt
    have q1 : ts[j]? = some t := by rw [List.getElem?_eq_getElem hj, ej]
    have q2 : cs[j]? = some cs[j] := List.getElem?_eq_getElem (by omega)
    have q := h3 j t _ q1 q2
    exact ⟨t, _, rfl, q, hk _ _ ⟨t, rfl, q⟩⟩
  have refs : ∃ us : List Addr, ys = us.map V.ref := by
    clear e2 hp hs
    induction ys with
    | nil => exact ⟨[], rfl⟩
    | cons y ys ih =>
      obtain ⟨t, _, e, _⟩ := back y (.head _)
      obtain ⟨us, e'⟩ := ih fun z m => back z (.tail _ m)
      exact ⟨t :: us, by rw [e, e']; rfl⟩
  obtain ⟨us, rfl⟩ := refs
  refine ⟨us, upd_same, by rw [← e2, List.length_map, List.length_map], fun j t c a b => (same_upd np).tup ?_⟩
  rw [← e2, List.getElem?_map, List.getElem?_map, a] at b
  cases b
  obtain ⟨t', c, e, s, z⟩ := back (.ref t) (List.mem_map.mpr ⟨t, List.mem_of_getElem? a, rfl⟩)
  cases e
  show SqT K H t ((k (.ref t)).map V.int)
  rw [z]
  exact s
theorem RowsAt.row {K : PySem.W.Frag} {H : Hp} {l : Addr} {xs : List V} {cs : List (List Int)} (h : RowsAt K H l cs) (hx : H l = some (.lst xs)) (hn : ∀ c ∈ cs, c ≠ []) : ∀ x ∈ xs, ∃ c, RowV K H x c ∧ c ≠ [] := fun x m => by
  obtain ⟨ts, h1, h2, h3⟩ := h
  rw [h1] at hx; cases hx
  obtain ⟨t, mt, rfl⟩ := List.mem_map.mp m
  obtain ⟨j, hj, ej⟩ := List.getElem_of_mem mt
  have q2 : cs[j]? = some cs[j] := List.getElem?_eq_getElem (by omega)
  exact ⟨_, ⟨t, rfl, h3 j t _ (by rw [List.getElem?_eq_getElem hj, ej]) q2⟩, hn _ (List.mem_of_getElem? q2)⟩
theorem signs_row : ∀ i, ∀ c ∈ signs i, c.length = i
  | 0, c, m => by rw [List.mem_singleton.mp m]; rfl
  | i + 1, c, m => by
    rcases List.mem_append.mp m with m | m <;> obtain ⟨d, md, rfl⟩ := List.mem_map.mp m <;> rw [List.length_append, signs_row i d md] <;> rfl
theorem row_at {ts : List Addr} {cs : List (List Int)} {j : Nat} {x : V} (h : ts.length = cs.length) (hx : (ts.map V.ref)[j]? = some x) : ∃ t c, x = V.ref t ∧ ts[j]? = some t ∧ cs[j]? = some c := by
  rw [List.getElem?_map] at hx
  cases e : ts[j]? with
  | none => rw [e] at hx; cases hx
  | some t =>
    rw [e] at hx
    have hj := (List.getElem?_eq_some_iff.mp e).1
    exact ⟨t, cs[j], (Option.some.inj hx).symm, rfl, List.getElem?_eq_getElem (by omega)⟩
theorem repl_zero (n : Nat) : (List.replicate n [V.int 0]).flatten = List.replicate n (V.int 0) := by
  induction n with
  | zero => rfl
  | succ n ih => rw [List.replicate_succ, List.flatten_cons, ih]; rfl
def spUnitsL (K : PySem.W.Frag) : Sp := fun vs H Q _ => vs = [] ∧ ∀ p H', H p = none → Same H H' → RowsAt K H' p unitRows → Q (.ref p) H'
end G
set_option Elab.async false
set_option linter.all false
set_option maxRecDepth 100000
set_option maxHeartbeats 1000000
namespace G
open PySem PySem.Spec PyProof.Rows L2 RZ StX
/-! ### Four.units -/
theorem tame_four {C : Addr} : Tame (FourAt C) where
  same := fun h s => h.same s
  but := fun {H H' D t u ys} ⟨p, dx, z, h1, h2⟩ hD s => ⟨p, dx, z, s _ _ (ne_of h1 hD (by intro q; cases q)) h1, s _ _ (ne_of h2 hD (by intro q; cases q)) h2⟩
def q4of : List Int → Q4
  | [a, b, c, d] => ⟨a, b, c, d⟩
  | _ => ⟨0, 0, 0, 0⟩
def Q4.row (u : Q4) : List Int := [u.a, u.b, u.c, u.d]
theorem Q4.row_vs (u : Q4) : u.row.map V.int = u.vs := rfl
def unitFours : List Q4 := unitRows.map q4of
theorem unit_row {j : Nat} {c : List Int} (h : unitRows[j]? = some c) : ∃ u : Q4, unitFours[j]? = some u ∧ c = u.row ∧ u.Par := by
  have m := List.mem_of_getElem? h
  have key : ∀ c ∈ unitRows, c = (q4of c).row ∧ (q4of c).Par := by
    unfold Q4.Par
    decide
  refine ⟨q4of c, ?_, key c m⟩
  show (unitRows.map q4of)[j]? = _
  rw [List.getElem?_map, h]; rfl
def tFourS (K : PySem.W.Frag) (C : Addr) (te : TE) : TE := fun σ H Q => te σ H fun y H1 => ∃ (a : Addr) (u : Q4), y = V.ref a ∧ (SqT K H1 a u.vs ∨ SqL K H1 a u.vs) ∧ u.Par ∧ ∀ z H2, H1 z = none → Same H1 H2 → FourAt C H2 z u → Q (.ref z) H2
theorem RowsAt.objs {K : PySem.W.Frag} {H : Hp} {l : Addr} {cs : List (List Int)} (h : RowsAt K H l cs) : ObjsAt (RowAt K) H l cs := h
theorem EqV.rowI {K : PySem.W.Frag} {H : Hp} {t t' : Addr} {c : List Int} (h1 : RowAt K H t c) (h2 : RowAt K H t' c) (hl : c.length ≤ 1000) : EqV K H 2 (.ref t) (.ref t') := by
  refine .inr ⟨t, t', _, _, rfl, rfl, .inr ⟨h1, h2⟩, rfl, by rw [List.length_map]; exact hl, fun i x y hx hy => ?_⟩
  rw [hx] at hy
  cases hy
  rw [List.getElem?_map] at hx
  cases e : c[i]? with
  | none => rw [e] at hx; cases hx
  | some u => rw [e] at hx; cases hx; exact .inl ⟨rfl, rfl⟩
theorem EqV.rowsI {K : PySem.W.Frag} {H : Hp} {a b : Addr} {cs : List (List Int)} (h1 : ObjsAt (RowAt K) H a cs) (h2 : ObjsAt (RowAt K) H b cs) (hl : cs.length ≤ 1000) (hc : ∀ c ∈ cs, c.length ≤ 1000) : EqV K H 3 (.ref a) (.ref b) := by
  obtain ⟨ts, a1, a2, a3⟩ := h1
  obtain ⟨us, b1, b2, b3⟩ := h2
  refine .inr ⟨a, b, _, _, rfl, rfl, .inl ⟨a1, b1⟩, by rw [List.length_map, List.length_map, a2, b2], by rw [List.length_map, a2]; exact hl, fun i x y hx hy => ?_⟩
  obtain ⟨t, c, rfl, et, ec, _⟩ := ref_at a2 hx
  obtain ⟨t', c', rfl, et', ec', _⟩ := ref_at b2 hy
  rw [ec] at ec'; cases ec'
  exact EqV.rowI (a3 _ _ _ et ec) (b3 _ _ _ et' ec) (hc c (List.mem_of_getElem? ec))
def dRow (c : List Int) : PyData := .tuple (c.map PyData.int)
theorem dp_ints {K : PySem.W.Frag} {H : Hp} : ∀ c : List Int, DpAll K H (c.map V.int) (c.map PyData.int)
  | [] => .nil
  | x :: c => .cons (.int x) (dp_ints c)
theorem dp_rows {K : PySem.W.Frag} {H : Hp} : ∀ (ts : List Addr) (cs : List (List Int)), ts.length = cs.length → (∀ (j : Nat) (t : Addr) (c : List Int), ts[j]? = some t → cs[j]? = some c → RowAt K H t c) → DpAll K H (ts.map V.ref) (cs.map dRow)
  | [], [], _, _ => .nil
  | t :: ts, c :: cs, h, r => .cons (.tup (r 0 t c rfl rfl) (dp_ints c)) (dp_rows ts cs (by simpa using h) fun j t c a b => r (j + 1) t c a b)
  | [], _ :: _, h, _ => by simp at h
  | _ :: _, [], h, _ => by simp at h
theorem ObjsAt.dp {K : PySem.W.Frag} {H : Hp} {l : Addr} {cs : List (List Int)} (h : ObjsAt (RowAt K) H l cs) : Dp K H (.ref l) (.list (cs.map dRow)) := by
  obtain ⟨ts, h1, h2, h3⟩ := h
  exact .lst (SqL.of h1) (dp_rows ts cs h2 h3)
theorem eqv_row : ∀ c d : List Int, PyData.eqv (dRow c) (dRow d) = decide (c = d) := by
  have key : ∀ c d : List Int, PyData.eqvAll (c.map PyData.int) (d.map PyData.int) = decide (c = d) := by
    intro c
    induction c with
    | nil => intro d; cases d <;> rfl
    | cons x c ih =>
      intro d
      cases d with
      | nil => rfl
      | cons y d =>
        show (x == y && PyData.eqvAll (c.map PyData.int) (d.map PyData.int)) = _
        rw [ih, Bool.eq_iff_iff]
        simp
  intro c d
  exact key c d
def spUnits (C : Addr) : Sp := fun vs H Q _ => vs = [] ∧ ∀ p H', H p = none → Same H H' → ObjsAt (FourAt C) H' p unitFours → Q (.ref p) H'
end G
set_option Elab.async false
set_option linter.all false
set_option maxRecDepth 100000
set_option maxHeartbeats 1000000
namespace G
open PySem PySem.Spec PyProof.Rows L2 RZ StX
/-! ### common divisors -/
def spCommon : Sp := fun vs H Q _ => ∃ a b : Int, vs = [.int a, .int b] ∧ Q (.int (Int.gcd a b)) H
theorem abs_if (a : Int) : (if a < 0 then -a else a) = (a.natAbs : Int) := by split <;> omega
section
variable {P : Program} {w : World} {K : PySem.W.Frag} {mg : Str → Option Value} {base : Heap}
theorem ok_common {f : Addr} {fd : FuncData} {k : Nat} (F : Fun K "common" "common" s_common f fd) (B : Bn mg) : FnOk P w K mg base CX0 (k + 1) f fd ["one", "other"] spCommon := by
  refine F.ok sc_common (fun vs H Q E h => ?_) (fun cdv A outer s H vs Q E hr h => ?_)
  · obtain ⟨a, b, rfl, _⟩ := h
    rfl
  · obtain ⟨a, b, rfl, q⟩ := h
    refine ⟨_, (pss_cons (ps_par (i := 2) (j := 3) (by rfl) sc_common.nd rfl rfl (by decide) rfl rfl (pa_cons (pe_callB call_abs (by rfl) B.abs (by decide +kernel) (pa_cons (pv 0) pa_nil)) (pa_cons (pe_callB call_abs (by rfl) B.abs (by decide +kernel) (pa_cons (pv 1) pa_nil)) pa_nil)) (by rfl))
      (pss_cons (ps_while PassesOwn.never (pt_truth (pv 3) (by intro _; rfl)) (pss_one (ps_par (i := 2) (j := 3) (by rfl) sc_common.nd rfl rfl (by decide) rfl rfl (pa_cons (pv 3) (pa_cons (pe_op op_mod (pv 2) (pv 3)) pa_nil)) (by rfl))))
      (pss_one (ps_ret (pv 2))))), ?_⟩
    refine ⟨_, rfl, a, rfl, _, rfl, b, rfl, _, _, rfl, ?_⟩
    rw [abs_if, abs_if]
    dsimp only
    refine seq_mk ?_
    refine while_by (fun σ H' => H' = H ∧ ∃ x y : Nat, σ = [some (.int a), some (.int b), some (.int x), some (.int y)] ∧ Nat.gcd x y = Int.gcd a b) (fun σ _ => match σ with | [_, _, _, some (.int y)] => y.toNat | _ => 0) ⟨rfl, a.natAbs, b.natAbs, rfl, rfl⟩ ?_ ?_
    · rintro σ H' ⟨rfl, x, y, rfl, e⟩
      refine ⟨_, rfl, _, rfl, ?_⟩
      refine ite2 (fun h => ?_) (fun h => ?_)
      · have hy : y ≠ 0 := by rintro rfl; exact absurd h (by decide)
        refine ⟨_, rfl, _, rfl, _, rfl, _, _, rfl, rfl, (by show (0 : Int) < y; omega), _, _, rfl, ?_⟩
        refine ⟨⟨rfl, y, x % y, ?_, ?_⟩, ?_⟩
        · rfl
        · rw [← e, Nat.gcd_comm x y, Nat.gcd_rec y x, Nat.gcd_comm]
        · show ((x : Int) % (y : Int)).toNat < y
          rw [show ((x : Int) % (y : Int)) = ((x % y : Nat) : Int) from rfl, Int.toNat_natCast]
          exact Nat.mod_lt _ (Nat.pos_of_ne_zero hy)
      · have hy : y = 0 := by
          rcases Nat.eq_zero_or_pos y with h0 | h0
          · exact h0
          · exact absurd (show ((y : Int) != 0) = true by simp; omega) h
        subst hy
        refine ⟨_, rfl, ?_⟩
        rw [← e, Nat.gcd_zero_right] at q
        exact q
    · rintro σ H' Q Q' hq ⟨v, e, b, t, q⟩
      exact ⟨v, e, b, t, hq _ _ q⟩
theorem ok_gcd {f : Addr} {fd : FuncData} {k : Nat} (F : Fun K "_law_gcd" "_law_gcd" s_L_gcd f fd) (B : Bn mg) : FnOk P w K mg base CX0 (k + 1) f fd ["_law_one", "_law_other"] spCommon := by
  refine F.ok sc_L_gcd (fun vs H Q E h => ?_) (fun cdv A outer s H vs Q E hr h => ?_)
  · obtain ⟨a, b, rfl, _⟩ := h
    rfl
  · obtain ⟨a, b, rfl, q⟩ := h
    refine ⟨_, (pss_cons (ps_par (i := 0) (j := 1) (by rfl) sc_L_gcd.nd rfl rfl (by decide) rfl rfl (pa_cons (pe_callB call_abs (by rfl) B.abs (by decide +kernel) (pa_cons (pv 0) pa_nil)) (pa_cons (pe_callB call_abs (by rfl) B.abs (by decide +kernel) (pa_cons (pv 1) pa_nil)) pa_nil)) (by rfl))
      (pss_cons (ps_while PassesOwn.never (pt_cmpR op_ne (pv 1) pe_int (nomark _)) (pss_one (ps_par (i := 0) (j := 1) (by rfl) sc_L_gcd.nd rfl rfl (by decide) rfl rfl (pa_cons (pv 1) (pa_cons (pe_op op_mod (pe_callTy call_int1 (by rfl) B.int (by decide +kernel) (pa_cons (pv 0) pa_nil)) (pv 1)) pa_nil)) (by rfl))))
      (pss_one (ps_ret (pv 0))))), ?_⟩
    refine ⟨_, rfl, a, rfl, _, rfl, b, rfl, _, _, rfl, ?_⟩
    rw [abs_if, abs_if]
    dsimp only
    refine seq_mk ?_
    refine while_by (fun σ H' => H' = H ∧ ∃ x y : Nat, σ = [some (.int x), some (.int y)] ∧ Nat.gcd x y = Int.gcd a b) (fun σ _ => match σ with | [_, some (.int y)] => y.toNat | _ => 0) ⟨rfl, a.natAbs, b.natAbs, rfl, rfl⟩ ?_ ?_
    · rintro σ H' ⟨rfl, x, y, rfl, e⟩
      refine ⟨_, rfl, rfl, _, rfl, ?_⟩
      refine ite2 (fun h => ?_) (fun h => ?_)
      · have hy : y ≠ 0 := by rintro rfl; exact absurd h (by decide)
        refine ⟨_, rfl, _, rfl, .inl ⟨_, rfl, _, rfl, _, _, rfl, rfl, (by show (0 : Int) < y; omega), _, _, rfl, ?_⟩⟩
        refine ⟨⟨rfl, y, x % y, ?_, ?_⟩, ?_⟩
        · rfl
        · rw [← e, Nat.gcd_comm x y, Nat.gcd_rec y x, Nat.gcd_comm]
        · show ((x : Int) % (y : Int)).toNat < y
          rw [show ((x : Int) % (y : Int)) = ((x % y : Nat) : Int) from rfl, Int.toNat_natCast]
          exact Nat.mod_lt _ (Nat.pos_of_ne_zero hy)
      · have hy : y = 0 := by
          rcases Nat.eq_zero_or_pos y with h0 | h0
          · exact h0
          · exact absurd (show (!decide (V.int (y : Int) = V.int 0)) = true by simp; omega) h
        subst hy
        refine ⟨_, rfl, ?_⟩
        rw [← e, Nat.gcd_zero_right] at q
        exact q
    · rintro σ H' Q Q' hq ⟨v, e, h, b, e2, q⟩
      exact ⟨v, e, h, b, e2, hq _ _ q⟩
end
/-! ### common divisors of rows -/
theorem gcdL_snoc (ns : List Int) (x : Int) : gcdL (ns ++ [x]) = (Int.gcd (gcdL ns) x : Int) := by
  unfold gcdL
  rw [List.foldl_append]; rfl
def spGcdOfL (K : PySem.W.Frag) : Sp := fun vs H Q _ => ∃ (l : Addr) (ns : List Int), vs = [.ref l] ∧ SqL K H l (ns.map V.int) ∧ Q (.int (gcdL ns)) H
def spGcdOfT (K : PySem.W.Frag) : Sp := fun vs H Q _ => ∃ (l : Addr) (ns : List Int), vs = [.ref l] ∧ SqT K H l (ns.map V.int) ∧ Q (.int (gcdL ns)) H
theorem int_at {ns : List Int} {i : Nat} {y : V} (h : (ns.map V.int)[i]? = some y) : ∃ u, y = V.int u ∧ ns[i]? = some u := by
  rw [List.getElem?_map] at h
  cases e : ns[i]? with
  | none => rw [e] at h; cases h
  | some u => rw [e] at h; exact ⟨u, (Option.some.inj h).symm, rfl⟩
theorem take_snoc {ns : List Int} {i : Nat} {u : Int} (h : ns[i]? = some u) : ns.take (i + 1) = ns.take i ++ [u] := by rw [List.take_add_one, h]; rfl
section
variable {P : Program} {w : World} {K : PySem.W.Frag} {mg : Str → Option Value} {base : Heap}
theorem ok_gcdOfL {f : Addr} {fd : FuncData} {k : Nat} (F : Fun K "_law_gcd_of" "_law_gcd_of" s_L_gcd_of f fd) (D_gcd : DefOk P w K mg base "_law_gcd" 1 ["_law_one", "_law_other"] spCommon) : FnOk P w K mg base CX0 2 f fd ["_law_row"] (spGcdOfL K) := by
  refine F.ok sc_L_gcd_of (fun vs H Q E h => ?_) (fun cdv A outer s H vs Q E hr h => ?_)
  · obtain ⟨l, ns, rfl, _⟩ := h
    rfl
  · obtain ⟨l, ns, rfl, hL, q⟩ := h
    refine ⟨_, (pss_cons (ps_set (i := 1) sc_L_gcd_of.nd rfl (Or.inl rfl) pe_int)
      (pss_cons (ps_for PassesOwn.never rfl (pi_list (pv 0)) (pg_name (i := 2) sc_L_gcd_of.nd rfl (Or.inl rfl)) (pss_one (ps_set (i := 1) sc_L_gcd_of.nd rfl (Or.inl rfl) (pe_callD D_gcd hr (pa_cons (pv 1) (pa_cons (pv 2) pa_nil))))))
      (pss_one (ps_ret (pv 1))))), ?_⟩
    refine ⟨_, rfl, l, rfl, ⟨_, hL⟩, for_list (K := K) (a := l) (xs := ns.map V.int) (fun i σ H' => H' = H ∧ ∃ x, σ = [some (.ref l), some (.int (gcdL (ns.take i))), x]) ⟨rfl, _, rfl⟩ (fun i σ H' _ h => by rw [h.1]; exact hL) ?_ ?_⟩
    · rintro i y σ H' hi ⟨rfl, x, rfl⟩
      obtain ⟨u, rfl, hu⟩ := int_at hi
      refine ⟨_, rfl, _, rfl, _, _, rfl, rfl, some (.int u), ?_⟩
      rw [take_snoc hu, gcdL_snoc]
      rfl
    · rintro σ H' ⟨rfl, x, rfl⟩
      refine ⟨_, rfl, ?_⟩
      rw [List.length_map, List.take_length]
      exact q
theorem ok_gcdOfT {f : Addr} {fd : FuncData} {k : Nat} (F : Fun K "_law_gcd_of" "_law_gcd_of" s_L_gcd_of f fd) (D_gcd : DefOk P w K mg base "_law_gcd" 1 ["_law_one", "_law_other"] spCommon) : FnOk P w K mg base CX0 2 f fd ["_law_row"] (spGcdOfT K) := by
  refine F.ok sc_L_gcd_of (fun vs H Q E h => ?_) (fun cdv A outer s H vs Q E hr h => ?_)
  · obtain ⟨l, ns, rfl, _⟩ := h
    rfl
  · obtain ⟨l, ns, rfl, hL, q⟩ := h
    refine ⟨_, (pss_cons (ps_set (i := 1) sc_L_gcd_of.nd rfl (Or.inl rfl) pe_int)
      (pss_cons (ps_for PassesOwn.never rfl (pi_tup (pv 0)) (pg_name (i := 2) sc_L_gcd_of.nd rfl (Or.inl rfl)) (pss_one (ps_set (i := 1) sc_L_gcd_of.nd rfl (Or.inl rfl) (pe_callD D_gcd hr (pa_cons (pv 1) (pa_cons (pv 2) pa_nil))))))
      (pss_one (ps_ret (pv 1))))), ?_⟩
    refine ⟨_, rfl, l, rfl, ⟨_, hL⟩, for_tup (K := K) (a := l) (xs := ns.map V.int) (fun i σ H' => H' = H ∧ ∃ x, σ = [some (.ref l), some (.int (gcdL (ns.take i))), x]) ⟨rfl, _, rfl⟩ (fun i σ H' _ h => by rw [h.1]; exact hL) ?_ ?_⟩
    · rintro i y σ H' hi ⟨rfl, x, rfl⟩
      obtain ⟨u, rfl, hu⟩ := int_at hi
      refine ⟨_, rfl, _, rfl, _, _, rfl, rfl, some (.int u), ?_⟩
      rw [take_snoc hu, gcdL_snoc]
      rfl
    · rintro σ H' ⟨rfl, x, rfl⟩
      refine ⟨_, rfl, ?_⟩
      rw [List.length_map, List.take_length]
      exact q
theorem ok_common_of {f : Addr} {fd : FuncData} {k : Nat} (F : Fun K "common_of" "common_of" s_common_of f fd) (D_common : DefOk P w K mg base "common" 1 ["one", "other"] spCommon) : FnOk P w K mg base CX0 2 f fd ["row"] (spGcdOfT K) := by
  refine F.ok sc_common_of (fun vs H Q E h => ?_) (fun cdv A outer s H vs Q E hr h => ?_)
  · obtain ⟨l, ns, rfl, _⟩ := h
    rfl
  · obtain ⟨l, ns, rfl, hL, q⟩ := h
    refine ⟨_, (pss_cons (ps_set (i := 1) sc_common_of.nd rfl (Or.inl rfl) pe_int)
      (pss_cons (ps_for PassesOwn.never rfl (pi_tup (pv 0)) (pg_name (i := 2) sc_common_of.nd rfl (Or.inl rfl)) (pss_one (ps_set (i := 1) sc_common_of.nd rfl (Or.inl rfl) (pe_callD D_common hr (pa_cons (pv 1) (pa_cons (pv 2) pa_nil))))))
      (pss_one (ps_ret (pv 1))))), ?_⟩
    refine ⟨_, rfl, l, rfl, ⟨_, hL⟩, for_tup (K := K) (a := l) (xs := ns.map V.int) (fun i σ H' => H' = H ∧ ∃ x, σ = [some (.ref l), some (.int (gcdL (ns.take i))), x]) ⟨rfl, _, rfl⟩ (fun i σ H' _ h => by rw [h.1]; exact hL) ?_ ?_⟩
    · rintro i y σ H' hi ⟨rfl, x, rfl⟩
      obtain ⟨u, rfl, hu⟩ := int_at hi
      refine ⟨_, rfl, _, rfl, _, _, rfl, rfl, some (.int u), ?_⟩
      rw [take_snoc hu, gcdL_snoc]
      rfl
    · rintro σ H' ⟨rfl, x, rfl⟩
      refine ⟨_, rfl, ?_⟩
      rw [List.length_map, List.take_length]
      exact q
end
end G
set_option Elab.async false
set_option linter.all false
set_option maxRecDepth 100000
set_option maxHeartbeats 1000000
namespace G
open PySem PySem.Spec PyProof.Rows L2 RZ StX
/-! ### content, divided -/
def spHalvesS (K : PySem.W.Frag) : Sp := fun vs H Q _ => ∃ (t : Addr) (ns : List Int), vs = [.ref t] ∧ SqL K H t (ns.map V.int) ∧ ns.length ≤ 1000 ∧ ∀ H', Same H H' → Q (.bl (okH ns)) H'
theorem Same.lst {K : PySem.W.Frag} {H H' : Hp} {a : Addr} {xs : List V} (e : Same H H') (h : SqL K H a xs) : SqL K H' a xs := by
  rcases h with (h | ⟨o, h⟩) | h
  · exact .inl (.inl (e _ _ h))
  · exact .inl (.inr ⟨o, e _ _ h⟩)
  · exact .inr h
/-- the first i of ns made, in the list at D -/
def MadeI (H0 : Hp) (D : Addr) (ns : List Int) (i : Nat) (H' : Hp) : Prop := Same H0 H' ∧ H' D = some (.lst ((ns.take i).map V.int))
theorem MadeI.zero {H0 : Hp} {D : Addr} {ns : List Int} (nD : H0 D = none) : MadeI H0 D ns 0 (upd H0 D (.lst [])) := ⟨same_upd nD, upd_same⟩
theorem MadeI.snoc {H0 H' H4 : Hp} {D : Addr} {ns : List Int} {i : Nat} {x : Int} (h : MadeI H0 D ns i H') (s : Same H' H4) (nD : H0 D = none) (hx : ns[i]? = some x) (hi : i ≤ 1000) :
    ∃ acc, H4 D = some (.lst acc) ∧ acc.length < sizeLine ∧ MadeI H0 D ns (i + 1) (upd H4 D (.lst (acc ++ [.int x]))) := by
  have hD := s _ _ h.2
  refine ⟨_, hD, by rw [List.length_map, List.length_take]; exact small1000 (by omega), fun b o e => ?_, ?_⟩
  · rw [upd_ne (ne_of_none e nD)]
    exact s _ _ (h.1 _ _ e)
  · rw [upd_same, take_snoc hx, List.map_append]; rfl
theorem MadeI.all {H0 H' : Hp} {D : Addr} {ns : List Int} {n : Nat} (h : MadeI H0 D ns n H') (e : n = ns.length) : H' D = some (.lst (ns.map V.int)) := by
  have := h.2
  rwa [e, List.take_length] at this
section
variable {P : Program} {w : World} {K : PySem.W.Frag} {mg : Str → Option Value} {base : Heap}
theorem ok_halvesS {f : Addr} {fd : FuncData} {k : Nat} (F : Fun K "are_halves" "are_halves" s_are_halves f fd) (B : Bn mg) (D_isnum : DefOk P w K mg base "is_number" 1 ["value"] spIsNum) : FnOk P w K mg base CX0 2 f fd ["values"] (spHalvesS K) := by
  refine F.ok sc_are_halves (fun vs H Q E h => ?_) (fun cdv A outer s H vs Q E hr h => ?_)
  · obtain ⟨t, ns, rfl, _⟩ := h
    rfl
  · obtain ⟨t, ns, rfl, hT, hl, q⟩ := h
    refine ⟨_, (pss_cons (ps_if (PW.pt (pw_or (pt_cmpR op_ne (pe_callB call_len_seq (by rfl) B.len PySem.boot_len (pa_cons (pv 0) pa_nil)) pe_int (nomark _)) (pw_or1 (pt_not (pt_val (pe_callB (cr_all rfl) (by rfl) B.all (by decide +kernel) (pa_cons (pe_lc (own := [("value", 1)]) (g := gName 1) (tt := tYes) (by rfl) sc_are_halves.nd (pi_list (pv 0)) (blkOk_by (own := [("value", 1)]) (N := ["values", "value"]) (sc := (defScope s_are_halves)) (by decide +kernel)) (fun _ _ _ _ _ => pg_name (i := 1) sc_are_halves.nd rfl (Or.inl rfl)) (fun _ _ _ _ _ => pts_nil) (fun _ _ _ _ _ => (pe_callD D_isnum hr (pa_cons (pv 1) pa_nil)))) pa_nil))))))) (pss_one (ps_ret pe_bl)) pss_nil)
      (pss_one (ps_ret (pe_cmpR op_in_seq (pe_callB (cr_sum rfl) (by rfl) B.sum (by decide +kernel) (pa_cons (pe_lc (own := [("value", 1)]) (g := gName 1) (tt := tYes) (by rfl) sc_are_halves.nd (pi_list (pv 0)) (blkOk_by (own := [("value", 1)]) (N := ["values", "value"]) (sc := (defScope s_are_halves)) (by decide +kernel)) (fun _ _ _ _ _ => pg_name (i := 1) sc_are_halves.nd rfl (Or.inl rfl)) (fun _ _ _ _ _ => pts_nil) (fun _ _ _ _ _ => (pe_op op_mod (pv 1) pe_int))) pa_nil)) (pe_tup (pa_cons pe_int (pa_cons pe_int pa_nil))) (by rfl))))), ?_⟩
    refine ⟨_, rfl, t, _, rfl, .inl hT, rfl, _, rfl, ?_⟩
    rw [List.length_map]
    refine ite2 (fun h => ?_) (fun h => ?_)
    · have hn : ¬ ns.length = 4 := by
        intro e
        rw [e] at h
        exact absurd h (by decide)
      have := q H (.refl _)
      unfold okH at this
      rw [decide_eq_false hn] at this
      exact this
    · have hn : ns.length = 4 := by
        rcases Decidable.em (ns.length = 4) with e | e
        · exact e
        · exact absurd (show (!decide (V.int ((ns.length : Nat) : Int) = V.int 4)) = true by simp; omega) h
      refine ⟨_, rfl, t, rfl, ⟨_, hT⟩, fun D nD => ?_⟩
      refine lc_list (K := K) (a := t) (xs := ns.map V.int) (fun i H' => Same H H' ∧ H' D = some (.lst ((List.replicate i true).map V.bl))) ⟨same_upd nD, upd_same⟩ (fun i H' _ h => Same.lst h.1 hT) ?_ ?_
      · rintro i x H' hx ⟨sm, hD⟩
        obtain ⟨u, rfl, hu⟩ := int_at hx
        refine ⟨rfl, ?_⟩
        dsimp only [tYes]
        rw [if_pos rfl]
        have hi := (List.getElem?_eq_some_iff.mp hu).1
        refine ⟨_, rfl, u, rfl, _, hD, by rw [List.length_map, List.length_replicate]; exact small1000 (by omega), ?_, ?_⟩
        · intro c o e
          rw [upd_ne (ne_of_none e nD)]
          exact sm _ _ e
        · rw [upd_same, List.replicate_succ', List.map_append]
          rfl
      · rintro H' ⟨sm, hD⟩
        refine ⟨D, List.replicate _ true, rfl, SqL.of hD, true, by simp, ifF rfl ?_⟩
        refine ⟨_, rfl, t, rfl, ⟨_, Same.lst sm hT⟩, fun D2 nD2 => ?_⟩
        refine lc_list (K := K) (a := t) (xs := ns.map V.int) (MadeI H' D2 (ns.map (· % 2))) (MadeI.zero nD2) (fun i H2 _ h => Same.lst h.1 (Same.lst sm hT)) ?_ ?_
        · rintro i x H2 hx hM
          obtain ⟨u, rfl, hu⟩ := int_at hx
          refine ⟨rfl, ?_⟩
          dsimp only [tYes]
          rw [if_pos rfl]
          have hi := (List.getElem?_eq_some_iff.mp hu).1
          exact ⟨_, rfl, _, _, rfl, rfl, (by show (0 : Int) < 2; decide), hM.snoc (.refl _) nD2 (by rw [List.getElem?_map, hu]; rfl) (by omega)⟩
        · rintro H2 hM
          have hD2 := hM.all (by rw [List.length_map, List.length_map])
          refine ⟨D2, _, rfl, SqL.of hD2, (by show 2 ≤ sizeLine; decide), fun T nT => ⟨T, _, rfl, .inr (SqT.of upd_same), rfl, rfl, ?_⟩⟩
          have e : inV (V.int (ns.map (· % 2)).sum) [V.int 0, V.int 4] = okH ns := by
            unfold okH
            rw [in04, decide_eq_true hn]
            rfl
          show Q (V.bl (inV (V.int (ns.map (· % 2)).sum) [V.int 0, V.int 4])) _
          rw [e]
          exact q _ ((sm.trans hM.1).trans (same_upd nT))
end
theorem okH_four (w : Q4) : okH [w.a, w.b, w.c, w.d] = decide (Q4.Odd4 w ∨ Q4.Even4 w) := by
  unfold okH
  show (true && (decide (w.a % 2 + (w.b % 2 + (w.c % 2 + (w.d % 2 + 0))) = 0) || decide (w.a % 2 + (w.b % 2 + (w.c % 2 + (w.d % 2 + 0))) = 4))) = _
  rw [Bool.true_and, Bool.eq_iff_iff, Bool.or_eq_true, decide_eq_true_eq, decide_eq_true_eq, decide_eq_true_eq]
  unfold Q4.Odd4 Q4.Even4
  omega
theorem g_bd {u : Q4} {n : Nat} (h : u.Bd n) (nu : u ≠ ⟨0, 0, 0, 0⟩) : u.g.natAbs < 2 ^ n := by
  obtain ⟨ha, hb, hc, hd⟩ := h
  have key : ∀ x : Int, u.g ∣ x → x ≠ 0 → x.natAbs < 2 ^ n → u.g.natAbs < 2 ^ n := fun x dx nx hx => Nat.lt_of_le_of_lt (Nat.le_of_dvd (by omega) (Int.natAbs_dvd_natAbs.mpr dx)) hx
  by_cases a0 : u.a = 0
  · by_cases b0 : u.b = 0
    · by_cases c0 : u.c = 0
      · by_cases d0 : u.d = 0
        · exact absurd (Q4.ext a0 b0 c0 d0) nu
        · exact key _ (Q4.g_d u) d0 hd
      · exact key _ (Q4.g_c u) c0 hc
    · exact key _ (Q4.g_b u) b0 hb
  · exact key _ (Q4.g_a u) a0 ha
theorem dwn {i j : Int} {n : Nat} (h : 0 < j) (h2 : j.natAbs < 2 ^ n) (h0 : 0 < n) (hn : n ≤ 8000) : CDivW i j := wide_div (b := n) h h2 h0 (by omega)
def spContent (C : Addr) : Sp := fun vs H Q _ => ∃ (p : Addr) (u : Q4) (n : Nat), vs = [.ref p] ∧ FourAt C H p u ∧ 0 < n ∧ n ≤ 8000 ∧ u.Bd n ∧ u ≠ ⟨0, 0, 0, 0⟩ ∧ ∀ H', Same H H' → Q (.int u.con) H'
def spDivided (C : Addr) : Sp := fun vs H Q _ => ∃ (p : Addr) (u : Q4) (n : Nat) (m : Int), vs = [.ref p, .int m] ∧ FourAt C H p u ∧ 0 < n ∧ n ≤ 8000 ∧ u.Bd n ∧ u ≠ ⟨0, 0, 0, 0⟩ ∧ 0 < m ∧ m.natAbs < 2 ^ n ∧ u.con % m = 0 ∧ (u.over m).Par ∧ ∀ r H', H r = none → Same H H' → FourAt C H' r (u.over m) → Q (.ref r) H'
section
variable {P : Program} {w : World} {K : PySem.W.Frag} {mg : Str → Option Value} {base : Heap}
theorem ok_content {f C : Addr} {fd : FuncData} (F : Fun K "content" "Four.content" s_Four_content f fd) (CF : FourC K mg C) (D_common : DefOk P w K mg base "common" 1 ["one", "other"] spCommon) (D_halvesS : DefOk P w K mg base "are_halves" 2 ["values"] (spHalvesS K)) : FnOk P w K mg base CX0 3 f fd ["self"] (spContent C) := by
  refine F.ok sc_Four_content (fun vs H Q E h => ?_) (fun cdv A outer s H vs Q E hr h => ?_)
  · obtain ⟨p, u, n, rfl, _⟩ := h
    rfl
  · obtain ⟨p, u, n, rfl, ⟨pu, dx, t, h1, h2⟩, n0, n1, bu, nu, q⟩ := h
    refine ⟨_, (pss_cons (ps_asg (pe_fld (pv 0) rfl) (pg_tup (by rfl) (pgs_cons (pg_name (i := 1) sc_Four_content.nd rfl (Or.inl rfl)) (pgs_cons (pg_name (i := 2) sc_Four_content.nd rfl (Or.inl rfl)) (pgs_cons (pg_name (i := 3) sc_Four_content.nd rfl (Or.inl rfl)) (pgs_cons (pg_name (i := 4) sc_Four_content.nd rfl (Or.inl rfl)) pgs_nil))))))
      (pss_cons (ps_set (i := 5) sc_Four_content.nd rfl (Or.inr rfl) (pe_callD D_common (hr.mono (by decide)) (pa_cons (pe_callD D_common (hr.mono (by decide)) (pa_cons (pv 1) (pa_cons (pv 2) pa_nil))) (pa_cons (pe_callD D_common (hr.mono (by decide)) (pa_cons (pv 3) (pa_cons (pv 4) pa_nil))) pa_nil))))
      (pss_cons (ps_if (PW.pt (pw_and (pt_truth (pv 5) (by intro _; rfl)) (pw_and1 (pt_not (pt_val (pe_callD D_halvesS (hr.mono (by decide)) (pa_cons (pe_lc (own := [("half", 6)]) (g := gName 6) (tt := tYes) (by rfl) sc_Four_content.nd (pi_tup (pe_fld (pv 0) rfl)) (blkOk_by (own := [("half", 6)]) (N := ["self", "a", "b", "c", "d", "shared", "half"]) (sc := (defScope s_Four_content)) (by decide +kernel)) (fun _ _ _ _ _ => pg_name (i := 6) sc_Four_content.nd rfl (Or.inl rfl)) (fun _ _ _ _ _ => pts_nil) (fun _ _ _ _ _ => (pe_op op_fdivW (pv 6) (pv 5)))) pa_nil))))))) (pss_one (ps_ret (pe_op op_fdivW (pv 5) pe_int))) pss_nil)
      (pss_one (ps_ret (pv 5)))))), ?_⟩
    obtain ⟨g0, g1, ge⟩ := Q4.g_over nu
    have gb := g_bd bu nu
    refine ⟨_, rfl, p, C, dx, _, _, rfl, h1, CF.cl, CF.nD, rfl, t, _, rfl, SqT.of h2, rfl, _, _, rfl, _, _, rfl, _, _, rfl, _, _, rfl, rfl, ?_⟩
    refine ⟨_, rfl, _, rfl, _, _, rfl, _, rfl, _, rfl, _, _, rfl, _, _, rfl, ?_⟩
    refine nx_norm (σ' := [some (.ref p), some (.int u.a), some (.int u.b), some (.int u.c), some (.int u.d), some (.int u.g), none]) rfl ?_
    refine ⟨_, rfl, _, rfl, ifT (by simp; omega) ?_⟩
    refine ⟨_, rfl, p, C, dx, _, _, rfl, h1, CF.cl, CF.nD, rfl, t, rfl, ⟨_, SqT.of h2⟩, fun D nD => ?_⟩
    refine lc_tup (K := K) (a := t) (xs := [u.a, u.b, u.c, u.d].map V.int) (MadeI H D ([u.a, u.b, u.c, u.d].map (· / u.g))) (MadeI.zero nD) (fun i H2 _ h => SqT.of (h.1 _ _ h2)) ?_ ?_
    · rintro i x H2 hx hM
      obtain ⟨y, rfl, hy⟩ := int_at hx
      refine ⟨rfl, ?_⟩
      dsimp only [tYes]
      rw [if_pos rfl]
      have hi : i < 4 := (List.getElem?_eq_some_iff.mp hy).1
      exact ⟨_, rfl, _, rfl, _, _, rfl, rfl, dwn g0 gb n0 n1, hM.snoc (.refl _) nD (by rw [List.getElem?_map, hy]; rfl) (by omega)⟩
    · rintro H2 hM
      have hD2 := hM.all rfl
      refine ⟨D, _, rfl, SqL.of hD2, by show 4 ≤ 1000; decide, fun H3 s3 => ⟨_, rfl, ?_⟩⟩
      have ek : okH ([u.a, u.b, u.c, u.d].map (· / u.g)) = decide (Q4.Odd4 (u.over u.g) ∨ Q4.Even4 (u.over u.g)) := okH_four (u.over u.g)
      rw [ek]
      by_cases ho : Q4.Odd4 (u.over u.g) ∨ Q4.Even4 (u.over u.g)
      · rw [decide_eq_true ho]
        refine ifF rfl ⟨_, rfl, ?_⟩
        have e : u.con = u.g := if_pos ho
        have := q H3 (hM.1.trans s3)
        rwa [e] at this
      · rw [decide_eq_false ho]
        refine ifT rfl ⟨_, rfl, _, _, rfl, rfl, dw (by decide) (by decide), ?_⟩
        have e : u.con = u.g / 2 := if_neg ho
        have := q H3 (hM.1.trans s3)
        rwa [e] at this
theorem ok_divided {f C : Addr} {fd : FuncData} (F : Fun K "divided" "Four.divided" s_Four_divided f fd) (CF : FourC K mg C) (CI : InitOk P w K mg base C) (D_isnum : DefOk P w K mg base "is_number" 1 ["value"] spIsNum) (M_content : MethOk P w K mg base C "content" 3 ["self"] (spContent C)) : FnOk P w K mg base CX0 5 f fd ["self", "number"] (spDivided C) := by
  refine F.ok sc_Four_divided (fun vs H Q E h => ?_) (fun cdv A outer s H vs Q E hr h => ?_)
  · obtain ⟨p, u, n, m, rfl, _⟩ := h
    rfl
  · obtain ⟨p, u, n, m, rfl, hu, n0, n1, bu, nu, m0, mb, mc, pm, q⟩ := h
    obtain ⟨pu, dx, t, h1, h2⟩ := id hu
    refine ⟨_, (pss_cons (ps_if (PW.pt (pw_or (pt_not (pt_val (pe_callD D_isnum (hr.mono (by decide)) (pa_cons (pv 1) pa_nil)))) (pw_or (pt_cmpR op_eq (pv 1) pe_int (nomark _)) (pw_or1 (pt_truth (pe_op op_mod (pe_methD0 (pv 0) CF.cl M_content (hr.mono (by decide))) (pv 1)) (by intro _; rfl)))))) (pss_one ps_never) pss_nil)
      (pss_cons (ps_asg (pe_fld (pv 0) rfl) (pg_tup (by rfl) (pgs_cons (pg_name (i := 2) sc_Four_divided.nd rfl (Or.inl rfl)) (pgs_cons (pg_name (i := 3) sc_Four_divided.nd rfl (Or.inl rfl)) (pgs_cons (pg_name (i := 4) sc_Four_divided.nd rfl (Or.inl rfl)) (pgs_cons (pg_name (i := 5) sc_Four_divided.nd rfl (Or.inl rfl)) pgs_nil))))))
      (pss_one (ps_ret (pe_four CI (hr.mono (by decide)) CF.mgC (pa_cons (pe_op op_fdivW (pv 2) (pv 1)) (pa_cons (pe_op op_fdivW (pv 3) (pv 1)) (pa_cons (pe_op op_fdivW (pv 4) (pv 1)) (pa_cons (pe_op op_fdivW (pv 5) (pv 1)) pa_nil))))))))), ?_⟩
    refine ⟨_, rfl, m, rfl, _, rfl, ifF rfl ?_⟩
    refine ⟨_, rfl, rfl, _, rfl, ifF (by simp; omega) ?_⟩
    refine ⟨_, rfl, p, dx, _, rfl, h1, rfl, p, u, n, rfl, hu, n0, n1, bu, nu, fun H1 s1 => ⟨_, rfl, _, _, rfl, rfl, m0, _, rfl, ifF ?_ ?_⟩⟩
    · rw [mc]; rfl
    have h1' := s1 _ _ h1
    have h2' := s1 _ _ h2
    refine ⟨_, rfl, p, C, dx, _, _, rfl, h1', CF.cl, CF.nD, rfl, t, _, rfl, SqT.of h2', rfl, _, _, rfl, _, _, rfl, _, _, rfl, _, _, rfl, rfl, ?_⟩
    refine nx_norm (σ' := [some (.ref p), some (.int m), some (.int u.a), some (.int u.b), some (.int u.c), some (.int u.d)]) rfl ?_
    exact ⟨_, rfl, _, rfl, _, _, rfl, rfl, dwn m0 mb n0 n1, _, rfl, _, rfl, _, _, rfl, rfl, dwn m0 mb n0 n1, _, rfl, _, rfl, _, _, rfl, rfl, dwn m0 mb n0 n1, _, rfl, _, rfl, _, _, rfl, rfl, dwn m0 mb n0 n1, u.over m, rfl, pm, fun r H2 nr s2 hr2 => q r H2 (s1.free nr) (s1.trans s2) hr2⟩
def spBool (C : Addr) : Sp := fun vs H Q _ => ∃ (p : Addr) (u : Q4), vs = [.ref p] ∧ FourAt C H p u ∧ Q (.bl (decide (u ≠ ⟨0, 0, 0, 0⟩))) H
theorem ok_bool {f C : Addr} {fd : FuncData} {k : Nat} (F : Fun K "__bool__" "Four.__bool__" s_Four_bool f fd) (CF : FourC K mg C) (mA : mg "any" = none) : FnOk P w K mg base CX0 (k + 1) f fd ["self"] (spBool C) := by
  refine F.ok sc_Four_bool (fun vs H Q E h => ?_) (fun cdv A outer s H vs Q E hr h => ?_)
  · obtain ⟨p, u, rfl, _⟩ := h
    rfl
  · obtain ⟨p, u, rfl, ⟨pu, dx, t, h1, h2⟩, q⟩ := h
    refine ⟨_, (pss_one (ps_ret (pe_callB (cr_anyT rfl) (by rfl) mA (by decide +kernel) (pa_cons (pe_fld (pv 0) rfl) pa_nil)))), ?_⟩
    refine ⟨_, rfl, p, C, dx, _, _, rfl, h1, CF.cl, CF.nD, rfl, t, [u.a, u.b, u.c, u.d], rfl, SqT.of h2, ?_⟩
    have e : ([u.a, u.b, u.c, u.d].any (· != 0)) = decide (u ≠ ⟨0, 0, 0, 0⟩) := by
      rw [Bool.eq_iff_iff, decide_eq_true_eq]
      simp only [List.any_cons, List.any_nil, Bool.or_false, Bool.or_eq_true, bne_iff_ne]
      constructor
      · rintro h rfl; simp at h
      · intro h
        by_cases a0 : u.a = 0
        · by_cases b0 : u.b = 0
          · by_cases c0 : u.c = 0
            · by_cases d0 : u.d = 0
              · exact absurd (Q4.ext a0 b0 c0 d0) h
              · exact .inr (.inr (.inr d0))
            · exact .inr (.inr (.inl c0))
          · exact .inr (.inl b0)
        · exact .inl a0
    rw [e]
    exact q
/-- the four of the turn of a four -/
def Q4.lead (u : Q4) : Q4 := if HT.lexLt [(u.over u.con).a, (u.over u.con).b, (u.over u.con).c, (u.over u.con).d] [0, 0, 0, 0] = true then (u.over u.con).neg else u.over u.con
theorem Q4.over_bd {u : Q4} {n : Nat} {m : Int} (h : u.Bd n) (m0 : 0 < m) (e : Q4.smul m (u.over m) = u) : (u.over m).Bd n := by
  have key : ∀ x y : Int, m * x = y → y.natAbs < 2 ^ n → x.natAbs < 2 ^ n := fun x y e h => by
    refine Nat.lt_of_le_of_lt ?_ h
    rw [← e, Int.natAbs_mul]
    exact Nat.le_mul_of_pos_left _ (by omega)
  obtain ⟨a, b, c, d⟩ := h
  exact ⟨key _ _ (congrArg Q4.a e) a, key _ _ (congrArg Q4.b e) b, key _ _ (congrArg Q4.c e) c, key _ _ (congrArg Q4.d e) d⟩
theorem Q4.Bd.neg {n : Nat} {u : Q4} (h : u.Bd n) : u.neg.Bd n := by
  obtain ⟨a, b, c, d⟩ := h
  unfold Q4.Bd Q4.neg
  simp only [Int.natAbs_neg]
  exact ⟨a, b, c, d⟩
/-- what is known of it -/
structure Q4.LeadOf (u v : Q4) : Prop where
  prim : Q4.Prim v
  ex : ∃ m : Int, 0 < m ∧ (u = Q4.smul m v ∨ u = Q4.smul m v.neg)
  ents : ∃ m : Int, 0 < m ∧ u.ents = v.ents.map (m * m * ·)
theorem Q4.lead_of {u : Q4} (pu : u.Par) (nu : u ≠ ⟨0, 0, 0, 0⟩) : Q4.LeadOf u u.lead := by
  obtain ⟨c0, pv', e, _⟩ := Q4.con_all pu nu
  unfold Q4.lead
  split
  · refine ⟨pv'.neg, ⟨u.con, c0, .inr ?_⟩, ⟨u.con, c0, ?_⟩⟩
    · rw [Q4.neg_neg]; exact e.symm
    · rw [Q4.ents_neg, ← Q4.ents_smul, e]
  · exact ⟨pv', ⟨u.con, c0, .inl e.symm⟩, ⟨u.con, c0, by rw [← Q4.ents_smul, e]⟩⟩
theorem Q4.lead_bd {u : Q4} {n : Nat} (pu : u.Par) (nu : u ≠ ⟨0, 0, 0, 0⟩) (h : u.Bd n) : u.lead.Bd n := by
  obtain ⟨c0, pv', e, _⟩ := Q4.con_all pu nu
  have := Q4.over_bd h c0 e
  unfold Q4.lead
  split
  · exact this.neg
  · exact this
def spLead (C : Addr) : Sp := fun vs H Q _ => ∃ (p : Addr) (u : Q4) (n : Nat), vs = [.ref p] ∧ FourAt C H p u ∧ 0 < n ∧ n ≤ 8000 ∧ u.Bd n ∧ u ≠ ⟨0, 0, 0, 0⟩ ∧ ∀ r H', H r = none → Same H H' → FourAt C H' r u.lead → Q (.ref r) H'
theorem ok_lead {f C : Addr} {fd : FuncData} (F : Fun K "lead_of" "lead_of" s_lead_of f fd) (CF : FourC K mg C) (M_content : MethOk P w K mg base C "content" 3 ["self"] (spContent C)) (M_divided : MethOk P w K mg base C "divided" 5 ["self", "number"] (spDivided C)) (M_neg : MethOk P w K mg base C "__neg__" 5 ["self"] (spUn C Q4.neg)) (P_halves : PropOk P w K mg base C "halves" 1 ["self"] (spHalvesP C)) : FnOk P w K mg base CX0 6 f fd ["four"] (spLead C) := by
  refine F.ok sc_lead_of (fun vs H Q E h => ?_) (fun cdv A outer s H vs Q E hr h => ?_)
  · obtain ⟨p, u, n, rfl, _⟩ := h
    rfl
  · obtain ⟨p, u, n, rfl, hu, n0, n1, bu, nu, q⟩ := h
    obtain ⟨pu, dx, t, h1, h2⟩ := id hu
    refine ⟨_, (pss_cons (ps_set (i := 1) sc_lead_of.nd rfl (Or.inl rfl) (pe_methD (f := 0) (pv 0) CF.cl M_divided (hr.mono (by decide)) (pa_cons (pe_methD0 (pv 0) CF.cl M_content (hr.mono (by decide))) pa_nil)))
      (pss_one (ps_ret (pe_ifExp (pt_cmpR (op_ltT hr.units0) (pe_Fh (pv 1) CF.toClsFacts P_halves (hr.mono (by decide))) (pe_tup (pa_cons pe_int (pa_cons pe_int (pa_cons pe_int (pa_cons pe_int pa_nil))))) (nomark _)) (pe_un (un_F1 M_neg (hr.mono (by decide))) (pv 1)) (pv 1))))), ?_⟩
    obtain ⟨c0, pv', e, cg⟩ := Q4.con_all pu nu
    have gb := g_bd bu nu
    refine ⟨_, rfl, p, dx, _, rfl, h1, rfl, _, rfl, p, dx, _, rfl, h1, rfl, p, u, n, rfl, hu, n0, n1, bu, nu, fun H1 s1 => ?_⟩
    refine ⟨p, u, n, u.con, rfl, hu.same s1, n0, n1, bu, nu, c0, Nat.lt_of_le_of_lt (by omega) gb, Int.emod_self, pv'.par, fun r H2 nr s2 hr2 => ?_⟩
    have hr3 := hr2
    obtain ⟨_, dr, tr, k1, k2⟩ := id hr2
    refine ⟨_, rfl, r, _, rfl, hr2, fun t2 e2 => ⟨(by show 4 ≤ sizeLine; decide), fun z nz => ⟨t2, z, [_, _, _, _], [0, 0, 0, 0], rfl, rfl, SqT.of (same_upd nz _ _ e2), SqT.of upd_same, _, rfl, ?_⟩⟩⟩
    have sz : Same H2 (upd H2 z (.tup [.int 0, .int 0, .int 0, .int 0])) := same_upd nz
    have s3 := (s1.trans s2).trans sz
    dsimp only
    by_cases hL : HT.lexLt [(u.over u.con).a, (u.over u.con).b, (u.over u.con).c, (u.over u.con).d] [0, 0, 0, 0] = true
    · rw [if_pos hL]
      refine ⟨_, rfl, r, _, rfl, hr2.same sz, fun r4 H4 n4 s4 h4 => q r4 H4 (s3.free n4) (s3.trans s4) ?_⟩
      unfold Q4.lead
      rw [if_pos hL]
      exact h4
    · rw [if_neg hL]
      refine ⟨_, rfl, q r _ (s1.free nr) s3 ?_⟩
      unfold Q4.lead
      rw [if_neg hL]
      exact hr2.same sz
end
end G
set_option Elab.async false
set_option linter.all false
set_option maxRecDepth 100000
set_option maxHeartbeats 1000000
namespace G
open PySem PySem.Spec PyProof.Rows L2 RZ StX
/-! ### turns -/
structure TurnC (K : PySem.W.Frag) (mg : Str → Option Value) (CT : Addr) : Prop extends ClsFacts K mg "Turn" CT where
  nL : NoAttr K CT "lead"
def TurnAt (C CT : Addr) (H : Hp) (p : Addr) (v : Q4) : Prop := Q4.Prim v ∧ ∃ dx q, H p = some (.ins CT dx [("lead", .ref q)]) ∧ FourAt C H q v
theorem TurnAt.same {C CT : Addr} {H H' : Hp} {p : Addr} {v : Q4} (h : TurnAt C CT H p v) (s : Same H H') : TurnAt C CT H' p v := by
  obtain ⟨h0, dx, q, h1, h2⟩ := h
  exact ⟨h0, dx, q, s _ _ h1, h2.same s⟩
theorem pe_makeW {X : Cx} {C f : Addr} {k : Nat} {fd : FuncData} {ps : List Str} {sp : Sp} {x : Str} {p pos : Pos} {e : Expr} {es : List Expr} {t : TA} {t' : List V → Hp → VK → Prop} (M : Mk X.K C f) (F : FnOk X.prog X.w X.K X.mg X.base CX0 k f fd ps sp) (hb : Binds X.K fd ps []) (hr : Room (k + 1) X.A) (hm : X.mg x = some (.ref C)) (ha : PA X (e :: es) t)
    (conv : ∀ vs H1 Q, t' vs H1 Q → ∀ x dx, H1 x = none → H1 dx = none → dx ≠ x → sp (.ref x :: vs) (upd (upd H1 dx (.own x)) x (.ins C dx [])) (fun v H2 => v = .non ∧ Q (.ref x) H2) E0)
    (hg : Gl X x := by rfl) (hdb : (x == ("__debug__" : Str)) = false := by decide) (he : starEach (e :: es) X.env = (false, eval e X.env) :: starEach es X.env := by rfl) (hpl : (backTo pos (starEach es X.env)).any (·.1) = false := by rfl) :
    PE X (.Call (.Name x p) (e :: es) [] pos) (fun σ H Q => t σ H fun vs H1 => t' vs H1 Q) := by
  refine ⟨fun pins s σ H Q I h => wpAny_Call_Name_kw (ld_glob I hg hm ?_ hdb)⟩
  refine PySem.W.callWith_K (h₀ := X.base) I.ok.mod.kin M.kp (thn (ha.run pos pins s σ H _ I h) fun us s1 ⟨vs, H1, I1, r, q⟩ => ⟨I1.kIn, ?_⟩) he hpl
  exact run_make M F hr hb .nil (E := E0) pass0 I1 r fun y dx h1 h2 h3 => by rw [List.append_nil]; exact conv vs H1 Q q y dx h1 h2 h3
def spTInit (C CT : Addr) : Sp := fun vs H Q _ => ∃ (x dx p : Addr) (u : Q4) (n : Nat), vs = [.ref x, .ref p] ∧ H x = some (.ins CT dx []) ∧ FourAt C H p u ∧ 0 < n ∧ n ≤ 8000 ∧ u.Bd n ∧ u ≠ ⟨0, 0, 0, 0⟩ ∧ ∀ H' q, SameX x H H' → H' x = some (.ins CT dx [("lead", .ref q)]) → FourAt C H' q u.lead → Q .non H'
structure TInitOk (P : Program) (w : World) (K : PySem.W.Frag) (mg : Str → Option Value) (base : Heap) (C CT : Addr) : Prop where
  ex : ∃ (f : Addr) (fd : FuncData), Mk K CT f ∧ FnOk P w K mg base CX0 7 f fd ["self", "four"] (spTInit C CT) ∧ Binds K fd ["self", "four"] []
theorem FourAt.but {C : Addr} {H H' : Hp} {x p : Addr} {u : Q4} {o : HO} (h : FourAt C H p u) (hx : H x = some o) (nx : p ≠ x) (nt : ∀ xs, o ≠ .tup xs) (s : SameX x H H') : FourAt C H' p u := by
  obtain ⟨pu, dx, t, h1, h2⟩ := h
  exact ⟨pu, dx, t, s _ _ nx h1, s _ _ (fun e => by subst e; rw [h2] at hx; cases hx; exact nt _ rfl) h2⟩
section
variable {P : Program} {w : World} {K : PySem.W.Frag} {mg : Str → Option Value} {base : Heap}
theorem ok_tinit {f C CT : Addr} {fd : FuncData} (F : Fun K "__init__" "Turn.__init__" s_Turn_init f fd) (TF : TurnC K mg CT) (M_bool : MethOk P w K mg base C "__bool__" 1 ["self"] (spBool C)) (D_lead : DefOk P w K mg base "lead_of" 6 ["four"] (spLead C)) : FnOk P w K mg base CX0 7 f fd ["self", "four"] (spTInit C CT) := by
  refine F.ok sc_Turn_init (fun vs H Q E h => ?_) (fun cdv A outer s H vs Q E hr h => ?_)
  · obtain ⟨x, dx, p, u, n, rfl, _⟩ := h
    rfl
  · obtain ⟨x, dx, p, u, n, rfl, hx, hu, n0, n1, bu, nu, q⟩ := h
    refine ⟨_, (pss_cons (ps_if (pt_not (pt_truthR (pv 1) (tru_own M_bool (hr.mono (by decide))) (by intro _; rfl))) (pss_one ps_never) pss_nil)
      (pss_one (ps_fld (pv 0) (pe_callD D_lead hr (pa_cons (pv 1) pa_nil)) rfl))), ?_⟩
    obtain ⟨pu, dp, t, h1, h2⟩ := id hu
    refine ⟨_, rfl, p, dp, _, rfl, h1, p, u, rfl, hu, true, ?_, ifF rfl ?_⟩
    · rw [decide_eq_true nu]
    refine ⟨_, rfl, p, u, n, rfl, hu, n0, n1, bu, nu, fun r H1 nr s1 h1 => ?_⟩
    have hx1 := s1 _ _ hx
    have nrx : r ≠ x := fun e => by rw [e, hx] at nr; cases nr
    refine ⟨_, rfl, x, CT, dx, [], rfl, hx1, TF.cl, TF.nL, by show 0 < 1000; decide, ?_⟩
    exact q _ r ((SameX.of s1).trans sameX_upd) upd_same (h1.but hx1 nrx (fun xs e => by cases e) sameX_upd)
end
/-- Turn(e) -/
def tTurn (C CT : Addr) (t : TA) : TE := fun σ H Q => t σ H fun vs H1 => ∃ (p : Addr) (u : Q4) (n : Nat), vs = [.ref p] ∧ FourAt C H1 p u ∧ 0 < n ∧ n ≤ 8000 ∧ u.Bd n ∧ u ≠ ⟨0, 0, 0, 0⟩ ∧ ∀ x H2, H1 x = none → Same H1 H2 → TurnAt C CT H2 x u.lead → Q (.ref x) H2
theorem pe_turn {X : Cx} {C CT : Addr} {x : Str} {p pos : Pos} {e : Expr} {es : List Expr} {t : TA} (I : TInitOk X.prog X.w X.K X.mg X.base C CT) (hr : Room 8 X.A) (hm : X.mg x = some (.ref CT)) (ha : PA X (e :: es) t)
    (hg : Gl X x := by rfl) (hdb : (x == ("__debug__" : Str)) = false := by decide) (he : starEach (e :: es) X.env = (false, eval e X.env) :: starEach es X.env := by rfl) (hpl : (backTo pos (starEach es X.env)).any (·.1) = false := by rfl) :
    PE X (.Call (.Name x p) (e :: es) [] pos) (tTurn C CT t) := by
  obtain ⟨f, fd, M, F, hb⟩ := I.ex
  refine pe_makeW M F hb hr hm ha ?_ hg hdb he hpl
  rintro vs H1 Q ⟨p, u, n, rfl, hu, n0, n1, bu, nu, q⟩ x dx hx hdx ne
  have s0 : Same H1 (upd (upd H1 dx (.own x)) x (.ins CT dx [])) := fun b o e => by rw [upd_ne (ne_of_none e hx), upd_ne (ne_of_none e hdx)]; exact e
  refine ⟨x, dx, p, u, n, rfl, upd_same, hu.same s0, n0, n1, bu, nu, fun H' q' sm hx' hq => ⟨rfl, q x H' hx (fun b o e => ?_) ⟨(Q4.lead_of hu.1 nu).prim, dx, q', hx', hq⟩⟩⟩
  exact sm _ _ (ne_of_none e hx) (s0 _ _ e)
/-! its members -/
def spTFour (C CT : Addr) : Sp := fun vs H Q _ => ∃ (p : Addr) (v : Q4), vs = [.ref p] ∧ TurnAt C CT H p v ∧ ∀ q, FourAt C H q v → Q (.ref q) H
def spTSpread (C CT : Addr) : Sp := fun vs H Q _ => ∃ (p : Addr) (v : Q4) (n : Nat), vs = [.ref p] ∧ TurnAt C CT H p v ∧ 0 < n ∧ n ≤ 8000 ∧ v.Bd n ∧ Q (.int v.spr) H
section
variable {P : Program} {w : World} {K : PySem.W.Frag} {mg : Str → Option Value} {base : Heap}
theorem ok_tfour {f C CT : Addr} {fd : FuncData} {k : Nat} (F : Fun K "four" "Turn.four" s_Turn_four f fd) (TF : TurnC K mg CT) : FnOk P w K mg base CX0 (k + 1) f fd ["self"] (spTFour C CT) := by
  refine F.ok sc_Turn_four (fun vs H Q E h => ?_) (fun cdv A outer s H vs Q E hr h => ?_)
  · obtain ⟨p, v, rfl, _⟩ := h
    rfl
  · obtain ⟨p, v, rfl, ⟨pv', dx, q, h1, h2⟩, k⟩ := h
    refine ⟨_, (pss_one (ps_ret (pe_fld (pv 0) rfl))), ?_⟩
    exact ⟨_, rfl, p, CT, dx, _, _, rfl, h1, TF.cl, TF.nL, rfl, k q h2⟩
theorem ok_tspread {f C CT : Addr} {fd : FuncData} (F : Fun K "spread" "Turn.spread" s_Turn_spread f fd) (CF : FourC K mg C) (TF : TurnC K mg CT) (P_size : PropOk P w K mg base C "size" 1 ["self"] (spSizeP C)) : FnOk P w K mg base CX0 3 f fd ["self"] (spTSpread C CT) := by
  refine F.ok sc_Turn_spread (fun vs H Q E h => ?_) (fun cdv A outer s H vs Q E hr h => ?_)
  · obtain ⟨p, v, n, rfl, _⟩ := h
    rfl
  · obtain ⟨p, v, n, rfl, ⟨pv', dx, q, h1, h2⟩, n0, n1, bv, k⟩ := h
    refine ⟨_, (pss_cons (ps_set (i := 1) sc_Turn_spread.nd rfl (Or.inl rfl) (pe_Fs (pe_fld (pv 0) rfl) CF.toClsFacts P_size (hr.mono (by decide))))
      (pss_one (ps_ret (pe_ifExp (pt_truth (pe_op op_mod (pv 1) pe_int) (by intro _; rfl)) (pv 1) (pe_op op_fdivW (pv 1) pe_int))))), ?_⟩
    refine ⟨_, rfl, p, CT, dx, _, _, rfl, h1, TF.cl, TF.nL, rfl, q, v, n, rfl, h2, n0, by omega, bv, ?_⟩
    refine ⟨_, rfl, _, _, rfl, rfl, (by show (0 : Int) < 2; decide), _, rfl, ?_⟩
    have hs : v.spr = if v.size % 2 = 1 then v.size else v.size / 2 := rfl
    dsimp only
    by_cases h : v.size % 2 = 1
    · rw [if_pos (show ((v.size % 2 : Int) != 0) = true by rw [h]; rfl)]
      rw [if_pos h] at hs
      rw [hs] at k
      exact ⟨_, rfl, k⟩
    · have h0 : v.size % 2 = 0 := by omega
      rw [if_neg (show ¬ ((v.size % 2 : Int) != 0) = true by rw [h0]; decide)]
      rw [if_neg h] at hs
      rw [hs] at k
      exact ⟨_, rfl, _, _, rfl, rfl, dw (by decide) (by decide), k⟩
end
end G
set_option Elab.async false
set_option linter.all false
set_option maxRecDepth 100000
set_option maxHeartbeats 2000000
namespace G
open PySem PySem.Spec PyProof.Rows L2 RZ StX
/-! ### tables and images -/
/-- the rows of the table of a turn, times its spread -/
def Q4.tab (v : Q4) : List (List Int) := [[v.e11 / v.scale, v.e12 / v.scale, v.e13 / v.scale], [v.e21 / v.scale, v.e22 / v.scale, v.e23 / v.scale], [v.e31 / v.scale, v.e32 / v.scale, v.e33 / v.scale]]
def tblV (v : Q4) : List (List Int) := [[v.e11, v.e12, v.e13], [v.e21, v.e22, v.e23], [v.e31, v.e32, v.e33]]
def spTRows (C CT : Addr) (K : PySem.W.Frag) : Sp := fun vs H Q _ => ∃ (p : Addr) (v : Q4) (n : Nat), vs = [.ref p] ∧ TurnAt C CT H p v ∧ 0 < n ∧ n ≤ 3000 ∧ v.Bd n ∧ ∀ l H', H l = none → Same H H' → ObjsAt (RowAt K) H' l v.tab → Q (.ref l) H'
theorem pb {x y : Int} {n : Nat} (h1 : x.natAbs < 2 ^ n) (h2 : y.natAbs < 2 ^ n) : (x * y).natAbs < 2 ^ (2 * n) := by
  rw [Int.natAbs_mul, Nat.two_mul, Nat.pow_add]
  exact Nat.mul_lt_mul'' h1 h2
theorem w2a {x y z t : Int} {n : Nat} (h1 : x.natAbs < 2 ^ n) (h2 : y.natAbs < 2 ^ n) (h3 : z.natAbs < 2 ^ n) (h4 : t.natAbs < 2 ^ n) (hn : n ≤ 3000) : CMulW 2 (x * y + z * t) := by
  have a := pb h1 h2
  have b := pb h3 h4
  refine wide_mul (a := 2) (b := 2 * n + 1) (by decide) ?_ (by decide) (by omega) (by omega)
  rw [Nat.pow_succ]
  generalize 2 ^ (2 * n) = M at *
  omega
theorem w2s {x y z t : Int} {n : Nat} (h1 : x.natAbs < 2 ^ n) (h2 : y.natAbs < 2 ^ n) (h3 : z.natAbs < 2 ^ n) (h4 : t.natAbs < 2 ^ n) (hn : n ≤ 3000) : CMulW 2 (x * y - z * t) := by
  have a := pb h1 h2
  have b := pb h3 h4
  refine wide_mul (a := 2) (b := 2 * n + 1) (by decide) ?_ (by decide) (by omega) (by omega)
  rw [Nat.pow_succ]
  generalize 2 ^ (2 * n) = M at *
  omega
theorem nx2 {f : L2.St → Hp → Prop} {σ σ' : L2.St} {H H' : Hp} (e : σ = σ') (e2 : H = H') (h : f σ' H') : f σ H := by subst e; subst e2; exact h
section
variable {P : Program} {w : World} {K : PySem.W.Frag} {mg : Str → Option Value} {base : Heap}
theorem ok_trows {f C CT : Addr} {fd : FuncData} (F : Fun K "rows" "Turn.rows" s_Turn_rows f fd) (CF : FourC K mg C) (TF : TurnC K mg CT) (P_size : PropOk P w K mg base C "size" 1 ["self"] (spSizeP C)) (P_halves : PropOk P w K mg base C "halves" 1 ["self"] (spHalvesP C)) (P_spread : PropOk P w K mg base CT "spread" 3 ["self"] (spTSpread C CT)) : FnOk P w K mg base CX0 5 f fd ["self"] (spTRows C CT K) := by
  refine F.ok sc_Turn_rows (fun vs H Q E h => ?_) (fun cdv A outer s H vs Q E hr h => ?_)
  · obtain ⟨p, v, n, rfl, _⟩ := h
    rfl
  · obtain ⟨p, v, n, rfl, hT, n0, n1, bv, k⟩ := h
    obtain ⟨pv', dx, q, h1, h2⟩ := id hT
    refine ⟨_, (pss_cons (ps_asg (pe_Fh (pe_fld (pv 0) rfl) CF.toClsFacts P_halves (hr.mono (by decide))) (pg_tup (by rfl) (pgs_cons (pg_name (i := 1) sc_Turn_rows.nd rfl (Or.inl rfl)) (pgs_cons (pg_name (i := 2) sc_Turn_rows.nd rfl (Or.inl rfl)) (pgs_cons (pg_name (i := 3) sc_Turn_rows.nd rfl (Or.inl rfl)) (pgs_cons (pg_name (i := 4) sc_Turn_rows.nd rfl (Or.inl rfl)) pgs_nil))))))
      (pss_cons (ps_set (i := 5) sc_Turn_rows.nd rfl (Or.inr rfl) (pe_op op_fdivW (pe_op op_mulW pe_int (pe_Fs (pe_fld (pv 0) rfl) CF.toClsFacts P_size (hr.mono (by decide)))) (pe_propD (pv 0) TF.cl P_spread (hr.mono (by decide)))))
      (pss_cons (ps_set (i := 6) sc_Turn_rows.nd rfl (Or.inl rfl) (pe_lst (pa_cons (pe_tup (pa_cons (pe_op op_sub (pe_op op_sub (pe_op op_add (pe_op op_mulW (pv 1) (pv 1)) (pe_op op_mulW (pv 2) (pv 2))) (pe_op op_mulW (pv 3) (pv 3))) (pe_op op_mulW (pv 4) (pv 4))) (pa_cons (pe_op op_mulW pe_int (pe_op op_sub (pe_op op_mulW (pv 2) (pv 3)) (pe_op op_mulW (pv 1) (pv 4)))) (pa_cons (pe_op op_mulW pe_int (pe_op op_add (pe_op op_mulW (pv 2) (pv 4)) (pe_op op_mulW (pv 1) (pv 3)))) pa_nil)))) (pa_cons (pe_tup (pa_cons (pe_op op_mulW pe_int (pe_op op_add (pe_op op_mulW (pv 2) (pv 3)) (pe_op op_mulW (pv 1) (pv 4)))) (pa_cons (pe_op op_sub (pe_op op_add (pe_op op_sub (pe_op op_mulW (pv 1) (pv 1)) (pe_op op_mulW (pv 2) (pv 2))) (pe_op op_mulW (pv 3) (pv 3))) (pe_op op_mulW (pv 4) (pv 4))) (pa_cons (pe_op op_mulW pe_int (pe_op op_sub (pe_op op_mulW (pv 3) (pv 4)) (pe_op op_mulW (pv 1) (pv 2)))) pa_nil)))) (pa_cons (pe_tup (pa_cons (pe_op op_mulW pe_int (pe_op op_sub (pe_op op_mulW (pv 2) (pv 4)) (pe_op op_mulW (pv 1) (pv 3)))) (pa_cons (pe_op op_mulW pe_int (pe_op op_add (pe_op op_mulW (pv 3) (pv 4)) (pe_op op_mulW (pv 1) (pv 2)))) (pa_cons (pe_op op_add (pe_op op_sub (pe_op op_sub (pe_op op_mulW (pv 1) (pv 1)) (pe_op op_mulW (pv 2) (pv 2))) (pe_op op_mulW (pv 3) (pv 3))) (pe_op op_mulW (pv 4) (pv 4))) pa_nil)))) pa_nil)))))
      (pss_one (ps_ret (pe_lc (own := [("x", 7), ("y", 8), ("z", 9)]) (g := gTup K 3 (gCons (gName 7) (gCons (gName 8) (gCons (gName 9) gNil)))) (tt := tYes) (by rfl) sc_Turn_rows.nd (pi_list (pv 6)) (blkOk_by (own := [("x", 7), ("y", 8), ("z", 9)]) (N := ["self", "a", "b", "c", "d", "scale", "table", "x", "y", "z"]) (sc := (defScope s_Turn_rows)) (by decide +kernel)) (fun _ _ _ _ _ => pg_tup (by rfl) (pgs_cons (pg_name (i := 7) sc_Turn_rows.nd rfl (Or.inl rfl)) (pgs_cons (pg_name (i := 8) sc_Turn_rows.nd rfl (Or.inl rfl)) (pgs_cons (pg_name (i := 9) sc_Turn_rows.nd rfl (Or.inl rfl)) pgs_nil)))) (fun _ _ _ _ _ => pts_nil) (fun _ _ _ _ _ => (pe_tup (pa_cons (pe_op op_fdivW (pv 7) (pv 5)) (pa_cons (pe_op op_fdivW (pv 8) (pv 5)) (pa_cons (pe_op op_fdivW (pv 9) (pv 5)) pa_nil))))))))))), ?_⟩
    obtain ⟨pu, dq, t, k1, k2⟩ := id h2
    obtain ⟨_, sc0, _, sp0, _, esc⟩ := Q4.table_of (u := v) (m := 1) (by decide) pv' (by simp)
    have sz := Q4.size_pos pv'
    refine ⟨_, rfl, p, CT, dx, _, _, rfl, h1, TF.cl, TF.nL, rfl, q, v, rfl, h2, fun t2 e2 => ⟨t2, _, rfl, SqT.of e2, rfl, _, _, rfl, _, _, rfl, _, _, rfl, _, _, rfl, rfl, ?_⟩⟩
    refine nx_norm (σ' := [some (.ref p), some (.int v.a), some (.int v.b), some (.int v.c), some (.int v.d), none, none, none, none, none]) rfl ?_
    have bs : v.spr.natAbs < 2 ^ (2 * n + 2) := by
      have := bv.size
      have e : v.spr ≤ v.size := by unfold Q4.spr; split <;> omega
      generalize 2 ^ (2 * n + 2) = M at *
      omega
    refine ⟨_, rfl, p, CT, dx, _, _, rfl, h1, TF.cl, TF.nL, rfl, q, v, n, rfl, h2, n0, by omega, bv, _, _, rfl, rfl, wide_mul (a := 3) (b := 2 * n + 2) (by decide) bv.size (by decide) (by omega) (by omega), ?_⟩
    refine ⟨_, rfl, p, dx, _, rfl, h1, p, v, n, rfl, hT, n0, by omega, bv, _, _, rfl, rfl, dwn sp0 bs (by omega) (by omega), ?_⟩
    refine nx_norm (σ' := [some (.ref p), some (.int v.a), some (.int v.b), some (.int v.c), some (.int v.d), some (.int v.scale), none, none, none, none]) (congrArg (fun z => [some (V.ref p), some (.int v.a), some (.int v.b), some (.int v.c), some (.int v.d), some (.int z), none, none, none, none]) esc) ?_
    refine ⟨_, rfl, _, rfl, _, _, rfl, rfl, wm bv.1 bv.1 n0 (by omega), _, rfl, _, rfl, _, _, rfl, rfl, wm bv.2.1 bv.2.1 n0 (by omega), _, _, rfl, rfl, _, rfl, _, rfl, _, _, rfl, rfl, wm bv.2.2.1 bv.2.2.1 n0 (by omega), _, _, rfl, rfl, _, rfl, _, rfl, _, _, rfl, rfl, wm bv.2.2.2 bv.2.2.2 n0 (by omega), _, _, rfl, rfl, _, rfl, _, rfl, _, _, rfl, rfl, wm bv.2.1 bv.2.2.1 n0 (by omega), _, rfl, _, rfl, _, _, rfl, rfl, wm bv.1 bv.2.2.2 n0 (by omega), _, _, rfl, rfl, _, _, rfl, rfl, w2s bv.2.1 bv.2.2.1 bv.1 bv.2.2.2 n1, _, rfl, _, rfl, _, _, rfl, rfl, wm bv.2.1 bv.2.2.2 n0 (by omega), _, rfl, _, rfl, _, _, rfl, rfl, wm bv.1 bv.2.2.1 n0 (by omega), _, _, rfl, rfl, _, _, rfl, rfl, w2a bv.2.1 bv.2.2.2 bv.1 bv.2.2.1 n1, (by show 3 ≤ sizeLine; decide), fun z0 nz0 => ⟨_, rfl, _, rfl, _, _, rfl, rfl, wm bv.2.1 bv.2.2.1 n0 (by omega), _, rfl, _, rfl, _, _, rfl, rfl, wm bv.1 bv.2.2.2 n0 (by omega), _, _, rfl, rfl, _, _, rfl, rfl, w2a bv.2.1 bv.2.2.1 bv.1 bv.2.2.2 n1, _, rfl, _, rfl, _, _, rfl, rfl, wm bv.1 bv.1 n0 (by omega), _, rfl, _, rfl, _, _, rfl, rfl, wm bv.2.1 bv.2.1 n0 (by omega), _, _, rfl, rfl, _, rfl, _, rfl, _, _, rfl, rfl, wm bv.2.2.1 bv.2.2.1 n0 (by omega), _, _, rfl, rfl, _, rfl, _, rfl, _, _, rfl, rfl, wm bv.2.2.2 bv.2.2.2 n0 (by omega), _, _, rfl, rfl, _, rfl, _, rfl, _, _, rfl, rfl, wm bv.2.2.1 bv.2.2.2 n0 (by omega), _, rfl, _, rfl, _, _, rfl, rfl, wm bv.1 bv.2.1 n0 (by omega), _, _, rfl, rfl, _, _, rfl, rfl, w2s bv.2.2.1 bv.2.2.2 bv.1 bv.2.1 n1, (by show 3 ≤ sizeLine; decide), fun z1 nz1 => ⟨_, rfl, _, rfl, _, _, rfl, rfl, wm bv.2.1 bv.2.2.2 n0 (by omega), _, rfl, _, rfl, _, _, rfl, rfl, wm bv.1 bv.2.2.1 n0 (by omega), _, _, rfl, rfl, _, _, rfl, rfl, w2s bv.2.1 bv.2.2.2 bv.1 bv.2.2.1 n1, _, rfl, _, rfl, _, _, rfl, rfl, wm bv.2.2.1 bv.2.2.2 n0 (by omega), _, rfl, _, rfl, _, _, rfl, rfl, wm bv.1 bv.2.1 n0 (by omega), _, _, rfl, rfl, _, _, rfl, rfl, w2a bv.2.2.1 bv.2.2.2 bv.1 bv.2.1 n1, _, rfl, _, rfl, _, _, rfl, rfl, wm bv.1 bv.1 n0 (by omega), _, rfl, _, rfl, _, _, rfl, rfl, wm bv.2.1 bv.2.1 n0 (by omega), _, _, rfl, rfl, _, rfl, _, rfl, _, _, rfl, rfl, wm bv.2.2.1 bv.2.2.1 n0 (by omega), _, _, rfl, rfl, _, rfl, _, rfl, _, _, rfl, rfl, wm bv.2.2.2 bv.2.2.2 n0 (by omega), _, _, rfl, rfl, (by show 3 ≤ sizeLine; decide), fun z2 nz2 => ⟨(by show 3 ≤ sizeLine; decide), fun l nl => ?_⟩⟩⟩⟩
    have mz1 : (upd H z0 (.tup ([v.e11, v.e12, v.e13].map V.int))) z1 = none := nz1
    have mz2 : (upd (upd H z0 (.tup ([v.e11, v.e12, v.e13].map V.int))) z1 (.tup ([v.e21, v.e22, v.e23].map V.int))) z2 = none := nz2
    have ml : (upd (upd (upd H z0 (.tup ([v.e11, v.e12, v.e13].map V.int))) z1 (.tup ([v.e21, v.e22, v.e23].map V.int))) z2 (.tup ([v.e31, v.e32, v.e33].map V.int))) l = none := nl
    dsimp only [gName]
    refine nx2 (σ' := [some (.ref p), some (.int v.a), some (.int v.b), some (.int v.c), some (.int v.d), some (.int v.scale), some (.ref l), none, none, none]) (H' := upd (upd (upd (upd H z0 (.tup ([v.e11, v.e12, v.e13].map V.int))) z1 (.tup ([v.e21, v.e22, v.e23].map V.int))) z2 (.tup ([v.e31, v.e32, v.e33].map V.int))) l (.lst [.ref z0, .ref z1, .ref z2])) rfl rfl ?_
    clear nz1 nz2 nl
    have sA : Same H (upd H z0 (.tup ([v.e11, v.e12, v.e13].map V.int))) := same_upd nz0
    have gA : (upd H z0 (.tup ([v.e11, v.e12, v.e13].map V.int))) z0 = some (.tup ([v.e11, v.e12, v.e13].map V.int)) := upd_same
    generalize upd H z0 (.tup ([v.e11, v.e12, v.e13].map V.int)) = HA at *
    have sB : Same HA (upd HA z1 (.tup ([v.e21, v.e22, v.e23].map V.int))) := same_upd mz1
    have gB : (upd HA z1 (.tup ([v.e21, v.e22, v.e23].map V.int))) z1 = some (.tup ([v.e21, v.e22, v.e23].map V.int)) := upd_same
    generalize upd HA z1 (.tup ([v.e21, v.e22, v.e23].map V.int)) = HB at *
    have sC : Same HB (upd HB z2 (.tup ([v.e31, v.e32, v.e33].map V.int))) := same_upd mz2
    have gC : (upd HB z2 (.tup ([v.e31, v.e32, v.e33].map V.int))) z2 = some (.tup ([v.e31, v.e32, v.e33].map V.int)) := upd_same
    generalize upd HB z2 (.tup ([v.e31, v.e32, v.e33].map V.int)) = HC at *
    have sD : Same HC (upd HC l (.lst [.ref z0, .ref z1, .ref z2])) := same_upd ml
    have gD : (upd HC l (.lst [.ref z0, .ref z1, .ref z2])) l = some (.lst [.ref z0, .ref z1, .ref z2]) := upd_same
    generalize upd HC l (.lst [.ref z0, .ref z1, .ref z2]) = HD at *
    have s0 : Same H HD := ((sA.trans sB).trans sC).trans sD
    have gA := sD _ _ (sC _ _ (sB _ _ gA))
    have gB := sD _ _ (sC _ _ gB)
    have gC := sD _ _ gC
    have sc3 : v.scale.natAbs < 2 ^ 4 := by unfold Q4.scale; split <;> decide
    refine ⟨_, rfl, l, rfl, ⟨_, SqL.of gD⟩, fun D nD => ?_⟩
    refine lc_list (K := K) (a := l) (xs := [.ref z0, .ref z1, .ref z2]) (MadeO (RowAt K) HD D v.tab) (MadeO.zero nD) (fun j H' _ h => SqL.of (h.1 _ _ gD)) ?_ ?_
    · rintro j x H' hx hM
      obtain ⟨z, a, b, c, rfl, hz, ht, hj⟩ : ∃ (z : Addr) (a b c : Int), x = .ref z ∧ HD z = some (.tup ([a, b, c].map V.int)) ∧ v.tab[j]? = some [a / v.scale, b / v.scale, c / v.scale] ∧ j < 3 := by
        match j, hx with
        | 0, hx => cases hx; exact ⟨z0, _, _, _, rfl, gA, rfl, by decide⟩
        | 1, hx => cases hx; exact ⟨z1, _, _, _, rfl, gB, rfl, by decide⟩
        | 2, hx => cases hx; exact ⟨z2, _, _, _, rfl, gC, rfl, by decide⟩
      refine ⟨z, _, rfl, SqT.of (hM.1 _ _ hz), rfl, _, _, rfl, _, _, rfl, _, _, rfl, rfl, rfl, ?_⟩
      dsimp only [tYes]
      rw [if_pos rfl]
      refine ⟨_, rfl, _, rfl, _, _, rfl, rfl, dwn sc0 sc3 (by decide) (by decide), _, rfl, _, rfl, _, _, rfl, rfl, dwn sc0 sc3 (by decide) (by decide), _, rfl, _, rfl, _, _, rfl, rfl, dwn sc0 sc3 (by decide) (by decide), (by show 3 ≤ sizeLine; decide), fun r nr => ?_⟩
      exact hM.snoc tame_row (same_upd nr) nD ht (SqT.of upd_same) (by omega)
    · rintro H2 hM
      exact k D _ (s0.free nD) (s0.trans hM.1) (hM.objs rfl)
end
end G
set_option Elab.async false
set_option linter.all false
set_option maxRecDepth 100000
set_option maxHeartbeats 2000000
namespace G
open PySem PySem.Spec PyProof.Rows L2 RZ StX
/-! ### products of rows, images -/
def dot (c d : List Int) : Int := (List.zipWith (· * ·) c d).sum
/-- a comprehension over the zip of two rows -/
theorem zipI {K : PySem.W.Frag} {t1 t2 D : Addr} {c d : List Int} {H : Hp} (g : Int → Int → Int) {Qd : Hp → Prop} {Bd' : (Hp → Prop) → V → Hp → Prop} (hl : c.length = d.length) (hc : c.length ≤ 900) (h1 : RowAt K H t1 c) (h2 : RowAt K H t2 d) (nD : H D = none)
    (turn : ∀ (N : Hp → Prop) (x y : Int) (T : Addr) (H' : Hp) (acc : List V), x ∈ c → y ∈ d → H' T = none → H' D = some (.lst acc) → acc.length ≤ 900 → T ≠ D → N (upd (upd H' T (.tup [.int x, .int y])) D (.lst (acc ++ [.int (g x y)]))) → Bd' N (.ref T) (upd H' T (.tup [.int x, .int y])))
    (hd : ∀ H', Same H H' → H' D = some (.lst ((List.zipWith g c d).map V.int)) → Qd H') :
    ∃ W : Nat → Nat → Hp → Prop, (∃ m, W 0 m (upd H D (.lst []))) ∧ ∀ i m H, W i m H → ((ItzT K t1 t2).stop i H ∧ Qd H) ∨ ((ItzT K t1 t2).go i H ∧ ∃ Nx : Hp → Prop, (∀ H', Nx H' → ∃ m', m' < m ∧ W (i + 1) m' H') ∧ ∀ x H', (ItzT K t1 t2).yld i H x H' → Bd' Nx x H') := by
  refine zip_turns (xs := c.map V.int) (ys := d.map V.int) (by rw [List.length_map, List.length_map, hl]) (fun H' => SqT K H' t1 (c.map V.int) ∧ SqT K H' t2 (d.map V.int)) (fun i x y H' q hx hy => ⟨_, _, x, y, q.1, q.2, hx, hy⟩) (fun H' q => ⟨_, _, q.1, q.2, .inl (Nat.le_refl _)⟩) (fun i z H' H2 q hy => ?_)
    (fun i H' => Same H H' ∧ H' D = some (.lst (((List.zipWith g c d).take i).map V.int))) ⟨same_upd nD, upd_same⟩ (fun i H' q => ⟨tame_row.same h1 q.1, tame_row.same h2 q.1⟩) ?_ ?_
  · obtain ⟨T, x', y', rfl, hT, rfl, f1, f2⟩ := hy
    exact ⟨T, x', y', rfl, hT, rfl, f1 _ q.1, f2 _ q.2⟩
  · rintro i x y T H' hx hy ⟨sm, hD⟩ nT
    obtain ⟨p, rfl, hp⟩ := int_at hx
    obtain ⟨q, rfl, hq⟩ := int_at hy
    have nTD : T ≠ D := (ne_of_none hD nT).symm
    have hi := (List.getElem?_eq_some_iff.mp hp).1
    refine turn _ p q T H' _ (List.mem_of_getElem? hp) (List.mem_of_getElem? hq) nT hD (by rw [List.length_map, List.length_take]; omega) nTD ⟨?_, ?_⟩
    · intro b o e
      rw [upd_ne (ne_of_none e nD), upd_ne (ne_of_none (sm _ _ e) nT)]
      exact sm _ _ e
    · have hz : (List.zipWith g c d)[i]? = some (g p q) := by rw [List.getElem?_zipWith, hp, hq]
      rw [upd_same, take_snoc hz, List.map_append]
      rfl
  · rintro H' ⟨sm, hD⟩
    refine hd H' sm ?_
    rw [List.length_map] at hD
    rw [hD, List.take_of_length_le (by rw [List.length_zipWith]; omega)]
def spDotted (K : PySem.W.Frag) : Sp := fun vs H Q _ => ∃ (a b : Addr) (c d : List Int) (n : Nat), vs = [.ref a, .ref b] ∧ RowAt K H a c ∧ RowAt K H b d ∧ c.length = d.length ∧ c.length ≤ 900 ∧ 0 < n ∧ n ≤ 400000 ∧ (∀ x ∈ c, x.natAbs < 2 ^ n) ∧ (∀ x ∈ d, x.natAbs < 2 ^ n) ∧ ∀ H', Same H H' → Q (.int (dot c d)) H'
section
variable {P : Program} {w : World} {K : PySem.W.Frag} {mg : Str → Option Value} {base : Heap}
theorem ok_dotted {f : Addr} {fd : FuncData} {k : Nat} (F : Fun K "dotted" "dotted" s_dotted f fd) (B : Bn mg) : FnOk P w K mg base CX0 (k + 1) f fd ["one", "other"] (spDotted K) := by
  refine F.ok sc_dotted (fun vs H Q E h => ?_) (fun cdv A outer s H vs Q E hr h => ?_)
  · obtain ⟨a, b, c, d, n, rfl, _⟩ := h
    rfl
  · obtain ⟨a, b, c, d, n, rfl, hc, hd, hl, hz, n0, n1, bc, bd, q⟩ := h
    refine ⟨_, (pss_one (ps_ret (pe_callB (cr_sum rfl) (by rfl) B.sum (by decide +kernel) (pa_cons (pe_lc (own := [("left", 2), ("right", 3)]) (g := gTup K 2 (gCons (gName 2) (gCons (gName 3) gNil))) (tt := tYes) (by rfl) sc_dotted.nd (pi_zipA (by rfl) B.zip (pa_cons (pv 0) (pa_cons (pv 1) pa_nil))) (blkOk_by (own := [("left", 2), ("right", 3)]) (N := ["one", "other", "left", "right"]) (sc := (defScope s_dotted)) (by decide +kernel)) (fun _ _ _ _ _ => pg_tup (by rfl) (pgs_cons (pg_name (i := 2) sc_dotted.nd rfl (Or.inl rfl)) (pgs_cons (pg_name (i := 3) sc_dotted.nd rfl (Or.inl rfl)) pgs_nil))) (fun _ _ _ _ _ => pts_nil) (fun _ _ _ _ _ => (pe_op op_mulW (pv 2) (pv 3)))) pa_nil)))), ?_⟩
    refine ⟨_, rfl, _, rfl, a, b, _, _, rfl, .inr ⟨hc, hd, fun D nD => ?_⟩⟩
    refine zipI (fun x y => x * y) hl hz hc hd nD (fun N x y T H' acc hx hy nT hD hl ne hN => ?_) (fun H7 s7 d7 => ?_)
    · refine ⟨T, _, rfl, SqT.of upd_same, rfl, _, _, rfl, _, _, rfl, rfl, rfl, ?_⟩
      dsimp only [tYes]
      rw [if_pos rfl]
      exact ⟨_, rfl, _, rfl, _, _, rfl, rfl, wm (bc x hx) (bd y hy) n0 n1, _, by rw [upd_ne ne.symm]; exact hD, small1000 (by omega), hN⟩
    · exact ⟨D, _, rfl, SqL.of d7, q _ s7⟩
end
/-- a pair of a row and a number -/
def PairAt (K : PySem.W.Frag) (H : Hp) (r : Addr) (c : List Int) (m : Int) : Prop := ∃ t, SqT K H r [.ref t, .int m] ∧ RowAt K H t c
theorem PairAt.same {K : PySem.W.Frag} {H H' : Hp} {r : Addr} {c : List Int} {m : Int} (h : PairAt K H r c m) (s : Same H H') : PairAt K H' r c m := by
  obtain ⟨t, h1, h2⟩ := h
  exact ⟨t, s.tup h1, tame_row.same h2 s⟩
/-- the image of a point, in lowest terms -/
def Q4.dots (v : Q4) (pt : List Int) : List Int := v.tab.map (dot · pt)
def Q4.img (v : Q4) (pt : List Int) : List Int := (v.dots pt).map (· / gcdL (v.dots pt ++ [v.spr]))
def Q4.imgn (v : Q4) (pt : List Int) : Int := v.spr / gcdL (v.dots pt ++ [v.spr])
def spImage (C CT : Addr) (K : PySem.W.Frag) : Sp := fun vs H Q _ => ∃ (p b : Addr) (v : Q4) (pt : List Int) (n : Nat), vs = [.ref p, .ref b] ∧ TurnAt C CT H p v ∧ RowAt K H b pt ∧ pt.length = 3 ∧ 0 < n ∧ n ≤ 3000 ∧ v.Bd n ∧ (∀ x ∈ pt, x.natAbs < 2 ^ n) ∧ ∀ r H', H r = none → Same H H' → PairAt K H' r (v.img pt) (v.imgn pt) → Q (.ref r) H'
theorem tab_len {v : Q4} : ∀ c ∈ v.tab, c.length = 3 := fun c m => by
  simp only [Q4.tab, List.mem_cons, List.not_mem_nil, or_false] at m
  rcases m with rfl | rfl | rfl <;> rfl
theorem div_bd {x s : Int} {n : Nat} (h : x.natAbs < 2 ^ n) : (x / s).natAbs < 2 ^ n := Nat.lt_of_le_of_lt (Int.natAbs_ediv_le_natAbs _ _) h
theorem n2 {x y : Int} {M N : Nat} (a : x.natAbs < M) (b : y.natAbs < N) : (x + y).natAbs < M + N ∧ (x - y).natAbs < M + N := ⟨Nat.lt_of_le_of_lt (Int.natAbs_add_le x y) (by omega), Nat.lt_of_le_of_lt (Int.natAbs_sub_le x y) (by omega)⟩
theorem q2a {x y : Int} {M : Nat} (a : x.natAbs < M) (b : y.natAbs < M) : (2 * (x + y)).natAbs < 4 * M := by
  have := (n2 a b).1
  rw [Int.natAbs_mul]
  show 2 * _ < _
  omega
theorem q2s {x y : Int} {M : Nat} (a : x.natAbs < M) (b : y.natAbs < M) : (2 * (x - y)).natAbs < 4 * M := by
  have := (n2 a b).2
  rw [Int.natAbs_mul]
  show 2 * _ < _
  omega
theorem q4a {x y z t : Int} {M : Nat} (a : x.natAbs < M) (b : y.natAbs < M) (c : z.natAbs < M) (d : t.natAbs < M) : (x + y - z - t).natAbs < 4 * M := Nat.lt_of_lt_of_le (n2 (n2 (n2 a b).1 c).2 d).2 (by omega)
theorem q4b {x y z t : Int} {M : Nat} (a : x.natAbs < M) (b : y.natAbs < M) (c : z.natAbs < M) (d : t.natAbs < M) : (x - y + z - t).natAbs < 4 * M := Nat.lt_of_lt_of_le (n2 (n2 (n2 a b).2 c).1 d).2 (by omega)
theorem q4c {x y z t : Int} {M : Nat} (a : x.natAbs < M) (b : y.natAbs < M) (c : z.natAbs < M) (d : t.natAbs < M) : (x - y - z + t).natAbs < 4 * M := Nat.lt_of_lt_of_le (n2 (n2 (n2 a b).2 c).2 d).1 (by omega)
theorem Q4.Bd.tab {v : Q4} {n : Nat} (h : v.Bd n) : ∀ c ∈ v.tab, ∀ x ∈ c, x.natAbs < 2 ^ (2 * n + 2) := by
  obtain ⟨a, b, c, d⟩ := h
  have aa := pb a a
  have bb := pb b b
  have cc := pb c c
  have dd := pb d d
  have ab := pb a b
  have ac := pb a c
  have ad := pb a d
  have bc := pb b c
  have bd := pb b d
  have cd := pb c d
  have e : 2 ^ (2 * n + 2) = 4 * 2 ^ (2 * n) := by rw [Nat.pow_add]; omega
  have key : ∀ y ∈ [v.e11, v.e12, v.e13, v.e21, v.e22, v.e23, v.e31, v.e32, v.e33], y.natAbs < 2 ^ (2 * n + 2) := by
    rw [e]
    intro y m
    simp only [List.mem_cons, List.not_mem_nil, or_false] at m
    simp only [Q4.e11, Q4.e12, Q4.e13, Q4.e21, Q4.e22, Q4.e23, Q4.e31, Q4.e32, Q4.e33] at m
    generalize 2 ^ (2 * n) = M at *
    generalize v.a * v.a = A at *
    generalize v.b * v.b = B at *
    generalize v.c * v.c = C at *
    generalize v.d * v.d = D at *
    generalize v.a * v.b = AB at *
    generalize v.a * v.c = AC at *
    generalize v.a * v.d = AD at *
    generalize v.b * v.c = BC at *
    generalize v.b * v.d = BD at *
    generalize v.c * v.d = CD at *
    rcases m with rfl | rfl | rfl | rfl | rfl | rfl | rfl | rfl | rfl
    · exact q4a aa bb cc dd
    · exact q2s bc ad
    · exact q2a bd ac
    · exact q2a bc ad
    · exact q4b aa bb cc dd
    · exact q2s cd ab
    · exact q2s bd ac
    · exact q2a cd ab
    · exact q4c aa bb cc dd
  intro c m x mx
  simp only [Q4.tab, List.mem_cons, List.not_mem_nil, or_false] at m
  rcases m with rfl | rfl | rfl <;> simp only [List.mem_cons, List.not_mem_nil, or_false] at mx <;> rcases mx with rfl | rfl | rfl <;> exact div_bd (key _ (by simp))
section
variable {P : Program} {w : World} {K : PySem.W.Frag} {mg : Str → Option Value} {base : Heap}
theorem ok_image {f C CT : Addr} {fd : FuncData} (F : Fun K "image" "Turn.image" s_Turn_image f fd) (TF : TurnC K mg CT) (P_spread : PropOk P w K mg base CT "spread" 3 ["self"] (spTSpread C CT)) (M_rows : MethOk P w K mg base CT "rows" 5 ["self"] (spTRows C CT K)) (D_dotted : DefOk P w K mg base "dotted" 1 ["one", "other"] (spDotted K)) (D_common_of : DefOk P w K mg base "common_of" 2 ["row"] (spGcdOfT K)) : FnOk P w K mg base CX0 6 f fd ["self", "point"] (spImage C CT K) := by
  refine F.ok sc_Turn_image (fun vs H Q E h => ?_) (fun cdv A outer s H vs Q E hr h => ?_)
  · obtain ⟨p, b, v, pt, n, rfl, _⟩ := h
    rfl
  · obtain ⟨p, b, v, pt, n, rfl, hT, hP, lp, n0, n1, bv, bp, k⟩ := h
    obtain ⟨pv', dx, q, h1, h2⟩ := id hT
    refine ⟨_, (pss_cons (ps_set (i := 2) sc_Turn_image.nd rfl (Or.inl rfl) (pe_propD (pv 0) TF.cl P_spread (hr.mono (by decide))))
      (pss_cons (ps_asg (pe_lc (own := [("row", 7)]) (g := gName 7) (tt := tYes) (by rfl) sc_Turn_image.nd (pi_list (pe_methD0 (pv 0) TF.cl M_rows (hr.mono (by decide)))) (blkOk_by (own := [("row", 7)]) (N := ["self", "point", "spread", "x", "y", "z", "shared", "row"]) (sc := (defScope s_Turn_image)) (by decide +kernel)) (fun _ _ _ _ _ => pg_name (i := 7) sc_Turn_image.nd rfl (Or.inl rfl)) (fun _ _ _ _ _ => pts_nil) (fun _ _ _ _ _ => (pe_callD D_dotted (hr.mono (by decide)) (pa_cons (pv 7) (pa_cons (pv 1) pa_nil))))) (pg_unl (by rfl) (pgs_cons (pg_name (i := 3) sc_Turn_image.nd rfl (Or.inl rfl)) (pgs_cons (pg_name (i := 4) sc_Turn_image.nd rfl (Or.inl rfl)) (pgs_cons (pg_name (i := 5) sc_Turn_image.nd rfl (Or.inl rfl)) pgs_nil)))))
      (pss_cons (ps_set (i := 6) sc_Turn_image.nd rfl (Or.inl rfl) (pe_callD D_common_of (hr.mono (by decide)) (pa_cons (pe_tup (pa_cons (pv 3) (pa_cons (pv 4) (pa_cons (pv 5) (pa_cons (pv 2) pa_nil))))) pa_nil)))
      (pss_one (ps_ret (pe_tup (pa_cons (pe_tup (pa_cons (pe_op op_fdivW (pv 3) (pv 6)) (pa_cons (pe_op op_fdivW (pv 4) (pv 6)) (pa_cons (pe_op op_fdivW (pv 5) (pv 6)) pa_nil)))) (pa_cons (pe_op op_fdivW (pv 2) (pv 6)) pa_nil)))))))), ?_⟩
    obtain ⟨_, _, _, sp0, _, _⟩ := Q4.table_of (u := v) (m := 1) (by decide) pv' (by simp)
    refine ⟨_, rfl, p, dx, _, rfl, h1, p, v, n, rfl, hT, n0, by omega, bv, ?_⟩
    refine ⟨_, rfl, p, dx, _, rfl, h1, rfl, p, v, n, rfl, hT, n0, n1, bv, fun l H1 nl s1 hL => ?_⟩
    obtain ⟨ts, g1, g2, g3⟩ := id hL
    refine ⟨l, rfl, ⟨_, SqL.of g1⟩, fun D nD => ?_⟩
    refine lc_list (K := K) (a := l) (xs := ts.map V.ref) (MadeI H1 D (v.dots pt)) (MadeI.zero nD) (fun j H' _ h => SqL.of (h.1 _ _ g1)) ?_ ?_
    · rintro j x H' hx hM
      obtain ⟨t, c, rfl, et, ec, hj⟩ := ref_at g2 hx
      refine ⟨rfl, ?_⟩
      dsimp only [tYes]
      rw [if_pos rfl]
      have mc := List.mem_of_getElem? ec
      have hj' : j < 3 := hj
      refine ⟨_, rfl, _, rfl, t, b, c, pt, 2 * n + 2, rfl, tame_row.same (g3 j t c et ec) hM.1, tame_row.same hP (s1.trans hM.1), by rw [tab_len c mc, lp], by rw [tab_len c mc]; decide, by omega, by omega, bv.tab c mc, fun x m => Nat.lt_of_lt_of_le (bp x m) (Nat.pow_le_pow_right (by decide) (by omega)), fun H4 s4 => ?_⟩
      exact hM.snoc s4 nD (by show (v.tab.map (dot · pt))[j]? = _; rw [List.getElem?_map, ec]; rfl) (by omega)
    · rintro H2 hM
      have hD := hM.all (by rw [List.length_map, g2]; show _ = (v.tab.map (dot · pt)).length; rw [List.length_map])
      obtain ⟨x, y, z, ed⟩ : ∃ x y z, v.dots pt = [x, y, z] := ⟨_, _, _, rfl⟩
      rw [ed] at hD
      refine ⟨D, _, rfl, SqL.of hD, rfl, _, _, rfl, _, _, rfl, _, _, rfl, rfl, ?_⟩
      refine nx_norm (σ' := [some (.ref p), some (.ref b), some (.int v.spr), some (.int x), some (.int y), some (.int z), none, none]) rfl ?_
      refine ⟨_, rfl, _, rfl, _, rfl, _, rfl, (by show 4 ≤ sizeLine; decide), fun T nT => ⟨T, [x, y, z, v.spr], rfl, SqT.of upd_same, ?_⟩⟩
      have sT : Same H2 (upd H2 T (.tup ([x, y, z, v.spr].map V.int))) := same_upd nT
      have sA := (s1.trans hM.1).trans sT
      generalize hg : gcdL [x, y, z, v.spr] = gg
      have gd : gg ∣ v.spr := by rw [← hg]; exact gcdL_dvd (by simp)
      have gp : 0 < gg := by
        have := gcdL_pos [x, y, z, v.spr]
        rw [hg] at this
        rcases Int.lt_or_eq_of_le this with h | h
        · exact h
        · rw [← h] at gd; have := Int.zero_dvd.mp gd; omega
      have gb : gg.natAbs < 2 ^ (2 * n + 2) := by
        have := bv.size
        have e : v.spr ≤ v.size := by unfold Q4.spr; have := Q4.size_pos pv'; split <;> omega
        have := Int.le_of_dvd sp0 gd
        generalize 2 ^ (2 * n + 2) = M at *
        omega
      have dv : ∀ i : Int, CDivW i gg := fun i => dwn gp gb (by omega) (by omega)
      dsimp only [gName]
      refine nx_norm (σ' := [some (.ref p), some (.ref b), some (.int v.spr), some (.int x), some (.int y), some (.int z), some (.int gg), none]) rfl ?_
      refine ⟨_, rfl, _, rfl, _, _, rfl, rfl, dv _, _, rfl, _, rfl, _, _, rfl, rfl, dv _, _, rfl, _, rfl, _, _, rfl, rfl, dv _, (by show 3 ≤ sizeLine; decide), fun r1 nr1 => ?_⟩
      refine ⟨_, rfl, _, rfl, _, _, rfl, rfl, dv _, (by show 2 ≤ sizeLine; decide), fun r nr => ?_⟩
      refine k r _ (sA.free ((same_upd nr1).free nr)) ((sA.trans (same_upd nr1)).trans (same_upd nr)) ⟨r1, ?_, ?_⟩
      · have : v.imgn pt = v.spr / gg := by unfold Q4.imgn; rw [ed]; show v.spr / gcdL [x, y, z, v.spr] = _; rw [hg]
        rw [this]
        exact SqT.of upd_same
      · have : v.img pt = [x / gg, y / gg, z / gg] := by unfold Q4.img; rw [ed]; show [x / gcdL [x, y, z, v.spr], _, _] = _; rw [← hg]; rfl
        rw [this]
        exact SqT.of (same_upd nr _ _ upd_same)
theorem ok_tcall {f C CT : Addr} {fd : FuncData} (F : Fun K "__call__" "Turn.__call__" s_Turn_call f fd) (TF : TurnC K mg CT) (M_image : MethOk P w K mg base CT "image" 6 ["self", "point"] (spImage C CT K)) : FnOk P w K mg base CX0 7 f fd ["self", "point"] (spImage C CT K) := by
  refine F.ok sc_Turn_call (fun vs H Q E h => ?_) (fun cdv A outer s H vs Q E hr h => ?_)
  · obtain ⟨p, b, v, pt, n, rfl, _⟩ := h
    rfl
  · obtain ⟨p, b, v, pt, n, rfl, hT, z⟩ := h
    obtain ⟨pv', dx, q, h1, h2⟩ := id hT
    refine ⟨_, (pss_one (ps_ret (pe_methD (f := 0) (pv 0) TF.cl M_image (hr.mono (by decide)) (pa_cons (pv 1) pa_nil)))), ?_⟩
    exact ⟨_, rfl, p, dx, _, rfl, h1, rfl, _, rfl, p, b, v, pt, n, rfl, hT, z⟩
end
end G
set_option Elab.async false
set_option linter.all false
set_option maxRecDepth 100000
set_option maxHeartbeats 2000000
namespace G
open PySem PySem.Spec PyProof.Rows L2 RZ StX
/-! ### products and inverses of turns -/
theorem mul_ne {u v : Q4} (hu : Q4.Prim u) (hv : Q4.Prim v) : Q4.mul u v ≠ ⟨0, 0, 0, 0⟩ := fun e => by
  have h := Q4.size_mul hu.par hv.par
  rw [e] at h
  have a := Q4.size_pos hu
  have b := Q4.size_pos hv
  have := Int.mul_pos a b
  have z : Q4.size ⟨0, 0, 0, 0⟩ = 0 := by decide
  omega
theorem mir_ne {u : Q4} (hu : Q4.Prim u) : u.mir ≠ ⟨0, 0, 0, 0⟩ := fun e => by
  apply hu.ne
  have a := congrArg Q4.a e
  have b := congrArg Q4.b e
  have c := congrArg Q4.c e
  have d := congrArg Q4.d e
  simp only [Q4.mir] at a b c d
  exact Q4.ext a (by simpa using b) (by simpa using c) (by simpa using d)
def spTMul (C CT : Addr) : Sp := fun vs H Q _ => ∃ (p q : Addr) (u v : Q4) (n : Nat), vs = [.ref p, .ref q] ∧ TurnAt C CT H p u ∧ TurnAt C CT H q v ∧ 0 < n ∧ n ≤ 3000 ∧ u.Bd n ∧ v.Bd n ∧ ∀ r H', H r = none → Same H H' → TurnAt C CT H' r (Q4.mul u v).lead → Q (.ref r) H'
def spTNeg (C CT : Addr) : Sp := fun vs H Q _ => ∃ (p : Addr) (u : Q4) (n : Nat), vs = [.ref p] ∧ TurnAt C CT H p u ∧ 0 < n ∧ n ≤ 8000 ∧ u.Bd n ∧ ∀ r H', H r = none → Same H H' → TurnAt C CT H' r u.mir.lead → Q (.ref r) H'
section
variable {P : Program} {w : World} {K : PySem.W.Frag} {mg : Str → Option Value} {base : Heap}
theorem ok_tmul {f C CT : Addr} {fd : FuncData} (F : Fun K "__mul__" "Turn.__mul__" s_Turn_mul f fd) (CF : FourC K mg C) (TF : TurnC K mg CT) (TI : TInitOk P w K mg base C CT) (M_mul : MethOk P w K mg base C "__mul__" 5 ["self", "other"] (spBin C Q4.mul mulOk)) : FnOk P w K mg base CX0 9 f fd ["self", "other"] (spTMul C CT) := by
  refine F.ok sc_Turn_mul (fun vs H Q E h => ?_) (fun cdv A outer s H vs Q E hr h => ?_)
  · obtain ⟨p, q, u, v, n, rfl, _⟩ := h
    rfl
  · obtain ⟨p, q, u, v, n, rfl, hu, hv, n0, n1, bu, bv, k⟩ := h
    obtain ⟨pu, dx, a, h1, h2⟩ := id hu
    obtain ⟨pv', dy, b, k1, k2⟩ := id hv
    refine ⟨_, (pss_one (ps_ret (pe_turn TI hr TF.mgC (pa_cons (pe_op (op_F2 CF.toClsFacts M_mul (hr.mono (by decide))) (pe_fld (pv 0) rfl) (pe_fld (pv 1) rfl)) pa_nil)))), ?_⟩
    refine ⟨_, rfl, p, CT, dx, _, _, rfl, h1, TF.cl, TF.nL, rfl, _, rfl, q, CT, dy, _, _, rfl, k1, TF.cl, TF.nL, rfl, a, b, u, v, rfl, rfl, h2, k2, ⟨n, n0, by omega, bu, bv⟩, fun r H1 nr s1 hr1 => ?_⟩
    exact ⟨r, _, 2 * n + 2, rfl, hr1, by omega, by omega, bu.mul bv, mul_ne pu pv', fun x H2 nx s2 hx => k x H2 (s1.free nx) (s1.trans s2) hx⟩
theorem ok_tneg {f C CT : Addr} {fd : FuncData} (F : Fun K "__neg__" "Turn.__neg__" s_Turn_neg f fd) (CF : FourC K mg C) (TF : TurnC K mg CT) (TI : TInitOk P w K mg base C CT) (M_mirrored : MethOk P w K mg base C "mirrored" 5 ["self"] (spUn C Q4.mir)) : FnOk P w K mg base CX0 9 f fd ["self"] (spTNeg C CT) := by
  refine F.ok sc_Turn_neg (fun vs H Q E h => ?_) (fun cdv A outer s H vs Q E hr h => ?_)
  · obtain ⟨p, u, n, rfl, _⟩ := h
    rfl
  · obtain ⟨p, u, n, rfl, hu, n0, n1, bu, k⟩ := h
    obtain ⟨pu, dx, a, h1, h2⟩ := id hu
    refine ⟨_, (pss_one (ps_ret (pe_turn TI hr TF.mgC (pa_cons (pe_F1 (pe_fld (pv 0) rfl) CF.toClsFacts M_mirrored (hr.mono (by decide))) pa_nil)))), ?_⟩
    refine ⟨_, rfl, p, CT, dx, _, _, rfl, h1, TF.cl, TF.nL, rfl, a, u, rfl, h2, fun r H1 nr s1 hr1 => ?_⟩
    exact ⟨r, _, n, rfl, hr1, n0, n1, bu.mir, mir_ne pu, fun x H2 nx s2 hx => k x H2 (s1.free nx) (s1.trans s2) hx⟩
end
end G
set_option Elab.async false
set_option linter.all false
set_option maxRecDepth 100000
set_option maxHeartbeats 2000000
namespace G
open PySem PySem.Spec PyProof.Rows L2 RZ StX
/-! ### the law's own tables and images -/
def TabAt (K : PySem.W.Frag) (H : Hp) (r : Addr) (v : Q4) : Prop := ∃ l, SqT K H r [.ref l, .int v.spr] ∧ ObjsAt (RowAt K) H l v.tab
theorem TabAt.same {K : PySem.W.Frag} {H H' : Hp} {r : Addr} {v : Q4} (h : TabAt K H r v) (s : Same H H') : TabAt K H' r v := by
  obtain ⟨t, h1, h2⟩ := h
  exact ⟨t, s.tup h1, h2.same tame_row s⟩
theorem tab_eq {u v : Q4} {m : Int} (hm : 0 < m) (hv : Q4.Prim v) (hu : u.ents = v.ents.map (m * m * ·)) : ([[u.e11, u.e12, u.e13], [u.e21, u.e22, u.e23], [u.e31, u.e32, u.e33]].map fun r => r.map (· / gcdL u.ents)) = v.tab ∧ u.nn / gcdL u.ents = v.spr := by
  obtain ⟨hg, _, hs, _⟩ := Q4.table_of hm hv hu
  have mm : 0 < m * m := Int.mul_pos hm hm
  have key : ∀ x : Int, m * m * x / (m * m * v.scale) = x / v.scale := fun x => Int.mul_ediv_mul_of_pos _ _ mm
  rw [hg]
  simp only [Q4.ents, List.map_cons, List.map_nil, List.cons.injEq, and_true] at hu
  obtain ⟨a1, a2, a3, a4, a5, a6, a7, a8, a9, a10⟩ := hu
  constructor
  · simp only [List.map_cons, List.map_nil, a1, a2, a3, a4, a5, a6, a7, a8, a9, key]
    rfl
  · rw [a10, key, hs]
theorem ents_pos {u v : Q4} {m : Int} (hm : 0 < m) (hv : Q4.Prim v) (hu : u.ents = v.ents.map (m * m * ·)) : 0 < gcdL u.ents := by
  obtain ⟨hg, s0, _⟩ := Q4.table_of hm hv hu
  rw [hg]
  exact Int.mul_pos (Int.mul_pos hm hm) s0
theorem nn_bd {u : Q4} {n : Nat} (h : u.Bd n) : u.nn.natAbs < 2 ^ (2 * n + 2) := by
  obtain ⟨a, b, c, d⟩ := h
  rw [Nat.pow_add]
  have := (n2 (n2 (n2 (pb a a) (pb b b)).1 (pb c c)).1 (pb d d)).1
  exact Nat.lt_of_lt_of_le this (by omega)
def rTupleOf (K : PySem.W.Frag) : List V → Hp → VK → Prop := fun xs H Q => ∃ p ys, xs = [.ref p] ∧ ((SqL K H p ys ∧ ∀ l, H l = none → Q (.ref l) (upd H l (.tup ys))) ∨ (SqT K H p ys ∧ Q (.ref p) H))
def tabSc : Scope := { kind := ScopeKind.function, names := [(".0", NameKind.local), ("_law_row", NameKind.local), ("tuple", NameKind.globalImplicit), ("_law_both", NameKind.cell)], isGenerator := false, isCoroutine := false }
theorem app_same {H H1 : Hp} {L : Addr} {o : HO} (s : Same H H1) (nL : H L = none) : Same H (upd H1 L o) := fun b x e => by rw [upd_ne (ne_of_none e nL)]; exact s _ _ e
def spTable (K : PySem.W.Frag) : Sp := fun vs H Q _ => ∃ (t : Addr) (u v : Q4) (m : Int) (n : Nat), vs = [.ref t] ∧ SqT K H t u.vs ∧ 0 < m ∧ Q4.Prim v ∧ u.ents = v.ents.map (m * m * ·) ∧ 0 < n ∧ n ≤ 3000 ∧ u.Bd n ∧ ∀ r H', H r = none → Same H H' → TabAt K H' r v → Q (.ref r) H'
section
variable {P : Program} {w : World} {K : PySem.W.Frag} {mg : Str → Option Value} {base : Heap}
theorem ok_table {f : Addr} {fd : FuncData} (F : Fun K "_law_table" "_law_table" s_L_table f fd) (B : Bn mg) (D_gcd_of : DefOk P w K mg base "_law_gcd_of" 2 ["_law_row"] (spGcdOfL K)) : FnOk P w K mg base CX0 3 f fd ["_law_halves_here"] (spTable K) := by
  refine F.ok sc_L_table (fun vs H Q E h => ?_) (fun cdv A outer s H vs Q E hr h => ?_)
  · obtain ⟨t, u, v, m, n, rfl, _⟩ := h
    rfl
  · obtain ⟨t, u, v, m, n, rfl, hT, m0, pv', hE, n0, n1, bv, k⟩ := h
    refine ⟨_, (pss_cons (ps_asg (pv 0) (pg_tup (by rfl) (pgs_cons (pg_name (i := 1) sc_L_table.nd rfl (Or.inl rfl)) (pgs_cons (pg_name (i := 2) sc_L_table.nd rfl (Or.inl rfl)) (pgs_cons (pg_name (i := 3) sc_L_table.nd rfl (Or.inl rfl)) (pgs_cons (pg_name (i := 4) sc_L_table.nd rfl (Or.inl rfl)) pgs_nil))))))
      (pss_cons (ps_set (i := 5) sc_L_table.nd rfl (Or.inl rfl) (pe_lst (pa_cons (pe_lst (pa_cons (pe_op op_sub (pe_op op_sub (pe_op op_add (pe_op op_mulW (pv 1) (pv 1)) (pe_op op_mulW (pv 2) (pv 2))) (pe_op op_mulW (pv 3) (pv 3))) (pe_op op_mulW (pv 4) (pv 4))) (pa_cons (pe_op op_mulW pe_int (pe_op op_sub (pe_op op_mulW (pv 2) (pv 3)) (pe_op op_mulW (pv 1) (pv 4)))) (pa_cons (pe_op op_mulW pe_int (pe_op op_add (pe_op op_mulW (pv 2) (pv 4)) (pe_op op_mulW (pv 1) (pv 3)))) pa_nil)))) pa_nil)))
      (pss_cons (ps_expr (pe_bm PySem.F.plainAttrs_list PySem.F.slot_list_append PySem.F.type_list_append mt_append (pv 5) (pa_cons (pe_lst (pa_cons (pe_op op_mulW pe_int (pe_op op_add (pe_op op_mulW (pv 2) (pv 3)) (pe_op op_mulW (pv 1) (pv 4)))) (pa_cons (pe_op op_sub (pe_op op_add (pe_op op_sub (pe_op op_mulW (pv 1) (pv 1)) (pe_op op_mulW (pv 2) (pv 2))) (pe_op op_mulW (pv 3) (pv 3))) (pe_op op_mulW (pv 4) (pv 4))) (pa_cons (pe_op op_mulW pe_int (pe_op op_sub (pe_op op_mulW (pv 3) (pv 4)) (pe_op op_mulW (pv 1) (pv 2)))) pa_nil)))) pa_nil)))
      (pss_cons (ps_expr (pe_bm PySem.F.plainAttrs_list PySem.F.slot_list_append PySem.F.type_list_append mt_append (pv 5) (pa_cons (pe_lst (pa_cons (pe_op op_mulW pe_int (pe_op op_sub (pe_op op_mulW (pv 2) (pv 4)) (pe_op op_mulW (pv 1) (pv 3)))) (pa_cons (pe_op op_mulW pe_int (pe_op op_add (pe_op op_mulW (pv 3) (pv 4)) (pe_op op_mulW (pv 1) (pv 2)))) (pa_cons (pe_op op_add (pe_op op_sub (pe_op op_sub (pe_op op_mulW (pv 1) (pv 1)) (pe_op op_mulW (pv 2) (pv 2))) (pe_op op_mulW (pv 3) (pv 3))) (pe_op op_mulW (pv 4) (pv 4))) pa_nil)))) pa_nil)))
      (pss_cons (ps_set (i := 6) sc_L_table.nd rfl (Or.inl rfl) (pe_op op_add (pe_op op_add (pe_op op_add (pe_op op_mulW (pv 1) (pv 1)) (pe_op op_mulW (pv 2) (pv 2))) (pe_op op_mulW (pv 3) (pv 3))) (pe_op op_mulW (pv 4) (pv 4))))
      (pss_cons (ps_set (i := 7) sc_L_table.nd rfl (Or.inr rfl) (pe_callD D_gcd_of (hr.mono (by decide)) (pa_cons (pe_op op_cat (pe_op op_cat (pe_op op_cat (pe_ix ix_list (pv 5) pe_int (fun _ _ => rfl)) (pe_ix ix_list (pv 5) pe_int (fun _ _ => rfl))) (pe_ix ix_list (pv 5) pe_int (fun _ _ => rfl))) (pe_lst (pa_cons (pv 6) pa_nil))) pa_nil)))
      (pss_one (ps_ret (pe_tup (pa_cons (pe_lc (own := [("_law_row", 8)]) (g := gName 8) (tt := tYes) (by rfl) sc_L_table.nd (pi_list (pv 5)) (blkOk_by (own := [("_law_row", 8)]) (N := ["_law_halves_here", "_law_a", "_law_b", "_law_c", "_law_d", "_law_rows", "_law_under", "_law_both", "_law_row", "_law_one"]) (sc := (defScope s_L_table)) (by decide +kernel)) (fun _ _ _ _ _ => pg_name (i := 8) sc_L_table.nd rfl (Or.inl rfl)) (fun _ _ _ _ _ => pts_nil) (fun _ _ _ _ _ => (show PE _ _ (tCB (rTupleOf K) (tCons (tLc (iList K (tVar 8)) (gName 9) tYes (tOp (rI CDivW fun i j => V.int (i / j)) (tVar 9) (tVar 7)) ([("_law_one", 9)].map (·.2))) tNil)) from pe_callTy call_tuple_of (by rfl) B.tuple (by decide +kernel) (pa_cons (pe_lc (own := [("_law_one", 9)]) (g := gName 9) (tt := tYes) (by rfl) sc_L_table.nd (pi_list (pv 8)) (blkOk_by (own := [("_law_one", 9)]) (N := ["_law_halves_here", "_law_a", "_law_b", "_law_c", "_law_d", "_law_rows", "_law_under", "_law_both", "_law_row", "_law_one"]) (sc := tabSc) (by decide +kernel)) (fun _ _ _ _ _ => pg_name (i := 9) sc_L_table.nd rfl (Or.inl rfl)) (fun _ _ _ _ _ => pts_nil) (fun _ _ _ _ _ => (pe_op op_fdivW (pv 9) (pv 7)))) pa_nil)))) (pa_cons (pe_op op_fdivW (pv 6) (pv 7)) pa_nil))))))))))), ?_⟩
    refine ⟨_, rfl, t, _, rfl, hT, rfl, _, _, rfl, _, _, rfl, _, _, rfl, _, _, rfl, rfl, ?_⟩
    refine nx_norm (σ' := [some (.ref t), some (.int u.a), some (.int u.b), some (.int u.c), some (.int u.d), none, none, none, none, none]) rfl ?_
    refine ⟨_, rfl, _, rfl, _, _, rfl, rfl, wm bv.1 bv.1 n0 (by omega), _, rfl, _, rfl, _, _, rfl, rfl, wm bv.2.1 bv.2.1 n0 (by omega), _, _, rfl, rfl, _, rfl, _, rfl, _, _, rfl, rfl, wm bv.2.2.1 bv.2.2.1 n0 (by omega), _, _, rfl, rfl, _, rfl, _, rfl, _, _, rfl, rfl, wm bv.2.2.2 bv.2.2.2 n0 (by omega), _, _, rfl, rfl, _, rfl, _, rfl, _, _, rfl, rfl, wm bv.2.1 bv.2.2.1 n0 (by omega), _, rfl, _, rfl, _, _, rfl, rfl, wm bv.1 bv.2.2.2 n0 (by omega), _, _, rfl, rfl, _, _, rfl, rfl, w2s bv.2.1 bv.2.2.1 bv.1 bv.2.2.2 n1, _, rfl, _, rfl, _, _, rfl, rfl, wm bv.2.1 bv.2.2.2 n0 (by omega), _, rfl, _, rfl, _, _, rfl, rfl, wm bv.1 bv.2.2.1 n0 (by omega), _, _, rfl, rfl, _, _, rfl, rfl, w2a bv.2.1 bv.2.2.2 bv.1 bv.2.2.1 n1, (by show 3 ≤ sizeLine; decide), fun l1 nl1 => ⟨(by show 1 ≤ sizeLine; decide), fun L nL => ?_⟩⟩
    have mL : (upd H l1 (.lst ([u.e11, u.e12, u.e13].map V.int))) L = none := nL
    dsimp only [gName]
    refine nx2 (σ' := [some (.ref t), some (.int u.a), some (.int u.b), some (.int u.c), some (.int u.d), some (.ref L), none, none, none, none]) (H' := upd (upd H l1 (.lst ([u.e11, u.e12, u.e13].map V.int))) L (.lst [.ref l1])) rfl rfl ?_
    clear nL
    have HL0 : H L = none := (same_upd nl1).free mL
    have s1 : Same H (upd (upd H l1 (.lst ([u.e11, u.e12, u.e13].map V.int))) L (.lst [.ref l1])) := (same_upd nl1).trans (same_upd mL)
    have a1 : (upd (upd H l1 (.lst ([u.e11, u.e12, u.e13].map V.int))) L (.lst [.ref l1])) l1 = some (.lst ([u.e11, u.e12, u.e13].map V.int)) := same_upd mL _ _ upd_same
    have aL : (upd (upd H l1 (.lst ([u.e11, u.e12, u.e13].map V.int))) L (.lst [.ref l1])) L = some (.lst [.ref l1]) := upd_same
    generalize upd (upd H l1 (.lst ([u.e11, u.e12, u.e13].map V.int))) L (.lst [.ref l1]) = H1 at *
    refine ⟨_, rfl, .inl ⟨rfl, _, SqL.of aL⟩, _, rfl, _, rfl, _, _, rfl, rfl, wm bv.2.1 bv.2.2.1 n0 (by omega), _, rfl, _, rfl, _, _, rfl, rfl, wm bv.1 bv.2.2.2 n0 (by omega), _, _, rfl, rfl, _, _, rfl, rfl, w2a bv.2.1 bv.2.2.1 bv.1 bv.2.2.2 n1, _, rfl, _, rfl, _, _, rfl, rfl, wm bv.1 bv.1 n0 (by omega), _, rfl, _, rfl, _, _, rfl, rfl, wm bv.2.1 bv.2.1 n0 (by omega), _, _, rfl, rfl, _, rfl, _, rfl, _, _, rfl, rfl, wm bv.2.2.1 bv.2.2.1 n0 (by omega), _, _, rfl, rfl, _, rfl, _, rfl, _, _, rfl, rfl, wm bv.2.2.2 bv.2.2.2 n0 (by omega), _, _, rfl, rfl, _, rfl, _, rfl, _, _, rfl, rfl, wm bv.2.2.1 bv.2.2.2 n0 (by omega), _, rfl, _, rfl, _, _, rfl, rfl, wm bv.1 bv.2.1 n0 (by omega), _, _, rfl, rfl, _, _, rfl, rfl, w2s bv.2.2.1 bv.2.2.2 bv.1 bv.2.1 n1, (by show 3 ≤ sizeLine; decide), fun l2 nl2 => ⟨L, [.ref l1], _, rfl, rfl, same_upd nl2 _ _ aL, (by show 1 < sizeLine; decide), ?_⟩⟩
    have n2L : l2 ≠ L := fun e => by rw [e, aL] at nl2; cases nl2
    have n1L : l1 ≠ L := fun e => by rw [e, aL] at a1; cases a1
    dsimp only
    refine nx2 (σ' := [some (.ref t), some (.int u.a), some (.int u.b), some (.int u.c), some (.int u.d), some (.ref L), none, none, none, none]) (H' := upd (upd H1 l2 (.lst ([u.e21, u.e22, u.e23].map V.int))) L (.lst [.ref l1, .ref l2])) rfl rfl ?_
    have s2 : Same H (upd (upd H1 l2 (.lst ([u.e21, u.e22, u.e23].map V.int))) L (.lst [.ref l1, .ref l2])) := app_same (s1.trans (same_upd nl2)) HL0
    have b1 : (upd (upd H1 l2 (.lst ([u.e21, u.e22, u.e23].map V.int))) L (.lst [.ref l1, .ref l2])) l1 = some (.lst ([u.e11, u.e12, u.e13].map V.int)) := by rw [upd_ne n1L]; exact same_upd nl2 _ _ a1
    have b2 : (upd (upd H1 l2 (.lst ([u.e21, u.e22, u.e23].map V.int))) L (.lst [.ref l1, .ref l2])) l2 = some (.lst ([u.e21, u.e22, u.e23].map V.int)) := by rw [upd_ne n2L, upd_same]
    have bL : (upd (upd H1 l2 (.lst ([u.e21, u.e22, u.e23].map V.int))) L (.lst [.ref l1, .ref l2])) L = some (.lst [.ref l1, .ref l2]) := upd_same
    clear a1 aL nl2
    generalize upd (upd H1 l2 (.lst ([u.e21, u.e22, u.e23].map V.int))) L (.lst [.ref l1, .ref l2]) = H2 at *
    refine ⟨_, rfl, .inl ⟨rfl, _, SqL.of bL⟩, _, rfl, _, rfl, _, _, rfl, rfl, wm bv.2.1 bv.2.2.2 n0 (by omega), _, rfl, _, rfl, _, _, rfl, rfl, wm bv.1 bv.2.2.1 n0 (by omega), _, _, rfl, rfl, _, _, rfl, rfl, w2s bv.2.1 bv.2.2.2 bv.1 bv.2.2.1 n1, _, rfl, _, rfl, _, _, rfl, rfl, wm bv.2.2.1 bv.2.2.2 n0 (by omega), _, rfl, _, rfl, _, _, rfl, rfl, wm bv.1 bv.2.1 n0 (by omega), _, _, rfl, rfl, _, _, rfl, rfl, w2a bv.2.2.1 bv.2.2.2 bv.1 bv.2.1 n1, _, rfl, _, rfl, _, _, rfl, rfl, wm bv.1 bv.1 n0 (by omega), _, rfl, _, rfl, _, _, rfl, rfl, wm bv.2.1 bv.2.1 n0 (by omega), _, _, rfl, rfl, _, rfl, _, rfl, _, _, rfl, rfl, wm bv.2.2.1 bv.2.2.1 n0 (by omega), _, _, rfl, rfl, _, rfl, _, rfl, _, _, rfl, rfl, wm bv.2.2.2 bv.2.2.2 n0 (by omega), _, _, rfl, rfl, (by show 3 ≤ sizeLine; decide), fun l3 nl3 => ⟨L, [.ref l1, .ref l2], _, rfl, rfl, same_upd nl3 _ _ bL, (by show 2 < sizeLine; decide), ?_⟩⟩
    have n3L : l3 ≠ L := fun e => by rw [e, bL] at nl3; cases nl3
    dsimp only
    refine nx2 (σ' := [some (.ref t), some (.int u.a), some (.int u.b), some (.int u.c), some (.int u.d), some (.ref L), none, none, none, none]) (H' := upd (upd H2 l3 (.lst ([u.e31, u.e32, u.e33].map V.int))) L (.lst [.ref l1, .ref l2, .ref l3])) rfl rfl ?_
    have s3 : Same H (upd (upd H2 l3 (.lst ([u.e31, u.e32, u.e33].map V.int))) L (.lst [.ref l1, .ref l2, .ref l3])) := app_same (s2.trans (same_upd nl3)) HL0
    have c1 : (upd (upd H2 l3 (.lst ([u.e31, u.e32, u.e33].map V.int))) L (.lst [.ref l1, .ref l2, .ref l3])) l1 = some (.lst ([u.e11, u.e12, u.e13].map V.int)) := by rw [upd_ne n1L]; exact same_upd nl3 _ _ b1
    have c2 : (upd (upd H2 l3 (.lst ([u.e31, u.e32, u.e33].map V.int))) L (.lst [.ref l1, .ref l2, .ref l3])) l2 = some (.lst ([u.e21, u.e22, u.e23].map V.int)) := by rw [upd_ne n2L]; exact same_upd nl3 _ _ b2
    have c3 : (upd (upd H2 l3 (.lst ([u.e31, u.e32, u.e33].map V.int))) L (.lst [.ref l1, .ref l2, .ref l3])) l3 = some (.lst ([u.e31, u.e32, u.e33].map V.int)) := by rw [upd_ne n3L, upd_same]
    have cL : (upd (upd H2 l3 (.lst ([u.e31, u.e32, u.e33].map V.int))) L (.lst [.ref l1, .ref l2, .ref l3])) L = some (.lst [.ref l1, .ref l2, .ref l3]) := upd_same
    clear b1 b2 bL nl3
    generalize upd (upd H2 l3 (.lst ([u.e31, u.e32, u.e33].map V.int))) L (.lst [.ref l1, .ref l2, .ref l3]) = H3 at *
    refine ⟨_, rfl, _, rfl, _, _, rfl, rfl, wm bv.1 bv.1 n0 (by omega), _, rfl, _, rfl, _, _, rfl, rfl, wm bv.2.1 bv.2.1 n0 (by omega), _, _, rfl, rfl, _, rfl, _, rfl, _, _, rfl, rfl, wm bv.2.2.1 bv.2.2.1 n0 (by omega), _, _, rfl, rfl, _, rfl, _, rfl, _, _, rfl, rfl, wm bv.2.2.2 bv.2.2.2 n0 (by omega), _, _, rfl, rfl, ?_⟩
    refine nx_norm (σ' := [some (.ref t), some (.int u.a), some (.int u.b), some (.int u.c), some (.int u.d), some (.ref L), some (.int u.nn), none, none, none]) rfl ?_
    refine ⟨_, rfl, L, _, _, _, rfl, rfl, SqL.of cL, rfl, _, rfl, L, _, _, _, rfl, rfl, SqL.of cL, rfl, l1, l2, _, _, rfl, rfl, c1, c2, (by show 6 ≤ sizeLine; decide), fun p1 np1 => ?_⟩
    have t1 := same_upd (o := .lst ([u.e11, u.e12, u.e13].map V.int ++ [u.e21, u.e22, u.e23].map V.int)) np1
    refine ⟨_, rfl, L, _, _, _, rfl, rfl, SqL.of (t1 _ _ cL), rfl, p1, l3, _, _, rfl, rfl, upd_same, t1 _ _ c3, (by show 9 ≤ sizeLine; decide), fun p2 np2 => ?_⟩
    have t2 := same_upd (o := .lst (([u.e11, u.e12, u.e13].map V.int ++ [u.e21, u.e22, u.e23].map V.int) ++ [u.e31, u.e32, u.e33].map V.int)) np2
    refine ⟨_, rfl, (by show 1 ≤ sizeLine; decide), fun p3 np3 => ?_⟩
    have t3 := same_upd (o := .lst [.int u.nn]) np3
    refine ⟨p2, p3, _, _, rfl, rfl, t3 _ _ upd_same, upd_same, (by show 10 ≤ sizeLine; decide), fun p4 np4 => ?_⟩
    have t4 := same_upd (o := .lst ((([u.e11, u.e12, u.e13].map V.int ++ [u.e21, u.e22, u.e23].map V.int) ++ [u.e31, u.e32, u.e33].map V.int) ++ [.int u.nn])) np4
    refine ⟨p4, u.ents, rfl, SqL.of upd_same, ?_⟩
    have s4 := (((s3.trans t1).trans t2).trans t3).trans t4
    have c1 := (((t1.trans t2).trans t3).trans t4) _ _ c1
    have c2 := (((t1.trans t2).trans t3).trans t4) _ _ c2
    have c3 := (((t1.trans t2).trans t3).trans t4) _ _ c3
    have cL := (((t1.trans t2).trans t3).trans t4) _ _ cL
    dsimp only [gName]
    refine nx2 (σ' := [some (.ref t), some (.int u.a), some (.int u.b), some (.int u.c), some (.int u.d), some (.ref L), some (.int u.nn), some (.int (gcdL u.ents)), none, none]) (H' := upd (upd (upd (upd H3 p1 (.lst ([u.e11, u.e12, u.e13].map V.int ++ [u.e21, u.e22, u.e23].map V.int))) p2 (.lst (([u.e11, u.e12, u.e13].map V.int ++ [u.e21, u.e22, u.e23].map V.int) ++ [u.e31, u.e32, u.e33].map V.int))) p3 (.lst [.int u.nn])) p4 (.lst ((([u.e11, u.e12, u.e13].map V.int ++ [u.e21, u.e22, u.e23].map V.int) ++ [u.e31, u.e32, u.e33].map V.int) ++ [.int u.nn]))) rfl rfl ?_
    clear t1 t2 t3 t4
    generalize upd (upd (upd (upd H3 p1 (.lst ([u.e11, u.e12, u.e13].map V.int ++ [u.e21, u.e22, u.e23].map V.int))) p2 (.lst (([u.e11, u.e12, u.e13].map V.int ++ [u.e21, u.e22, u.e23].map V.int) ++ [u.e31, u.e32, u.e33].map V.int))) p3 (.lst [.int u.nn])) p4 (.lst ((([u.e11, u.e12, u.e13].map V.int ++ [u.e21, u.e22, u.e23].map V.int) ++ [u.e31, u.e32, u.e33].map V.int) ++ [.int u.nn])) = H4 at *
    have g0 := ents_pos m0 pv' hE
    obtain ⟨te, tn⟩ := tab_eq m0 pv' hE
    have gn : gcdL u.ents ∣ u.nn := gcdL_dvd (by simp [Q4.ents])
    have gb : (gcdL u.ents).natAbs < 2 ^ (2 * n + 2) := by
      have := nn_bd bv
      have p0 : 0 < u.nn := by
        obtain ⟨_, _, _, sp0, _⟩ := Q4.table_of m0 pv' hE
        rw [← tn] at sp0
        rcases Int.lt_trichotomy u.nn 0 with h | h | h
        · have := Int.ediv_neg_of_neg_of_pos h g0; omega
        · rw [h, Int.zero_ediv] at sp0; omega
        · exact h
      have := Int.le_of_dvd p0 gn
      generalize 2 ^ (2 * n + 2) = M at *
      omega
    have dv : ∀ i : Int, CDivW i (gcdL u.ents) := fun i => dwn g0 gb (by omega) (by omega)
    refine ⟨_, rfl, L, rfl, ⟨_, SqL.of cL⟩, fun D nD => ?_⟩
    refine lc_list (K := K) (a := L) (xs := [.ref l1, .ref l2, .ref l3]) (MadeO (RowAt K) H4 D v.tab) (MadeO.zero nD) (fun j H' _ h => SqL.of (h.1 _ _ cL)) ?_ ?_
    · rintro j x H' hx hM
      obtain ⟨z, r, rfl, hz, ht, hj⟩ : ∃ (z : Addr) (r : List Int), x = .ref z ∧ H4 z = some (.lst (r.map V.int)) ∧ v.tab[j]? = some (r.map (· / gcdL u.ents)) ∧ j < 3 ∧ r.length = 3 := by
        rw [← te]
        match j, hx with
        | 0, hx => cases hx; exact ⟨l1, _, rfl, c1, rfl, by decide, rfl⟩
        | 1, hx => cases hx; exact ⟨l2, _, rfl, c2, rfl, by decide, rfl⟩
        | 2, hx => cases hx; exact ⟨l3, _, rfl, c3, rfl, by decide, rfl⟩
      have hz' := hM.1 _ _ hz
      refine ⟨rfl, ?_⟩
      dsimp only [tYes]
      rw [if_pos rfl]
      refine ⟨_, rfl, z, rfl, ⟨_, SqL.of hz'⟩, fun D2 nD2 => ?_⟩
      refine lc_list (K := K) (a := z) (xs := r.map V.int) (MadeI H' D2 (r.map (· / gcdL u.ents))) (MadeI.zero nD2) (fun j H' _ h => SqL.of (h.1 _ _ hz')) ?_ ?_
      · rintro i y H5 hy hM2
        obtain ⟨e, rfl, he⟩ := int_at hy
        have hi := (List.getElem?_eq_some_iff.mp he).1
        refine ⟨rfl, ?_⟩
        dsimp only [tYes]
        rw [if_pos rfl]
        exact ⟨_, rfl, _, rfl, _, _, rfl, rfl, dv _, hM2.snoc (.refl _) nD2 (by rw [List.getElem?_map, he]; rfl) (by omega)⟩
      · rintro H5 hM2
        have hD2 := hM2.all (by rw [List.length_map, List.length_map])
        exact ⟨D2, _, rfl, .inl ⟨SqL.of hD2, fun T nT => hM.snoc tame_row (hM2.1.trans (same_upd nT)) nD ht (SqT.of upd_same) (by omega)⟩⟩
    · rintro H5 hM
      have hO := hM.objs rfl
      refine ⟨_, rfl, _, rfl, _, _, rfl, rfl, dv _, (by show 2 ≤ sizeLine; decide), fun r nr => ?_⟩
      refine k r _ (s4.free (hM.1.free nr)) ((s4.trans hM.1).trans (same_upd nr)) ⟨D, ?_, hO.same tame_row (same_upd nr)⟩
      rw [← tn]
      exact SqT.of upd_same
end
end G
set_option Elab.async false
set_option linter.all false
set_option maxRecDepth 100000
set_option maxHeartbeats 2000000
namespace G
open PySem PySem.Spec PyProof.Rows L2 RZ StX
/-! ### the law's own contents and lowest fours -/
theorem gcdL_g (u : Q4) : gcdL [u.a, u.b, u.c, u.d] = u.g := by
  refine gcdL_is (Q4.g_pos u) (fun x m => ?_) (Q4.g_great1 (gcdL_dvd (by simp)) (gcdL_dvd (by simp)) (gcdL_dvd (by simp)) (gcdL_dvd (by simp)))
  simp only [List.mem_cons, List.not_mem_nil, or_false] at m
  rcases m with rfl | rfl | rfl | rfl
  · exact Q4.g_a u
  · exact Q4.g_b u
  · exact Q4.g_c u
  · exact Q4.g_d u
theorem eqv_listI (c d : List Int) : PyData.eqv (.list (c.map PyData.int)) (.list (d.map PyData.int)) = decide (c = d) := eqv_dR c d
theorem con_law {u : Q4} (nu : u ≠ ⟨0, 0, 0, 0⟩) : u.con = if ([u.a, u.b, u.c, u.d].map fun x => x / u.g % 2) = [1, 1, 1, 1] then u.g else u.g / 2 := by
  obtain ⟨g0, g1, ge⟩ := Q4.g_over nu
  have ne := Q4.not_even g1
  unfold Q4.con
  have e : (([u.a, u.b, u.c, u.d].map fun x => x / u.g % 2) = [1, 1, 1, 1]) ↔ Q4.Odd4 (u.over u.g) := by
    simp only [List.map_cons, List.map_nil, List.cons.injEq, and_true]
    exact Iff.rfl
  by_cases h : Q4.Odd4 (u.over u.g)
  · rw [if_pos (.inl h), if_pos (e.mpr h)]
  · rw [if_neg (fun q => q.elim h ne), if_neg (fun q => h (e.mp q))]
/-- the sign of the first that is not zero -/
theorem first_sign : ∀ (c : List Int), c.filter (· != 0) ≠ [] → ∃ x r, c.filter (· != 0) = x :: r ∧ (HT.lexLt c (c.map fun _ => 0) = decide (x < 0)) ∧ x ≠ 0
  | [], h => absurd rfl h
  | y :: c, h => by
    by_cases e : y = 0
    · subst e
      have h' : c.filter (· != 0) ≠ [] := h
      obtain ⟨x, r, h1, h2, h3⟩ := first_sign c h'
      refine ⟨x, r, h1, ?_, h3⟩
      show (if (0 : Int) = 0 then HT.lexLt c (c.map fun _ => 0) else _) = _
      rw [if_pos rfl, h2]
    · refine ⟨y, c.filter (· != 0), List.filter_cons_of_pos (by simpa using e), ?_, e⟩
      show (if y = 0 then _ else decide (y < 0)) = _
      rw [if_neg e]
def spLCont (K : PySem.W.Frag) : Sp := fun vs H Q _ => ∃ (t : Addr) (u : Q4) (n : Nat), vs = [.ref t] ∧ SqT K H t u.vs ∧ u ≠ ⟨0, 0, 0, 0⟩ ∧ 0 < n ∧ n ≤ 8000 ∧ u.Bd n ∧ ∀ H', Same H H' → Q (.int u.con) H'
def spLow (K : PySem.W.Frag) : Sp := fun vs H Q _ => ∃ (t : Addr) (u : Q4) (n : Nat), vs = [.ref t] ∧ SqT K H t u.vs ∧ u.Par ∧ u ≠ ⟨0, 0, 0, 0⟩ ∧ 0 < n ∧ n ≤ 8000 ∧ u.Bd n ∧ ∀ r H', H r = none → Same H H' → H' r = some (.tup u.lead.vs) → Q (.ref r) H'
section
variable {P : Program} {w : World} {K : PySem.W.Frag} {mg : Str → Option Value} {base : Heap}
theorem ok_lcont {f : Addr} {fd : FuncData} (F : Fun K "_law_content" "_law_content" s_L_content f fd) (B : Bn mg) (D_gcd_of : DefOk P w K mg base "_law_gcd_of" 2 ["_law_row"] (spGcdOfT K)) : FnOk P w K mg base CX0 3 f fd ["_law_halves_here"] (spLCont K) := by
  refine F.ok sc_L_content (fun vs H Q E h => ?_) (fun cdv A outer s H vs Q E hr h => ?_)
  · obtain ⟨t, u, n, rfl, _⟩ := h
    rfl
  · obtain ⟨t, u, n, rfl, hT, nu, n0, n1, bu, k⟩ := h
    refine ⟨_, (pss_cons (ps_set (i := 1) sc_L_content.nd rfl (Or.inr rfl) (pe_callD D_gcd_of (hr.mono (by decide)) (pa_cons (pv 0) pa_nil)))
      (pss_cons (ps_if (pt_cmpR op_eq (pv 1) pe_int (nomark _)) (pss_one (ps_ret pe_int)) pss_nil)
      (pss_cons (ps_setLc (i := 2) (own := [("_law_one", 3)]) (g := gName 3) (tt := tYes) (by rfl) sc_L_content.nd rfl rfl (sw_true rfl rfl rfl (by decide +kernel)) (pi_tup (pv 0)) (blkOk_by (own := [("_law_one", 3)]) (N := ["_law_halves_here", "_law_both", "_law_odd", "_law_one"]) (sc := (defScope s_L_content)) (by decide +kernel)) (fun _ _ _ _ _ => pg_name (i := 3) sc_L_content.nd rfl (Or.inl rfl)) (fun _ _ _ _ _ => pts_nil) (fun _ _ _ _ _ => (pe_op op_mod (pe_op op_fdivW (pv 3) (pe_callTy call_int1 (by rfl) B.int (by decide +kernel) (pa_cons (pv 1) pa_nil))) pe_int)))
      (pss_one (ps_ret (pe_ifExp (pt_cmpR (op_eqD hr.units) (pv 2) (pe_lst (pa_cons pe_int (pa_cons pe_int (pa_cons pe_int (pa_cons pe_int pa_nil))))) (nomark _)) (pv 1) (pe_op op_fdivW (pv 1) pe_int))))))), ?_⟩
    obtain ⟨g0, g1, ge⟩ := Q4.g_over nu
    have gb := g_bd bu nu
    refine ⟨_, rfl, t, [u.a, u.b, u.c, u.d], rfl, hT, ?_⟩
    rw [gcdL_g]
    dsimp only [gName]
    refine nx_norm (σ' := [some (.ref t), some (.int u.g), none, none]) rfl ?_
    refine ⟨_, rfl, rfl, _, rfl, ifF (by simp; omega) ?_⟩
    refine ⟨_, rfl, t, rfl, ⟨_, hT⟩, fun D nD => ?_⟩
    refine lc_tup (K := K) (a := t) (xs := [u.a, u.b, u.c, u.d].map V.int) (MadeI H D ([u.a, u.b, u.c, u.d].map fun x => x / u.g % 2)) (MadeI.zero nD) (fun j H' _ h => h.1.tup hT) ?_ ?_
    · rintro i y H5 hy hM
      obtain ⟨e, rfl, he⟩ := int_at hy
      have hi : i < 4 := (List.getElem?_eq_some_iff.mp he).1
      refine ⟨rfl, ?_⟩
      dsimp only [tYes]
      rw [if_pos rfl]
      exact ⟨_, rfl, _, rfl, .inl ⟨_, rfl, _, _, rfl, rfl, dwn g0 gb n0 n1, _, _, rfl, rfl, (by show (0 : Int) < 2; decide), hM.snoc (.refl _) nD (by rw [List.getElem?_map, he]; rfl) (by omega)⟩⟩
    · rintro H2 hM
      have hD := hM.all rfl
      dsimp only [gName]
      refine nx_norm (σ' := [some (.ref t), some (.int u.g), some (.ref D), none]) rfl ?_
      refine ⟨_, rfl, (by show 4 ≤ sizeLine; decide), fun L nL => ?_⟩
      have tL := same_upd (o := .lst [.int 1, .int 1, .int 1, .int 1]) nL
      refine ⟨.list (([u.a, u.b, u.c, u.d].map fun x => x / u.g % 2).map PyData.int), .list ([1, 1, 1, 1].map PyData.int), .lst (SqL.of (tL _ _ hD)) (dpb_ints _), .lst (SqL.of upd_same) (dpb_ints [1, 1, 1, 1]), rfl, rfl, _, rfl, ?_⟩
      rw [eqv_listI]
      have kk := k _ (hM.1.trans tL)
      rw [con_law nu] at kk
      by_cases h : ([u.a, u.b, u.c, u.d].map fun x => x / u.g % 2) = [1, 1, 1, 1]
      · rw [if_pos h] at kk
        rw [decide_eq_true h]
        exact ⟨_, rfl, kk⟩
      · rw [if_neg h] at kk
        rw [decide_eq_false h]
        exact ⟨_, rfl, _, _, rfl, rfl, dw (by decide) (by decide), kk⟩
theorem ok_low {f : Addr} {fd : FuncData} (F : Fun K "_law_lowest" "_law_lowest" s_L_lowest f fd) (B : Bn mg) (D_content : DefOk P w K mg base "_law_content" 3 ["_law_halves_here"] (spLCont K)) : FnOk P w K mg base CX0 4 f fd ["_law_halves_here"] (spLow K) := by
  refine F.ok sc_L_lowest (fun vs H Q E h => ?_) (fun cdv A outer s H vs Q E hr h => ?_)
  · obtain ⟨t, u, n, rfl, _⟩ := h
    rfl
  · obtain ⟨t, u, n, rfl, hT, pu, nu, n0, n1, bu, k⟩ := h
    refine ⟨_, (pss_cons (ps_set (i := 1) sc_L_lowest.nd rfl (Or.inr rfl) (pe_callD D_content hr (pa_cons (pv 0) pa_nil)))
      (pss_cons (ps_setLc (i := 2) (own := [("_law_one", 4)]) (g := gName 4) (tt := tYes) (by rfl) sc_L_lowest.nd rfl rfl (sw_true rfl rfl rfl (by decide +kernel)) (pi_tup (pv 0)) (blkOk_by (own := [("_law_one", 4)]) (N := ["_law_halves_here", "_law_both", "_law_row", "_law_first", "_law_one"]) (sc := (defScope s_L_lowest)) (by decide +kernel)) (fun _ _ _ _ _ => pg_name (i := 4) sc_L_lowest.nd rfl (Or.inl rfl)) (fun _ _ _ _ _ => pts_nil) (fun _ _ _ _ _ => (pe_op op_fdivW (pv 4) (pv 1))))
      (pss_cons (ps_set (i := 3) sc_L_lowest.nd rfl (Or.inr rfl) (pe_ix ix_list (pe_lc (own := [("_law_one", 4)]) (g := gName 4)  (by rfl) sc_L_lowest.nd (pi_list (pv 2)) (blkOk_by (own := [("_law_one", 4)]) (N := ["_law_halves_here", "_law_both", "_law_row", "_law_first", "_law_one"]) (sc := (defScope s_L_lowest)) (by decide +kernel)) (fun _ _ _ _ _ => pg_name (i := 4) sc_L_lowest.nd rfl (Or.inl rfl)) (fun _ _ _ _ _ => pts_one (pt_cmpR op_ne (pv 4) pe_int (nomark _))) (fun _ _ _ _ _ => (pv 4))) pe_int (fun _ _ => rfl)))
      (pss_one (ps_ret (pe_callTy call_tuple_of (by rfl) B.tuple (by decide +kernel) (pa_cons (pe_lc (own := [("_law_one", 4)]) (g := gName 4) (tt := tYes) (by rfl) sc_L_lowest.nd (pi_list (pv 2)) (blkOk_by (own := [("_law_one", 4)]) (N := ["_law_halves_here", "_law_both", "_law_row", "_law_first", "_law_one"]) (sc := (defScope s_L_lowest)) (by decide +kernel)) (fun _ _ _ _ _ => pg_name (i := 4) sc_L_lowest.nd rfl (Or.inl rfl)) (fun _ _ _ _ _ => pts_nil) (fun _ _ _ _ _ => (pe_ifExp (pt_cmpR op_gt (pv 3) pe_int (nomark _)) (pv 4) (pe_un un_neg (pv 4))))) pa_nil))))))), ?_⟩
    obtain ⟨c0, pv', ce, cg⟩ := Q4.con_all pu nu
    have gb := g_bd bu nu
    have cb : u.con.natAbs < 2 ^ n := Nat.lt_of_le_of_lt (by omega) gb
    refine ⟨_, rfl, t, u, n, rfl, hT, nu, n0, n1, bu, fun H1 s1 => ?_⟩
    have lead : u.lead = if HT.lexLt [(u.over u.con).a, (u.over u.con).b, (u.over u.con).c, (u.over u.con).d] [0, 0, 0, 0] = true then (u.over u.con).neg else u.over u.con := rfl
    have vd : ([u.a, u.b, u.c, u.d].map (· / u.con)) = [(u.over u.con).a, (u.over u.con).b, (u.over u.con).c, (u.over u.con).d] := rfl
    dsimp only [gName]
    refine nx_norm (σ' := [some (.ref t), some (.int u.con), none, none, none]) rfl ?_
    have hT1 := s1.tup hT
    refine ⟨_, rfl, t, rfl, ⟨_, hT1⟩, fun D nD => ?_⟩
    refine lc_tup (K := K) (a := t) (xs := [u.a, u.b, u.c, u.d].map V.int) (MadeI H1 D ([u.a, u.b, u.c, u.d].map (· / u.con))) (MadeI.zero nD) (fun j H' _ h => h.1.tup hT1) ?_ ?_
    · rintro i y H5 hy hM
      obtain ⟨e, rfl, he⟩ := int_at hy
      have hi : i < 4 := (List.getElem?_eq_some_iff.mp he).1
      refine ⟨rfl, ?_⟩
      dsimp only [tYes]
      rw [if_pos rfl]
      exact ⟨_, rfl, _, rfl, _, _, rfl, rfl, dwn c0 cb n0 n1, hM.snoc (.refl _) nD (by rw [List.getElem?_map, he]; rfl) (by omega)⟩
    · rintro H2 hM
      have hD := hM.all rfl
      have s2 := s1.trans hM.1
      have nv := pv'.ne
      rw [vd] at hD
      generalize u.over u.con = v at *
      dsimp only [gName]
      refine nx_norm (σ' := [some (.ref t), some (.int u.con), some (.ref D), none, none]) rfl ?_
      refine ⟨_, rfl, D, rfl, ⟨_, SqL.of hD⟩, fun D2 nD2 => ?_⟩
      refine lc_list (K := K) (a := D) (xs := [v.a, v.b, v.c, v.d].map V.int) (fun i H' => Same H2 H' ∧ H' D2 = some (.lst ((([v.a, v.b, v.c, v.d].take i).filter (· != 0)).map V.int))) ⟨same_upd nD2, upd_same⟩ (fun j H' _ h => SqL.of (h.1 _ _ hD)) ?_ ?_
      · rintro i y H5 hy ⟨s5, h5⟩
        obtain ⟨e, rfl, he⟩ := int_at hy
        have hi : i < 4 := (List.getElem?_eq_some_iff.mp he).1
        refine ⟨rfl, ⟨_, rfl, rfl, _, rfl, ?_⟩⟩
        have et := take_snoc he
        by_cases e0 : e = 0
        · subst e0
          refine ifF (by simp) ⟨s5, ?_⟩
          rw [et, List.filter_append]
          simpa using h5
        · refine ifT (by simp [e0]) ⟨_, rfl, _, h5, ?_, ?_, ?_⟩
          · rw [List.length_map]
            exact small1000 (Nat.le_trans (List.length_filter_le _ _) (by rw [List.length_take]; omega))
          · intro b o eb
            rw [upd_ne (ne_of_none eb nD2)]
            exact s5 _ _ eb
          · rw [upd_same, et, List.filter_append, List.map_append]
            have : [e].filter (· != 0) = [e] := List.filter_cons_of_pos (by simpa using e0)
            rw [this]
            rfl
      · rintro H3 ⟨s3, h3⟩
        have h3' : H3 D2 = some (.lst (([v.a, v.b, v.c, v.d].filter (· != 0)).map V.int)) := h3
        have ne : [v.a, v.b, v.c, v.d].filter (· != 0) ≠ [] := fun e => by
          have := List.filter_eq_nil_iff.mp e
          apply nv
          have a := this v.a (by simp)
          have b := this v.b (by simp)
          have c := this v.c (by simp)
          have d := this v.d (by simp)
          simp only [bne_iff_ne, ne_eq, Decidable.not_not] at a b c d
          exact Q4.ext a b c d
        obtain ⟨x, r, h1, h2, h4⟩ := first_sign _ ne
        rw [h1] at h3'
        refine ⟨D2, _, _, .int x, rfl, rfl, SqL.of h3', (by show atI (V.int x :: r.map V.int) ((0 : Nat) : Int) = _; exact atI_nat rfl), ?_⟩
        have h2' : HT.lexLt [v.a, v.b, v.c, v.d] [0, 0, 0, 0] = decide (x < 0) := h2
        rw [h2'] at lead
        dsimp only [gName]
        refine nx_norm (σ' := [some (.ref t), some (.int u.con), some (.ref D), some (.int x), none]) rfl ?_
        have hD3 := s3 _ _ hD
        refine ⟨_, rfl, D, rfl, ⟨_, SqL.of hD3⟩, fun D3 nD3 => ?_⟩
        refine lc_list (K := K) (a := D) (xs := [v.a, v.b, v.c, v.d].map V.int) (MadeI H3 D3 [u.lead.a, u.lead.b, u.lead.c, u.lead.d]) (MadeI.zero nD3) (fun j H' _ h => SqL.of (h.1 _ _ hD3)) ?_ ?_
        · rintro i y H5 hy hM3
          obtain ⟨e, rfl, he⟩ := int_at hy
          have hi : i < 4 := (List.getElem?_eq_some_iff.mp he).1
          refine ⟨rfl, ?_⟩
          dsimp only [tYes]
          rw [if_pos rfl]
          refine ⟨_, rfl, _, _, rfl, rfl, _, rfl, ?_⟩
          by_cases x0 : x > 0
          · refine ifT (decide_eq_true x0) ⟨_, rfl, hM3.snoc (.refl _) nD3 ?_ (by omega)⟩
            rw [lead, if_neg (by simp; omega)]
            exact he
          · refine ifF (decide_eq_false x0) ⟨_, rfl, _, rfl, hM3.snoc (.refl _) nD3 ?_ (by omega)⟩
            rw [lead, if_pos (by simp; omega)]
            have : [v.neg.a, v.neg.b, v.neg.c, v.neg.d] = [v.a, v.b, v.c, v.d].map (- ·) := rfl
            rw [this, List.getElem?_map, he]; rfl
        · rintro H6 hM3
          have hD6 := hM3.all rfl
          refine ⟨D3, _, rfl, .inl ⟨SqL.of hD6, fun T nT => ?_⟩⟩
          have s6 := (s2.trans s3).trans hM3.1
          exact k T _ (s6.free nT) (s6.trans (same_upd nT)) upd_same
end
end G
set_option Elab.async false
set_option linter.all false
set_option maxRecDepth 100000
set_option maxHeartbeats 2000000
namespace G
open PySem PySem.Spec PyProof.Rows L2 RZ StX
/-! ### the turns of the cube -/
def cubeRows : List (List Int) := [[0, 0, 0, 2], [0, 0, 2, -2], [0, 0, 2, 0], [0, 0, 2, 2], [0, 2, -2, 0], [0, 2, 0, -2], [0, 2, 0, 0], [0, 2, 0, 2], [0, 2, 2, 0], [1, -1, -1, -1], [1, -1, -1, 1], [1, -1, 1, -1], [1, -1, 1, 1], [1, 1, -1, -1], [1, 1, -1, 1], [1, 1, 1, -1], [1, 1, 1, 1], [2, -2, 0, 0], [2, 0, -2, 0], [2, 0, 0, -2], [2, 0, 0, 0], [2, 0, 0, 2], [2, 0, 2, 0], [2, 2, 0, 0]]
def cubeFours : List Q4 := cubeRows.map q4of
theorem cube_row {j : Nat} {c : List Int} (h : cubeRows[j]? = some c) : ∃ u : Q4, cubeFours[j]? = some u ∧ c = u.row ∧ u.Par ∧ u ≠ ⟨0, 0, 0, 0⟩ ∧ u.lead = u ∧ u.Bd 2 := by
  have m := List.mem_of_getElem? h
  have key : ∀ c ∈ cubeRows, c = (q4of c).row ∧ ((q4of c).a % 2 = (q4of c).b % 2 ∧ (q4of c).a % 2 = (q4of c).c % 2 ∧ (q4of c).a % 2 = (q4of c).d % 2) ∧ (q4of c) ≠ ⟨0, 0, 0, 0⟩ ∧ (q4of c).lead = q4of c ∧ ((q4of c).a.natAbs < 2 ^ 2 ∧ (q4of c).b.natAbs < 2 ^ 2 ∧ (q4of c).c.natAbs < 2 ^ 2 ∧ (q4of c).d.natAbs < 2 ^ 2) := by decide +kernel
  refine ⟨q4of c, ?_, key c m⟩
  show (cubeRows.map q4of)[j]? = _
  rw [List.getElem?_map, h]; rfl
theorem cube_mem {u : Q4} (h : u ∈ cubeFours) : u.row ∈ cubeRows ∧ u.Bd 2 ∧ u.spr = 1 := by
  have key : ∀ u ∈ cubeFours, u.row ∈ cubeRows ∧ (u.a.natAbs < 2 ^ 2 ∧ u.b.natAbs < 2 ^ 2 ∧ u.c.natAbs < 2 ^ 2 ∧ u.d.natAbs < 2 ^ 2) ∧ u.spr = 1 := by decide +kernel
  exact key u h
theorem cube_back {j : Nat} {u : Q4} (h : cubeFours[j]? = some u) : cubeRows[j]? = some u.row := by
  have h' : (cubeRows.map q4of)[j]? = some u := h
  rw [List.getElem?_map] at h'
  cases e : cubeRows[j]? with
  | none => rw [e] at h'; cases h'
  | some c =>
    obtain ⟨v, e1, e2, _⟩ := cube_row e
    rw [h] at e1; cases e1
    rw [e2]
theorem cube_mul {u v : Q4} (h : u ∈ cubeFours) (h' : v ∈ cubeFours) : (Q4.mul u v).lead.row ∈ cubeRows := by
  have key : ∀ u ∈ cubeFours, ∀ v ∈ cubeFours, (Q4.mul u v).lead.row ∈ cubeRows := by decide +kernel
  exact key u h v h'
theorem cube_neg {u : Q4} (h : u ∈ cubeFours) : u.mir.lead.row ∈ cubeRows := by
  have key : ∀ u ∈ cubeFours, u.mir.lead.row ∈ cubeRows := by decide +kernel
  exact key u h
theorem neg_lex : ∀ c : List Int, HT.lexLt c (c.map fun _ => 0) = true → HT.lexLt (c.map (- ·)) (c.map fun _ => 0) = false
  | [], h => by cases h
  | y :: c, h => by
    have h' : (if y = 0 then HT.lexLt c (c.map fun _ => 0) else decide (y < 0)) = true := h
    show (if -y = 0 then HT.lexLt (c.map (- ·)) (c.map fun _ => 0) else decide (-y < 0)) = false
    by_cases e : y = 0
    · rw [if_pos e] at h'
      rw [if_pos (by omega)]
      exact neg_lex c h'
    · rw [if_neg e] at h'
      rw [if_neg (by omega)]
      have := of_decide_eq_true h'
      exact decide_eq_false (by omega)
/-- just those with the spread 1 -/
theorem cube_spr {u : Q4} (pu : u.Par) (nu : u ≠ ⟨0, 0, 0, 0⟩) : decide (u.lead.row ∈ cubeRows) = decide (u.lead.spr = 1) := by
  have L := Q4.lead_of pu nu
  have pos : HT.lexLt u.lead.row [0, 0, 0, 0] = false := by
    unfold Q4.lead
    split
    · rename_i h
      exact neg_lex _ h
    · rename_i h
      exact Bool.eq_false_iff.mpr h
  generalize u.lead = v at *
  rw [decide_eq_decide]
  constructor
  · intro m
    obtain ⟨j, hj, e⟩ := List.getElem_of_mem m
    obtain ⟨x, e1, e2, _⟩ := cube_row (j := j) (c := v.row) (by rw [List.getElem?_eq_getElem hj, e])
    have : v = x := by
      simp only [Q4.row, List.cons.injEq, and_true] at e2
      exact Q4.ext e2.1 e2.2.1 e2.2.2.1 e2.2.2.2
    rw [this]
    exact (cube_mem (List.mem_of_getElem? e1)).2.2
  · intro h
    obtain ⟨_, hn, h4⟩ := L.prim.gcd
    have sp := Q4.size_pos L.prim
    have hs : v.size = 1 ∨ v.size = 2 := by
      unfold Q4.spr at h
      split at h <;> omega
    have nn : v.nn ≤ 8 := by omega
    have n4 : v.nn = 4 ∨ v.nn = 8 := by omega
    obtain ⟨p1, p2, p3⟩ := L.prim.par
    obtain ⟨a, b, c, d⟩ := v
    have sq : ∀ x y : Int, x * x ≤ 8 → -2 ≤ x ∧ x ≤ 2 := fun x _ h => by
      have e : ((x.natAbs * x.natAbs : Nat) : Int) = x * x := Int.natAbs_mul_self
      have : x.natAbs ≤ 2 := by
        rcases Nat.lt_or_ge 2 x.natAbs with q | q
        · have := Nat.mul_le_mul q q
          omega
        · exact q
      omega
    have aa := Q4.sq_nn a
    have bb := Q4.sq_nn b
    have cc := Q4.sq_nn c
    have dd := Q4.sq_nn d
    have en : (⟨a, b, c, d⟩ : Q4).nn = a * a + b * b + c * c + d * d := rfl
    obtain ⟨a1, a2⟩ := sq a a (by omega)
    obtain ⟨b1, b2⟩ := sq b b (by omega)
    obtain ⟨c1, c2⟩ := sq c c (by omega)
    obtain ⟨d1, d2⟩ := sq d d (by omega)
    have key : ∀ a ∈ [-2, -1, 0, 1, 2], ∀ b ∈ [-2, -1, 0, 1, 2], ∀ c ∈ [-2, -1, 0, 1, 2], ∀ d ∈ [-2, -1, 0, 1, (2 : Int)], a % 2 = b % 2 → a % 2 = c % 2 → a % 2 = d % 2 → (a * a + b * b + c * c + d * d = 4 ∨ a * a + b * b + c * c + d * d = 8) → HT.lexLt [a, b, c, d] [0, 0, 0, 0] = false → [a, b, c, d] ∈ cubeRows := by decide +kernel
    have mem : ∀ x : Int, -2 ≤ x → x ≤ 2 → x ∈ [-2, -1, 0, 1, (2 : Int)] := fun x h1 h2 => by simp; omega
    exact key a (mem a a1 a2) b (mem b b1 b2) c (mem c c1 c2) d (mem d d1 d2) p1 p2 p3 n4 pos
def spCube (C CT : Addr) : Sp := fun vs H Q _ => vs = [] ∧ ∀ p H', H p = none → Same H H' → ObjsAt (TurnAt C CT) H' p cubeFours → Q (.ref p) H'
theorem tame_turn {C CT : Addr} : Tame (TurnAt C CT) where
  same := fun h s => h.same s
  but := fun {H H' D t u ys} ⟨p, dx, q, h1, pu, dy, z, h2, h3⟩ hD s => ⟨p, dx, q, s _ _ (ne_of h1 hD (by intro q; cases q)) h1, pu, dy, z, s _ _ (ne_of h2 hD (by intro q; cases q)) h2, s _ _ (ne_of h3 hD (by intro q; cases q)) h3⟩
section
variable {P : Program} {w : World} {K : PySem.W.Frag} {mg : Str → Option Value} {base : Heap}
def spTW (K : PySem.W.Frag) (C CT : Addr) : Sp := fun vs H Q _ => ∃ (t : Addr) (u : Q4), vs = [.ref t] ∧ SqT K H t u.vs ∧ u.Par ∧ u.Bd 2 ∧ u ≠ ⟨0, 0, 0, 0⟩ ∧ ∀ y H3, H y = none → Same H H3 → TurnAt C CT H3 y u.lead → Q (.ref y) H3
theorem Same.free {H H' : Hp} (s : Same H H') {y : Addr} (h : H' y = none) : H y = none := by
  cases e : H y with
  | none => rfl
  | some o => rw [s y o e] at h; cases h
theorem ok_tw {f C CT : Addr} {fd : FuncData} (F : Fun K "turn_with" "turn_with" s_turn_with f fd) (CF : FourC K mg C) (CI : InitOk P w K mg base C) (TF : TurnC K mg CT) (TI : TInitOk P w K mg base C CT) : FnOk P w K mg base CX0 9 f fd ["halves"] (spTW K C CT) := by
  refine F.ok sc_turn_with (fun vs H Q E h => ?_) (fun cdv A outer s H vs Q E hr h => ?_)
  · obtain ⟨t, u, rfl, _⟩ := h
    rfl
  · obtain ⟨t, u, rfl, hT, pu, bu, nu, q⟩ := h
    refine ⟨_, (pss_one (ps_ret (pe_turn TI hr TF.mgC (pa_cons (show PE _ _ (tFourS K C (tVar 0)) from pe_fourS CI (hr.mono (by decide)) CF.mgC (pv 0)) pa_nil)))), ?_⟩
    exact ⟨_, rfl, t, u, rfl, .inl hT, pu, fun z H2 nz s2 hz => ⟨z, u, 2, rfl, hz, by decide, by decide, bu, nu, fun y H3 ny s3 hy => q y H3 (Same.free s2 ny) (s2.trans s3) hy⟩⟩
theorem ok_cube {f C CT : Addr} {fd : FuncData} (F : Fun K "cube" "Turn.cube" s_Turn_cube f fd) (D_tw : DefOk P w K mg base "turn_with" 9 ["halves"] (spTW K C CT)) (U : Rows0 K mg "CUBE" cubeRows) : FnOk P w K mg base CX0 10 f fd [] (spCube C CT) := by
  obtain ⟨ua, ts, mU, lU, rU⟩ := U
  refine F.ok sc_Turn_cube (fun vs H Q E h => ?_) (fun cdv A outer s H vs Q E hr h => ?_)
  · obtain ⟨rfl, _⟩ := h
    rfl
  · obtain ⟨rfl, q⟩ := h
    refine ⟨_, (pss_one (ps_ret (pe_lc (own := [("halves", 0)]) (g := gName 0) (tt := tYes) (by rfl) sc_Turn_cube.nd (pi_tup (pe_glob (v := .ref ua) rfl mU rfl)) (blkOk_by (own := [("halves", 0)]) (N := ["halves"]) (sc := (defScope s_Turn_cube)) (by decide +kernel)) (fun _ _ _ _ _ => pg_name (i := 0) sc_Turn_cube.nd rfl (Or.inl rfl)) (fun _ _ _ _ _ => pts_nil) (fun _ _ _ _ _ => (show PE _ _ (tCall (spTW K C CT) [] E0 (tCons (tVar 0) tNil)) from pe_callD D_tw hr (pa_cons (pv 0) pa_nil)))))), ?_⟩
    refine ⟨ua, rfl, ⟨_, (rU _).1⟩, fun D nD => ?_⟩
    refine lc_tup (K := K) (a := ua) (xs := ts.map V.ref) (MadeO (TurnAt C CT) H D cubeFours) (MadeO.zero nD) (fun j H' _ h => (rU _).1) ?_ ?_
    · rintro j x H' hx hM
      obtain ⟨t, c, rfl, et, ec, hj⟩ := ref_at lU hx
      obtain ⟨u, eu, rfl, pu, nu, lu, bu⟩ := cube_row ec
      refine ⟨rfl, ?_⟩
      dsimp only [tYes]
      rw [if_pos rfl]
      have hj' : j < 24 := hj
      refine ⟨_, rfl, t, u, rfl, (rU _).2 j t _ et ec, pu, bu, nu, fun y H3 ny s3 hy => ?_⟩
      rw [lu] at hy
      exact hM.snoc tame_turn s3 nD eu hy (by omega)
    · rintro H2 hM
      exact q D _ nD hM.1 (hM.objs (by rw [List.length_map, lU]; rfl))
end
end G
set_option Elab.async false
set_option linter.all false
set_option maxRecDepth 100000
set_option maxHeartbeats 4000000
namespace G
open PySem PySem.Spec PyProof.Rows L2 RZ StX
def spLaw (K : PySem.W.Frag) : Sp := fun vs H Q _ => ∃ (a : Addr) (ns : List Int), vs = [.ref a] ∧ SqL K H a (ns.map V.int) ∧ ns.length ≤ 63 ∧ ∀ H', Q (.bl true) H'
theorem room65 {k : Nat} {A : Around} (r : Room k A) : A.units + 65 < cLine := by have := r.un; omega
theorem feed_lst {H : Hp} {p c : Addr} (h : FeedAt H p c) : ∃ ys : List V, H p = Option.some (HO.lst ys) := by
  obtain ⟨_, _, _, _, h, _⟩ := h
  exact ⟨_, h⟩
theorem Q4.Le.bd {m : Int} {n : Nat} {u : Q4} (h : u.Le m) (hm : m.natAbs < 2 ^ n) : u.Bd n := by
  obtain ⟨⟨a1, a2⟩, ⟨b1, b2⟩, ⟨c1, c2⟩, d1, d2⟩ := h
  refine ⟨?_, ?_, ?_, ?_⟩ <;> generalize 2 ^ n = P at * <;> omega
theorem EqV.ints {K : PySem.W.Frag} {H : Hp} {a b : Addr} {ns : List Int} {n : Nat} (h1 : H a = some (.lst (ns.map V.int))) (h2 : H b = some (.lst (ns.map V.int))) (hl : ns.length ≤ 1000) : EqV K H (n + 2) (.ref a) (.ref b) := by
  refine .inr ⟨a, b, _, _, rfl, rfl, .inl ⟨h1, h2⟩, rfl, by rw [List.length_map]; exact hl, fun i x y hx hy => ?_⟩
  rw [hx] at hy
  cases hy
  obtain ⟨u, rfl, _⟩ := int_at hx
  exact .inl ⟨rfl, rfl⟩
theorem any_row (cs : List (List Int)) (c : List Int) : ((cs.map dRow).any fun z => PyData.eqv z (dRow c)) = decide (c ∈ cs) := by
  rw [List.any_map, Bool.eq_iff_iff, List.any_eq_true, decide_eq_true_eq]
  constructor
  · rintro ⟨x, m, h⟩
    have h' : PyData.eqv (dRow x) (dRow c) = true := h
    rw [eqv_row] at h'
    rw [← of_decide_eq_true h']
    exact m
  · intro m
    exact ⟨c, m, by show PyData.eqv (dRow c) (dRow c) = true; rw [eqv_row]; simp⟩
section
variable {P : Program} {w : World} {K : PySem.W.Frag} {mg : Str → Option Value} {base : Heap}
theorem ok_law {f C CT : Addr} {fd : FuncData} (F : Fun K "law" "law" s_law f fd) (B : Bn mg) (CF : FourC K mg C) (TF : TurnC K mg CT) (mS : mg "sorted" = none) (D_feed : DefOk P w K mg base "_law_feed" 1 ["_law_script"] (spFeed K)) (D_take : DefOk P w K mg base "_law_take" 1 ["_law_feed_here", "_law_many"] spTake) (D_same : DefOk P w K mg base "_law_same" 4 ["_law_found", "_law_due"] (spSame K 3))
    (D_halves : DefOk P w K mg base "_law_halves" 2 ["_law_feed_here", "_law_most"] spHalvesL) (D_lowest : DefOk P w K mg base "_law_lowest" 4 ["_law_halves_here"] (spLow K)) (D_table : DefOk P w K mg base "_law_table" 3 ["_law_halves_here"] (spTable K))
    (M_tmul : MethOk P w K mg base CT "__mul__" 9 ["self", "other"] (spTMul C CT)) (M_tneg : MethOk P w K mg base CT "__neg__" 9 ["self"] (spTNeg C CT)) (P_four : PropOk P w K mg base CT "four" 1 ["self"] (spTFour C CT)) (P_spread : PropOk P w K mg base CT "spread" 3 ["self"] (spTSpread C CT)) (P_halves : PropOk P w K mg base C "halves" 1 ["self"] (spHalvesP C)) (S_cube : StatOk P w K mg base CT "cube" 10 [] (spCube C CT)) : FnOk P w K mg base CX0 11 f fd ["_law_script"] (spLaw K) := by
  refine F.ok sc_law (fun vs H Q E h => ?_) (fun cdv A outer s H vs Q E hr h => ?_)
  · obtain ⟨a, ns, rfl, _⟩ := h
    rfl
  · obtain ⟨a, ns, rfl, hS, hl, q⟩ := h
    refine ⟨_, (pss_cons (ps_set (i := 1) sc_law.nd rfl (Or.inl rfl) (pe_callD D_feed (hr.mono (by decide)) (pa_cons (pv 0) pa_nil)))
      (pss_cons (ps_set (i := 2) sc_law.nd rfl (Or.inl rfl) (pe_statD0 S_cube (pe_glob (v := .ref CT) rfl TF.mgC rfl) hr))
      (pss_cons (ps_set (i := 3) sc_law.nd rfl (Or.inr rfl) (pe_lc (own := [("_law_one", 7)]) (g := gName 7) (tt := tYes) (by rfl) sc_law.nd (pi_list (pv 2)) (blkOk_by (own := [("_law_one", 7)]) (N := ["_law_script", "_law_feed_here", "_law_found", "_law_rows", "_law_at", "_law_other", "_law_halves_here", "_law_one"]) (sc := (defScope s_law)) (by decide +kernel)) (fun _ _ _ _ _ => pg_name (i := 7) sc_law.nd rfl (Or.inl rfl)) (fun _ _ _ _ _ => pts_nil) (fun _ _ _ _ _ => (pe_Fh (pe_propD (pv 7) TF.cl P_four (hr.mono (by decide))) CF.toClsFacts P_halves (hr.mono (by decide))))))
      (pss_cons (ps_if (PW.pt (pw_or (pt_cmpR op_ne (pe_callB call_len_seq (by rfl) B.len PySem.boot_len (pa_cons (pv 3) pa_nil)) pe_int (nomark _)) (pw_or (pt_cmpR (op_neD hr.units) (pv 3) (pe_callB cr_sortedR (by rfl) mS (by decide +kernel) (pa_cons (pv 3) pa_nil)) (nomark _)) (pw_or1 (pt_cmpR op_ne (pe_callB call_len_seq (by rfl) B.len PySem.boot_len (pa_cons (pe_lc (own := [("_law_one", 7)]) (g := gName 7)  (by rfl) sc_law.nd (pi_list (pv 3)) (blkOk_by (own := [("_law_one", 7)]) (N := ["_law_script", "_law_feed_here", "_law_found", "_law_rows", "_law_at", "_law_other", "_law_halves_here", "_law_one"]) (sc := (defScope s_law)) (by decide +kernel)) (fun _ _ _ _ _ => pg_name (i := 7) sc_law.nd rfl (Or.inl rfl)) (fun _ _ _ _ _ => pts_one (pt_cmpR op_eq (show PE _ _ (tBM K "list" (rCntR K) (tVar 3) (tCons (tVar 7) tNil)) from pe_bm PySem.F.plainAttrs_list PySem.F.slot_list_count PySem.F.type_list_count (mt_countR hr.units) (pv 3) (pa_cons (pv 7) pa_nil)) pe_int (nomark _))) (fun _ _ _ _ _ => (pv 7))) pa_nil)) pe_int (nomark _)))))) (pss_one (ps_ret pe_bl)) pss_nil)
      (pss_cons (ps_if (PW.pt (pw_or (pt_not (pt_val (pe_callB call_isi (by rfl) B.isinstance (by decide +kernel) (pa_cons (pv 2) (pa_cons (pe_bltn (v := .ty "list") (u := .type "list") (by rfl) B.list (by decide +kernel) rfl) pa_nil))))) (pw_or1 (pt_not (pt_val (pe_callD D_same (hr.mono (by decide)) (pa_cons (pe_lc (own := [("_law_one", 7)]) (g := gName 7) (tt := tYes) (by rfl) sc_law.nd (pi_list (pv 2)) (blkOk_by (own := [("_law_one", 7)]) (N := ["_law_script", "_law_feed_here", "_law_found", "_law_rows", "_law_at", "_law_other", "_law_halves_here", "_law_one"]) (sc := (defScope s_law)) (by decide +kernel)) (fun _ _ _ _ _ => pg_name (i := 7) sc_law.nd rfl (Or.inl rfl)) (fun _ _ _ _ _ => pts_nil) (fun _ _ _ _ _ => (pe_propD (pv 7) TF.cl P_spread (hr.mono (by decide))))) (pa_cons (pe_op op_rep (pe_lst (pa_cons pe_int pa_nil)) pe_int) pa_nil)))))))) (pss_one (ps_ret pe_bl)) pss_nil)
      (pss_cons (ps_par (i := 4) (j := 5) (by rfl) sc_law.nd rfl rfl (by decide) rfl rfl (pa_cons (pe_callD D_take (hr.mono (by decide)) (pa_cons (pv 1) (pa_cons pe_int pa_nil))) (pa_cons (pe_callD D_take (hr.mono (by decide)) (pa_cons (pv 1) (pa_cons pe_int pa_nil))) pa_nil)) (by rfl))
      (pss_cons (ps_if (PW.pt (pw_or (pt_cmpR (op_notInD (room65 hr)) (pe_Fh (pe_propD (pe_op (op_ownD TF.toClsFacts M_tmul (hr.mono (by decide))) (pe_ix ix_list (pv 2) (pv 4) (fun _ _ => rfl)) (pe_ix ix_list (pv 2) (pv 5) (fun _ _ => rfl))) TF.cl P_four (hr.mono (by decide))) CF.toClsFacts P_halves (hr.mono (by decide))) (pv 3) (by rfl)) (pw_or1 (pt_cmpR (op_notInD (room65 hr)) (pe_Fh (pe_propD (pe_un (un_ownD M_tneg (hr.mono (by decide))) (pe_ix ix_list (pv 2) (pv 4) (fun _ _ => rfl))) TF.cl P_four (hr.mono (by decide))) CF.toClsFacts P_halves (hr.mono (by decide))) (pv 3) (by rfl))))) (pss_one (ps_ret pe_bl)) pss_nil)
      (pss_cons (ps_set (i := 6) sc_law.nd rfl (Or.inl rfl) (pe_callD D_halves (hr.mono (by decide)) (pa_cons (pv 1) (pa_cons pe_int pa_nil))))
      (pss_cons (ps_if (pt_cmpR op_ne (pe_cmpR (op_inD (room65 hr)) (pe_callD D_lowest (hr.mono (by decide)) (pa_cons (pv 6) pa_nil)) (pv 3) (by rfl)) (pe_cmpR op_eq (pe_ix ix_tup (pe_callD D_table (hr.mono (by decide)) (pa_cons (pv 6) pa_nil)) pe_int (fun _ _ => rfl)) pe_int (nomark _)) (nomark _)) (pss_one (ps_ret pe_bl)) pss_nil)
      (pss_cons (ps_expr (pe_bm PySem.F.plainAttrs_list PySem.F.slot_list_pop PySem.F.type_list_pop mt_popAt (pv 2) (pa_cons (pv 4) pa_nil)))
      (pss_one (ps_ret (pe_callD D_same (hr.mono (by decide)) (pa_cons (pe_lc (own := [("_law_one", 7)]) (g := gName 7) (tt := tYes) (by rfl) sc_law.nd (pi_list (pe_statD0 S_cube (pe_glob (v := .ref CT) rfl TF.mgC rfl) hr)) (blkOk_by (own := [("_law_one", 7)]) (N := ["_law_script", "_law_feed_here", "_law_found", "_law_rows", "_law_at", "_law_other", "_law_halves_here", "_law_one"]) (sc := (defScope s_law)) (by decide +kernel)) (fun _ _ _ _ _ => pg_name (i := 7) sc_law.nd rfl (Or.inl rfl)) (fun _ _ _ _ _ => pts_nil) (fun _ _ _ _ _ => (pe_Fh (pe_propD (pv 7) TF.cl P_four (hr.mono (by decide))) CF.toClsFacts P_halves (hr.mono (by decide))))) (pa_cons (pv 3) pa_nil))))))))))))))), ?_⟩
    refine ⟨_, rfl, a, ns, rfl, hS, fun H1 p c s1 np hF1 => ?_⟩
    refine ⟨rfl, rfl, fun l2 H2 n2 s2 hO2 => ?_⟩
    have hF2 := hF1.same s2
    obtain ⟨ts, h1, h2, h3⟩ := id hO2
    refine ⟨_, rfl, l2, rfl, ⟨_, SqL.of h1⟩, fun D nD => ?_⟩
    refine lc_list (K := K) (a := l2) (xs := ts.map V.ref) (MadeO (RowAt K) H2 D cubeRows) (MadeO.zero nD) (fun j H' _ h => SqL.of (h.1 _ _ h1)) ?_ ?_
    · rintro j x H' hx hM
      obtain ⟨t, u, rfl, et, eu, hj⟩ := ref_at h2 hx
      have hT := (h3 j t u et eu).same hM.1
      obtain ⟨_, dx, qa, k1, k2⟩ := id hT
      refine ⟨rfl, ?_⟩
      dsimp only [tYes]
      rw [if_pos rfl]
      have hj' : j < 24 := hj
      exact ⟨_, rfl, t, dx, _, rfl, k1, t, u, rfl, hT, fun q4 hq4 => ⟨q4, u, rfl, hq4, fun t2 e2 => hM.snoc tame_row (.refl _) nD (cube_back eu) (SqT.of e2) (by omega)⟩⟩
    · rintro H3 hM
      have hR3 := hM.objs (by rw [List.length_map, h2]; rfl)
      have s3 := hM.1
      have hF3 := hF2.same s3
      have hO3 := hO2.same tame_turn s3
      obtain ⟨rs, g1, g2, g3⟩ := id hR3
      have grow : ∀ x ∈ rs.map V.ref, ∃ c, RowV K H3 x c ∧ c ≠ [] := RowsAt.row (cs := cubeRows) hR3 g1 (by decide)
      dsimp only [gName]
      refine nx_norm (σ' := [some (.ref a), some (.ref p), some (.ref l2), some (.ref D), none, none, none, none]) rfl ?_
      refine ⟨_, rfl, D, _, rfl, .inl (SqL.of g1), rfl, _, rfl, ifF ?_ ?_⟩
      · rw [List.length_map, g2]; rfl
      refine ⟨_, rfl, _, rfl, D, _, rfl, SqL.of g1, grow, fun k ys p4 hk hs hp np4 => ?_⟩
      have t4 : Same H3 (upd H3 p4 (.lst ys)) := same_upd np4
      have hR4 : ObjsAt (RowAt K) (upd H3 p4 (.lst ys)) p4 cubeRows := RowsAt.sorted (cs := cubeRows) hR3 g1 hk hs hp np4 (by decide) (List.Perm.refl _)
      refine ⟨_, _, (hR3.same tame_row t4).dp, hR4.dp, by decide +kernel, by decide +kernel, _, rfl, ifF ?_ ?_⟩
      · rw [SeqAt.eqv_refl _ (by decide +kernel)]; rfl
      have hR5 := hR3.same tame_row t4
      have hO5 := hO3.same tame_turn t4
      have hF5 := hF3.same t4
      clear hR4 t4
      generalize upd H3 p4 (.lst ys) = H5 at *
      obtain ⟨rs, g1, g2, g3⟩ := id hR5
      refine ⟨_, rfl, D, rfl, ⟨_, SqL.of g1⟩, fun D2 nD2 => ?_⟩
      refine lc_list (K := K) (a := D) (xs := rs.map V.ref) (fun i H' => Same H5 H' ∧ H' D2 = some (.lst ((rs.take i).map V.ref))) ⟨same_upd nD2, upd_same⟩ (fun j H' _ h => SqL.of (h.1 _ _ g1)) ?_ ?_
      · rintro j x H' hx ⟨s6, h6⟩
        obtain ⟨t, cr, rfl, et, ec, hj⟩ := ref_at g2 hx
        have hj' : j < 24 := hj
        have c1 : cubeRows.count cr = 1 := by
          have key : ∀ c ∈ cubeRows, cubeRows.count c = 1 := by decide +kernel
          exact key cr (List.mem_of_getElem? ec)
        refine ⟨rfl, ⟨_, rfl, .inl ⟨rfl, _, SqL.of (s6 _ _ g1)⟩, _, rfl, D, t, rs, cubeRows, cr, rfl, rfl, SqL.of (s6 _ _ g1), g2, fun j t c a b => tame_row.same (g3 j t c a b) s6, tame_row.same (g3 j t cr et ec) s6, rfl, _, rfl, ifT (by rw [c1]; rfl) ⟨_, rfl, _, h6, ?_, ?_, ?_⟩⟩⟩
        · rw [List.length_map, List.length_take]; exact small1000 (by omega)
        · intro b o eb
          rw [upd_ne (ne_of_none eb nD2)]
          exact s6 _ _ eb
        · rw [upd_same, List.take_add_one, et, List.map_append]; rfl
      · rintro H6 ⟨s6, h6⟩
        rw [List.length_map, List.take_length] at h6
        refine ⟨D2, _, rfl, .inl (SqL.of h6), rfl, _, rfl, ifF ?_ ?_⟩
        · rw [List.length_map, g2]; rfl
        have hO6 := hO5.same tame_turn s6
        have hR6 := hR5.same tame_row s6
        have hF6 := hF5.same s6
        obtain ⟨ts, z1, z2, z3⟩ := id hO6
        refine ⟨_, rfl, _, _, _, _, true, rfl, .ty _, .base (.lst z1), kit (by decide +kernel), _, rfl, ifF rfl ?_⟩
        refine ⟨_, rfl, l2, rfl, ⟨_, SqL.of z1⟩, fun D3 nD3 => ?_⟩
        refine lc_list (K := K) (a := l2) (xs := ts.map V.ref) (MadeI H6 D3 (List.replicate 24 1)) (MadeI.zero nD3) (fun j H' _ h => SqL.of (h.1 _ _ z1)) ?_ ?_
        · rintro j x H' hx hM
          obtain ⟨t, u, rfl, et, eu, hj⟩ := ref_at z2 hx
          have hT := (z3 j t u et eu).same hM.1
          obtain ⟨_, dx, qa, k1, k2⟩ := id hT
          have hj' : j < 24 := hj
          obtain ⟨_, bu, su⟩ := cube_mem (List.mem_of_getElem? eu)
          refine ⟨rfl, ?_⟩
          dsimp only [tYes]
          rw [if_pos rfl]
          refine ⟨_, rfl, t, dx, _, rfl, k1, t, u, 2, rfl, hT, by decide, by decide, bu, ?_⟩
          rw [su]
          exact hM.snoc (.refl _) nD3 (by rw [List.getElem?_replicate, if_pos hj']) (by omega)
        · rintro H7 hM
          have hD3 := hM.all (by rw [List.length_map, z2]; rfl)
          refine ⟨(by show 1 ≤ sizeLine; decide), fun q1 nq1 => ⟨q1, 24, [.int 1], rfl, rfl, upd_same, by decide, by decide, by decide, fun q2 nq2 => ?_⟩⟩
          have t1 := same_upd (o := .lst [.int 1]) nq1
          have t2 := same_upd (o := .lst ((List.replicate 24 [V.int 1]).flatten)) nq2
          have tt := t1.trans t2
          refine ⟨_, _, rfl, EqV.ints (ns := List.replicate 24 1) (tt _ _ hD3) upd_same (by decide), fun H8 s8 => ⟨_, rfl, ifF rfl ?_⟩⟩
          have s68 := (hM.1.trans tt).trans s8
          have hO8 := hO6.same tame_turn s68
          have hR8 := hR6.same tame_row s68
          have hF8 := hF6.same s68
          have n2p : l2 ≠ p := (hF1.ne n2).1
          have nDp : D ≠ p := (hF2.ne nD).1
          have n2D : D ≠ l2 := fun e => by rw [e, h1] at nD; cases nD
          refine ⟨_, rfl, p, c, 24, rfl, by decide, by decide +kernel, hF8, fun H9 r r0 r1 hF9 sm9 => ?_⟩
          refine ⟨_, rfl, p, c, 24, rfl, by decide, by decide +kernel, hF9, fun H10 r' r0' r1' hF10 sm10 => ?_⟩
          refine ⟨_, _, rfl, ?_⟩
          refine nx_norm (σ' := [some (.ref a), some (.ref p), some (.ref l2), some (.ref D), some (.int r), some (.int r'), none, none]) rfl ?_
          have up := sm9.trans sm10
          obtain ⟨y8, hp8⟩ := feed_lst hF8
          have hO10 := hO8.but tame_turn hp8 n2p up
          have hR10 := hR8.but tame_row hp8 nDp up
          obtain ⟨xs, t, u, x1, x2, x3, x4, x5⟩ := hO10.item r0 (by exact r1)
          obtain ⟨xs', t', u', x1', x2', x3', x4', x5'⟩ := hO10.item r0' (by exact r1')
          have mu := List.mem_of_getElem? x3
          have mu' := List.mem_of_getElem? x3'
          obtain ⟨_, dx, qa, k1, k2⟩ := id x4
          obtain ⟨_, dy, qb, k1', k2'⟩ := id x4'
          refine ⟨_, rfl, _, rfl, l2, _, _, _, rfl, rfl, SqL.of x1, x2, _, rfl, _, rfl, l2, _, _, _, rfl, rfl, SqL.of x1', x2', t, t', dx, dy, _, _, rfl, rfl, k1, k1', t, t', u, u', 2, rfl, x4, x4', by decide, by decide, (cube_mem mu).2.1, (cube_mem mu').2.1, fun r11 H11 n11 s11 h11 => ?_⟩
          obtain ⟨_, dz, qz, kz1, kz2⟩ := id h11
          refine ⟨r11, dz, _, rfl, kz1, r11, _, rfl, h11, fun q4 hq4 => ⟨q4, _, rfl, hq4, fun t4 e4 => ⟨_, rfl, dRow (Q4.mul u u').lead.row, cubeRows.map dRow, .tup (SqT.of e4) (dp_ints (Q4.mul u u').lead.row), (hR10.same tame_row s11).dp, rfl, by decide +kernel, _, rfl, ifF ?_ ?_⟩⟩⟩
          · rw [any_row, decide_eq_true (cube_mul mu mu')]; rfl
          have hO11 := hO10.same tame_turn s11
          have hR11 := hR10.same tame_row s11
          have hF11 := hF10.same s11
          obtain ⟨xs, t, u, x1, x2, x3, x4, x5⟩ := hO11.item r0 (by exact r1)
          have mu := List.mem_of_getElem? x3
          obtain ⟨_, dx, qa, k1, k2⟩ := id x4
          refine ⟨_, rfl, _, rfl, l2, _, _, _, rfl, rfl, SqL.of x1, x2, t, dx, _, rfl, k1, t, u, 2, rfl, x4, by decide, by decide, (cube_mem mu).2.1, fun r12 H12 n12 s12 h12 => ?_⟩
          obtain ⟨_, dz, qz, kz1, kz2⟩ := id h12
          refine ⟨r12, dz, _, rfl, kz1, r12, _, rfl, h12, fun q4 hq4 => ⟨q4, _, rfl, hq4, fun t4 e4 => ⟨_, rfl, dRow u.mir.lead.row, cubeRows.map dRow, .tup (SqT.of e4) (dp_ints u.mir.lead.row), (hR11.same tame_row s12).dp, rfl, by decide +kernel, _, rfl, ifF ?_ ?_⟩⟩⟩
          · rw [any_row, decide_eq_true (cube_neg mu)]; rfl
          have hO12 := hO11.same tame_turn s12
          have hR12 := hR11.same tame_row s12
          have hF12 := hF11.same s12
          refine ⟨_, rfl, p, c, 2, rfl, by decide, by decide, hF12, fun H13 th v hF13 sm13 nth eth pv' lv zv => ?_⟩
          dsimp only [gName]
          refine nx_norm (σ' := [some (.ref a), some (.ref p), some (.ref l2), some (.ref D), some (.int r), some (.int r'), some (.ref th), none]) rfl ?_
          obtain ⟨y12, hp12⟩ := feed_lst hF12
          have hO13 := hO12.but tame_turn hp12 n2p sm13
          have hR13 := hR12.but tame_row hp12 nDp sm13
          have bv : v.Bd 5 := lv.bd (by decide)
          have lead := Q4.lead_of pv' zv
          obtain ⟨M, M0, hE⟩ := lead.ents
          refine ⟨_, rfl, th, v, 5, rfl, SqT.of eth, pv', zv, by decide, by decide, bv, fun r14 H14 n14 s14 h14 => ?_⟩
          refine ⟨_, rfl, dRow v.lead.row, cubeRows.map dRow, .tup (SqT.of h14) (dp_ints v.lead.row), (hR13.same tame_row s14).dp, rfl, by decide +kernel, ?_⟩
          refine ⟨_, rfl, th, v, v.lead, M, 5, rfl, SqT.of (s14 _ _ eth), M0, lead.prim, hE, by decide, by decide, bv, fun r15 H15 n15 s15 ⟨l15, hq15, hO15⟩ => ?_⟩
          refine ⟨r15, _, _, _, rfl, rfl, hq15, rfl, rfl, ?_⟩
          refine ⟨rfl, _, rfl, ifF ?_ ?_⟩
          · rw [any_row, cube_spr pv' zv]
            have e : decide (V.int v.lead.spr = V.int 1) = decide (v.lead.spr = 1) := by
              rw [decide_eq_decide]
              constructor
              · intro h; injection h
              · intro h; rw [h]
            rw [e]
            simp
          have s1315 := s14.trans s15
          have hO15' := hO13.same tame_turn s1315
          have hR15 := hR13.same tame_row s1315
          obtain ⟨xs15, t9, u9, y1, y2, y3, y4, y5⟩ := hO15'.item r0 (by exact r1)
          refine ⟨_, rfl, .inl ⟨rfl, _, SqL.of y1⟩, _, rfl, l2, xs15, r, r.toNat, _, rfl, rfl, y1, by omega, by omega, PySem.seqIndex_of r0 (by rw [y5]; exact r1), List.getElem?_eq_getElem (by rw [y5]; show r.toNat < 24; omega), ?_⟩
          have s16 : SameX l2 H15 (upd H15 l2 (.lst (xs15.eraseIdx r.toNat))) := sameX_upd
          have hR16 := hR15.but tame_row y1 n2D s16
          generalize upd H15 l2 (.lst (xs15.eraseIdx r.toNat)) = H16 at *
          refine ⟨rfl, rfl, fun l17 H17 n17 s17 hO17 => ?_⟩
          obtain ⟨tz, z1, z2, z3⟩ := id hO17
          refine ⟨l17, rfl, ⟨_, SqL.of z1⟩, fun D4 nD4 => ?_⟩
          refine lc_list (K := K) (a := l17) (xs := tz.map V.ref) (MadeO (RowAt K) H17 D4 cubeRows) (MadeO.zero nD4) (fun j H' _ h => SqL.of (h.1 _ _ z1)) ?_ ?_
          · rintro j x H' hx hM
            obtain ⟨t, u, rfl, et, eu, hj⟩ := ref_at z2 hx
            have hT := (z3 j t u et eu).same hM.1
            obtain ⟨_, dx, qa, k1, k2⟩ := id hT
            refine ⟨rfl, ?_⟩
            dsimp only [tYes]
            rw [if_pos rfl]
            have hj' : j < 24 := hj
            exact ⟨_, rfl, t, dx, _, rfl, k1, t, u, rfl, hT, fun q4 hq4 => ⟨q4, u, rfl, hq4, fun t2 e2 => hM.snoc tame_row (.refl _) nD4 (cube_back eu) (SqT.of e2) (by omega)⟩⟩
          · rintro H18 hM
            have hE2 := hM.objs (by rw [List.length_map, z2]; rfl)
            exact ⟨_, rfl, _, _, rfl, EqV.rowsI hE2 ((hR16.same tame_row s17).same tame_row hM.1) (by decide) (by decide), fun H19 _ => q _⟩
end
end G
set_option Elab.async false
set_option linter.all false
set_option maxRecDepth 100000
set_option maxHeartbeats 1000000
namespace G
open PySem PySem.Spec PyProof.Rows L2 RZ StX
theorem all_mk {l : PySem.W.OpenLaw} {w : World} {K : PySem.W.Frag} {h : Heap} {mg : Str → Option Value} {fa C CT : Addr} (X : K.In h) (G : h.Ns mainGlobals mg) (hfa : mg "law" = some (.ref fa)) (t_law : TopLaw K "law" s_law) (t_is_number : TopFn K "is_number" s_is_number) (t_common : TopFn K "common" s_common) (t_are_halves : TopFn K "are_halves" s_are_halves) (t_lead_of : TopFn K "lead_of" s_lead_of) (t_turn_with : TopFn K "turn_with" s_turn_with) (t_L_feed : TopFn K "_law_feed" s_L_feed) (t_L_take : TopFn K "_law_take" s_L_take) (t_L_same : TopFn K "_law_same" s_L_same) (t_L_halves : TopFn K "_law_halves" s_L_halves) (t_L_gcd : TopFn K "_law_gcd" s_L_gcd) (t_L_gcd_of : TopFn K "_law_gcd_of" s_L_gcd_of) (t_L_content : TopFn K "_law_content" s_L_content) (t_L_lowest : TopFn K "_law_lowest" s_L_lowest) (t_L_table : TopFn K "_law_table" s_L_table) (t_C : TopCls K "Four" C) (i_C : TopMeth K C "__init__" "Four.__init__" s_Four_init) (m_Four_content : TopMeth K C "content" "Four.content" s_Four_content) (m_Four_divided : TopMeth K C "divided" "Four.divided" s_Four_divided) (m_Four_neg : TopMeth K C "__neg__" "Four.__neg__" s_Four_neg) (m_Four_bool : TopMeth K C "__bool__" "Four.__bool__" s_Four_bool) (m_Four_mul : TopMeth K C "__mul__" "Four.__mul__" s_Four_mul) (m_Four_mirrored : TopMeth K C "mirrored" "Four.mirrored" s_Four_mirrored) (p_Four_halves : TopProp K C "halves" "Four.halves" s_Four_halves) (p_Four_size : TopProp K C "size" "Four.size" s_Four_size) (t_CT : TopCls K "Turn" CT) (i_CT : TopMeth K CT "__init__" "Turn.__init__" s_Turn_init) (m_Turn_mul : TopMeth K CT "__mul__" "Turn.__mul__" s_Turn_mul) (m_Turn_neg : TopMeth K CT "__neg__" "Turn.__neg__" s_Turn_neg) (p_Turn_four : TopProp K CT "four" "Turn.four" s_Turn_four) (p_Turn_spread : TopProp K CT "spread" "Turn.spread" s_Turn_spread) (u_Turn_cube : TopStat K CT "cube" "Turn.cube" s_Turn_cube) (w_CUBE : TopRows K "CUBE" cubeRows) (x_nD : PySem.W.findIn K (.ref C) "doubled" = some none) (x_nL : PySem.W.findIn K (.ref CT) "lead" = some none) (z_abs : PySem.W.nsIn K mainGlobals "abs" = some none) (z_len : PySem.W.nsIn K mainGlobals "len" = some none) (z_int : PySem.W.nsIn K mainGlobals "int" = some none) (z_list : PySem.W.nsIn K mainGlobals "list" = some none) (z_isinstance : PySem.W.nsIn K mainGlobals "isinstance" = some none) (z_bool : PySem.W.nsIn K mainGlobals "bool" = some none) (z_str : PySem.W.nsIn K mainGlobals "str" = some none) (z_tuple : PySem.W.nsIn K mainGlobals "tuple" = some none) (z_all : PySem.W.nsIn K mainGlobals "all" = some none) (z_zip : PySem.W.nsIn K mainGlobals "zip" = some none) (z_range : PySem.W.nsIn K mainGlobals "range" = some none) (z_sum : PySem.W.nsIn K mainGlobals "sum" = some none) (z_sorted : PySem.W.nsIn K mainGlobals "sorted" = some none) (z_any : PySem.W.nsIn K mainGlobals "any" = some none) :
    ∃ fd : FuncData, (∀ (s : Shared) (v : Value), BindsTo s fd ⟨[v], []⟩ [("_law_script", v)]) ∧ ∀ base : Heap, K.In base → base.Ns mainGlobals mg → FnOk l.prog w K mg base CX0 11 fa fd ["_law_script"] (spLaw K) := by
  have nn := fun {x : Str} (z : PySem.W.nsIn K mainGlobals x = some none) => PySem.W.mg_none_of X G z
  have B : Bn mg := ⟨nn z_abs, nn z_len, nn z_int, nn z_list, nn z_isinstance, nn z_bool, nn z_str, nn z_tuple, nn z_all, nn z_zip, nn z_range, nn z_sum⟩
  obtain ⟨f_is_number, fd_is_number, F_is_number, g_is_number⟩ := t_is_number.get X G
  obtain ⟨f_common, fd_common, F_common, g_common⟩ := t_common.get X G
  obtain ⟨f_are_halves, fd_are_halves, F_are_halves, g_are_halves⟩ := t_are_halves.get X G
  obtain ⟨f_lead_of, fd_lead_of, F_lead_of, g_lead_of⟩ := t_lead_of.get X G
  obtain ⟨f_turn_with, fd_turn_with, F_turn_with, g_turn_with⟩ := t_turn_with.get X G
  obtain ⟨f_L_feed, fd_L_feed, F_L_feed, g_L_feed⟩ := t_L_feed.get X G
  obtain ⟨f_L_take, fd_L_take, F_L_take, g_L_take⟩ := t_L_take.get X G
  obtain ⟨f_L_same, fd_L_same, F_L_same, g_L_same⟩ := t_L_same.get X G
  obtain ⟨f_L_halves, fd_L_halves, F_L_halves, g_L_halves⟩ := t_L_halves.get X G
  obtain ⟨f_L_gcd, fd_L_gcd, F_L_gcd, g_L_gcd⟩ := t_L_gcd.get X G
  obtain ⟨f_L_gcd_of, fd_L_gcd_of, F_L_gcd_of, g_L_gcd_of⟩ := t_L_gcd_of.get X G
  obtain ⟨f_L_content, fd_L_content, F_L_content, g_L_content⟩ := t_L_content.get X G
  obtain ⟨f_L_lowest, fd_L_lowest, F_L_lowest, g_L_lowest⟩ := t_L_lowest.get X G
  obtain ⟨f_L_table, fd_L_table, F_L_table, g_L_table⟩ := t_L_table.get X G
  obtain ⟨f_Four_init, e_Four_init, fd_Four_init, F_Four_init⟩ := i_C
  obtain ⟨f_Four_content, e_Four_content, fd_Four_content, F_Four_content⟩ := m_Four_content
  obtain ⟨f_Four_divided, e_Four_divided, fd_Four_divided, F_Four_divided⟩ := m_Four_divided
  obtain ⟨f_Four_neg, e_Four_neg, fd_Four_neg, F_Four_neg⟩ := m_Four_neg
  obtain ⟨f_Four_bool, e_Four_bool, fd_Four_bool, F_Four_bool⟩ := m_Four_bool
  obtain ⟨f_Four_mul, e_Four_mul, fd_Four_mul, F_Four_mul⟩ := m_Four_mul
  obtain ⟨f_Four_mirrored, e_Four_mirrored, fd_Four_mirrored, F_Four_mirrored⟩ := m_Four_mirrored
  obtain ⟨q_Four_halves, f_Four_halves, e_Four_halves, fd_Four_halves, F_Four_halves⟩ := p_Four_halves
  obtain ⟨q_Four_size, f_Four_size, e_Four_size, fd_Four_size, F_Four_size⟩ := p_Four_size
  obtain ⟨f_Turn_init, e_Turn_init, fd_Turn_init, F_Turn_init⟩ := i_CT
  obtain ⟨f_Turn_mul, e_Turn_mul, fd_Turn_mul, F_Turn_mul⟩ := m_Turn_mul
  obtain ⟨f_Turn_neg, e_Turn_neg, fd_Turn_neg, F_Turn_neg⟩ := m_Turn_neg
  obtain ⟨q_Turn_four, f_Turn_four, e_Turn_four, fd_Turn_four, F_Turn_four⟩ := p_Turn_four
  obtain ⟨q_Turn_spread, f_Turn_spread, e_Turn_spread, fd_Turn_spread, F_Turn_spread⟩ := p_Turn_spread
  obtain ⟨c_Turn_cube, q_Turn_cube, f_Turn_cube, e_Turn_cube, fd_Turn_cube, F_Turn_cube⟩ := u_Turn_cube
  have R_CUBE := w_CUBE.get X G (by decide) (by decide)
  have b_is_number := F_is_number.binds (ps := ["value"]) fun _ _ _ _ _ _ us hl => match us, hl with | [_], _ => rfl
  have b_common := F_common.binds (ps := ["one", "other"]) fun _ _ _ _ _ _ us hl => match us, hl with | [_, _], _ => rfl
  have b_are_halves := F_are_halves.binds (ps := ["values"]) fun _ _ _ _ _ _ us hl => match us, hl with | [_], _ => rfl
  have b_lead_of := F_lead_of.binds (ps := ["four"]) fun _ _ _ _ _ _ us hl => match us, hl with | [_], _ => rfl
  have b_turn_with := F_turn_with.binds (ps := ["halves"]) fun _ _ _ _ _ _ us hl => match us, hl with | [_], _ => rfl
  have b_L_feed := F_L_feed.binds (ps := ["_law_script"]) fun _ _ _ _ _ _ us hl => match us, hl with | [_], _ => rfl
  have b_L_take := F_L_take.binds (ps := ["_law_feed_here", "_law_many"]) fun _ _ _ _ _ _ us hl => match us, hl with | [_, _], _ => rfl
  have b_L_same := F_L_same.binds (ps := ["_law_found", "_law_due"]) fun _ _ _ _ _ _ us hl => match us, hl with | [_, _], _ => rfl
  have b_L_halves := F_L_halves.binds (ps := ["_law_feed_here", "_law_most"]) fun _ _ _ _ _ _ us hl => match us, hl with | [_, _], _ => rfl
  have b_L_gcd := F_L_gcd.binds (ps := ["_law_one", "_law_other"]) fun _ _ _ _ _ _ us hl => match us, hl with | [_, _], _ => rfl
  have b_L_gcd_of := F_L_gcd_of.binds (ps := ["_law_row"]) fun _ _ _ _ _ _ us hl => match us, hl with | [_], _ => rfl
  have b_L_content := F_L_content.binds (ps := ["_law_halves_here"]) fun _ _ _ _ _ _ us hl => match us, hl with | [_], _ => rfl
  have b_L_lowest := F_L_lowest.binds (ps := ["_law_halves_here"]) fun _ _ _ _ _ _ us hl => match us, hl with | [_], _ => rfl
  have b_L_table := F_L_table.binds (ps := ["_law_halves_here"]) fun _ _ _ _ _ _ us hl => match us, hl with | [_], _ => rfl
  have b_Four_content := F_Four_content.binds (ps := ["self"]) fun _ _ _ _ _ _ us hl => match us, hl with | [_], _ => rfl
  have b_Four_divided := F_Four_divided.binds (ps := ["self", "number"]) fun _ _ _ _ _ _ us hl => match us, hl with | [_, _], _ => rfl
  have b_Four_neg := F_Four_neg.binds (ps := ["self"]) fun _ _ _ _ _ _ us hl => match us, hl with | [_], _ => rfl
  have b_Four_bool := F_Four_bool.binds (ps := ["self"]) fun _ _ _ _ _ _ us hl => match us, hl with | [_], _ => rfl
  have b_Four_mul := F_Four_mul.binds (ps := ["self", "other"]) fun _ _ _ _ _ _ us hl => match us, hl with | [_, _], _ => rfl
  have b_Four_mirrored := F_Four_mirrored.binds (ps := ["self"]) fun _ _ _ _ _ _ us hl => match us, hl with | [_], _ => rfl
  have b_Four_halves := F_Four_halves.binds (ps := ["self"]) fun _ _ _ _ _ _ us hl => match us, hl with | [_], _ => rfl
  have b_Four_size := F_Four_size.binds (ps := ["self"]) fun _ _ _ _ _ _ us hl => match us, hl with | [_], _ => rfl
  have b_Turn_init := F_Turn_init.binds (ps := ["self", "four"]) fun _ _ _ _ _ _ us hl => match us, hl with | [_, _], _ => rfl
  have b_Turn_mul := F_Turn_mul.binds (ps := ["self", "other"]) fun _ _ _ _ _ _ us hl => match us, hl with | [_, _], _ => rfl
  have b_Turn_neg := F_Turn_neg.binds (ps := ["self"]) fun _ _ _ _ _ _ us hl => match us, hl with | [_], _ => rfl
  have b_Turn_four := F_Turn_four.binds (ps := ["self"]) fun _ _ _ _ _ _ us hl => match us, hl with | [_], _ => rfl
  have b_Turn_spread := F_Turn_spread.binds (ps := ["self"]) fun _ _ _ _ _ _ us hl => match us, hl with | [_], _ => rfl
  have b_Turn_cube := F_Turn_cube.binds (ps := []) fun _ _ _ _ _ _ us hl => match us, hl with | [], _ => rfl
  obtain ⟨f8, oc, kV, dc, pm, cd, ct, od, an, sl, a8, l8, c8, k8⟩ := t_law
  have e := hfa.symm.trans (PySem.W.mg_of X G a8)
  cases e
  refine ⟨PySem.W.fnOf "law" "law" (defArgs s_law) (defBody s_law) (defScope s_law) .none kV dc pm an cd ct, fun s v => .of_eq rfl, fun base _ _ => ?_⟩
  have CF : FourC K mg C := ⟨t_C.facts X G, x_nD⟩
  have D1 : DefOk l.prog w K mg base "is_number" 1 ["value"] spIsNum := ⟨_, _, ok_isnum F_is_number B, g_is_number, F_is_number.kp, b_is_number⟩
  have D2 : DefOk l.prog w K mg base "are_halves" 2 ["values"] (spHalves K) := ⟨_, _, ok_halves (k := 0) F_are_halves B B.sum D1, g_are_halves, F_are_halves.kp, b_are_halves⟩
  have CI : InitOk l.prog w K mg base C := ⟨f_Four_init, ⟨t_C.2.2.2.2.1, e_Four_init.at_, e_Four_init.fn, t_C.2.2.2.2.2⟩, ok_init F_Four_init CF.cl CF.nD D2⟩
  have D4 : DefOk l.prog w K mg base "_law_take" 1 ["_law_feed_here", "_law_many"] spTake := ⟨_, _, ok_take F_L_take B, g_L_take, F_L_take.kp, b_L_take⟩
  have TF : TurnC K mg CT := ⟨t_CT.facts X G, x_nL⟩
  have D2s : DefOk l.prog w K mg base "are_halves" 2 ["values"] (spHalvesS K) := ⟨_, _, ok_halvesS (k := 0) F_are_halves B D1, g_are_halves, F_are_halves.kp, b_are_halves⟩
  have Dc : DefOk l.prog w K mg base "common" 1 ["one", "other"] spCommon := ⟨_, _, ok_common F_common B, g_common, F_common.kp, b_common⟩
  have Mcon : MethOk l.prog w K mg base C "content" 3 ["self"] (spContent C) := ⟨_, _, ok_content F_Four_content CF Dc D2s, e_Four_content, b_Four_content⟩
  have Mdiv : MethOk l.prog w K mg base C "divided" 5 ["self", "number"] (spDivided C) := ⟨_, _, ok_divided F_Four_divided CF CI D1 Mcon, e_Four_divided, b_Four_divided⟩
  have Mneg : MethOk l.prog w K mg base C "__neg__" 5 ["self"] (spUn C Q4.neg) := ⟨_, _, ok_neg F_Four_neg CF CI, e_Four_neg, b_Four_neg⟩
  have Phal : PropOk l.prog w K mg base C "halves" 1 ["self"] (spHalvesP C) := ⟨_, _, _, ok_halvesP F_Four_halves CF, e_Four_halves, b_Four_halves⟩
  have Psiz : PropOk l.prog w K mg base C "size" 1 ["self"] (spSizeP C) := ⟨_, _, _, ok_sizeP F_Four_size CF, e_Four_size, b_Four_size⟩
  have Mboo : MethOk l.prog w K mg base C "__bool__" 1 ["self"] (spBool C) := ⟨_, _, ok_bool F_Four_bool CF (nn z_any), e_Four_bool, b_Four_bool⟩
  have Dlead : DefOk l.prog w K mg base "lead_of" 6 ["four"] (spLead C) := ⟨_, _, ok_lead F_lead_of CF Mcon Mdiv Mneg Phal, g_lead_of, F_lead_of.kp, b_lead_of⟩
  have TI : TInitOk l.prog w K mg base C CT := ⟨f_Turn_init, _, ⟨t_CT.2.2.2.2.1, e_Turn_init.at_, e_Turn_init.fn, t_CT.2.2.2.2.2⟩, ok_tinit F_Turn_init TF Mboo Dlead, b_Turn_init⟩
  have Pspr : PropOk l.prog w K mg base CT "spread" 3 ["self"] (spTSpread C CT) := ⟨_, _, _, ok_tspread F_Turn_spread CF TF Psiz, e_Turn_spread, b_Turn_spread⟩
  have Dgcd : DefOk l.prog w K mg base "_law_gcd" 1 ["_law_one", "_law_other"] spCommon := ⟨_, _, ok_gcd F_L_gcd B, g_L_gcd, F_L_gcd.kp, b_L_gcd⟩
  have Dgof : DefOk l.prog w K mg base "_law_gcd_of" 2 ["_law_row"] (spGcdOfL K) := ⟨_, _, ok_gcdOfL (k := 0) F_L_gcd_of Dgcd, g_L_gcd_of, F_L_gcd_of.kp, b_L_gcd_of⟩
  have Dgot : DefOk l.prog w K mg base "_law_gcd_of" 2 ["_law_row"] (spGcdOfT K) := ⟨_, _, ok_gcdOfT (k := 0) F_L_gcd_of Dgcd, g_L_gcd_of, F_L_gcd_of.kp, b_L_gcd_of⟩
  have Dtab : DefOk l.prog w K mg base "_law_table" 3 ["_law_halves_here"] (spTable K) := ⟨_, _, ok_table F_L_table B Dgof, g_L_table, F_L_table.kp, b_L_table⟩
  have Dcon : DefOk l.prog w K mg base "_law_content" 3 ["_law_halves_here"] (spLCont K) := ⟨_, _, ok_lcont F_L_content B Dgot, g_L_content, F_L_content.kp, b_L_content⟩
  have Mmul : MethOk l.prog w K mg base C "__mul__" 5 ["self", "other"] (spBin C Q4.mul mulOk) := ⟨_, _, ok_mul F_Four_mul CF CI, e_Four_mul, b_Four_mul⟩
  have Mmir : MethOk l.prog w K mg base C "mirrored" 5 ["self"] (spUn C Q4.mir) := ⟨_, _, ok_mirrored F_Four_mirrored CF CI, e_Four_mirrored, b_Four_mirrored⟩
  exact ok_law (fun_mk (st := s_law) l8 c8 k8) B CF TF (nn z_sorted) ⟨_, _, ok_feed F_L_feed B, g_L_feed, F_L_feed.kp, b_L_feed⟩ D4 ⟨_, _, ok_same F_L_same B g_L_same b_L_same 3, g_L_same, F_L_same.kp, b_L_same⟩
    ⟨_, _, ok_halvesL F_L_halves B D4, g_L_halves, F_L_halves.kp, b_L_halves⟩ ⟨_, _, ok_low F_L_lowest B Dcon, g_L_lowest, F_L_lowest.kp, b_L_lowest⟩ Dtab
    ⟨_, _, ok_tmul F_Turn_mul CF TF TI Mmul, e_Turn_mul, b_Turn_mul⟩ ⟨_, _, ok_tneg F_Turn_neg CF TF TI Mmir, e_Turn_neg, b_Turn_neg⟩ ⟨_, _, _, ok_tfour F_Turn_four TF, e_Turn_four, b_Turn_four⟩ Pspr Phal ⟨_, _, _, _, ok_cube F_Turn_cube ⟨_, _, ok_tw F_turn_with CF CI TF TI, g_turn_with, F_turn_with.kp, b_turn_with⟩ R_CUBE, e_Turn_cube, b_Turn_cube⟩
theorem walk {l : PySem.W.OpenLaw} {q : Program} {loose : List Str} {XP : (Str → Option Value) → Heap → Prop} {YP : World → Heap → Prop} {d : DefRec} {K : Params → PySem.W.Frag} (hn : l.most = some 63) (hdf : d.params.defaults = [])
    (hY : ∀ (w : World) (h : Heap), YP w h → (K w.params).In h)
    (F : ∀ (w : World) (mg : Str → Option Value) (fa : Addr) (h : Heap), (K w.params).In h → h.Ns mainGlobals mg → mg d.name = some (.ref fa) →
      ∃ fd : FuncData, (∀ (s : Shared) (u : Value), BindsTo s fd ⟨[u], []⟩ [("_law_script", u)]) ∧ ∀ base : Heap, (K w.params).In base → base.Ns mainGlobals mg → FnOk l.prog w (K w.params) mg base CX0 11 fa fd ["_law_script"] (spLaw (K w.params))) :
    PySem.W.WalkO q loose XP YP l.row.toRowW d [] (fun f vs => PySem.call f vs) :=
  L2.walk_of (n := 63) (k := 11) (x := "_law_script") (CX := fun _ => CX0) (sp := fun w => spLaw (K w.params)) hn (by decide) hdf ⟨rfl, by decide, by decide⟩ hY F (fun _ _ a ns hl _ hS => ⟨a, ns, rfl, hS, hl, fun _ => rfl⟩) fun _ _ _ _ _ z => z
end G
open PySem PySem.W PyProof.Rows in
set_option maxRecDepth 100000 in
set_option maxHeartbeats 0 in
theorem PySem.Challenge.cw_grainmeet_k17_turns_of_the_cube_holds : PySem.Challenge.rw_grainmeet_k17_turns_of_the_cube.Holds := by
  w_on; o_law; k_head; (case hw => w_witness2)
  k_fill
  refine G.walk (l := PySem.Challenge.rw_grainmeet_k17_turns_of_the_cube) rfl rfl (fun w h Y => PySem.W.kIn_of Y) ?F
  case F =>
    intro w mg fa h KX GX hmg
    refine' G.all_mk KX GX hmg ?t_law ?t_is_number ?t_common ?t_are_halves ?t_lead_of ?t_turn_with ?t_L_feed ?t_L_take ?t_L_same ?t_L_halves ?t_L_gcd ?t_L_gcd_of ?t_L_content ?t_L_lowest ?t_L_table ?t_C ?i_C ?m_Four_content ?m_Four_divided ?m_Four_neg ?m_Four_bool ?m_Four_mul ?m_Four_mirrored ?p_Four_halves ?p_Four_size ?t_CT ?i_CT ?m_Turn_mul ?m_Turn_neg ?p_Turn_four ?p_Turn_spread ?u_Turn_cube ?w_CUBE ?x_nD ?x_nL ?z_abs ?z_len ?z_int ?z_list ?z_isinstance ?z_bool ?z_str ?z_tuple ?z_all ?z_zip ?z_range ?z_sum ?z_sorted ?z_any
    (case t_C => refine' G.TopCls.mk ?a ?pg ?hd ?po ?sa ?sf ?mr ?mk ?kc; (case a => k_is); (case pg => k_is); (case hd => k_is); (case po => k_is); (case sa => k_is); (case sf => k_is); (case mr => k_is); (case mk => k_is); (case kc => k_is))
    (case t_CT => refine' G.TopCls.mk ?a ?pg ?hd ?po ?sa ?sf ?mr ?mk ?kc; (case a => k_is); (case pg => k_is); (case hd => k_is); (case po => k_is); (case sa => k_is); (case sf => k_is); (case mr => k_is); (case mk => k_is); (case kc => k_is))
    (case t_law => refine' G.TopLaw.mk ?a ?l ?c ?k; (case a => k_is); (case l => k_is); (case c => k_is); (case k => k_is))
    (case t_is_number => refine' G.TopFn.mk ?a ?l ?c ?k; (case a => k_is); (case l => k_is); (case c => k_is); (case k => k_is))
    (case t_common => refine' G.TopFn.mk ?a ?l ?c ?k; (case a => k_is); (case l => k_is); (case c => k_is); (case k => k_is))
    (case t_are_halves => refine' G.TopFn.mk ?a ?l ?c ?k; (case a => k_is); (case l => k_is); (case c => k_is); (case k => k_is))
    (case t_lead_of => refine' G.TopFn.mk ?a ?l ?c ?k; (case a => k_is); (case l => k_is); (case c => k_is); (case k => k_is))
    (case t_turn_with => refine' G.TopFn.mk ?a ?l ?c ?k; (case a => k_is); (case l => k_is); (case c => k_is); (case k => k_is))
    (case t_L_feed => refine' G.TopFn.mk ?a ?l ?c ?k; (case a => k_is); (case l => k_is); (case c => k_is); (case k => k_is))
    (case t_L_take => refine' G.TopFn.mk ?a ?l ?c ?k; (case a => k_is); (case l => k_is); (case c => k_is); (case k => k_is))
    (case t_L_same => refine' G.TopFn.mk ?a ?l ?c ?k; (case a => k_is); (case l => k_is); (case c => k_is); (case k => k_is))
    (case t_L_halves => refine' G.TopFn.mk ?a ?l ?c ?k; (case a => k_is); (case l => k_is); (case c => k_is); (case k => k_is))
    (case t_L_gcd => refine' G.TopFn.mk ?a ?l ?c ?k; (case a => k_is); (case l => k_is); (case c => k_is); (case k => k_is))
    (case t_L_gcd_of => refine' G.TopFn.mk ?a ?l ?c ?k; (case a => k_is); (case l => k_is); (case c => k_is); (case k => k_is))
    (case t_L_content => refine' G.TopFn.mk ?a ?l ?c ?k; (case a => k_is); (case l => k_is); (case c => k_is); (case k => k_is))
    (case t_L_lowest => refine' G.TopFn.mk ?a ?l ?c ?k; (case a => k_is); (case l => k_is); (case c => k_is); (case k => k_is))
    (case t_L_table => refine' G.TopFn.mk ?a ?l ?c ?k; (case a => k_is); (case l => k_is); (case c => k_is); (case k => k_is))
    (case i_C => refine' G.TopMeth.mk ?a ?i ?l ?c ?k; (case a => k_is); (case i => k_is); (case l => k_is); (case c => k_is); (case k => k_is))
    (case m_Four_content => refine' G.TopMeth.mk ?a ?i ?l ?c ?k; (case a => k_is); (case i => k_is); (case l => k_is); (case c => k_is); (case k => k_is))
    (case m_Four_divided => refine' G.TopMeth.mk ?a ?i ?l ?c ?k; (case a => k_is); (case i => k_is); (case l => k_is); (case c => k_is); (case k => k_is))
    (case m_Four_neg => refine' G.TopMeth.mk ?a ?i ?l ?c ?k; (case a => k_is); (case i => k_is); (case l => k_is); (case c => k_is); (case k => k_is))
    (case m_Four_bool => refine' G.TopMeth.mk ?a ?i ?l ?c ?k; (case a => k_is); (case i => k_is); (case l => k_is); (case c => k_is); (case k => k_is))
    (case m_Four_mul => refine' G.TopMeth.mk ?a ?i ?l ?c ?k; (case a => k_is); (case i => k_is); (case l => k_is); (case c => k_is); (case k => k_is))
    (case m_Four_mirrored => refine' G.TopMeth.mk ?a ?i ?l ?c ?k; (case a => k_is); (case i => k_is); (case l => k_is); (case c => k_is); (case k => k_is))
    (case p_Four_halves => refine' G.TopProp.mk ?a ?s ?t ?r ?l ?c ?k; (case a => k_is); (case s => k_is); (case t => k_is); (case r => k_is); (case l => k_is); (case c => k_is); (case k => k_is))
    (case p_Four_size => refine' G.TopProp.mk ?a ?s ?t ?r ?l ?c ?k; (case a => k_is); (case s => k_is); (case t => k_is); (case r => k_is); (case l => k_is); (case c => k_is); (case k => k_is))
    (case i_CT => refine' G.TopMeth.mk ?a ?i ?l ?c ?k; (case a => k_is); (case i => k_is); (case l => k_is); (case c => k_is); (case k => k_is))
    (case m_Turn_mul => refine' G.TopMeth.mk ?a ?i ?l ?c ?k; (case a => k_is); (case i => k_is); (case l => k_is); (case c => k_is); (case k => k_is))
    (case m_Turn_neg => refine' G.TopMeth.mk ?a ?i ?l ?c ?k; (case a => k_is); (case i => k_is); (case l => k_is); (case c => k_is); (case k => k_is))
    (case p_Turn_four => refine' G.TopProp.mk ?a ?s ?t ?r ?l ?c ?k; (case a => k_is); (case s => k_is); (case t => k_is); (case r => k_is); (case l => k_is); (case c => k_is); (case k => k_is))
    (case p_Turn_spread => refine' G.TopProp.mk ?a ?s ?t ?r ?l ?c ?k; (case a => k_is); (case s => k_is); (case t => k_is); (case r => k_is); (case l => k_is); (case c => k_is); (case k => k_is))
    (case u_Turn_cube => refine' G.TopStat.mk ?ty ?rd ?ga ?a ?r ?l ?c ?k; (case ty => k_is); (case rd => k_is); (case ga => k_is); (case a => k_is); (case r => k_is); (case l => k_is); (case c => k_is); (case k => k_is))
    (case w_CUBE => refine' G.TopRows.mk ?a ?l ?r; (case a => k_is); (case l => k_is); (case r => refine' G.RowsIn.cons ?l ?i ?r; (case l => k_is); (case i => repeat' constructor); (case r => refine' G.RowsIn.cons ?l ?i ?r; (case l => k_is); (case i => repeat' constructor); (case r => refine' G.RowsIn.cons ?l ?i ?r; (case l => k_is); (case i => repeat' constructor); (case r => refine' G.RowsIn.cons ?l ?i ?r; (case l => k_is); (case i => repeat' constructor); (case r => refine' G.RowsIn.cons ?l ?i ?r; (case l => k_is); (case i => repeat' constructor); (case r => refine' G.RowsIn.cons ?l ?i ?r; (case l => k_is); (case i => repeat' constructor); (case r => refine' G.RowsIn.cons ?l ?i ?r; (case l => k_is); (case i => repeat' constructor); (case r => refine' G.RowsIn.cons ?l ?i ?r; (case l => k_is); (case i => repeat' constructor); (case r => refine' G.RowsIn.cons ?l ?i ?r; (case l => k_is); (case i => repeat' constructor); (case r => refine' G.RowsIn.cons ?l ?i ?r; (case l => k_is); (case i => repeat' constructor); (case r => refine' G.RowsIn.cons ?l ?i ?r; (case l => k_is); (case i => repeat' constructor); (case r => refine' G.RowsIn.cons ?l ?i ?r; (case l => k_is); (case i => repeat' constructor); (case r => refine' G.RowsIn.cons ?l ?i ?r; (case l => k_is); (case i => repeat' constructor); (case r => refine' G.RowsIn.cons ?l ?i ?r; (case l => k_is); (case i => repeat' constructor); (case r => refine' G.RowsIn.cons ?l ?i ?r; (case l => k_is); (case i => repeat' constructor); (case r => refine' G.RowsIn.cons ?l ?i ?r; (case l => k_is); (case i => repeat' constructor); (case r => refine' G.RowsIn.cons ?l ?i ?r; (case l => k_is); (case i => repeat' constructor); (case r => refine' G.RowsIn.cons ?l ?i ?r; (case l => k_is); (case i => repeat' constructor); (case r => refine' G.RowsIn.cons ?l ?i ?r; (case l => k_is); (case i => repeat' constructor); (case r => refine' G.RowsIn.cons ?l ?i ?r; (case l => k_is); (case i => repeat' constructor); (case r => refine' G.RowsIn.cons ?l ?i ?r; (case l => k_is); (case i => repeat' constructor); (case r => refine' G.RowsIn.cons ?l ?i ?r; (case l => k_is); (case i => repeat' constructor); (case r => refine' G.RowsIn.cons ?l ?i ?r; (case l => k_is); (case i => repeat' constructor); (case r => refine' G.RowsIn.cons ?l ?i ?r; (case l => k_is); (case i => repeat' constructor); (case r => exact G.RowsIn.nil))))))))))))))))))))))))))
    (case x_nD => k_is)
    (case x_nL => k_is)
    (case z_abs => k_is)
    (case z_len => k_is)
    (case z_int => k_is)
    (case z_list => k_is)
    (case z_isinstance => k_is)
    (case z_bool => k_is)
    (case z_str => k_is)
    (case z_tuple => k_is)
    (case z_all => k_is)
    (case z_zip => k_is)
    (case z_range => k_is)
    (case z_sum => k_is)
    (case z_sorted => k_is)
    (case z_any => k_is)
