import PyProof.Rows.All
import Wide.All
import OpenK.AllK
import Wide.FinOn
import HandS.ForMost
import HandS.Wide
import HandS.IsInst
import HandS.Zip
import HandS.Flow
import PySem.Challenge.RW_grainmeet_k01_common_divisors_and_invers
set_option Elab.async false
set_option linter.all false
set_option maxRecDepth 100000
namespace G
open PySem PySem.Spec PyProof.Rows L2
/-! ### a def of the top, with its promise -/
structure DefOk (P : Program) (w : World) (K : PySem.W.Frag) (mg : Str → Option Value) (base : Heap) (x : Str) (k : Nat) (ps : List Str) (sp : Sp) : Prop where
  ex : ∃ (f : Addr) (fd : FuncData), FnOk P w K mg base CX0 k f fd ps sp ∧ mg x = some (.ref f) ∧ PySem.W.keepIn K (.ref f) = true ∧ Binds K fd ps []
theorem pe_callD {X : Cx} {k : Nat} {ps : List Str} {sp : Sp} {x : Str} {p pos : Pos} {e : Expr} {es : List Expr} {t : TA} (D : DefOk X.prog X.w X.K X.mg X.base x k ps sp) (hr : Room k X.A) (ha : PA X (e :: es) t) (hg : Gl X x := by rfl)
    (hdb : (x == ("__debug__" : Str)) = false := by decide) (he : starEach (e :: es) X.env = (false, eval e X.env) :: starEach es X.env := by rfl) (hpl : (backTo pos (starEach es X.env)).any (·.1) = false := by rfl) :
    PE X (.Call (.Name x p) (e :: es) [] pos) (tCall sp [] E0 t) := by
  obtain ⟨f, fd, G, m, kp, b⟩ := D.ex
  exact pe_call G hr hg m kp b .nil pass0 ha hdb he hpl
theorem pe_callD0 {X : Cx} {k : Nat} {ps : List Str} {sp : Sp} {x : Str} {p pos : Pos} (D : DefOk X.prog X.w X.K X.mg X.base x k ps sp) (hr : Room k X.A) (hg : Gl X x := by rfl)
    (hdb : (x == ("__debug__" : Str)) = false := by decide) : PE X (.Call (.Name x p) [] [] pos) (tCall sp [] E0 tNil) := by
  obtain ⟨f, fd, G, m, kp, b⟩ := D.ex
  exact pe_call0 G hr hg m kp b .nil pass0 hdb
/-- the built-ins that the text names -/
structure Bn (mg : Str → Option Value) : Prop where
  abs : mg "abs" = none
  len : mg "len" = none
  int : mg "int" = none
  list : mg "list" = none
  isinstance : mg "isinstance" = none
  bool : mg "bool" = none
  str : mg "str" = none
  tuple : mg "tuple" = none
  all : mg "all" = none
  zip : mg "zip" = none
  range : mg "range" = none
theorem mw {i j : Int} (h1 : i.natAbs < 18446744073709551616) (h2 : j.natAbs < 18446744073709551616) : CMulW i j := wide_mul (a := 64) (b := 64) h1 h2 (by decide) (by decide) (by decide)
theorem dw {i j : Int} (h : 0 < j) (h2 : j.natAbs < 18446744073709551616) : CDivW i j := wide_div (b := 64) h h2 (by decide) (by decide)
theorem ifT {c : Bool} {A B : Prop} (hc : c = true) (h : A) : if c = true then A else B := by rw [if_pos hc]; exact h
theorem ifF {c : Bool} {A B : Prop} (hc : c = false) (h : B) : if c = true then A else B := by rw [if_neg (by rw [hc]; decide)]; exact h
/-! ### heaps -/
theorem same_upd {H : Hp} {p : Addr} {o : HO} (h : H p = none) : Same H (upd H p o) := fun b x e => by
  rw [upd_ne (ne_of_none e h)]
  exact e
theorem seq_mk {t1 t2 : TS} {D : Ends} {σ : L2.St} {H : Hp} (h : t1 { D with nx := t2 D } σ H) : tSeq t1 t2 D σ H := h
theorem seq_cut (Mid : L2.St → Hp → Prop) {t u : TS} {D : Ends} {σ : L2.St} {H : Hp} (h2 : ∀ σ' H', Mid σ' H' → u D σ' H') (h1 : (∀ σ' H', Mid σ' H' → u D σ' H') → t { D with nx := u D } σ H) : tSeq t u D σ H := h1 h2
/-- all but p stays -/
def SameX (p : Addr) (H H' : Hp) : Prop := ∀ a o, a ≠ p → H a = some o → H' a = some o
theorem SameX.refl {p : Addr} {H : Hp} : SameX p H H := fun _ _ _ e => e
theorem SameX.trans {p : Addr} {H H' H2 : Hp} (h : SameX p H H') (h' : SameX p H' H2) : SameX p H H2 := fun a o n e => h' a o n (h a o n e)
theorem SameX.of {p : Addr} {H H' : Hp} (h : Same H H') : SameX p H H' := fun a o _ e => h a o e
theorem sameX_upd {p : Addr} {H : Hp} {o : HO} : SameX p H (upd H p o) := fun a x n e => by rw [upd_ne n]; exact e
/-- the feed that stands at p -/
def FeedAt (H : Hp) (p : Addr) : Prop := ∃ (c : Addr) (ms : List Int) (i : Nat) (u m : Int), H p = some (.lst [.ref c, .int i, .int u, .int m]) ∧ H c = some (.lst (ms.map V.int)) ∧ c ≠ p ∧ ms.length ≤ 63 ∧ 0 ≤ u ∧ 0 ≤ m ∧ m < 2147483647
theorem FeedAt.same {H H' : Hp} {p : Addr} (h : FeedAt H p) (s : Same H H') : FeedAt H' p := by
  obtain ⟨c, ms, i, u, m, h1, h2, r⟩ := h
  exact ⟨c, ms, i, u, m, s _ _ h1, s _ _ h2, r⟩
theorem FeedAt.some {H : Hp} {p : Addr} (h : FeedAt H p) : ∃ o, H p = some o := by
  obtain ⟨c, ms, i, u, m, h1, _⟩ := h
  exact ⟨_, h1⟩
/-! ### the text -/
def top (i : Nat) : Stmt := PySem.Challenge.pw_grainmeet_k01_common_divisors_and_invers.main.body.getD i (.Pass ⟨0, 0, 0, 0⟩)
abbrev sCommon : Stmt := top 1
abbrev sInverse : Stmt := top 2
abbrev sFeed : Stmt := top 4
abbrev sTake : Stmt := top 5
abbrev sSame : Stmt := top 6
abbrev sGcd : Stmt := top 7
abbrev sGreat : Stmt := top 8
abbrev sLaw : Stmt := top 9
theorem scCommon : FnScope ["one", "other", "greater", "lesser"] ["one", "other"] (defScope sCommon) := ⟨rfl, rfl, rfl, by decide +kernel, rfl, by decide +kernel, by decide +kernel⟩
theorem scInverse : FnScope ["number", "modulus", "rest", "new_rest", "times", "new_times", "quotient"] ["number", "modulus"] (defScope sInverse) := ⟨rfl, rfl, rfl, by decide +kernel, rfl, by decide +kernel, by decide +kernel⟩
theorem scFeed : FnScope ["_law_script", "_law_cells", "_law_mark", "_law_cell"] ["_law_script"] (defScope sFeed) := ⟨rfl, rfl, rfl, by decide +kernel, rfl, by decide +kernel, by decide +kernel⟩
theorem scTake : FnScope ["_law_feed_here", "_law_many", "_law_cell", "_law_mixed", "_law_found"] ["_law_feed_here", "_law_many"] (defScope sTake) := ⟨rfl, rfl, rfl, by decide +kernel, rfl, by decide +kernel, by decide +kernel⟩
theorem scGcd : FnScope ["_law_one", "_law_other"] ["_law_one", "_law_other"] (defScope sGcd) := ⟨rfl, rfl, rfl, by decide +kernel, rfl, by decide +kernel, by decide +kernel⟩
end G
set_option Elab.async false
set_option linter.all false
set_option maxRecDepth 100000
namespace G
open PySem PySem.Spec PyProof.Rows L2
/-! ### common -/
def spCommon : Sp := fun vs H Q _ => ∃ a b : Int, vs = [.int a, .int b] ∧ Q (.int (Int.gcd a b)) H
theorem abs_if (a : Int) : (if a < 0 then -a else a) = (a.natAbs : Int) := by split <;> omega
section
variable {P : Program} {w : World} {K : PySem.W.Frag} {mg : Str → Option Value} {base : Heap}
theorem ok_common {f : Addr} {fd : FuncData} {k : Nat} (F : Fun K "common" "common" sCommon f fd) (mA : mg "abs" = none) : FnOk P w K mg base CX0 (k + 1) f fd ["one", "other"] spCommon := by
  refine F.ok scCommon (fun vs H Q E h => ?_) (fun cdv A outer s H vs Q E hr h => ?_)
  · obtain ⟨a, b, rfl, _⟩ := h
    rfl
  · obtain ⟨a, b, rfl, q⟩ := h
    refine ⟨_, pss_cons (ps_par (i := 2) (j := 3) (by rfl) scCommon.nd rfl rfl (by decide) rfl rfl (pa_cons (pe_callB call_abs (by rfl) mA (by decide +kernel) (pa_cons (pv 0) pa_nil)) (pa_cons (pe_callB call_abs (by rfl) mA (by decide +kernel) (pa_cons (pv 1) pa_nil)) pa_nil)) (by rfl))
      (pss_cons (ps_while PassesOwn.never (pt_truth (pv 3) (by intro _; rfl))
        (pss_one (ps_par (i := 2) (j := 3) (by rfl) scCommon.nd rfl rfl (by decide) rfl rfl (pa_cons (pv 3) (pa_cons (pe_op op_mod (pv 2) (pv 3)) pa_nil)) (by rfl))))
      (pss_one (ps_ret (pv 2)))), ?_⟩
    refine ⟨_, rfl, a, rfl, _, rfl, b, rfl, _, _, rfl, ?_⟩
    rw [abs_if, abs_if]
    dsimp only
    refine seq_mk ?_
    refine while_by (fun σ H' => H' = H ∧ ∃ x y : Nat, σ = [some (.int a), some (.int b), some (.int x), some (.int y)] ∧ Nat.gcd x y = Int.gcd a b) (fun σ _ => match σ with | [_, _, _, some (.int y)] => y.toNat | _ => 0) ⟨rfl, a.natAbs, b.natAbs, rfl, rfl⟩ ?_ ?_
    · rintro σ H' ⟨rfl, x, y, rfl, e⟩
      refine ⟨_, rfl, _, rfl, ?_⟩
      refine ite2 (fun h => ?_) (fun h => ?_)
      · have hy : y ≠ 0 := by rintro rfl; exact absurd h (by decide)
        refine ⟨_, rfl, _, rfl, _, rfl, _, _, rfl, rfl, (by show (0 : Int) < y; omega), _, _, rfl, ?_⟩
        refine ⟨⟨rfl, y, x % y, ?_, ?_⟩, ?_⟩
        · rfl
        · rw [← e, Nat.gcd_comm x y, Nat.gcd_rec y x, Nat.gcd_comm]
        · show ((x : Int) % (y : Int)).toNat < y
          rw [show ((x : Int) % (y : Int)) = ((x % y : Nat) : Int) from rfl, Int.toNat_natCast]
          exact Nat.mod_lt _ (Nat.pos_of_ne_zero hy)
      · have hy : y = 0 := by
          rcases Nat.eq_zero_or_pos y with h0 | h0
          · exact h0
          · exact absurd (show ((y : Int) != 0) = true by simp; omega) h
        subst hy
        refine ⟨_, rfl, ?_⟩
        rw [← e, Nat.gcd_zero_right] at q
        exact q
    · rintro σ H' Q Q' hq ⟨v, e, b, t, q⟩
      exact ⟨v, e, b, t, hq _ _ q⟩
end
end G
set_option Elab.async false
set_option linter.all false
set_option maxRecDepth 100000
namespace G
open PySem PySem.Spec PyProof.Rows L2
/-! ### the feed -/
def spFeed (K : PySem.W.Frag) : Sp := fun vs H Q _ => ∃ (a : Addr) (ns : List Int), vs = [.ref a] ∧ SqL K H a (ns.map V.int) ∧ ∀ H' p, Same H H' → H p = none → FeedAt H' p → Q (.ref p) H'
def spTake : Sp := fun vs H Q _ => ∃ (p : Addr) (n : Int), vs = [.ref p, .int n] ∧ 0 < n ∧ n.natAbs.log2 < 9000 ∧ FeedAt H p ∧ ∀ (H' : Hp) (r : Int), 0 ≤ r → r < n → FeedAt H' p → SameX p H H' → Q (.int r) H'
theorem em' (a b : Int) (h : 0 < b) : 0 ≤ a % b ∧ a % b < b := ⟨Int.emod_nonneg _ (by omega), Int.emod_lt_of_pos _ h⟩
theorem cut63 (xs : List V) : cutV xs none (some 63) = xs.take 63 := by
  unfold cutV
  rw [show HT.sIx xs.length xs.length (some 63) = min 63 xs.length from HT.sIx_nat xs.length xs.length 63, HT.sIx_none]
  show (List.take (min 63 xs.length - 0) xs) = xs.take 63
  rw [Nat.sub_zero, ← List.take_take, List.take_length]
section
variable {P : Program} {w : World} {K : PySem.W.Frag} {mg : Str → Option Value} {base : Heap}
theorem ok_feed {f : Addr} {fd : FuncData} {k : Nat} (F : Fun K "_law_feed" "_law_feed" sFeed f fd) (B : Bn mg) : FnOk P w K mg base CX0 (k + 1) f fd ["_law_script"] (spFeed K) := by
  refine F.ok scFeed (fun vs H Q E h => ?_) (fun cdv A outer s H vs Q E hr h => ?_)
  · obtain ⟨a, ns, rfl, _⟩ := h
    rfl
  · obtain ⟨a, ns, rfl, hS, q⟩ := h
    refine ⟨_, (pss_cons (ps_set (i := 1) scFeed.nd rfl (Or.inl rfl) (pe_callTy call_list_of (by rfl) B.list (by decide +kernel) (pa_cons (pe_slice sl_list (pv 0) po_none (po_some pe_int)) pa_nil)))
      (pss_cons (ps_set (i := 2) scFeed.nd rfl (Or.inl rfl) (pe_op op_add pe_int (pe_op op_mulW pe_int (pe_callB call_len_seq (by rfl) B.len PySem.boot_len (pa_cons (pv 1) pa_nil)))))
      (pss_cons (ps_for PassesOwn.never rfl (pi_list (pv 1)) (pg_name (i := 3) scFeed.nd rfl (Or.inl rfl)) (pss_one (ps_set (i := 2) scFeed.nd rfl (Or.inl rfl) (pe_op op_mod (pe_op op_add (pe_op op_add (pe_op op_mulW (pv 2) pe_int) (pe_op op_mod (pe_callTy call_int1 (by rfl) B.int (by decide +kernel) (pa_cons (pv 3) pa_nil)) pe_int)) pe_int) pe_int))))
      (pss_one (ps_ret (pe_lst (pa_cons (pv 1) (pa_cons pe_int (pa_cons pe_int (pa_cons (pv 2) pa_nil)))))))))), ?_⟩
    refine ⟨_, rfl, _, rfl, a, _, rfl, hS, fun c1 n1 => ?_⟩
    refine ⟨c1, _, rfl, .inl (SqL.of upd_same), fun c nc => ?_⟩
    refine ⟨_, rfl, c, _, rfl, .inl (SqL.of upd_same), _, _, rfl, rfl, mw (by decide) ?_, _, _, rfl, rfl, ?_⟩
    · show (((cutV (ns.map V.int) none (some 63)).length : Nat) : Int).natAbs < _
      rw [cut63, List.length_take]
      omega
    · obtain ⟨ms, ecut, l63⟩ : ∃ ms : List Int, cutV (ns.map V.int) none (some 63) = ms.map V.int ∧ ms.length ≤ 63 := ⟨ns.take 63, by rw [cut63, List.map_take], by rw [List.length_take]; omega⟩
      rw [ecut] at nc ⊢
      have s1 : Same H (upd H c1 (.lst (ms.map V.int))) := same_upd n1
      have s2 := s1.trans (same_upd (o := .lst (ms.map V.int)) nc)
      have nH : H c = none := s1.free nc
      refine ⟨_, rfl, c, rfl, ⟨_, SqL.of upd_same⟩, for_list (K := K) (a := c) (xs := ms.map V.int) (fun i σ H' => ∃ (m : Int) (v : Option V), σ = [some (.ref a), some (.ref c), some (.int m), v] ∧ H' = upd (upd H c1 (.lst (ms.map V.int))) c (.lst (ms.map V.int)) ∧ 0 ≤ m ∧ m < 2147483647)
        ⟨_, none, rfl, rfl, ?_, ?_⟩ ?_ ?_ ?_⟩
      · omega
      · rw [List.length_map]; omega
      · rintro i σ H' _ ⟨m, v, rfl, rfl, _⟩
        exact SqL.of upd_same
      · rintro i y σ H' hi ⟨m, v, rfl, rfl, m0, m1⟩
        obtain ⟨u, rfl⟩ : ∃ u, y = V.int u := by
          rw [List.getElem?_map] at hi
          cases e : ms[i]? with
          | none => rw [e] at hi; cases hi
          | some u => rw [e] at hi; exact ⟨u, (Option.some.inj hi).symm⟩
        refine ⟨_, rfl, _, _, rfl, rfl, mw (by omega) (by decide), _, rfl, .inl ⟨_, rfl, _, _, rfl, rfl, (by show (0 : Int) < 1000003; decide), _, _, rfl, rfl, _, _, rfl, rfl, _, _, rfl, rfl, (by show (0 : Int) < 2147483629; decide), ?_⟩⟩
        refine ⟨_, _, rfl, rfl, ?_, ?_⟩ <;> omega
      · rintro σ H' ⟨m, v, rfl, rfl, m0, m1⟩
        refine ⟨_, rfl, _, rfl, (by show 4 ≤ sizeLine; decide), fun p np => ?_⟩
        have npc : c ≠ p := fun e => by rw [← e, upd_same] at np; cases np
        refine q _ p (s2.trans (same_upd np)) (s2.free np) ⟨c, ms, 0, 0, m, upd_same, ?_, npc, l63, by omega, m0, m1⟩
        rw [upd_ne npc, upd_same]
theorem ok_take {f : Addr} {fd : FuncData} {k : Nat} (F : Fun K "_law_take" "_law_take" sTake f fd) (B : Bn mg) : FnOk P w K mg base CX0 (k + 1) f fd ["_law_feed_here", "_law_many"] spTake := by
  refine F.ok scTake (fun vs H Q E h => ?_) (fun cdv A outer s H vs Q E hr h => ?_)
  · obtain ⟨p, n, rfl, _⟩ := h
    rfl
  · obtain ⟨p, n, rfl, n0, n1, hF, q⟩ := h
    refine ⟨_, (pss_cons (ps_if (PW.pt (pw_and (pt_cmpR op_eq (pe_ix ix_list (pv 0) pe_int (fun _ _ => rfl)) pe_int (nomark _)) (pw_and1 (pt_cmpR op_lt (pe_ix ix_list (pv 0) pe_int (fun _ _ => rfl)) (pe_callB call_len_seq (by rfl) B.len PySem.boot_len (pa_cons (pe_ix ix_list (pv 0) pe_int (fun _ _ => rfl)) pa_nil)) (nomark _))))) (pss_cons (ps_set (i := 2) scTake.nd rfl (Or.inl rfl) (pe_ix ix_list (pe_ix ix_list (pv 0) pe_int (fun _ _ => rfl)) (pe_ix ix_list (pv 0) pe_int (fun _ _ => rfl)) (fun _ _ => rfl)))
      (pss_cons (ps_asg (pe_op op_add (pe_ix ix_list (pv 0) pe_int (fun _ _ => rfl)) pe_int) (pg_sub (pv 0) pe_int set_list))
      (pss_one (ps_if (pt_cmpR op_ge (pv 2) (pe_op op_pow pe_int pe_int) (nomark _)) (pss_one (ps_asg (pv 2) (pg_sub (pv 0) pe_int set_list))) (pss_cons (ps_set (i := 3) scTake.nd rfl (Or.inl rfl) (pe_op op_add (pe_op op_mulW (pe_ix ix_list (pv 0) pe_int (fun _ _ => rfl)) pe_int) (pe_op op_mod (pe_callTy call_int1 (by rfl) B.int (by decide +kernel) (pa_cons (pv 2) pa_nil)) pe_int)))
      (pss_one (ps_asg (pe_op op_mod (pe_op op_add (pv 3) (pe_op op_mulW (pe_ix ix_list (pv 0) pe_int (fun _ _ => rfl)) pe_int)) pe_int) (pg_sub (pv 0) pe_int set_list)))))))) pss_nil)
      (pss_cons (ps_if (pt_cmpR op_gt (pe_ix ix_list (pv 0) pe_int (fun _ _ => rfl)) pe_int (nomark _)) (pss_cons (ps_set (i := 4) scTake.nd rfl (Or.inl rfl) (pe_op op_mod (pe_callTy call_int1 (by rfl) B.int (by decide +kernel) (pa_cons (pe_ix ix_list (pv 0) pe_int (fun _ _ => rfl)) pa_nil)) (pv 1)))
      (pss_cons (ps_asg (pe_op op_fdivW (pe_ix ix_list (pv 0) pe_int (fun _ _ => rfl)) (pv 1)) (pg_sub (pv 0) pe_int set_list))
      (pss_one (ps_ret (pv 4))))) pss_nil)
      (pss_cons (ps_asg (pe_op op_mod (pe_op op_add (pe_op op_mulW (pe_ix ix_list (pv 0) pe_int (fun _ _ => rfl)) pe_int) pe_int) pe_int) (pg_sub (pv 0) pe_int set_list))
      (pss_one (ps_ret (pe_op op_mod (pe_op op_fdivW (pe_op op_mod (pe_op op_mulW (pe_ix ix_list (pv 0) pe_int (fun _ _ => rfl)) (pe_callTy call_int1 (by rfl) B.int (by decide +kernel) (pa_cons (pe_ix ix_list (pv 0) pe_int (fun _ _ => rfl)) pa_nil))) pe_int) pe_int) (pv 1))))))), ?_⟩
    have hF0 := hF
    obtain ⟨c, ms, i, u, m, hp, hc, ncp, l63, u0, m0, m1⟩ := hF
    refine seq_cut (fun σ H' => ∃ (x2 x3 x4 : Option V) (i : Nat) (u m : Int), σ = [some (.ref p), some (.int n), x2, x3, x4] ∧ H' p = some (.lst [.ref c, .int i, .int u, .int m]) ∧ SameX p H H' ∧ 0 ≤ u ∧ 0 ≤ m ∧ m < 2147483647) ?_ ?_
    · rintro σ' H' ⟨x2, x3, x4, i, u, m, rfl, hp, sm, u0, m0, m1⟩
      have hc' := sm _ _ ncp hc
      have em := em'
      refine ⟨_, rfl, p, _, _, _, rfl, rfl, SqL.of hp, rfl, _, _, rfl, rfl, _, rfl, ?_⟩
      refine ite2 (fun h => ?_) (fun h => ?_)
      · have hu : 0 < u := by simpa using h
        refine ⟨_, rfl, p, _, _, _, rfl, rfl, SqL.of hp, rfl, .inl ⟨_, rfl, _, rfl, _, _, rfl, rfl, n0, ?_⟩⟩
        refine ⟨_, rfl, p, _, _, _, rfl, rfl, SqL.of hp, rfl, _, rfl, _, _, rfl, rfl, ⟨n0, n1⟩, _, rfl, p, _, _, 2, rfl, rfl, hp, rfl, ?_⟩
        refine ⟨_, rfl, q _ _ (em u n n0).1 (em u n n0).2 ⟨c, ms, i, u / n, m, upd_same, ?_, ncp, l63, Int.ediv_nonneg u0 (by omega), m0, m1⟩ (sm.trans sameX_upd)⟩
        rw [upd_ne ncp]
        exact hc'
      · refine ⟨_, rfl, p, _, _, _, rfl, rfl, SqL.of hp, rfl, _, _, rfl, rfl, mw (by omega) (by decide), _, _, rfl, rfl, _, _, rfl, rfl, (by show (0 : Int) < 2147483647; decide), _, rfl, p, _, _, 3, rfl, rfl, hp, rfl, ?_⟩
        have e3 := em (m * 69621 + 13) 2147483647 (by decide)
        refine ⟨_, rfl, p, _, _, _, rfl, rfl, SqL.of upd_same, rfl, _, rfl, p, _, _, _, rfl, rfl, SqL.of upd_same, rfl, .inl ⟨_, rfl, _, _, rfl, rfl, mw (by omega) (by omega), _, _, rfl, rfl, (by show (0 : Int) < 998244353; decide), _, _, rfl, rfl, dw (by decide) (by decide), _, rfl, _, _, rfl, rfl, n0, ?_⟩⟩
        refine q _ _ (em _ n n0).1 (em _ n n0).2 ⟨c, ms, i, u, _, upd_same, ?_, ncp, l63, u0, e3.1, e3.2⟩ (sm.trans sameX_upd)
        rw [upd_ne ncp]
        exact hc'
    · intro cont
      refine ⟨_, rfl, p, _, _, _, rfl, rfl, SqL.of hp, rfl, rfl, _, rfl, ?_⟩
      refine ite2 (fun h => ?_) (fun h => ?_)
      · refine ⟨_, rfl, p, _, _, _, rfl, rfl, SqL.of hp, rfl, _, rfl, p, _, _, _, rfl, rfl, SqL.of hp, rfl, c, _, rfl, .inl (SqL.of hc), _, _, rfl, rfl, _, rfl, ?_⟩
        refine ite2 (fun h2 => ?_) (fun h2 => ?_)
        · have hi : i < ms.length := by simpa using h2
          have hcell : (ms.map V.int)[i]? = some (.int ms[i]) := by rw [List.getElem?_map, List.getElem?_eq_getElem hi]; rfl
          generalize ms[i] = x at *
          refine ⟨_, rfl, p, _, _, _, rfl, rfl, SqL.of hp, rfl, _, rfl, p, _, _, _, rfl, rfl, SqL.of hp, rfl, c, _, _, _, rfl, rfl, SqL.of hc, atI_nat hcell, ?_⟩
          refine ⟨_, rfl, p, _, _, _, rfl, rfl, SqL.of hp, rfl, _, _, rfl, rfl, _, rfl, p, _, _, 1, rfl, rfl, hp, rfl, ?_⟩
          refine ⟨_, rfl, _, _, rfl, rfl, ⟨by decide, by decide, by decide⟩, _, _, rfl, rfl, _, rfl, ?_⟩
          refine ite2 (fun h3 => ?_) (fun h3 => ?_)
          · have hx : 10 ^ 18 ≤ x := by simpa using h3
            refine ⟨_, rfl, _, rfl, p, _, _, 2, rfl, rfl, upd_same, rfl, ?_⟩
            exact cont _ _ ⟨_, _, _, i + 1, x, m, rfl, upd_same, sameX_upd.trans sameX_upd, by omega, m0, m1⟩
          · refine ⟨_, rfl, p, _, _, _, rfl, rfl, SqL.of upd_same, rfl, _, _, rfl, rfl, mw (by omega) (by decide), _, rfl, .inl ⟨_, rfl, _, _, rfl, rfl, (by show (0 : Int) < 2147483563; decide), _, _, rfl, rfl, ?_⟩⟩
            refine ⟨_, rfl, _, rfl, p, _, _, _, rfl, rfl, SqL.of upd_same, rfl, _, _, rfl, rfl, mw (by show ((i : Int) + 1).natAbs < _; omega) (by decide), _, _, rfl, rfl, _, _, rfl, rfl, (by show (0 : Int) < 2147483647; decide), _, rfl, p, _, _, 3, rfl, rfl, upd_same, rfl, ?_⟩
            have e3 := fun a => em' a 2147483647 (by decide)
            exact cont _ _ ⟨_, _, _, i + 1, u, _, rfl, upd_same, sameX_upd.trans sameX_upd, u0, (e3 _).1, (e3 _).2⟩
        · exact cont _ _ ⟨_, _, _, i, u, m, rfl, hp, .refl, u0, m0, m1⟩
      · exact cont _ _ ⟨_, _, _, i, u, m, rfl, hp, .refl, u0, m0, m1⟩
end
end G
set_option Elab.async false
set_option linter.all false
set_option maxRecDepth 100000
namespace G
open PySem PySem.Spec PyProof.Rows L2 RZ
/-! ### the comparison of data -/
theorem _root_.L2.Same.tup {K : PySem.W.Frag} {H H' : Hp} {a : Addr} {xs : List V} (e : Same H H') (h : SqT K H a xs) : SqT K H' a xs := by
  rcases h with (h | ⟨o, h⟩) | h
  · exact .inl (.inl (e _ _ h))
  · exact .inl (.inr ⟨o, e _ _ h⟩)
  · exact .inr h
def flat : V → Bool
  | .non => true
  | .bl _ => true
  | .int _ => true
  | .str _ => true
  | _ => false
def EqV (K : PySem.W.Frag) (H : Hp) : Nat → V → V → Prop
  | 0, _, _ => False
  | n + 1, x, y => (flat x = true ∧ x = y) ∨ ∃ (a b : Addr) (xs ys : List V), x = .ref a ∧ y = .ref b ∧ ((H a = some (.lst xs) ∧ H b = some (.lst ys)) ∨ (SqT K H a xs ∧ SqT K H b ys)) ∧ xs.length = ys.length ∧ xs.length ≤ 1000 ∧ ∀ (i : Nat) (x y : V), xs[i]? = some x → ys[i]? = some y → EqV K H n x y
theorem EqV.same {K : PySem.W.Frag} {H H' : Hp} (e : Same H H') : ∀ (n : Nat) {x y : V}, EqV K H n x y → EqV K H' n x y
  | 0, _, _, h => h
  | n + 1, x, y, h => by
    rcases h with h | ⟨a, b, xs, ys, rfl, rfl, h1, h2, hk, h3⟩
    · exact .inl h
    · refine .inr ⟨a, b, xs, ys, rfl, rfl, ?_, h2, hk, fun i x y h4 h5 => EqV.same e n (h3 i x y h4 h5)⟩
      rcases h1 with ⟨p, q⟩ | ⟨p, q⟩
      · exact .inl ⟨e _ _ p, e _ _ q⟩
      · exact .inr ⟨e.tup p, e.tup q⟩
theorem ty_tup {K : PySem.W.Frag} {H : Hp} {a : Addr} {xs : List V} (h : SqT K H a xs) : TyX K H (.ref a) (.type "tuple") := by
  rcases h with (h | ⟨o, h⟩) | ⟨o, its, n, h, c, _⟩
  · exact .base (.tup h)
  · exact .fTuple h
  · exact .kTuple h c
theorem zip_turns {J : It} {xs ys : List V} {H0 : Hp} {Qd : Hp → Prop} {Bd : (Hp → Prop) → V → Hp → Prop} (hl : xs.length = ys.length) (Sq : Hp → Prop)
    (hgo : ∀ i x y H, Sq H → xs[i]? = some x → ys[i]? = some y → J.go i H) (hst : ∀ H, Sq H → J.stop xs.length H) (hyl : ∀ i v H H', Sq H → J.yld i H v H' → ∃ T x y, v = .ref T ∧ H T = none ∧ H' = upd H T (.tup [x, y]) ∧ xs[i]? = some x ∧ ys[i]? = some y)
    (Pv : Nat → Hp → Prop) (h0 : Pv 0 H0) (hq : ∀ i H, Pv i H → Sq H)
    (hs : ∀ (i : Nat) (x y : V) (T : Addr) (H : Hp), xs[i]? = some x → ys[i]? = some y → Pv i H → H T = none → Bd (Pv (i + 1)) (.ref T) (upd H T (.tup [x, y]))) (hd : ∀ H, Pv xs.length H → Qd H) :
    ∃ W : Nat → Nat → Hp → Prop, (∃ m, W 0 m H0) ∧ ∀ i m H, W i m H → (J.stop i H ∧ Qd H) ∨ (J.go i H ∧ ∃ Nx : Hp → Prop, (∀ H', Nx H' → ∃ m', m' < m ∧ W (i + 1) m' H') ∧ ∀ x H', J.yld i H x H' → Bd Nx x H') := by
  refine ⟨fun i m H => m = xs.length - i ∧ i ≤ xs.length ∧ Pv i H, ⟨xs.length, rfl, Nat.zero_le _, h0⟩, ?_⟩
  rintro i m H ⟨rfl, hi, p⟩
  have q := hq i H p
  by_cases hlt : i < xs.length
  · have hx : xs[i]? = some xs[i] := List.getElem?_eq_getElem hlt
    have hlt2 : i < ys.length := by omega
    have hy : ys[i]? = some ys[i] := List.getElem?_eq_getElem hlt2
    refine .inr ⟨hgo i _ _ H q hx hy, Pv (i + 1), fun H' p' => ⟨xs.length - (i + 1), by omega, rfl, hlt, p'⟩, fun v H' y => ?_⟩
    obtain ⟨T, x', y', rfl, hT, rfl, f1, f2⟩ := hyl i v H H' q y
    exact hs i x' y' T H f1 f2 p hT
  · have e : i = xs.length := by omega
    subst e
    exact .inl ⟨hst H q, hd H p⟩
def spSame (K : PySem.W.Frag) (n : Nat) : Sp := fun vs H Q _ => ∃ x y : V, vs = [x, y] ∧ EqV K H n x y ∧ ∀ H', Same H H' → Q (.bl true) H'
theorem scSame : FnScope ["_law_found", "_law_due", "_law_one", "_law_other"] ["_law_found", "_law_due"] (defScope sSame) := ⟨rfl, rfl, rfl, by decide +kernel, rfl, by decide +kernel, by decide +kernel⟩
theorem kit {K : PySem.W.Frag} {a b : String} {r : Bool} (h : kitB a b = some r) : PySem.W.kitOne K (.type a) (.type b) = some r := kit_ty h
section
variable {P : Program} {w : World} {K : PySem.W.Frag} {mg : Str → Option Value} {base : Heap}
theorem ok_same {f : Addr} {fd : FuncData} (F : Fun K "_law_same" "_law_same" sSame f fd) (B : Bn mg) (mgS : mg "_law_same" = some (.ref f)) (bS : Binds K fd ["_law_found", "_law_due"] []) : ∀ n : Nat, FnOk P w K mg base CX0 (n + 1) f fd ["_law_found", "_law_due"] (spSame K n)
  | 0 => F.ok scSame (fun vs H Q E h => by obtain ⟨x, y, _, h, _⟩ := h; exact h.elim) (fun cdv A outer s H vs Q E hr h => by obtain ⟨x, y, _, h, _⟩ := h; exact h.elim)
  | n + 1 => by
    have D_same : DefOk P w K mg base "_law_same" (n + 1) ["_law_found", "_law_due"] (spSame K n) := ⟨f, fd, ok_same F B mgS bS n, mgS, F.kp, bS⟩
    refine F.ok scSame (fun vs H Q E h => ?_) (fun cdv A outer s H vs Q E hr h => ?_)
    · obtain ⟨x, y, rfl, _⟩ := h
      rfl
    · obtain ⟨x, y, rfl, h, q⟩ := h
      refine ⟨_, (pss_cons (ps_if (pt_cmpR op_isN (pv 1) pe_non (nomark _)) (pss_one (ps_ret (pe_cmpR op_isN (pv 0) pe_non (nomark _)))) pss_nil)
      (pss_cons (ps_if (PW.pt (pw_or (pt_val (pe_callB call_isi (by rfl) B.isinstance (by decide +kernel) (pa_cons (pv 1) (pa_cons (pe_bltn (v := .ty "bool") (u := .type "bool") (by rfl) B.bool (by decide +kernel) rfl) pa_nil)))) (pw_or1 (pt_val (pe_callB call_isi (by rfl) B.isinstance (by decide +kernel) (pa_cons (pv 0) (pa_cons (pe_bltn (v := .ty "bool") (u := .type "bool") (by rfl) B.bool (by decide +kernel) rfl) pa_nil))))))) (pss_one (ps_ret (pe_and (pe_callB call_isi (by rfl) B.isinstance (by decide +kernel) (pa_cons (pv 1) (pa_cons (pe_bltn (v := .ty "bool") (u := .type "bool") (by rfl) B.bool (by decide +kernel) rfl) pa_nil))) (pe_and (pe_callB call_isi (by rfl) B.isinstance (by decide +kernel) (pa_cons (pv 0) (pa_cons (pe_bltn (v := .ty "bool") (u := .type "bool") (by rfl) B.bool (by decide +kernel) rfl) pa_nil))) (pe_one (pe_cmpR op_eq (pv 0) (pv 1) (nomark _))))))) pss_nil)
      (pss_cons (ps_if (pt_val (pe_callB call_isiT (by rfl) B.isinstance (by decide +kernel) (pa_cons (pv 1) (pa_cons (pe_tup (pa_cons (pe_bltn (v := .ty "int") (u := .type "int") (by rfl) B.int (by decide +kernel) rfl) (pa_cons (pe_bltn (v := .ty "str") (u := .type "str") (by rfl) B.str (by decide +kernel) rfl) pa_nil))) pa_nil)))) (pss_one (ps_ret (pe_and (pe_callB call_isiT (by rfl) B.isinstance (by decide +kernel) (pa_cons (pv 0) (pa_cons (pe_tup (pa_cons (pe_bltn (v := .ty "int") (u := .type "int") (by rfl) B.int (by decide +kernel) rfl) (pa_cons (pe_bltn (v := .ty "str") (u := .type "str") (by rfl) B.str (by decide +kernel) rfl) pa_nil))) pa_nil))) (pe_and (pe_cmpR op_eq (pe_callB call_isi (by rfl) B.isinstance (by decide +kernel) (pa_cons (pv 0) (pa_cons (pe_bltn (v := .ty "int") (u := .type "int") (by rfl) B.int (by decide +kernel) rfl) pa_nil))) (pe_callB call_isi (by rfl) B.isinstance (by decide +kernel) (pa_cons (pv 1) (pa_cons (pe_bltn (v := .ty "int") (u := .type "int") (by rfl) B.int (by decide +kernel) rfl) pa_nil))) (nomark _)) (pe_one (pe_cmpR op_eq (pv 0) (pv 1) (nomark _))))))) pss_nil)
      (pss_cons (ps_if (PW.pt (pw_or (pt_cmpR op_ne (pe_callB call_isi (by rfl) B.isinstance (by decide +kernel) (pa_cons (pv 1) (pa_cons (pe_bltn (v := .ty "tuple") (u := .type "tuple") (by rfl) B.tuple (by decide +kernel) rfl) pa_nil))) (pe_callB call_isi (by rfl) B.isinstance (by decide +kernel) (pa_cons (pv 0) (pa_cons (pe_bltn (v := .ty "tuple") (u := .type "tuple") (by rfl) B.tuple (by decide +kernel) rfl) pa_nil))) (nomark _)) (pw_or1 (pt_cmpR op_ne (pe_callB call_isi (by rfl) B.isinstance (by decide +kernel) (pa_cons (pv 1) (pa_cons (pe_bltn (v := .ty "list") (u := .type "list") (by rfl) B.list (by decide +kernel) rfl) pa_nil))) (pe_callB call_isi (by rfl) B.isinstance (by decide +kernel) (pa_cons (pv 0) (pa_cons (pe_bltn (v := .ty "list") (u := .type "list") (by rfl) B.list (by decide +kernel) rfl) pa_nil))) (nomark _))))) (pss_one (ps_ret pe_bl)) pss_nil)
      (pss_one (ps_ret (pe_and (pe_cmpR op_eq (pe_callB call_len_seq (by rfl) B.len PySem.boot_len (pa_cons (pv 0) pa_nil)) (pe_callB call_len_seq (by rfl) B.len PySem.boot_len (pa_cons (pv 1) pa_nil)) (nomark _)) (pe_one (pe_callB (cr_all rfl) (by rfl) B.all (by decide +kernel) (pa_cons (pe_lc (own := [("_law_one", 2), ("_law_other", 3)]) (g := gTup K 2 (gCons (gName 2) (gCons (gName 3) gNil))) (tt := tYes) (by rfl) scSame.nd (pi_zipA (by rfl) B.zip (pa_cons (pv 0) (pa_cons (pv 1) pa_nil))) (blkOk_by (own := [("_law_one", 2), ("_law_other", 3)]) (N := ["_law_found", "_law_due", "_law_one", "_law_other"]) (sc := (defScope sSame)) (by decide +kernel)) (fun _ _ _ _ _ => pg_tup (by rfl) (pgs_cons (pg_name (i := 2) scSame.nd rfl (Or.inl rfl)) (pgs_cons (pg_name (i := 3) scSame.nd rfl (Or.inl rfl)) pgs_nil))) (fun _ _ _ _ _ => pts_nil) (fun _ _ _ _ _ => (pe_callD D_same hr (pa_cons (pv 2) (pa_cons (pv 3) pa_nil))))) pa_nil)))))))))), ?_⟩
      rcases h with ⟨hf, rfl⟩ | ⟨a, b, xs, ys, rfl, rfl, hh, hl, hk, he⟩
      · cases x with
        | non =>
          refine ⟨_, rfl, rfl, _, rfl, ifT rfl ?_⟩
          exact ⟨_, rfl, rfl, q _ (.refl _)⟩
        | bl b =>
          refine ⟨_, rfl, rfl, _, rfl, ifF rfl ?_⟩
          refine ⟨_, rfl, _, _, _, _, true, rfl, .ty _, .base (.bl _), kit (by decide +kernel), _, rfl, ifT rfl ?_⟩
          refine ⟨_, rfl, _, _, _, _, true, rfl, .ty _, .base (.bl _), kit (by decide +kernel), _, rfl, ?_⟩
          refine ifT rfl ?_
          refine ⟨_, rfl, _, _, _, _, true, rfl, .ty _, .base (.bl _), kit (by decide +kernel), _, rfl, ifT rfl ?_⟩
          refine ⟨_, rfl, _, rfl, (by cases b <;> rfl), ?_⟩
          rw [show decide (V.bl b = V.bl b) = true from decide_eq_true rfl]
          exact q _ (.refl _)
        | int i =>
          refine ⟨_, rfl, rfl, _, rfl, ifF rfl ?_⟩
          refine ⟨_, rfl, _, _, _, _, false, rfl, .ty _, .base (.int _), kit (by decide +kernel), _, rfl, ifF rfl ?_⟩
          refine ⟨_, rfl, _, _, _, _, false, rfl, .ty _, .base (.int _), kit (by decide +kernel), _, rfl, ifF rfl ?_⟩
          refine ⟨_, rfl, (by show 2 ≤ sizeLine; decide), fun t nt => ?_⟩
          refine ⟨_, t, _, _, _, true, rfl, upd_same, .cons (.ty _) (.cons (.ty _) .nil), .base (.int _), kitAny_cons (b := true) (kit (by decide +kernel)) (fun z => by cases z) (fun _ => rfl), _, rfl, ifT rfl ?_⟩
          refine ⟨_, rfl, (by show 2 ≤ sizeLine; decide), fun t2 nt2 => ?_⟩
          refine ⟨_, t2, _, _, _, true, rfl, upd_same, .cons (.ty _) (.cons (.ty _) .nil), .base (.int _), kitAny_cons (b := true) (kit (by decide +kernel)) (fun z => by cases z) (fun _ => rfl), _, rfl, ifT rfl ?_⟩
          refine ⟨_, rfl, _, _, _, _, true, rfl, .ty _, .base (.int _), kit (by decide +kernel), ?_⟩
          refine ⟨_, rfl, _, _, _, _, true, rfl, .ty _, .base (.int _), kit (by decide +kernel), rfl, _, rfl, ifT rfl ?_⟩
          refine ⟨_, rfl, _, rfl, rfl, ?_⟩
          rw [show decide (V.int i = V.int i) = true from decide_eq_true rfl]
          exact q _ ((same_upd nt).trans (same_upd nt2))
        | str z =>
          refine ⟨_, rfl, rfl, _, rfl, ifF rfl ?_⟩
          refine ⟨_, rfl, _, _, _, _, false, rfl, .ty _, .base (.str _), kit (by decide +kernel), _, rfl, ifF rfl ?_⟩
          refine ⟨_, rfl, _, _, _, _, false, rfl, .ty _, .base (.str _), kit (by decide +kernel), _, rfl, ifF rfl ?_⟩
          refine ⟨_, rfl, (by show 2 ≤ sizeLine; decide), fun t nt => ?_⟩
          refine ⟨_, t, _, _, _, true, rfl, upd_same, .cons (.ty _) (.cons (.ty _) .nil), .base (.str _), kitAny_cons (b := false) (kit (by decide +kernel)) (fun _ => kitAny_cons (b := true) (kit (by decide +kernel)) (fun z => by cases z) (fun _ => rfl)) (fun _ => rfl), _, rfl, ifT rfl ?_⟩
          refine ⟨_, rfl, (by show 2 ≤ sizeLine; decide), fun t2 nt2 => ?_⟩
          refine ⟨_, t2, _, _, _, true, rfl, upd_same, .cons (.ty _) (.cons (.ty _) .nil), .base (.str _), kitAny_cons (b := false) (kit (by decide +kernel)) (fun _ => kitAny_cons (b := true) (kit (by decide +kernel)) (fun z => by cases z) (fun _ => rfl)) (fun _ => rfl), _, rfl, ifT rfl ?_⟩
          refine ⟨_, rfl, _, _, _, _, false, rfl, .ty _, .base (.str _), kit (by decide +kernel), ?_⟩
          refine ⟨_, rfl, _, _, _, _, false, rfl, .ty _, .base (.str _), kit (by decide +kernel), rfl, _, rfl, ifT rfl ?_⟩
          refine ⟨_, rfl, _, rfl, rfl, ?_⟩
          rw [show decide (V.str z = V.str z) = true from decide_eq_true rfl]
          exact q _ ((same_upd nt).trans (same_upd nt2))
        | _ => cases hf
      · obtain ⟨tn, bT, bL, tA, tB, k1, k2, k3, k4, k5⟩ : ∃ (tn : String) (bT bL : Bool), (∀ H', Same H H' → TyX K H' (.ref a) (.type tn)) ∧ (∀ H', Same H H' → TyX K H' (.ref b) (.type tn)) ∧ kitB tn "bool" = some false ∧ kitB tn "int" = some false ∧ kitB tn "str" = some false ∧ kitB tn "tuple" = some bT ∧ kitB tn "list" = some bL := by
          rcases hh with ⟨h1, h2⟩ | ⟨h1, h2⟩
          · exact ⟨"list", false, true, fun H' e => .base (.lst (e _ _ h1)), fun H' e => .base (.lst (e _ _ h2)), by decide +kernel, by decide +kernel, by decide +kernel, by decide +kernel, by decide +kernel⟩
          · exact ⟨"tuple", true, false, fun H' e => ty_tup (e.tup h1), fun H' e => ty_tup (e.tup h2), by decide +kernel, by decide +kernel, by decide +kernel, by decide +kernel, by decide +kernel⟩
        refine ⟨_, rfl, rfl, _, rfl, ifF rfl ?_⟩
        refine ⟨_, rfl, _, _, _, _, false, rfl, .ty _, tB _ (.refl _), kit k1, _, rfl, ifF rfl ?_⟩
        refine ⟨_, rfl, _, _, _, _, false, rfl, .ty _, tA _ (.refl _), kit k1, _, rfl, ifF rfl ?_⟩
        refine ⟨_, rfl, (by show 2 ≤ sizeLine; decide), fun t nt => ?_⟩
        have s1 : Same H (upd H t (.tup [.ty "int", .ty "str"])) := same_upd nt
        refine ⟨_, t, _, _, _, false, rfl, upd_same, .cons (.ty _) (.cons (.ty _) .nil), tB _ s1, kitAny_cons (b := false) (kit k2) (fun _ => kitAny_cons (b := false) (kit k3) (fun _ => kitAny_nil) (fun z => by cases z)) (fun z => by cases z), _, rfl, ifF rfl ?_⟩
        refine ⟨_, rfl, _, _, _, _, bT, rfl, .ty _, tB _ s1, kit k4, _, rfl, _, _, _, _, bT, rfl, .ty _, tA _ s1, kit k4, (by cases bT <;> rfl), _, rfl, ifF (by cases bT <;> rfl) ?_⟩
        refine ⟨_, rfl, _, _, _, _, bL, rfl, .ty _, tB _ s1, kit k5, _, rfl, _, _, _, _, bL, rfl, .ty _, tA _ s1, kit k5, (by cases bL <;> rfl), _, rfl, ifF (by cases bL <;> rfl) ?_⟩
        have hsz : ∀ i, i ≤ xs.length → i < sizeLine := fun i hi => small1000 (by omega)
        rcases hh with ⟨h1, h2⟩ | ⟨h1, h2⟩
        · have q1 : ∀ H', Same (upd H t (.tup [.ty "int", .ty "str"])) H' → H' a = some (.lst xs) ∧ H' b = some (.lst ys) := fun H' e => ⟨e _ _ (s1 _ _ h1), e _ _ (s1 _ _ h2)⟩
          refine ⟨_, rfl, a, _, rfl, .inl (SqL.of (s1 _ _ h1)), _, rfl, b, _, rfl, .inl (SqL.of (s1 _ _ h2)), rfl, _, rfl, ifT (by rw [hl]; exact decide_eq_true rfl) ?_⟩
          refine ⟨_, rfl, _, rfl, a, b, xs, ys, rfl, .inl ⟨SqL.of (s1 _ _ h1), SqL.of (s1 _ _ h2), fun D nD => ?_⟩⟩
          refine zip_turns hl (fun H' => SqL K H' a xs ∧ SqL K H' b ys) (fun i x y H' q hx hy => ⟨xs, ys, x, y, q.1, q.2, hx, hy⟩) (fun H' q => ⟨xs, ys, q.1, q.2, .inl (Nat.le_refl _)⟩) (fun i v H' H2 q hy => ?_)
            (fun i H' => Same (upd H t (.tup [.ty "int", .ty "str"])) H' ∧ H' D = some (.lst ((List.replicate i true).map V.bl))) ⟨same_upd nD, upd_same⟩ (fun i H' q => ⟨SqL.of (q1 _ q.1).1, SqL.of (q1 _ q.1).2⟩) ?_ ?_
          · obtain ⟨T, x', y', rfl, hT, rfl, f1, f2⟩ := hy
            exact ⟨T, x', y', rfl, hT, rfl, f1 _ q.1, f2 _ q.2⟩
          · rintro i x y T H' hx hy ⟨sm, hD⟩ nT
            have sT := same_upd (o := .tup [x, y]) nT
            refine ⟨T, [x, y], rfl, SqT.of upd_same, rfl, x, [y], rfl, y, [], rfl, rfl, rfl, ?_⟩
            dsimp only [tYes]
            rw [if_pos rfl]
            refine ⟨_, rfl, _, rfl, x, y, rfl, ((he i x y hx hy).same ((s1.trans sm).trans sT)), fun H2 s2 => ?_⟩
            refine ⟨_, s2 _ _ (sT _ _ hD), by rw [List.length_map, List.length_replicate]; exact hsz _ (by have := (List.getElem?_eq_some_iff.mp hx).1; omega), ?_, ?_⟩
            · intro c o e
              have nc : c ≠ D := ne_of_none e nD
              rw [upd_ne nc]
              exact s2 _ _ (sT _ _ (sm _ _ e))
            · rw [upd_same, List.replicate_succ', List.map_append]
              rfl
          · rintro H' ⟨sm, hD⟩
            refine ⟨D, List.replicate xs.length true, rfl, SqL.of hD, ?_⟩
            rw [show (List.replicate xs.length true).all id = true by simp]
            exact q _ (s1.trans sm)
        · have q1 : ∀ H', Same (upd H t (.tup [.ty "int", .ty "str"])) H' → SqT K H' a xs ∧ SqT K H' b ys := fun H' e => ⟨e.tup (s1.tup h1), e.tup (s1.tup h2)⟩
          refine ⟨_, rfl, a, _, rfl, .inr (s1.tup h1), _, rfl, b, _, rfl, .inr (s1.tup h2), rfl, _, rfl, ifT (by rw [hl]; exact decide_eq_true rfl) ?_⟩
          refine ⟨_, rfl, _, rfl, a, b, xs, ys, rfl, .inr ⟨s1.tup h1, s1.tup h2, fun D nD => ?_⟩⟩
          refine zip_turns hl (fun H' => SqT K H' a xs ∧ SqT K H' b ys) (fun i x y H' q hx hy => ⟨xs, ys, x, y, q.1, q.2, hx, hy⟩) (fun H' q => ⟨xs, ys, q.1, q.2, .inl (Nat.le_refl _)⟩) (fun i v H' H2 q hy => ?_)
            (fun i H' => Same (upd H t (.tup [.ty "int", .ty "str"])) H' ∧ H' D = some (.lst ((List.replicate i true).map V.bl))) ⟨same_upd nD, upd_same⟩ (fun i H' q => q1 _ q.1) ?_ ?_
          · obtain ⟨T, x', y', rfl, hT, rfl, f1, f2⟩ := hy
            exact ⟨T, x', y', rfl, hT, rfl, f1 _ q.1, f2 _ q.2⟩
          · rintro i x y T H' hx hy ⟨sm, hD⟩ nT
            have sT := same_upd (o := .tup [x, y]) nT
            refine ⟨T, [x, y], rfl, SqT.of upd_same, rfl, x, [y], rfl, y, [], rfl, rfl, rfl, ?_⟩
            dsimp only [tYes]
            rw [if_pos rfl]
            refine ⟨_, rfl, _, rfl, x, y, rfl, ((he i x y hx hy).same ((s1.trans sm).trans sT)), fun H2 s2 => ?_⟩
            refine ⟨_, s2 _ _ (sT _ _ hD), by rw [List.length_map, List.length_replicate]; exact hsz _ (by have := (List.getElem?_eq_some_iff.mp hx).1; omega), ?_, ?_⟩
            · intro c o e
              have nc : c ≠ D := ne_of_none e nD
              rw [upd_ne nc]
              exact s2 _ _ (sT _ _ (sm _ _ e))
            · rw [upd_same, List.replicate_succ', List.map_append]
              rfl
          · rintro H' ⟨sm, hD⟩
            refine ⟨D, List.replicate xs.length true, rfl, SqL.of hD, ?_⟩
            rw [show (List.replicate xs.length true).all id = true by simp]
            exact q _ (s1.trans sm)
end
end G
set_option Elab.async false
set_option linter.all false
set_option maxRecDepth 100000
namespace G
open PySem PySem.Spec PyProof.Rows L2 RZ
section
variable {P : Program} {w : World} {K : PySem.W.Frag} {mg : Str → Option Value} {base : Heap}
theorem ok_gcd {f : Addr} {fd : FuncData} {k : Nat} (F : Fun K "_law_gcd" "_law_gcd" sGcd f fd) (B : Bn mg) : FnOk P w K mg base CX0 (k + 1) f fd ["_law_one", "_law_other"] spCommon := by
  refine F.ok scGcd (fun vs H Q E h => ?_) (fun cdv A outer s H vs Q E hr h => ?_)
  · obtain ⟨a, b, rfl, _⟩ := h
    rfl
  · obtain ⟨a, b, rfl, q⟩ := h
    refine ⟨_, (pss_cons (ps_par (i := 0) (j := 1) (by rfl) scGcd.nd rfl rfl (by decide) rfl rfl (pa_cons (pe_callB call_abs (by rfl) B.abs (by decide +kernel) (pa_cons (pv 0) pa_nil)) (pa_cons (pe_callB call_abs (by rfl) B.abs (by decide +kernel) (pa_cons (pv 1) pa_nil)) pa_nil)) (by rfl))
      (pss_cons (ps_while PassesOwn.never (pt_cmpR op_ne (pv 1) pe_int (nomark _)) (pss_one (ps_par (i := 0) (j := 1) (by rfl) scGcd.nd rfl rfl (by decide) rfl rfl (pa_cons (pv 1) (pa_cons (pe_op op_mod (pe_callTy call_int1 (by rfl) B.int (by decide +kernel) (pa_cons (pv 0) pa_nil)) (pv 1)) pa_nil)) (by rfl))))
      (pss_one (ps_ret (pv 0))))), ?_⟩
    refine ⟨_, rfl, a, rfl, _, rfl, b, rfl, _, _, rfl, ?_⟩
    rw [abs_if, abs_if]
    dsimp only
    refine seq_mk ?_
    refine while_by (fun σ H' => H' = H ∧ ∃ x y : Nat, σ = [some (.int x), some (.int y)] ∧ Nat.gcd x y = Int.gcd a b) (fun σ _ => match σ with | [_, some (.int y)] => y.toNat | _ => 0) ⟨rfl, a.natAbs, b.natAbs, rfl, rfl⟩ ?_ ?_
    · rintro σ H' ⟨rfl, x, y, rfl, e⟩
      refine ⟨_, rfl, rfl, _, rfl, ?_⟩
      refine ite2 (fun h => ?_) (fun h => ?_)
      · have hy : y ≠ 0 := by rintro rfl; exact absurd h (by decide)
        refine ⟨_, rfl, _, rfl, .inl ⟨_, rfl, _, rfl, _, _, rfl, rfl, (by show (0 : Int) < y; omega), _, _, rfl, ?_⟩⟩
        refine ⟨⟨rfl, y, x % y, ?_, ?_⟩, ?_⟩
        · rfl
        · rw [← e, Nat.gcd_comm x y, Nat.gcd_rec y x, Nat.gcd_comm]
        · show ((x : Int) % (y : Int)).toNat < y
          rw [show ((x : Int) % (y : Int)) = ((x % y : Nat) : Int) from rfl, Int.toNat_natCast]
          exact Nat.mod_lt _ (Nat.pos_of_ne_zero hy)
      · have hy : y = 0 := by
          rcases Nat.eq_zero_or_pos y with h0 | h0
          · exact h0
          · exact absurd (show (!decide (V.int (y : Int) = V.int 0)) = true by simp; omega) h
        subst hy
        refine ⟨_, rfl, ?_⟩
        rw [← e, Nat.gcd_zero_right] at q
        exact q
    · rintro σ H' Q Q' hq ⟨v, e, h, b, e2, q⟩
      exact ⟨v, e, h, b, e2, hq _ _ q⟩
/-! ### inverse -/
/-- the steps of Euclid with the factors -/
structure Eu (n m r s t u : Int) : Prop where
  s0 : 0 ≤ s
  sr : s < r
  rm : r ≤ m
  gc : Int.gcd r s = Int.gcd n m
  ct : (m : Int) ∣ t * n - r
  cu : (m : Int) ∣ u * n - s
  sg : ∃ a b : Int, 0 ≤ a ∧ 0 ≤ b ∧ a * s + b * r = m ∧ ((t = a ∧ u = -b) ∨ (t = -a ∧ u = b))
theorem Eu.start {n m : Int} (h : 0 < m) : Eu n m m (n % m) 0 1 := by
  refine ⟨Int.emod_nonneg _ (by omega), Int.emod_lt_of_pos _ h, Int.le_refl _, ?_, ⟨-1, by omega⟩, ?_, 0, 1, by omega, by omega, by omega, .inr ⟨rfl, rfl⟩⟩
  · rw [Int.gcd_comm n m, Int.emod_def, Int.gcd_sub_mul_left_right]
  · refine ⟨n / m, ?_⟩
    have := Int.emod_add_mul_ediv n m
    omega
theorem Eu.turn {n m r s t u : Int} (E : Eu n m r s t u) (h : 0 < s) : Eu n m s (r - r / s * s) u (t - r / s * u) := by
  have e : r - r / s * s = r % s := by
    have := Int.emod_add_mul_ediv r s
    rw [Int.mul_comm] at this
    omega
  obtain ⟨a, b, a0, b0, ab, hs⟩ := E.sg
  have q0 : 0 ≤ r / s := Int.ediv_nonneg (by have := E.sr; omega) (by omega)
  refine ⟨?_, ?_, by have := E.sr; have := E.rm; omega, ?_, E.cu, ?_, b, a + r / s * b, b0, ?_, ?_, ?_⟩
  · rw [e]; exact Int.emod_nonneg _ (by omega)
  · rw [e]; exact Int.emod_lt_of_pos _ h
  · rw [e, ← E.gc, Int.gcd_comm r s, Int.emod_def, Int.gcd_sub_mul_left_right]
  · obtain ⟨x, hx⟩ := E.ct
    obtain ⟨y, hy⟩ := E.cu
    refine ⟨x - r / s * y, ?_⟩
    grind
  · have := Int.mul_nonneg q0 b0; omega
  · grind
  · rcases hs with ⟨h1, h2⟩ | ⟨h1, h2⟩
    · exact .inr ⟨by rw [h2], by rw [h1, h2]; grind⟩
    · exact .inl ⟨h2, by rw [h1, h2]; grind⟩
theorem Eu.bd {n m r s t u : Int} (E : Eu n m r s t u) : u.natAbs ≤ m.natAbs := by
  obtain ⟨a, b, a0, b0, ab, hs⟩ := E.sg
  have h1 := Int.mul_nonneg a0 E.s0
  have h2 : b * 1 ≤ b * r := Int.mul_le_mul_of_nonneg_left (by have := E.sr; have := E.s0; omega) b0
  rcases hs with ⟨_, h⟩ | ⟨_, h⟩ <;> omega
def spInverse : Sp := fun vs H Q _ => ∃ n m : Int, vs = [.int n, .int m] ∧ 2 ≤ m ∧ m < 1267650600228229401496703205376 ∧ (∀ t H', Same H H' → Int.gcd n m = 1 → 0 ≤ t → t < m → m ∣ t * n - 1 → Q (.int t) H') ∧ (∀ H', Same H H' → Int.gcd n m ≠ 1 → Q .non H')
theorem mwM {i j : Int} (h1 : i.natAbs < 1267650600228229401496703205376) (h2 : j.natAbs < 1267650600228229401496703205376) : CMulW i j := wide_mul (a := 100) (b := 100) h1 h2 (by decide) (by decide) (by decide)
theorem dwM {i j : Int} (h : 0 < j) (h2 : j.natAbs < 1267650600228229401496703205376) : CDivW i j := wide_div (b := 100) h h2 (by decide) (by decide)
theorem ok_inverse {f : Addr} {fd : FuncData} {k : Nat} (F : Fun K "inverse" "inverse" sInverse f fd) : FnOk P w K mg base CX0 (k + 1) f fd ["number", "modulus"] spInverse := by
  refine F.ok scInverse (fun vs H Q E h => ?_) (fun cdv A outer s H vs Q E hr h => ?_)
  · obtain ⟨a, b, rfl, _⟩ := h
    rfl
  · obtain ⟨n, m, rfl, m2, m9, q1, q2⟩ := h
    refine ⟨_, (pss_cons (ps_par (i := 2) (j := 3) (by rfl) scInverse.nd rfl rfl (by decide) rfl rfl (pa_cons (pv 1) (pa_cons (pe_op op_mod (pv 0) (pv 1)) pa_nil)) (by rfl))
      (pss_cons (ps_asg (pe_tup (pa_cons pe_int (pa_cons pe_int pa_nil))) (pg_tup (by rfl) (pgs_cons (pg_name (i := 4) scInverse.nd rfl (Or.inl rfl)) (pgs_cons (pg_name (i := 5) scInverse.nd rfl (Or.inl rfl)) pgs_nil))))
      (pss_cons (ps_while PassesOwn.never (pt_truth (pv 3) (by intro _; rfl)) (pss_cons (ps_set (i := 6) scInverse.nd rfl (Or.inl rfl) (pe_op op_fdivW (pv 2) (pv 3)))
      (pss_cons (ps_par (i := 2) (j := 3) (by rfl) scInverse.nd rfl rfl (by decide) rfl rfl (pa_cons (pv 3) (pa_cons (pe_op op_sub (pv 2) (pe_op op_mulW (pv 6) (pv 3))) pa_nil)) (by rfl))
      (pss_one (ps_par (i := 4) (j := 5) (by rfl) scInverse.nd rfl rfl (by decide) rfl rfl (pa_cons (pv 5) (pa_cons (pe_op op_sub (pv 4) (pe_op op_mulW (pv 6) (pv 5))) pa_nil)) (by rfl))))))
      (pss_cons (ps_if (pt_cmpR op_ne (pv 2) pe_int (nomark _)) (pss_one (ps_ret pe_non)) pss_nil)
      (pss_one (ps_ret (pe_op op_mod (pv 4) (pv 1)))))))), ?_⟩
    refine ⟨_, rfl, _, rfl, _, rfl, _, _, rfl, rfl, (by show 0 < m; omega), _, _, rfl, ?_⟩
    refine ⟨(by show 2 ≤ sizeLine; decide), fun tp ntp => ?_⟩
    refine ⟨tp, _, rfl, SqT.of upd_same, rfl, _, _, rfl, _, _, rfl, rfl, ?_⟩
    have sm := same_upd (o := .tup [.int 0, .int 1]) ntp
    dsimp only
    refine seq_mk ?_
    refine while_by (fun σ H' => H' = upd H tp (.tup [.int 0, .int 1]) ∧ ∃ (r s t u : Int) (x : Option V), σ = [some (.int n), some (.int m), some (.int r), some (.int s), some (.int t), some (.int u), x] ∧ Eu n m r s t u) (fun σ _ => match σ with | [_, _, _, some (.int s), _, _, _] => s.toNat | _ => 0) ⟨rfl, _, _, _, _, _, rfl, Eu.start (by omega)⟩ ?_ ?_
    · rintro σ H' ⟨rfl, r, s, t, u, x, rfl, E⟩
      refine ⟨_, rfl, _, rfl, ?_⟩
      have s0 := E.s0
      have sr := E.sr
      have rm := E.rm
      have ub := E.bd
      refine ite2 (fun h => ?_) (fun h => ?_)
      · have hs : 0 < s := by
          have : s ≠ 0 := by rintro rfl; exact absurd h (by decide)
          omega
        have q0 : 0 ≤ r / s := Int.ediv_nonneg (by omega) (by omega)
        have q9 : r / s ≤ r := Int.ediv_le_self _ (by omega)
        refine ⟨_, rfl, _, rfl, _, _, rfl, rfl, dwM hs (by omega), ?_⟩
        refine ⟨_, rfl, _, rfl, _, rfl, _, rfl, _, _, rfl, rfl, mwM (by omega) (by omega), _, _, rfl, rfl, _, _, rfl, ?_⟩
        refine ⟨_, rfl, _, rfl, _, rfl, _, rfl, _, _, rfl, rfl, mwM (by omega) (by omega), _, _, rfl, rfl, _, _, rfl, ?_⟩
        have E2 := E.turn hs
        refine ⟨⟨rfl, _, _, _, _, _, rfl, E2⟩, ?_⟩
        have := E2.sr
        have := E2.s0
        show (r - r / s * s).toNat < s.toNat
        omega
      · have hs : s = 0 := by
          rcases Int.lt_or_eq_of_le s0 with h0 | h0
          · exact absurd (show (s != 0) = true by simp; omega) h
          · exact h0.symm
        subst hs
        have g : (r.natAbs : Int) = r := by omega
        have gc : Int.gcd n m = r.natAbs := by rw [← E.gc, Int.gcd_zero_right]
        refine ⟨_, rfl, rfl, _, rfl, ?_⟩
        refine ite2 (fun h1 => ?_) (fun h1 => ?_)
        · refine q2 _ sm ?_
          intro z
          have : r = 1 := by omega
          subst this
          exact absurd h1 (by decide)
        · have r1 : r = 1 := by
            rcases Decidable.em (r = 1) with e | e
            · exact e
            · exact absurd (show (!decide (V.int r = V.int 1)) = true by simp [e]) h1
          subst r1
          refine ⟨_, rfl, _, rfl, _, _, rfl, rfl, (by show 0 < m; omega), ?_⟩
          refine q1 _ _ sm (by rw [gc]; rfl) (Int.emod_nonneg _ (by omega)) (Int.emod_lt_of_pos _ (by omega)) ?_
          obtain ⟨y, hy⟩ := E.ct
          refine ⟨y - t / m * n, ?_⟩
          have := Int.emod_def t m
          grind
    · rintro σ H' Q Q' hq ⟨v, e, b, t, q⟩
      exact ⟨v, e, b, t, hq _ _ q⟩
end
end G
set_option maxRecDepth 100000
namespace G
/-! ### 2 ^ 89 - 1 is a prime: the powers of an element of great order -/
def pm (n a : Nat) : Nat → Nat → Nat
  | 0, _ => 1 % n
  | f + 1, e => if e % 2 = 0 then (pm n a f (e / 2)) ^ 2 % n else (pm n a f (e / 2)) ^ 2 * a % n
theorem pm_ok (n a : Nat) : ∀ f e, e < 2 ^ f → pm n a f e % n = a ^ e % n
  | 0, e, h => by
    have : e = 0 := by simpa using h
    subst this
    simp [pm]
  | f + 1, e, h => by
    have ih := pm_ok n a f (e / 2) (by rw [Nat.pow_succ] at h; omega)
    unfold pm
    have e2 : e = 2 * (e / 2) + e % 2 := by omega
    split
    · rename_i h0
      rw [Nat.mod_mod]
      conv => rhs; rw [e2, h0, Nat.add_zero, Nat.mul_comm, Nat.pow_mul]
      rw [Nat.pow_mod, ih, ← Nat.pow_mod]
    · rename_i h0
      have h1 : e % 2 = 1 := by omega
      rw [Nat.mod_mod]
      conv => rhs; rw [e2, h1, Nat.pow_succ, Nat.mul_comm 2, Nat.pow_mul]
      rw [Nat.mul_mod, Nat.pow_mod, ih, ← Nat.pow_mod, ← Nat.mul_mod]
theorem holes : ∀ (d o : Nat) (f : Nat → Nat), (∀ i, i < o → f i < d) → (∀ i j, i < o → j < o → f i = f j → i = j) → o ≤ d
  | 0, o, f, h, _ => by
    rcases Nat.eq_zero_or_pos o with e | e
    · omega
    · exact absurd (h 0 e) (by omega)
  | d + 1, 0, f, _, _ => Nat.zero_le _
  | d + 1, o + 1, f, h, hi => by
    have ih := holes d o (fun i => if f i = d then f o else f i) (fun i hi' => by
      have h1 := h i (by omega)
      have h2 := h o (by omega)
      split
      · rename_i e
        have : f o ≠ d := fun e2 => by
          have := hi i o (by omega) (by omega) (by omega)
          omega
        omega
      · omega) (fun i j h1 h2 e => by
      split at e <;> split at e
      · exact hi i j (by omega) (by omega) (by omega)
      · have := hi o j (by omega) (by omega) e
        omega
      · have := hi i o (by omega) (by omega) e
        omega
      · exact hi i j (by omega) (by omega) e)
    omega
theorem pow_one_mod {b d e : Nat} (h : b ^ e % d = 1 % d) (k : Nat) : b ^ (e * k) % d = 1 % d := by
  rw [Nat.pow_mul, Nat.pow_mod, h, ← Nat.pow_mod, Nat.one_pow]
theorem pow_rest {b d e g : Nat} (h : b ^ e % d = 1 % d) (hg : b ^ g % d = 1 % d) : b ^ (g % e) % d = 1 % d := by
  have h1 : b ^ g = b ^ (e * (g / e)) * b ^ (g % e) := by rw [← Nat.pow_add, Nat.div_add_mod]
  have h2 := pow_one_mod h (g / e)
  rw [h1, Nat.mul_mod, h2, ← Nat.mul_mod, Nat.one_mul] at hg
  exact hg
theorem pow_gcd {b d : Nat} (e g : Nat) (h : b ^ e % d = 1 % d) (hg : b ^ g % d = 1 % d) : b ^ (Nat.gcd e g) % d = 1 % d := by
  induction e, g using Nat.gcd.induction with
  | H0 n => rw [Nat.gcd_zero_left]; exact hg
  | H1 m n hm ih => rw [Nat.gcd_rec]; exact ih (pow_rest h hg) h
theorem prime_dvd {q g f : Nat} (hq : ∀ x, x < q + 1 → x ∣ q → x = 1 ∨ x = q) (q0 : 0 < q) (h : g ∣ q * f) (hn : ¬ g ∣ f) : q ∣ g := by
  have h1 := hq (Nat.gcd g q) (by have := Nat.le_of_dvd q0 (Nat.gcd_dvd_right g q); omega) (Nat.gcd_dvd_right g q)
  rcases h1 with h1 | h1
  · exact absurd (Nat.Coprime.dvd_of_dvd_mul_left h1 h) hn
  · rw [← h1]; exact Nat.gcd_dvd_left g q
def m89 : Nat := 618970019642690137449562111
def mF : Nat := 54000362379813
def mB : Nat := 444841461832503581807956191
theorem b_pow : pm m89 mB 50 mF = 1 := by decide +kernel
theorem n_3 : Nat.gcd (pm m89 mB 50 18000120793271 - 1) m89 = 1 := by decide +kernel
theorem p_3 : ∀ x, x < 3 + 1 → x ∣ 3 → x = 1 ∨ x = 3 := by decide +kernel
theorem n_89 : Nat.gcd (pm m89 mB 50 606745644717 - 1) m89 = 1 := by decide +kernel
theorem p_89 : ∀ x, x < 89 + 1 → x ∣ 89 → x = 1 ∨ x = 89 := by decide +kernel
theorem n_353 : Nat.gcd (pm m89 mB 50 152975530821 - 1) m89 = 1 := by decide +kernel
theorem p_353 : ∀ x, x < 353 + 1 → x ∣ 353 → x = 1 ∨ x = 353 := by decide +kernel
theorem n_397 : Nat.gcd (pm m89 mB 50 136021063929 - 1) m89 = 1 := by decide +kernel
theorem p_397 : ∀ x, x < 397 + 1 → x ∣ 397 → x = 1 ∨ x = 397 := by decide +kernel
theorem n_683 : Nat.gcd (pm m89 mB 50 79063488111 - 1) m89 = 1 := by decide +kernel
theorem p_683 : ∀ x, x < 683 + 1 → x ∣ 683 → x = 1 ∨ x = 683 := by decide +kernel
theorem n_2113 : Nat.gcd (pm m89 mB 50 25556252901 - 1) m89 = 1 := by decide +kernel
theorem p_2113 : ∀ x, x < 2113 + 1 → x ∣ 2113 → x = 1 ∨ x = 2113 := by decide +kernel
theorem no_one {d e : Nat} (hd : d ∣ m89) (d1 : 1 < d) (he : e < 2 ^ 50) (hn : Nat.gcd (pm m89 mB 50 e - 1) m89 = 1) : ¬ mB ^ e % d = 1 % d := by
  intro h
  have h1 := pm_ok m89 mB 50 e he
  have h2 : pm m89 mB 50 e % d = 1 % d := by
    rw [← Nat.mod_mod_of_dvd _ hd, h1, Nat.mod_mod_of_dvd _ hd, h]
  have h3 : d ∣ pm m89 mB 50 e - 1 := Nat.dvd_of_mod_eq_zero (Nat.sub_mod_eq_zero_of_mod_eq h2)
  have h4 : d ∣ 1 := by rw [← hn]; exact Nat.dvd_gcd h3 hd
  have := Nat.le_of_dvd (by decide) h4
  omega
theorem great {d : Nat} (hd : d ∣ m89) (d1 : 1 < d) : mF ≤ d := by
  have hF : mB ^ mF % d = 1 % d := by
    have h1 := pm_ok m89 mB 50 mF (by decide)
    rw [b_pow] at h1
    rw [← Nat.mod_mod_of_dvd _ hd, ← h1, Nat.mod_mod_of_dvd _ hd]
  have cop : ∀ x y, (mB * x) % d = (mB * y) % d → x % d = y % d := fun x y h => by
    have e : ∀ z, z % d = (mB ^ (mF - 1) * (mB * z)) % d := fun z => by
      rw [← Nat.mul_assoc, ← Nat.pow_succ, show (mF - 1).succ = mF from rfl, Nat.mul_mod, hF, ← Nat.mul_mod, Nat.one_mul]
    rw [e x, e y, Nat.mul_mod, h, ← Nat.mul_mod]
  have canc : ∀ i x y, (mB ^ i * x) % d = (mB ^ i * y) % d → x % d = y % d := by
    intro i
    induction i with
    | zero => intro x y h; simpa using h
    | succ i ih =>
      intro x y h
      refine ih x y (cop _ _ ?_)
      rw [← Nat.mul_assoc, ← Nat.mul_assoc, Nat.mul_comm mB, ← Nat.pow_succ]
      exact h
  have key : ∀ e, 0 < e → e < mF → ¬ mB ^ e % d = 1 % d := by
    intro e e0 e1 h
    have hg := pow_gcd e mF h hF
    generalize hgg : Nat.gcd e mF = g at hg
    have g1 : g ∣ mF := by rw [← hgg]; exact Nat.gcd_dvd_right e mF
    have g2 : g ≤ e := by rw [← hgg]; exact Nat.gcd_le_left mF e0
    have no : ∀ f, f < 2 ^ 50 → Nat.gcd (pm m89 mB 50 f - 1) m89 = 1 → ¬ g ∣ f := by
      rintro f hf hn ⟨k, rfl⟩
      exact no_one hd d1 hf hn (pow_one_mod hg k)
    have d_3 : 3 ∣ g := prime_dvd p_3 (by decide) (show g ∣ 3 * 18000120793271 from g1) (no _ (by decide) n_3)
    have d_89 : 89 ∣ g := prime_dvd p_89 (by decide) (show g ∣ 89 * 606745644717 from g1) (no _ (by decide) n_89)
    have d_353 : 353 ∣ g := prime_dvd p_353 (by decide) (show g ∣ 353 * 152975530821 from g1) (no _ (by decide) n_353)
    have d_397 : 397 ∣ g := prime_dvd p_397 (by decide) (show g ∣ 397 * 136021063929 from g1) (no _ (by decide) n_397)
    have d_683 : 683 ∣ g := prime_dvd p_683 (by decide) (show g ∣ 683 * 79063488111 from g1) (no _ (by decide) n_683)
    have d_2113 : 2113 ∣ g := prime_dvd p_2113 (by decide) (show g ∣ 2113 * 25556252901 from g1) (no _ (by decide) n_2113)
    have c_89 : 3 * 89 ∣ g := Nat.Coprime.mul_dvd_of_dvd_of_dvd (by decide +kernel) d_3 d_89
    have c_353 : 267 * 353 ∣ g := Nat.Coprime.mul_dvd_of_dvd_of_dvd (by decide +kernel) c_89 d_353
    have c_397 : 94251 * 397 ∣ g := Nat.Coprime.mul_dvd_of_dvd_of_dvd (by decide +kernel) c_353 d_397
    have c_683 : 37417647 * 683 ∣ g := Nat.Coprime.mul_dvd_of_dvd_of_dvd (by decide +kernel) c_397 d_683
    have c_2113 : 25556252901 * 2113 ∣ g := Nat.Coprime.mul_dvd_of_dvd_of_dvd (by decide +kernel) c_683 d_2113
    have g0 : 0 < g := by rw [← hgg]; exact Nat.gcd_pos_of_pos_left _ e0
    have hle : mF ≤ g := Nat.le_of_dvd g0 c_2113
    exact Nat.not_lt_of_le (Nat.le_trans hle g2) e1
  refine holes d mF (fun i => mB ^ i % d) (fun i _ => Nat.mod_lt _ (Nat.lt_trans Nat.zero_lt_one d1)) (fun i j hi hj e => ?_)
  have half : ∀ i j, i < j → j < mF → mB ^ i % d = mB ^ j % d → False := by
    intro i j h1 h2 h3
    have h4 : (mB ^ i * 1) % d = (mB ^ i * mB ^ (j - i)) % d := by
      rw [Nat.mul_one, ← Nat.pow_add, Nat.add_sub_cancel' (Nat.le_of_lt h1)]
      exact h3
    exact key (j - i) (Nat.sub_pos_of_lt h1) (Nat.lt_of_le_of_lt (Nat.sub_le _ _) h2) (canc i _ _ h4).symm
  rcases Nat.lt_trichotomy i j with h | h | h
  · exact (half i j h hj e).elim
  · exact h
  · exact (half j i h hi e.symm).elim
theorem m89_coprime {n : Nat} (h0 : 0 < n) (h : n < m89) : Nat.gcd n m89 = 1 := by
  have hd := Nat.gcd_dvd_right n m89
  have hn := Nat.le_of_dvd h0 (Nat.gcd_dvd_left n m89)
  have hp := Nat.gcd_pos_of_pos_left m89 h0
  generalize Nat.gcd n m89 = g at *
  rcases Nat.lt_or_ge 1 g with g1 | g1
  · exfalso
    obtain ⟨k, hk⟩ := hd
    have hg := great ⟨k, hk⟩ g1
    rcases Nat.lt_or_ge 1 k with k1 | k1
    · have hk2 := great ⟨g, by rw [hk, Nat.mul_comm]⟩ k1
      have := Nat.mul_le_mul hg hk2
      rw [← hk] at this
      exact absurd this (by decide)
    · rcases Nat.eq_zero_or_pos k with z | z
      · rw [z, Nat.mul_zero] at hk; exact absurd hk (by decide)
      · have : k = 1 := by omega
        rw [this, Nat.mul_one] at hk
        omega
  · omega
end G
set_option Elab.async false
set_option linter.all false
set_option maxRecDepth 100000
namespace G
open PySem PySem.Spec PyProof.Rows L2 RZ
theorem scGreat : FnScope ["_law_feed_here", "_law_modulus", "_law_number", "_law_found"] ["_law_feed_here"] (defScope sGreat) := ⟨rfl, rfl, rfl, by decide +kernel, rfl, by decide +kernel, by decide +kernel⟩
theorem ne_f {x y : V} (h : x = y) : (!decide (x = y)) = false := by simp [h]
def spGreat : Sp := fun vs H Q _ => ∃ p : Addr, vs = [.ref p] ∧ FeedAt H p ∧ ∀ H' : Hp, FeedAt H' p → SameX p H H' → Q (.bl true) H'
section
variable {P : Program} {w : World} {K : PySem.W.Frag} {mg : Str → Option Value} {base : Heap}
theorem ok_great {f : Addr} {fd : FuncData} {k : Nat} (F : Fun K "_law_great_inverse" "_law_great_inverse" sGreat f fd) (B : Bn mg) (D_take : DefOk P w K mg base "_law_take" 1 ["_law_feed_here", "_law_many"] spTake) (D_inverse : DefOk P w K mg base "inverse" 1 ["number", "modulus"] spInverse) : FnOk P w K mg base CX0 2 f fd ["_law_feed_here"] spGreat := by
  refine F.ok scGreat (fun vs H Q E h => ?_) (fun cdv A outer s H vs Q E hr h => ?_)
  · obtain ⟨p, rfl, _⟩ := h
    rfl
  · obtain ⟨p, rfl, hF, q⟩ := h
    refine ⟨_, (pss_cons (ps_set (i := 1) scGreat.nd rfl (Or.inl rfl) (pe_op op_sub (pe_op op_mulW (pe_op op_pow pe_int pe_int) (pe_op op_pow pe_int pe_int)) pe_int))
      (pss_cons (ps_set (i := 2) scGreat.nd rfl (Or.inl rfl) (pe_op op_add pe_int (pe_callD D_take hr (pa_cons (pv 0) (pa_cons (pe_op op_pow pe_int pe_int) pa_nil)))))
      (pss_cons (ps_set (i := 3) scGreat.nd rfl (Or.inl rfl) (pe_callD D_inverse hr (pa_cons (pv 2) (pa_cons (pv 1) pa_nil))))
      (pss_cons (ps_if (PW.pt (pw_or (pt_not (pt_val (pe_callB call_isi (by rfl) B.isinstance (by decide +kernel) (pa_cons (pv 3) (pa_cons (pe_bltn (v := .ty "int") (u := .type "int") (by rfl) B.int (by decide +kernel) rfl) pa_nil))))) (pw_or (pt_not (pt_chain op_lt op_lt pe_int (pv 3) (pv 1))) (pw_or1 (pt_cmpR op_ne (pe_op op_mod (pe_callTy call_int1 (by rfl) B.int (by decide +kernel) (pa_cons (pe_op op_mulW (pv 3) (pv 2)) pa_nil)) (pv 1)) pe_int (nomark _)))))) (pss_one (ps_ret pe_bl)) pss_nil)
      (pss_one (ps_ret (pe_cmpR op_isN (pe_callD D_inverse hr (pa_cons (pe_op op_mulW pe_int (pv 2)) (pa_cons (pe_op op_pow pe_int pe_int) pa_nil))) pe_non (nomark _)))))))), ?_⟩
    refine ⟨_, _, rfl, rfl, ⟨by decide, by decide, by decide⟩, _, _, rfl, rfl, ⟨by decide, by decide, by decide⟩, _, _, rfl, rfl, (by show CMulW ((2 : Int) ^ 44) ((2 : Int) ^ 45); exact mw (by decide) (by decide)), _, _, rfl, rfl, ?_⟩
    dsimp only [gName]
    rw [show (2 : Int) ^ (44 : Int).toNat * 2 ^ (45 : Int).toNat - 1 = 618970019642690137449562111 from by decide]
    refine ⟨_, rfl, _, _, rfl, rfl, ⟨by decide, by decide, by decide⟩, p, _, rfl, (by decide), (by decide +kernel), hF, fun H1 r r0 r1 hF1 sm1 => ⟨_, _, rfl, rfl, ?_⟩⟩
    have r1' : r < 100000000000000000000 := r1
    have cop : ∀ x : Int, 0 < x → x < 618970019642690137449562111 → Int.gcd x 618970019642690137449562111 = 1 := fun x h1 h2 => by
      have := m89_coprime (n := x.natAbs) (by omega) (by show x.natAbs < 618970019642690137449562111; omega)
      exact this
    refine ⟨_, rfl, _, rfl, 2 + r, 618970019642690137449562111, rfl, (by decide), (by decide), fun t H2 s2 g t0 t1 td => ?_, fun H2 s2 g => (g (cop _ (by omega) (by omega))).elim⟩
    have tpos : 0 < t := by
      rcases Int.lt_or_eq_of_le t0 with h | h
      · exact h
      · subst h
        obtain ⟨x, hx⟩ := td
        omega
    refine ⟨_, rfl, _, _, _, _, true, rfl, .ty _, .base (.int _), kit (by decide +kernel), _, rfl, ifF rfl ?_⟩
    refine ⟨_, rfl, _, _, rfl, rfl, _, rfl, ?_⟩
    refine ifT (decide_eq_true tpos) ?_
    refine ⟨_, rfl, _, _, rfl, rfl, _, rfl, ?_⟩
    refine ifF (by rw [decide_eq_true t1]; rfl) ?_
    have er : t * (2 + r) % 618970019642690137449562111 = 1 := by
      obtain ⟨x, hx⟩ := td
      have : t * (2 + r) = 1 + 618970019642690137449562111 * x := by omega
      rw [this, Int.add_mul_emod_self_left]
      rfl
    refine ⟨_, rfl, _, rfl, _, _, rfl, rfl, mwM (by omega) (by omega), .inl ⟨_, rfl, _, rfl, _, _, rfl, rfl, (by show (0 : Int) < 618970019642690137449562111; decide), rfl, _, rfl, ?_⟩⟩
    refine ifF (ne_f (congrArg V.int er)) ?_
    refine ⟨_, rfl, _, _, rfl, rfl, mwM (by decide) (by omega), _, _, rfl, rfl, ⟨by decide, by decide, by decide⟩, 2 * (2 + r), 1000000000000000000000000, rfl, (by decide), (by decide), fun t H2 s2 g t0 t1 td => ?_, fun H3 s3 g => ?_⟩
    · exfalso
      have h2 : (2 : Int) ∣ 1 := by
        obtain ⟨x, hx⟩ := td
        exact ⟨t * (2 + r) - 500000000000000000000000 * x, by grind⟩
      exact absurd h2 (by decide)
    · refine ⟨rfl, ?_⟩
      have hF3 : FeedAt H3 p := (hF1.same s2).same s3
      exact q _ hF3 ((sm1.trans (.of s2)).trans (.of s3))
end
end G
set_option Elab.async false
set_option linter.all false
set_option maxRecDepth 100000
namespace G
open PySem PySem.Spec PyProof.Rows L2 RZ
abbrev NL : List Str := ["_law_script", "_law_feed_here", "_law_turn", "_law_scale", "_law_one", "_law_other", "_law_modulus", "_law_number", "_law_due", "_law_k"]
theorem scLaw : FnScope ["_law_script", "_law_feed_here", "_law_turn", "_law_scale", "_law_one", "_law_other", "_law_modulus", "_law_number", "_law_due", "_law_k"] ["_law_script"] (defScope sLaw) := ⟨rfl, rfl, rfl, by decide +kernel, rfl, by decide +kernel, by decide +kernel⟩
def spLaw (K : PySem.W.Frag) : Sp := fun vs H Q _ => ∃ (a : Addr) (ns : List Int), vs = [.ref a] ∧ SqL K H a (ns.map V.int) ∧ ns.length ≤ 63 ∧ ∀ H', Q (.bl true) H'
/-- two lists of ints -/
theorem EqV.ints {K : PySem.W.Frag} {H : Hp} {a b : Addr} {ns : List Int} (h1 : H a = some (.lst (ns.map V.int))) (h2 : H b = some (.lst (ns.map V.int))) (hl : ns.length ≤ 1000) : EqV K H 2 (.ref a) (.ref b) := by
  refine .inr ⟨a, b, _, _, rfl, rfl, .inl ⟨h1, h2⟩, rfl, by rw [List.length_map]; exact hl, fun i x y hx hy => ?_⟩
  rw [hx] at hy
  cases hy
  rw [List.getElem?_map] at hx
  cases e : ns[i]? with
  | none => rw [e] at hx; cases hx
  | some u => rw [e] at hx; cases hx; exact .inl ⟨rfl, rfl⟩
theorem lg {n : Int} (h : n.natAbs < 18446744073709551616) : n.natAbs.log2 < 9000 := Nat.lt_of_lt_of_le (PySem.Flt.log2_lt_of (by decide) (show n.natAbs < 2 ^ 64 from h)) (by decide)
section
variable {P : Program} {w : World} {K : PySem.W.Frag} {mg : Str → Option Value} {base : Heap}
theorem ok_law {f : Addr} {fd : FuncData} (F : Fun K "law" "law" sLaw f fd) (B : Bn mg) (D_feed : DefOk P w K mg base "_law_feed" 1 ["_law_script"] (spFeed K)) (D_take : DefOk P w K mg base "_law_take" 1 ["_law_feed_here", "_law_many"] spTake) (D_same : DefOk P w K mg base "_law_same" 3 ["_law_found", "_law_due"] (spSame K 2))
    (D_common : DefOk P w K mg base "common" 1 ["one", "other"] spCommon) (D_gcd : DefOk P w K mg base "_law_gcd" 1 ["_law_one", "_law_other"] spCommon) (D_inverse : DefOk P w K mg base "inverse" 1 ["number", "modulus"] spInverse) (D_great : DefOk P w K mg base "_law_great_inverse" 2 ["_law_feed_here"] spGreat) : FnOk P w K mg base CX0 4 f fd ["_law_script"] (spLaw K) := by
  refine F.ok scLaw (fun vs H Q E h => ?_) (fun cdv A outer s H vs Q E hr h => ?_)
  · obtain ⟨a, ns, rfl, _⟩ := h
    rfl
  · obtain ⟨a, ns, rfl, hS, hl, q⟩ := h
    have hr1 : Room 1 _ := hr.mono (by decide)
    have hr2 : Room 2 _ := hr.mono (by decide)
    refine ⟨_, (pss_cons (ps_set (i := 1) scLaw.nd rfl (Or.inl rfl) (pe_callD D_feed hr1 (pa_cons (pv 0) pa_nil)))
      (pss_cons (ps_for PassesOwn.never rfl (pi_range1 (by rfl) B.range (pa_cons pe_int pa_nil)) (pg_name (i := 2) scLaw.nd rfl (Or.inl rfl)) (pss_cons (ps_set (i := 3) scLaw.nd rfl (Or.inl rfl) (pe_op op_add pe_int (pe_callD D_take hr1 (pa_cons (pv 1) (pa_cons pe_int pa_nil)))))
      (pss_cons (ps_set (i := 4) scLaw.nd rfl (Or.inl rfl) (pe_op op_mulW (pv 3) (pe_op op_sub (pe_callD D_take hr1 (pa_cons (pv 1) (pa_cons pe_int pa_nil))) pe_int)))
      (pss_cons (ps_set (i := 5) scLaw.nd rfl (Or.inl rfl) (pe_op op_mulW (pv 3) (pe_op op_sub (pe_callD D_take hr1 (pa_cons (pv 1) (pa_cons (pe_ix ix_list (pe_lst (pa_cons pe_int (pa_cons pe_int pa_nil))) (pe_callD D_take hr1 (pa_cons (pv 1) (pa_cons pe_int pa_nil))) (fun _ _ => rfl)) pa_nil))) pe_int)))
      (pss_cons (ps_if (pt_not (pt_val (pe_callD D_same hr (pa_cons (pe_lst (pa_cons (pe_callD D_common hr1 (pa_cons (pv 4) (pa_cons (pv 5) pa_nil))) (pa_cons (pe_callD D_common hr1 (pa_cons (pv 5) (pa_cons (pv 4) pa_nil))) pa_nil))) (pa_cons (pe_op op_rep (pe_lst (pa_cons (pe_callD D_gcd hr1 (pa_cons (pv 4) (pa_cons (pv 5) pa_nil))) pa_nil)) pe_int) pa_nil))))) (pss_one (ps_ret pe_bl)) pss_nil)
      (pss_cons (ps_set (i := 6) scLaw.nd rfl (Or.inl rfl) (pe_op op_add pe_int (pe_callD D_take hr1 (pa_cons (pv 1) (pa_cons pe_int pa_nil)))))
      (pss_cons (ps_set (i := 7) scLaw.nd rfl (Or.inl rfl) (pe_op op_sub (pe_callD D_take hr1 (pa_cons (pv 1) (pa_cons pe_int pa_nil))) pe_int))
      (pss_cons (ps_set (i := 8) scLaw.nd rfl (Or.inl rfl) pe_non)
      (pss_cons (ps_for PassesOwn.never rfl (pi_range1 (by rfl) B.range (pa_cons (pv 6) pa_nil)) (pg_name (i := 9) scLaw.nd rfl (Or.inl rfl)) (pss_one (ps_if (pt_cmpR op_eq (pe_op op_mod (pe_op op_mulW (pv 7) (pe_callTy call_int1 (by rfl) B.int (by decide +kernel) (pa_cons (pv 9) pa_nil))) (pv 6)) pe_int (nomark _)) (pss_one (ps_set (i := 8) scLaw.nd rfl (Or.inl rfl) (pv 9))) pss_nil)))
      (pss_one (ps_if (pt_not (pt_val (pe_callD D_same hr (pa_cons (pe_callD D_inverse hr1 (pa_cons (pv 7) (pa_cons (pv 6) pa_nil))) (pa_cons (pv 8) pa_nil))))) (pss_one (ps_ret pe_bl)) pss_nil)))))))))))
      (pss_one (ps_ret (pe_and (pe_callD D_great hr2 (pa_cons (pv 1) pa_nil)) (pe_one (pe_callD D_same hr (pa_cons (pe_lst (pa_cons (pe_callD D_common hr1 (pa_cons pe_int (pa_cons pe_int pa_nil))) (pa_cons (pe_callD D_common hr1 (pa_cons pe_int (pa_cons (pe_un un_neg pe_int) pa_nil))) pa_nil))) (pa_cons (pe_lst (pa_cons pe_int (pa_cons pe_int pa_nil))) pa_nil))))))))), ?_⟩
    refine ⟨_, rfl, a, ns, rfl, hS, fun H1 p s1 np hF1 => ?_⟩
    refine ⟨6, rfl, by decide, by decide, for_range (n := 6) (fun i σ H' => ∃ x2 x3 x4 x5 x6 x7 x8 x9, σ = [some (.ref a), some (.ref p), x2, x3, x4, x5, x6, x7, x8, x9] ∧ FeedAt H' p) ⟨_, _, _, _, _, _, _, _, rfl, hF1⟩ ?_ ?_⟩
    · rintro i σ H2 hi ⟨x2, x3, x4, x5, x6, x7, x8, x9, rfl, hF2⟩
      refine ⟨_, rfl, p, 50, rfl, by decide, by decide +kernel, hF2, fun H3 r3 a3 b3 hF3 sm3 => ⟨_, _, rfl, rfl, ?_⟩⟩
      refine ⟨_, rfl, _, rfl, p, 20001, rfl, by decide, by decide +kernel, hF3, fun H4 r4 a4 b4 hF4 sm4 => ⟨_, _, rfl, rfl, _, _, rfl, rfl, mw (by omega) (by omega), ?_⟩⟩
      refine ⟨_, rfl, _, rfl, (by show 2 ≤ sizeLine; decide), fun l5 n5 => ⟨_, rfl, p, 2, rfl, by decide, by decide +kernel, hF4.same (same_upd n5), fun H6 r6 a6 b6 hF6 sm6 => ?_⟩⟩
      have n5p : l5 ≠ p := by
        obtain ⟨o, ho⟩ := hF4.some
        exact (ne_of_none ho n5).symm
      have h6 := sm6 _ _ n5p upd_same
      obtain ⟨v, hv, v0, v1⟩ : ∃ v : Int, atI [V.int 7, V.int 20001] r6 = some (V.int v) ∧ 0 < v ∧ v ≤ 20001 := by
        rcases (by omega : r6 = 0 ∨ r6 = 1) with e | e
        · subst e; exact ⟨7, rfl, by decide, by decide⟩
        · subst e; exact ⟨20001, rfl, by decide, by decide⟩
      refine ⟨l5, _, _, _, rfl, rfl, SqL.of h6, hv, p, v, rfl, v0, ?_, hF6, fun H7 r7 a7 b7 hF7 sm7 => ⟨_, _, rfl, rfl, _, _, rfl, rfl, mw (by omega) (by omega), ?_⟩⟩
      · exact lg (by omega)
      dsimp only [gName]
      generalize hone : (1 + r3) * (r4 - 10000) = one
      generalize hoth : (1 + r3) * (r7 - 3) = oth
      refine ⟨_, rfl, _, rfl, one, oth, rfl, _, rfl, _, rfl, oth, one, rfl, (by show 2 ≤ sizeLine; decide), fun l8 n8 => ?_⟩
      refine ⟨_, rfl, _, rfl, one, oth, rfl, (by show 1 ≤ sizeLine; decide), fun l9 n9 => ⟨l9, 2, _, rfl, rfl, upd_same, by decide, by decide, by show 1 * 2 ≤ sizeLine; decide, fun l10 n10 => ?_⟩⟩
      have s8 : Same H7 (upd (upd (upd H7 l8 (.lst [.int (Int.gcd one oth), .int (Int.gcd oth one)])) l9 (.lst [.int (Int.gcd one oth)])) l10 (.lst [.int (Int.gcd one oth), .int (Int.gcd one oth)])) := ((same_upd n8).trans (same_upd n9)).trans (same_upd n10)
      have e8 : (upd (upd (upd H7 l8 (.lst [.int (Int.gcd one oth), .int (Int.gcd oth one)])) l9 (.lst [.int (Int.gcd one oth)])) l10 (.lst [.int (Int.gcd one oth), .int (Int.gcd one oth)])) l8 = some (.lst ([(Int.gcd one oth : Int), (Int.gcd one oth : Int)].map V.int)) := by
        rw [((same_upd n9).trans (same_upd n10)) _ _ upd_same, Int.gcd_comm oth one]
        rfl
      refine ⟨_, _, rfl, EqV.ints e8 upd_same (by show 2 ≤ 1000; decide), fun H11 s11 => ⟨true, rfl, ifF rfl ?_⟩⟩
      have hF11 : FeedAt H11 p := (hF7.same s8).same s11
      refine ⟨_, rfl, p, 399, rfl, by decide, by decide +kernel, hF11, fun H12 r12 a12 b12 hF12 sm12 => ⟨_, _, rfl, rfl, ?_⟩⟩
      refine ⟨_, rfl, p, 2001, rfl, by decide, by decide +kernel, hF12, fun H13 r13 a13 b13 hF13 sm13 => ⟨_, _, rfl, rfl, ?_⟩⟩
      dsimp only [gName]
      generalize hmo : 2 + r12 = mo
      generalize hnu : r13 - 1000 = nu
      refine ⟨_, rfl, mo, rfl, by omega, by omega, for_range (lo := 0) (n := mo.toNat) (fun j σ H' => H' = H13 ∧ ∃ (due x9 : Option V), σ = [some (.ref a), some (.ref p), some (.int (0 + i)), some (.int (1 + r3)), some (.int one), some (.int oth), some (.int mo), some (.int nu), due, x9] ∧ ((due = some .non ∧ ∀ k : Int, 0 ≤ k → k < j → nu * k % mo ≠ 1) ∨ ∃ k : Int, due = some (.int k) ∧ 0 ≤ k ∧ k < mo ∧ nu * k % mo = 1)) ⟨rfl, _, _, rfl, .inl ⟨rfl, fun k h1 h2 => by omega⟩⟩ ?_ ?_⟩
      · rintro j σ H' hj ⟨rfl, due, x9, rfl, hd⟩
        refine ⟨_, rfl, _, rfl, .inl ⟨_, rfl, _, _, rfl, rfl, mw (by omega) (by omega), _, rfl, _, _, rfl, rfl, (by show 0 < mo; omega), rfl, _, rfl, ?_⟩⟩
        refine ite2 (fun h => ?_) (fun h => ?_)
        · have h1 : nu * (0 + (j : Int)) % mo = 1 := by simpa using h
          refine ⟨_, rfl, rfl, _, _, rfl, .inr ⟨_, rfl, by omega, by omega, h1⟩⟩
        · have h1 : nu * (0 + (j : Int)) % mo ≠ 1 := by simpa using h
          refine ⟨rfl, _, _, rfl, ?_⟩
          rcases hd with ⟨e, hd⟩ | hd
          · refine .inl ⟨e, fun k h2 h3 => ?_⟩
            rcases Decidable.em (k = j) with ek | ek
            · rw [ek]
              simpa using h1
            · exact hd k h2 (by omega)
          · exact .inr hd
      · rintro σ H' ⟨rfl, due, x9, rfl, hd⟩
        have mo2 : 2 ≤ mo := by omega
        have one1 : ∀ k : Int, nu * k % mo = 1 ↔ mo ∣ k * nu - 1 := fun k => by
          rw [Int.mul_comm nu k]
          constructor
          · intro h
            exact ⟨k * nu / mo, by have := Int.emod_add_mul_ediv (k * nu) mo; omega⟩
          · rintro ⟨x, hx⟩
            have : k * nu = 1 + mo * x := by omega
            rw [this, Int.add_mul_emod_self_left]
            exact Int.emod_eq_of_lt (by decide) (by omega)
        have fin : ∀ (v : V) (dv : V) (H2 : Hp), Same H' H2 → flat v = true → v = dv → EqV K H2 2 v dv := fun v dv H2 _ h1 h2 => .inl ⟨h1, h2⟩
        refine ⟨_, rfl, _, rfl, nu, mo, rfl, mo2, by omega, fun t H14 s14 g t0 t1 td => ?_, fun H14 s14 g => ?_⟩
        · obtain ⟨k, rfl, k0, k1, hk⟩ : ∃ k : Int, due = some (.int k) ∧ 0 ≤ k ∧ k < mo ∧ nu * k % mo = 1 := by
            rcases hd with ⟨e, hd⟩ | hd
            · exact absurd ((one1 t).mpr td) (hd t t0 (by omega))
            · exact hd
          have ek : k = t := by
            obtain ⟨x, hx⟩ := td
            obtain ⟨y, hy⟩ := (one1 k).mp hk
            have h1 : mo ∣ k - t := ⟨t * y - k * x, by grind⟩
            have h2 : k - t = 0 := Int.eq_zero_of_dvd_of_natAbs_lt_natAbs h1 (by omega)
            omega
          subst ek
          refine ⟨_, rfl, _, _, rfl, fin _ _ _ s14 rfl rfl, fun H15 s15 => ⟨true, rfl, ifF rfl ?_⟩⟩
          exact ⟨_, _, _, _, _, _, _, _, rfl, (hF13.same s14).same s15⟩
        · obtain rfl : due = some .non := by
            rcases hd with ⟨e, _⟩ | ⟨k, _, _, _, hk⟩
            · exact e
            · exfalso
              apply g
              obtain ⟨y, hy⟩ := (one1 k).mp hk
              have d1 : ((Int.gcd nu mo : Nat) : Int) ∣ 1 := by
                obtain ⟨u, hu⟩ := Int.gcd_dvd_left nu mo
                obtain ⟨v, hv⟩ := Int.gcd_dvd_right nu mo
                exact ⟨k * u - v * y, by grind⟩
              have := Int.natCast_dvd_natCast.mp (show ((Int.gcd nu mo : Nat) : Int) ∣ ((1 : Nat) : Int) from d1)
              exact Nat.dvd_one.mp this
          refine ⟨_, rfl, _, _, rfl, fin _ _ _ s14 rfl rfl, fun H15 s15 => ⟨true, rfl, ifF rfl ?_⟩⟩
          exact ⟨_, _, _, _, _, _, _, _, rfl, (hF13.same s14).same s15⟩
    · rintro σ H' ⟨x2, x3, x4, x5, x6, x7, x8, x9, rfl, hF⟩
      refine ⟨_, rfl, p, rfl, hF, fun H2 hF2 sm2 => ⟨true, rfl, ?_⟩⟩
      refine ifT rfl ?_
      refine ⟨0, 0, rfl, _, rfl, 0, -6, rfl, (by show 2 ≤ sizeLine; decide), fun l1 n1 => ⟨(by show 2 ≤ sizeLine; decide), fun l2 n2 => ?_⟩⟩
      refine ⟨_, _, rfl, EqV.ints (ns := [0, 6]) ?_ upd_same (by decide), fun H3 s3 => q _⟩
      exact (same_upd n2) _ _ upd_same
end
end G
set_option Elab.async false
set_option linter.all false
set_option maxRecDepth 100000
namespace G
open PySem PySem.Spec PyProof.Rows L2 RZ
/-! ### what the top has written -/
def TopFn (K : PySem.W.Frag) (x : Str) (st : Stmt) : Prop := ∃ (f : Addr) (oc kV dc pm cd ct : Value) (od an : Option Addr) (sl : Array (Option Value)), PySem.W.nsIn K mainGlobals x = some (some (.ref f)) ∧ K.lookup f = some ⟨oc, od, .func (PySem.W.fnOf x x (defArgs st) (defBody st) (defScope st) .none kV dc pm an cd ct), sl⟩ ∧ PySem.W.codeIn K cd x = true ∧ PySem.W.keepIn K (.ref f) = true
theorem TopFn.mk {K : PySem.W.Frag} {x : Str} {st : Stmt} {f : Addr} {oc kV dc pm cd ct : Value} {od an : Option Addr} {sl : Array (Option Value)} (a : PySem.W.nsIn K mainGlobals x = some (some (.ref f))) (l : K.lookup f = some ⟨oc, od, .func (PySem.W.fnOf x x (defArgs st) (defBody st) (defScope st) .none kV dc pm an cd ct), sl⟩) (c : PySem.W.codeIn K cd x = true) (k : PySem.W.keepIn K (.ref f) = true) : TopFn K x st := ⟨f, oc, kV, dc, pm, cd, ct, od, an, sl, a, l, c, k⟩
theorem TopFn.get {K : PySem.W.Frag} {x : Str} {st : Stmt} {h : Heap} {mg : Str → Option Value} (T : TopFn K x st) (X : K.In h) (G : h.Ns mainGlobals mg) : ∃ (f : Addr) (fd : FuncData), Fun K x x st f fd ∧ mg x = some (.ref f) := by
  obtain ⟨f, oc, kV, dc, pm, cd, ct, od, an, sl, a, l, c, k⟩ := T
  exact ⟨f, _, fun_mk (st := st) l c k, PySem.W.mg_of X G a⟩
theorem all_mk {l : PySem.W.OpenLaw} {w : World} {K : PySem.W.Frag} {h : Heap} {mg : Str → Option Value} {fa : Addr} (X : K.In h) (G : h.Ns mainGlobals mg) (hfa : mg "law" = some (.ref fa))
    (t_common : TopFn K "common" sCommon) (t_inverse : TopFn K "inverse" sInverse) (t_feed : TopFn K "_law_feed" sFeed) (t_take : TopFn K "_law_take" sTake) (t_same : TopFn K "_law_same" sSame) (t_gcd : TopFn K "_law_gcd" sGcd) (t_great : TopFn K "_law_great_inverse" sGreat) (t_law : TopFn K "law" sLaw)
    (z_abs : PySem.W.nsIn K mainGlobals "abs" = some none) (z_len : PySem.W.nsIn K mainGlobals "len" = some none) (z_int : PySem.W.nsIn K mainGlobals "int" = some none) (z_list : PySem.W.nsIn K mainGlobals "list" = some none) (z_isi : PySem.W.nsIn K mainGlobals "isinstance" = some none) (z_bool : PySem.W.nsIn K mainGlobals "bool" = some none) (z_str : PySem.W.nsIn K mainGlobals "str" = some none) (z_tuple : PySem.W.nsIn K mainGlobals "tuple" = some none) (z_all : PySem.W.nsIn K mainGlobals "all" = some none) (z_zip : PySem.W.nsIn K mainGlobals "zip" = some none) (z_range : PySem.W.nsIn K mainGlobals "range" = some none) :
    ∃ fd : FuncData, (∀ (s : Shared) (v : Value), BindsTo s fd ⟨[v], []⟩ [("_law_script", v)]) ∧ ∀ base : Heap, K.In base → base.Ns mainGlobals mg → FnOk l.prog w K mg base CX0 4 fa fd ["_law_script"] (spLaw K) := by
  have nn := fun {x : Str} (z : PySem.W.nsIn K mainGlobals x = some none) => PySem.W.mg_none_of X G z
  have B : Bn mg := ⟨nn z_abs, nn z_len, nn z_int, nn z_list, nn z_isi, nn z_bool, nn z_str, nn z_tuple, nn z_all, nn z_zip, nn z_range⟩
  obtain ⟨f1, fd1, F1, m1⟩ := t_common.get X G
  obtain ⟨f2, fd2, F2, m2⟩ := t_inverse.get X G
  obtain ⟨f3, fd3, F3, m3⟩ := t_feed.get X G
  obtain ⟨f4, fd4, F4, m4⟩ := t_take.get X G
  obtain ⟨f5, fd5, F5, m5⟩ := t_same.get X G
  obtain ⟨f6, fd6, F6, m6⟩ := t_gcd.get X G
  obtain ⟨f7, fd7, F7, m7⟩ := t_great.get X G
  have b1 := F1.binds (ps := ["one", "other"]) fun _ _ _ _ _ _ us hl => match us, hl with | [_, _], _ => rfl
  have b2 := F2.binds (ps := ["number", "modulus"]) fun _ _ _ _ _ _ us hl => match us, hl with | [_, _], _ => rfl
  have b3 := F3.binds (ps := ["_law_script"]) fun _ _ _ _ _ _ us hl => match us, hl with | [_], _ => rfl
  have b4 := F4.binds (ps := ["_law_feed_here", "_law_many"]) fun _ _ _ _ _ _ us hl => match us, hl with | [_, _], _ => rfl
  have b5 := F5.binds (ps := ["_law_found", "_law_due"]) fun _ _ _ _ _ _ us hl => match us, hl with | [_, _], _ => rfl
  have b6 := F6.binds (ps := ["_law_one", "_law_other"]) fun _ _ _ _ _ _ us hl => match us, hl with | [_, _], _ => rfl
  have b7 := F7.binds (ps := ["_law_feed_here"]) fun _ _ _ _ _ _ us hl => match us, hl with | [_], _ => rfl
  obtain ⟨f8, oc, kV, dc, pm, cd, ct, od, an, sl, a8, l8, c8, k8⟩ := t_law
  have e := hfa.symm.trans (PySem.W.mg_of X G a8)
  cases e
  refine ⟨PySem.W.fnOf "law" "law" (defArgs sLaw) (defBody sLaw) (defScope sLaw) .none kV dc pm an cd ct, fun s v => .of_eq rfl, fun base _ _ => ?_⟩
  have D4 : DefOk l.prog w K mg base "_law_take" 1 ["_law_feed_here", "_law_many"] spTake := ⟨_, _, ok_take F4 B, m4, F4.kp, b4⟩
  have D2 : DefOk l.prog w K mg base "inverse" 1 ["number", "modulus"] spInverse := ⟨_, _, ok_inverse F2, m2, F2.kp, b2⟩
  exact ok_law (fun_mk (st := sLaw) l8 c8 k8) B ⟨_, _, ok_feed F3 B, m3, F3.kp, b3⟩ D4 ⟨_, _, ok_same F5 B m5 b5 2, m5, F5.kp, b5⟩ ⟨_, _, ok_common F1 B.abs, m1, F1.kp, b1⟩ ⟨_, _, ok_gcd F6 B, m6, F6.kp, b6⟩ D2 ⟨_, _, ok_great (k := 0) F7 B D4 D2, m7, F7.kp, b7⟩
theorem walk {l : PySem.W.OpenLaw} {q : Program} {loose : List Str} {XP : (Str → Option Value) → Heap → Prop} {YP : World → Heap → Prop} {d : DefRec} {K : Params → PySem.W.Frag} (hn : l.most = some 63) (hdf : d.params.defaults = [])
    (hY : ∀ (w : World) (h : Heap), YP w h → (K w.params).In h)
    (F : ∀ (w : World) (mg : Str → Option Value) (fa : Addr) (h : Heap), (K w.params).In h → h.Ns mainGlobals mg → mg d.name = some (.ref fa) →
      ∃ fd : FuncData, (∀ (s : Shared) (u : Value), BindsTo s fd ⟨[u], []⟩ [("_law_script", u)]) ∧ ∀ base : Heap, (K w.params).In base → base.Ns mainGlobals mg → FnOk l.prog w (K w.params) mg base CX0 4 fa fd ["_law_script"] (spLaw (K w.params))) :
    PySem.W.WalkO q loose XP YP l.row.toRowW d [] (fun f vs => PySem.call f vs) :=
  L2.walk_of (n := 63) (k := 4) (x := "_law_script") (CX := fun _ => CX0) (sp := fun w => spLaw (K w.params)) hn (by decide) hdf ⟨rfl, by decide, by decide⟩ hY F (fun _ _ a ns hl _ hS => ⟨a, ns, rfl, hS, hl, fun _ => rfl⟩) fun _ _ _ _ _ z => z
end G
open PySem PySem.W PyProof.Rows in
set_option maxRecDepth 100000 in
set_option maxHeartbeats 0 in
theorem PySem.Challenge.cw_grainmeet_k01_common_divisors_and_invers_holds : PySem.Challenge.rw_grainmeet_k01_common_divisors_and_invers.Holds := by
  w_on; o_law; k_head; (case hw => w_witness2)
  k_fill
  refine G.walk (l := PySem.Challenge.rw_grainmeet_k01_common_divisors_and_invers) rfl rfl (fun w h Y => PySem.W.kIn_of Y) ?F
  case F =>
    intro w mg fa h KX GX hmg
    refine' G.all_mk KX GX hmg ?t1 ?t2 ?t3 ?t4 ?t5 ?t6 ?t7 ?t8 ?z1 ?z2 ?z3 ?z4 ?z5 ?z6 ?z7 ?z8 ?z9 ?z10 ?z11
    (case t1 => refine' G.TopFn.mk ?a ?l ?c ?k; (case a => k_is); (case l => k_is); (case c => k_is); (case k => k_is))
    (case t2 => refine' G.TopFn.mk ?a ?l ?c ?k; (case a => k_is); (case l => k_is); (case c => k_is); (case k => k_is))
    (case t3 => refine' G.TopFn.mk ?a ?l ?c ?k; (case a => k_is); (case l => k_is); (case c => k_is); (case k => k_is))
    (case t4 => refine' G.TopFn.mk ?a ?l ?c ?k; (case a => k_is); (case l => k_is); (case c => k_is); (case k => k_is))
    (case t5 => refine' G.TopFn.mk ?a ?l ?c ?k; (case a => k_is); (case l => k_is); (case c => k_is); (case k => k_is))
    (case t6 => refine' G.TopFn.mk ?a ?l ?c ?k; (case a => k_is); (case l => k_is); (case c => k_is); (case k => k_is))
    (case t7 => refine' G.TopFn.mk ?a ?l ?c ?k; (case a => k_is); (case l => k_is); (case c => k_is); (case k => k_is))
    (case t8 => refine' G.TopFn.mk ?a ?l ?c ?k; (case a => k_is); (case l => k_is); (case c => k_is); (case k => k_is))
    (case z1 => k_is)
    (case z2 => k_is)
    (case z3 => k_is)
    (case z4 => k_is)
    (case z5 => k_is)
    (case z6 => k_is)
    (case z7 => k_is)
    (case z8 => k_is)
    (case z9 => k_is)
    (case z10 => k_is)
    (case z11 => k_is)
