import PyProof.Rows.All
import Wide.All
import OpenK.AllK
import Wide.FinOn
import PyProof.ListStr
import PyProof.StrBlock2
import KE.Datum
import HandS.ForMost
import HandS.ForExc
import HandS.More
import HandS.Style
import HandS.SetFor
import HandS.IsInst
import HandS.TupAny
import HandS.Defaults
import HandS.Codes
import HandS.HotCalls
import KE.KExcIs
import PyProof.Seq
import PyProof.RangeIter
import HandS.Comp
import HandS.ExcField
import HandS.ExcIs
import HandS.ExcInit
import HandS.ExcCtx
import HandS.WordsExc
import KE.KIndexOf
import HandS.Strs
import HandS.DictComp
import HandS.Property
import KE.KStateDown
import HandS.Head0
import HandS.Head1
import HandS.Head2
import HandS.HeadEnd
import HandS.HeadHook1
import HandS.HeadHook2
import HandS.SortRule
import PyProof.Rows.SortKeyStr
import HandS.ForDict
import HandS.Walk
import KE.DataMinMax
import HandS.Deep
import HandS.TupLen
import HandS.Lambda
import HandS.SortKw
import KE.SortKeyHeap
import HandS.OwnEq
import KE.KNestM
import HandS.EndTab
import HandS.HeadWalk
import HandS.MakeKwOnly
import PySem.Challenge.RW_riverkeeps_k04_rows_told_back
set_option Elab.async false
set_option linter.all false
set_option maxRecDepth 100000
set_option maxHeartbeats 4000000
namespace RK
open PySem PySem.Spec PyProof.Rows L2

/-! ### readings that reckon by themselves -/
section
variable {X : Cx}
theorem peImp {e : Expr} {t t' : TE} (h : PE X e t) (w : ∀ σ H Q, t' σ H Q → t σ H Q) : PE X e t' := ⟨fun pins s σ H Q I q => h.run pins s σ H Q I (w _ _ _ q)⟩
theorem ptImp {e : Expr} {t t' : TT} (h : PT X e t) (w : ∀ σ H Q, t' σ H Q → t σ H Q) : PT X e t' := ⟨fun pins s σ H Q I q => h.run pins s σ H Q I (w _ _ _ q)⟩
theorem pwImp {e : Expr} {t t' : TT} (h : PW X e t) (w : ∀ σ H Q, t' σ H Q → t σ H Q) : PW X e t' := ⟨fun wh pins s σ H Q I q => h.run wh pins s σ H Q I (w _ _ _ q)⟩
theorem psImp {e : Stmt} {t t' : TS} (h : PS X e t) (w : ∀ D σ H, t' D σ H → t D σ H) : PS X e t' := ⟨fun pins s σ H D I q => h.run pins s σ H D I (w _ _ _ q)⟩
theorem piImp {tg e : Expr} {t t' : TI} (h : PI X tg e t) (w : ∀ σ H R, t' σ H R → t σ H R) : PI X tg e t' := ⟨fun pins s σ H R I q => h.run pins s σ H R I (w _ _ _ q)⟩
theorem piOr {tg e : Expr} {t u : TI} (h : PI X tg e t) (g : PI X tg e u) : PI X tg e (fun σ H R => t σ H R ∨ u σ H R) := ⟨fun pins s σ H R I q => q.elim (h.run pins s σ H R I) (g.run pins s σ H R I)⟩
theorem opImp {f : Value → Value → Sem Value} {r r' : R2} (h : OpR X f r) (w : ∀ x y H Q, r' x y H Q → r x y H Q) : OpR X f r' := fun pins s σ H x y v u Q I rx ry q => h pins s σ H x y v u Q I rx ry (w _ _ _ _ q)
theorem opOr {f : Value → Value → Sem Value} {r r' : R2} (h : OpR X f r) (h' : OpR X f r') : OpR X f (fun x y H Q => r x y H Q ∨ r' x y H Q) := fun pins s σ H x y v u Q I rx ry q =>
  q.elim (h pins s σ H x y v u Q I rx ry) (h' pins s σ H x y v u Q I rx ry)
theorem calImp {f : Value} {r r' : List V → Hp → VK → Prop} (h : CallR X f r) (w : ∀ xs H Q, r' xs H Q → r xs H Q) : CallR X f r' := fun pins s σ H xs us Q I rs q => h pins s σ H xs us Q I rs (w _ _ _ q)
theorem mtImp {id : String} {r r' : V → List V → Hp → VK → Prop} (h : MtR X id r) (w : ∀ x xs H Q, r' x xs H Q → r x xs H Q) : MtR X id r' := fun pins s σ H x xs v us Q I rx rs q => h pins s σ H x xs v us Q I rx rs (w _ _ _ _ q)

/-- a name -/
def xV (i : Nat) : TE := fun σ H Q => match σ[i]? with
  | some (some v) => Q v H
  | _ => False
theorem xv (i : Nat) {x : Str} {pos : Pos} (hN : X.N[i]? = some x := by rfl) (hv : Vis X.env.scope x := by first | exact Or.inl rfl | exact Or.inr (Or.inl rfl) | exact Or.inr (Or.inr rfl)) (hd : (x == ("__debug__" : Str)) = false := by decide)
    (hcd : (x == ("__classdict__" : Str)) = false := by decide) : PE X (.Name x pos) (xV i) := peImp (pe_var hN hv hd hcd) fun σ H Q h => by
  unfold xV at h
  split at h
  · exact ⟨_, ‹_›, h⟩
  · exact h.elim

/-! ### tests -/
def xT (t : TE) : TT := fun σ H Q => t σ H fun x H1 => match x with
  | .bl k => Q k H1
  | _ => False
theorem xT_eq (t : TE) : xT t = tB t := by
  funext σ H Q
  refine congrArg (t σ H) (funext fun x => funext fun H1 => propext ⟨fun h => ?_, fun ⟨c, e, h⟩ => ?_⟩)
  · cases x <;> first | exact ⟨_, rfl, h⟩ | exact h.elim
  · subst e; exact h
theorem xt {e : Expr} {t : TE} (h : PE X e t) (he : ∀ whole, isTrue e X.env whole = (do let v ← whole; standAt e.pos; holding [v] (truthy v)) := by intro _; rfl) : PT X e (xT t) := by
  rw [xT_eq]; exact pt_val h he
theorem xtc {op : CmpOp} {r : R2} {a b : Expr} {ta tb : TE} {pos : Pos} (ho : OpR X (compareOp op) r) (ha : PE X a ta) (hb : PE X b tb) (hm : behindInMarks op b = false) : PT X (.Compare a [op] [b] pos) (xT (tOp r ta tb)) := by
  rw [xT_eq]; exact pt_cmpR ho ha hb hm
theorem two_eq (c : Bool) (A B : Prop) : ((c = true → A) ∧ (c = false → B)) = (if c = true then A else B) := by
  cases c <;> simp
def xAnd (t u : TT) : TT := fun σ H Q => t σ H fun c H1 => (c = true → u σ H1 Q) ∧ (c = false → Q false H1)
def xOr (t u : TT) : TT := fun σ H Q => t σ H fun c H1 => (c = true → Q true H1) ∧ (c = false → u σ H1 Q)
theorem xAnd_eq (t u : TT) : xAnd t u = tAnd t u := by
  funext σ H Q; exact congrArg (t σ H) (funext fun c => funext fun H1 => two_eq c _ _)
theorem xOr_eq (t u : TT) : xOr t u = tOr t u := by
  funext σ H Q; exact congrArg (t σ H) (funext fun c => funext fun H1 => two_eq c _ _)
section
variable {a b : Expr} {rest : List Expr} {pos : Pos} {tA tB' : TT}
theorem xw_and (ha : PT X a tA) (hb : PW X (.BoolOp .And (b :: rest) pos) tB') : PW X (.BoolOp .And (a :: b :: rest) pos) (xAnd tA tB') := by rw [xAnd_eq]; exact pw_and ha hb
theorem xw_or (ha : PT X a tA) (hb : PW X (.BoolOp .Or (b :: rest) pos) tB') : PW X (.BoolOp .Or (a :: b :: rest) pos) (xOr tA tB') := by rw [xOr_eq]; exact pw_or ha hb
end
/-- values of and, or, not, by truth values -/
def xAndV (ta tb : TE) : TE := fun σ H Q => ta σ H fun x H1 => match x with
  | .bl c => (c = true → tb σ H1 Q) ∧ (c = false → Q (.bl false) H1)
  | _ => False
def xOrV (ta tb : TE) : TE := fun σ H Q => ta σ H fun x H1 => match x with
  | .bl c => (c = true → Q (.bl true) H1) ∧ (c = false → tb σ H1 Q)
  | _ => False
def xNotV (ta : TE) : TE := fun σ H Q => ta σ H fun x H1 => match x with
  | .bl c => Q (.bl (!c)) H1
  | _ => False
theorem xAndV_eq (ta tb : TE) : xAndV ta tb = tAndV ta tb := by
  funext σ H Q
  refine congrArg (ta σ H) (funext fun x => funext fun H1 => propext ⟨fun h => ?_, fun ⟨c, e, h⟩ => ?_⟩)
  · cases x <;> first | exact ⟨_, rfl, by rw [← two_eq]; exact h⟩ | exact h.elim
  · subst e; rw [← two_eq] at h; exact h
theorem xOrV_eq (ta tb : TE) : xOrV ta tb = tOrV ta tb := by
  funext σ H Q
  refine congrArg (ta σ H) (funext fun x => funext fun H1 => propext ⟨fun h => ?_, fun ⟨c, e, h⟩ => ?_⟩)
  · cases x <;> first | exact ⟨_, rfl, by rw [← two_eq]; exact h⟩ | exact h.elim
  · subst e; rw [← two_eq] at h; exact h
theorem xNotV_eq (ta : TE) : xNotV ta = tNotV ta := by
  funext σ H Q
  refine congrArg (ta σ H) (funext fun x => funext fun H1 => propext ⟨fun h => ?_, fun ⟨c, e, h⟩ => ?_⟩)
  · cases x <;> first | exact ⟨_, rfl, h⟩ | exact h.elim
  · subst e; exact h
section
variable {a b : Expr} {rest : List Expr} {pos : Pos} {ta tb : TE}
theorem xe_and (ha : PE X a ta) (hb : PE X (.BoolOp .And (b :: rest) pos) tb) : PE X (.BoolOp .And (a :: b :: rest) pos) (xAndV ta tb) := by rw [xAndV_eq]; exact pe_and ha hb
theorem xe_or (ha : PE X a ta) (hb : PE X (.BoolOp .Or (b :: rest) pos) tb) : PE X (.BoolOp .Or (a :: b :: rest) pos) (xOrV ta tb) := by rw [xOrV_eq]; exact pe_or ha hb
theorem xe_not (ha : PE X a ta) : PE X (.UnaryOp .Not a pos) (xNotV ta) := by rw [xNotV_eq]; exact pe_not ha
end
def xIf (t : TT) (ta tb : TE) : TE := fun σ H Q => t σ H fun c H1 => (c = true → ta σ H1 Q) ∧ (c = false → tb σ H1 Q)
theorem xIf_eq (t : TT) (ta tb : TE) : xIf t ta tb = tIf t ta tb := by
  funext σ H Q; exact congrArg (t σ H) (funext fun c => funext fun H1 => two_eq c _ _)
theorem xe_if {c a b : Expr} {tA : TT} {ta tb : TE} {pos : Pos} (hc : PT X c tA) (ha : PE X a ta) (hb : PE X b tb) : PE X (.IfExp c a b pos) (xIf tA ta tb) := by rw [xIf_eq]; exact pe_ifExp hc ha hb
def xIfS (c : TT) (t u : TS) : TS := fun D σ H => c σ H fun b H1 => (b = true → t D σ H1) ∧ (b = false → u D σ H1)
theorem xIfS_eq (c : TT) (t u : TS) : xIfS c t u = tIfS c t u := by
  funext D σ H; exact congrArg (c σ H) (funext fun c => funext fun H1 => two_eq c _ _)
theorem xs_if {c : Expr} {a b : List Stmt} {tc : TT} {t u : TS} {pos : Pos} (hc : PT X c tc) (ha : PSs X a t) (hb : PSs X b u) : PS X (.If c a b pos) (xIfS tc t u) := by rw [xIfS_eq]; exact ps_if hc ha hb

/-! ### operators, by what the two sides are -/
def mAdd (K : PySem.W.Frag) : R2 := fun x y H Q => match x, y with
  | .int i, .int j => Q (.int (i + j)) H
  | .str a, .str b => a.length + b.length ≤ sizeLine ∧ Q (.str (a ++ b)) H
  | .ref l, .ref b => (∃ xs zs, H l = some (.lst xs) ∧ H b = some (.lst zs) ∧ xs.length + zs.length ≤ sizeLine ∧ ∀ p, H p = none → Q (.ref p) (upd H p (.lst (xs ++ zs)))) ∨
      rCatA K (.ref l) (.ref b) H Q
  | _, _ => False
theorem xo_add : OpR X (binaryOp .Add) (mAdd X.K) := opImp (opOr op_add (opOr op_add_str (opOr op_cat op_catA))) fun x y H Q h => by
  unfold mAdd at h
  split at h
  · exact .inl ⟨_, _, rfl, rfl, h⟩
  · exact .inr (.inl ⟨_, _, rfl, rfl, h⟩)
  · rcases h with ⟨xs, zs, h1, h2, h3, h4⟩ | h
    · exact .inr (.inr (.inl ⟨_, _, xs, zs, rfl, rfl, h1, h2, h3, h4⟩))
    · exact .inr (.inr (.inr h))
  · exact h.elim
def mSub : R2 := fun x y H Q => match x, y with
  | .int i, .int j => Q (.int (i - j)) H
  | _, _ => False
theorem xo_sub : OpR X (binaryOp .Sub) mSub := opImp op_sub fun x y H Q h => by
  unfold mSub at h
  split at h
  · exact ⟨_, _, rfl, rfl, h⟩
  · exact h.elim
theorem op_mul_str : OpR X (binaryOp .Mult) (fun x y H Q => ∃ z i, x = .str z ∧ y = .int i ∧ PySem.MulOk z i ∧ Q (.str (PySem.Txt.mul z i)) H) := by
  intro pins s σ H x y v u Q I rx ry h
  obtain ⟨z, i, rfl, rfl, hz, q⟩ := h
  obtain ⟨t, rfl⟩ := rx
  obtain ⟨t', rfl⟩ := ry
  exact PySem.SB.mul hz fun t' k => ⟨.str (PySem.Txt.mul z i), H, I.tok _, ⟨_, rfl⟩, q⟩
def mMul : R2 := fun x y H Q => match x, y with
  | .int i, .int j => CMul i j ∧ Q (.int (i * j)) H
  | .str z, .int i => PySem.MulOk z i ∧ Q (.str (PySem.Txt.mul z i)) H
  | _, _ => False
theorem xo_mul : OpR X (binaryOp .Mult) mMul := opImp (opOr op_mul op_mul_str) fun x y H Q h => by
  unfold mMul at h
  split at h
  · exact .inl ⟨_, _, rfl, rfl, h⟩
  · exact .inr ⟨_, _, rfl, rfl, h⟩
  · exact h.elim
def mDiv : R2 := fun x y H Q => match x, y with
  | .int i, .int j => CDivN i j ∧ Q (.int (i.fdiv j)) H
  | _, _ => False
theorem xo_div : OpR X (binaryOp .FloorDiv) mDiv := opImp op_fdivN fun x y H Q h => by
  unfold mDiv at h
  split at h
  · exact ⟨_, _, rfl, rfl, h⟩
  · exact h.elim
def mMod : R2 := fun x y H Q => match x, y with
  | .int i, .int j => j ≠ 0 ∧ Q (.int (i.fmod j)) H
  | _, _ => False
theorem xo_mod : OpR X (binaryOp .Mod) mMod := opImp op_modN fun x y H Q h => by
  unfold mMod at h
  split at h
  · exact ⟨_, _, rfl, rfl, h⟩
  · exact h.elim
def mPow : R2 := fun x y H Q => match x, y with
  | .int i, .int j => CPow i j ∧ Q (.int (i ^ j.toNat)) H
  | _, _ => False
theorem xo_pow : OpR X (binaryOp .Pow) mPow := opImp op_pow fun x y H Q h => by
  unfold mPow at h
  split at h
  · exact ⟨_, _, rfl, rfl, h⟩
  · exact h.elim
def mCmp (p : Int → Int → Bool) : R2 := fun x y H Q => match x, y with
  | .int i, .int j => Q (.bl (p i j)) H
  | _, _ => False
theorem mCmp_of {f : Value → Value → Sem Value} {p : Int → Int → Bool} (h : OpR X f (rI0 fun i j => .bl (p i j))) : OpR X f (mCmp p) := opImp h fun x y H Q h => by
  unfold mCmp at h
  split at h
  · exact ⟨_, _, rfl, rfl, h⟩
  · exact h.elim
theorem xo_lt : OpR X (compareOp .Lt) (mCmp fun i j => decide (i < j)) := mCmp_of op_lt
theorem xo_le : OpR X (compareOp .LtE) (mCmp fun i j => decide (i ≤ j)) := mCmp_of op_le
theorem xo_gt : OpR X (compareOp .Gt) (mCmp fun i j => decide (j < i)) := mCmp_of op_gt
theorem xo_ge : OpR X (compareOp .GtE) (mCmp fun i j => decide (j ≤ i)) := mCmp_of op_ge
def mEq (K : PySem.W.Frag) : R2 := fun x y H Q => match x, y with
  | .int i, .int j => Q (.bl (decide (i = j))) H
  | .str i, .str j => Q (.bl (decide (i = j))) H
  | .bl i, .bl j => Q (.bl (decide (i = j))) H
  | .ref l, .ref b => rEqD K (.ref l) (.ref b) H Q
  | _, _ => scal x y = true ∧ Q (.bl (decide (x = y))) H
theorem xo_eq (hu : X.A.units + 64 < cLine) : OpR X (compareOp .Eq) (mEq X.K) := opImp (opOr op_eq (op_eqD hu)) fun x y H Q h => by
  unfold mEq at h
  split at h
  · rename_i i j
    exact .inl ⟨rfl, by rw [show decide (V.int i = V.int j) = decide (i = j) from by simp]; exact h⟩
  · rename_i i j
    exact .inl ⟨rfl, by rw [show decide (V.str i = V.str j) = decide (i = j) from by simp]; exact h⟩
  · rename_i i j
    exact .inl ⟨rfl, by rw [show decide (V.bl i = V.bl j) = decide (i = j) from by simp]; exact h⟩
  · exact .inr h
  · exact .inl h
def mNe (K : PySem.W.Frag) : R2 := fun x y H Q => match x, y with
  | .int i, .int j => Q (.bl (!decide (i = j))) H
  | .str i, .str j => Q (.bl (!decide (i = j))) H
  | .bl i, .bl j => Q (.bl (!decide (i = j))) H
  | .ref l, .ref b => rNeD K (.ref l) (.ref b) H Q
  | _, _ => scal x y = true ∧ Q (.bl (!decide (x = y))) H
theorem xo_ne (hu : X.A.units + 64 < cLine) : OpR X (compareOp .NotEq) (mNe X.K) := opImp (opOr op_ne (op_neD hu)) fun x y H Q h => by
  unfold mNe at h
  split at h
  · rename_i i j
    exact .inl ⟨rfl, by rw [show decide (V.int i = V.int j) = decide (i = j) from by simp]; exact h⟩
  · rename_i i j
    exact .inl ⟨rfl, by rw [show decide (V.str i = V.str j) = decide (i = j) from by simp]; exact h⟩
  · rename_i i j
    exact .inl ⟨rfl, by rw [show decide (V.bl i = V.bl j) = decide (i = j) from by simp]; exact h⟩
  · exact .inr h
  · exact .inl h
def mIs : R2 := fun x y H Q => match y with
  | .non => Q (.bl (decide (x = .non))) H
  | _ => False
theorem xo_is : OpR X (compareOp .Is) mIs := opImp op_isN fun x y H Q h => by
  unfold mIs at h
  split at h
  · exact ⟨rfl, h⟩
  · exact h.elim
def mIsNot : R2 := fun x y H Q => match y with
  | .non => Q (.bl (!decide (x = .non))) H
  | _ => False
theorem xo_isnot : OpR X (compareOp .IsNot) mIsNot := opImp op_notN fun x y H Q h => by
  unfold mIsNot at h
  split at h
  · exact ⟨rfl, h⟩
  · exact h.elim
/-- a list or a tuple that is read -/
def Sq (K : PySem.W.Frag) (H : Hp) (p : Addr) (xs : List V) : Prop := SqL K H p xs ∨ SqT K H p xs
def mIn (K : PySem.W.Frag) (neg : Bool) : R2 := fun x y H Q => match y with
  | .str z => ∃ c, x = .str ⟨#[c]⟩ ∧ Q (.bl (if neg then !decide (c ∈ z.cps.toList) else decide (c ∈ z.cps.toList))) H
  | .ref p => ∃ xs, Sq K H p xs ∧ flatV x = true ∧ xs.all flatV = true ∧ Q (.bl (if neg then !inV x xs else inV x xs)) H
  | _ => False
theorem xo_in : OpR X (compareOp .In) (mIn X.K false) := opImp (opOr op_in_sign op_in_seq) fun x y H Q h => by
  unfold mIn at h
  split at h
  · obtain ⟨c, rfl, h⟩ := h
    exact .inl ⟨c, _, rfl, rfl, h⟩
  · obtain ⟨xs, h1, h2, h3, h4⟩ := h
    exact .inr ⟨_, xs, rfl, h1, h2, h3, h4⟩
  · exact h.elim
theorem xo_notin : OpR X (compareOp .NotIn) (mIn X.K true) := opImp (opOr op_notIn_sign op_notIn_seq) fun x y H Q h => by
  unfold mIn at h
  split at h
  · obtain ⟨c, rfl, h⟩ := h
    exact .inl ⟨c, _, rfl, rfl, h⟩
  · obtain ⟨xs, h1, h2, h3, h4⟩ := h
    exact .inr ⟨_, xs, rfl, h1, h2, h3, h4⟩
  · exact h.elim

/-! ### built-ins -/
def mLen (K : PySem.W.Frag) : List V → Hp → VK → Prop := fun vs H Q => match vs with
  | [.str z] => z.length ≤ sizeLine ∧ Q (.int (z.length : Nat)) H
  | [.ref p] => ∃ xs, Sq K H p xs ∧ Q (.int (xs.length : Nat)) H
  | _ => False
theorem xc_len : CallR X (.builtin "len") (mLen X.K) := calImp (CallR.or call_len_str call_len_seq) fun xs H Q h => by
  unfold mLen at h
  split at h
  · exact .inl ⟨_, rfl, h.1, h.2⟩
  · obtain ⟨xs, h1, h2⟩ := h
    exact .inr ⟨_, xs, rfl, h1, h2⟩
  · exact h.elim
def mInt : List V → Hp → VK → Prop := fun vs H Q => match vs with
  | [.int i] => Q (.int i) H
  | [.bl k] => Q (.int (if k then 1 else 0)) H
  | _ => False
theorem xc_int : CallR X (.type "int") mInt := calImp call_int1 fun xs H Q h => by
  unfold mInt at h
  split at h
  · exact .inl ⟨_, rfl, h⟩
  · exact .inr ⟨_, rfl, h⟩
  · exact h.elim
def mStr : List V → Hp → VK → Prop := fun vs H Q => match vs with
  | [.int i] => i.natAbs.log2 < 1920 ∧ Q (.str (toString i)) H
  | _ => False
theorem xc_str : CallR X (.type "str") mStr := calImp call_str_int fun xs H Q h => by
  unfold mStr at h
  split at h
  · exact ⟨_, rfl, h.1, h.2⟩
  · exact h.elim
/-- the signs of a text, one by one -/
def signs (z : Str) : List V := z.cps.toList.map fun c => V.str ⟨#[c]⟩
end
end RK

namespace RK
open PySem PySem.Spec PyProof.Rows L2
section
variable {X : Cx}
/-! ### more built-ins -/
theorem vals_signs {z : Str} {acc : Array Value} (h : PySem.ItemsOf (PySem.SignAt z) acc z.cps.size) : Vals (signs z) acc.toList := by
  have hl : (signs z).length = acc.toList.length := by
    unfold signs
    rw [List.length_map, Array.length_toList, Array.length_toList]
    exact h.1.symm
  have go : ∀ (xs : List V) (us : List Value), xs.length = us.length → (∀ (i : Nat) x u, xs[i]? = some x → us[i]? = some u → RelV x u) → Vals xs us := by
    intro xs
    induction xs with
    | nil =>
      intro us e _
      cases us with
      | nil => exact .nil
      | cons u us => cases e
    | cons x xs ih =>
      intro us e f
      cases us with
      | nil => cases e
      | cons u us => exact .cons (f 0 x u rfl rfl) (ih us (Nat.succ.inj e) fun i y v h1 h2 => f (i + 1) y v h1 h2)
  refine go _ _ hl fun i x u hx hu => ?_
  have hu' : acc[i]? = some u := by simpa using hu
  obtain ⟨c, t, hc, rfl⟩ := h.2 i u hu'
  unfold signs at hx
  rw [List.getElem?_map] at hx
  have : z.cps.toList[i]? = some c := by simpa using hc
  rw [this] at hx
  cases hx
  exact ⟨t, rfl⟩
theorem signs_len (z : Str) : (signs z).length = z.length := by
  unfold signs
  rw [List.length_map, Array.length_toList]
  rfl
theorem call_list_text (hc : X.calm = true) : CallR X (.type "list") (fun xs H Q => ∃ z, xs = [.str z] ∧ z.length ≤ sizeLine ∧ ∀ l, H l = none → Q (.ref l) (upd H l (.lst (signs z)))) := by
  intro pins s σ H xs us Q I r h
  obtain ⟨z, rfl, hz, q⟩ := h
  obtain ⟨u, rfl, t, rfl⟩ := vals1 r
  refine PySem.call_list_str (I.ok.hd hc) z t (fun h' tk acc' c' kp e it => ?_) hz
  exact ⟨.ref s.heap.objs.size, _, I.laid (t' := tk) kp (Nat.le_refl _) (show ObjOk X.prog X.w _ h' _ (.lst (signs z)) from ⟨by rw [signs_len]; exact hz, acc'.toList, c', vals_signs it, by simpa using e⟩), rfl, q _ (I.hok.fresh (Nat.le_refl _))⟩
def mList (K : PySem.W.Frag) : List V → Hp → VK → Prop := fun vs H Q => match vs with
  | [.str z] => z.length ≤ sizeLine ∧ ∀ l, H l = none → Q (.ref l) (upd H l (.lst (signs z)))
  | [.ref p] => ∃ xs, Sq K H p xs ∧ ∀ l, H l = none → Q (.ref l) (upd H l (.lst xs))
  | _ => False
theorem xc_list (hc : X.calm = true) : CallR X (.type "list") (mList X.K) := calImp (CallR.or (call_list_text hc) call_list_of) fun xs H Q h => by
  unfold mList at h
  split at h
  · exact .inl ⟨_, rfl, h.1, h.2⟩
  · obtain ⟨xs, h1, h2⟩ := h
    exact .inr ⟨_, xs, rfl, h1, h2⟩
  · exact h.elim
def mTuple (K : PySem.W.Frag) : List V → Hp → VK → Prop := fun vs H Q => match vs with
  | [.ref p] => (∃ xs, SqL K H p xs ∧ ∀ l, H l = none → Q (.ref l) (upd H l (.tup xs))) ∨ (∃ xs, SqT K H p xs ∧ Q (.ref p) H)
  | _ => False
theorem xc_tuple : CallR X (.type "tuple") (mTuple X.K) := calImp call_tuple_of fun xs H Q h => by
  unfold mTuple at h
  split at h
  · rcases h with ⟨xs, h1, h2⟩ | ⟨xs, h1, h2⟩
    · exact ⟨_, xs, rfl, .inl ⟨h1, h2⟩⟩
    · exact ⟨_, xs, rfl, .inr ⟨h1, h2⟩⟩
  · exact h.elim
def mSortS (K : PySem.W.Frag) : List V → Hp → VK → Prop := fun vs H Q => match vs with
  | [.ref p] => ∃ xs : List Str, Sq K H p (xs.map V.str) ∧ xs.length < 64 ∧ ∀ (ys : List Str) (q : Addr), ys.Perm xs → sortedS ys = true → H q = none → Q (.ref q) (upd H q (.lst (ys.map V.str)))
  | _ => False

/-! ### subscripts and slices -/
def mIx (K : PySem.W.Frag) : R2 := fun x y H Q => match x, y with
  | .ref p, .int i => ∃ xs v, Sq K H p xs ∧ atI xs i = some v ∧ Q v H
  | .str z, .int i => z.length ≤ sizeLine ∧ ∃ c, atI z.cps.toList i = some c ∧ Q (.str ⟨#[c]⟩) H
  | _, _ => False
theorem ixImp {r r' : R2} (h : IxR X r) (w : ∀ x y H Q, r' x y H Q → r x y H Q) : IxR X r' := by
  intro pins s σ H x y v u Q
  intros
  apply h <;> first | assumption | (apply w; assumption)
theorem xix : IxR X (mIx X.K) := ixImp ix_seq fun x y H Q h => by
  unfold mIx at h
  split at h
  · obtain ⟨xs, v, h1 | h1, h2, h3⟩ := h
    · exact .inl ⟨_, xs, _, v, rfl, rfl, h1, h2, h3⟩
    · exact .inr (.inl ⟨_, xs, _, v, rfl, rfl, h1, h2, h3⟩)
  · obtain ⟨h1, c, h2, h3⟩ := h
    exact .inr (.inr ⟨_, _, c, rfl, rfl, h1, h2, h3⟩)
  · exact h.elim
def mSet : TSet := fun o i v H Q => match o, i with
  | .ref p, .int k => ∃ xs j, H p = some (.lst xs) ∧ ixN xs.length k = some j ∧ Q (upd H p (.lst (xs.set j v)))
  | _, _ => False
theorem psetImp {r r' : TSet} (h : PSet X r) (w : ∀ o i v H Q, r' o i v H Q → r o i v H Q) : PSet X r' := by
  intro pins s σ H x y v
  intros
  apply h <;> first | assumption | (apply w; assumption)
theorem xset : PSet X mSet := psetImp set_list fun o i v H Q h => by
  unfold mSet at h
  split at h
  · obtain ⟨xs, j, h1, h2, h3⟩ := h
    exact ⟨_, xs, _, j, rfl, rfl, h1, h2, h3⟩
  · exact h.elim
def mSl (K : PySem.W.Frag) : V → Option Int → Option Int → Hp → VK → Prop := fun x lo hi H Q => match x with
  | .str z => z.length ≤ sizeLine ∧ Q (.str (cutS z lo hi)) H
  | .ref p => ∃ xs, SqL K H p xs ∧ ∀ q, H q = none → Q (.ref q) (upd H q (.lst (cutV xs lo hi)))
  | _ => False
theorem xsl : SlR X (mSl X.K) := by
  have hS : SlR X rSlS := sl_str
  have hL : SlR X (rSlL X.K) := sl_list
  intro pins s σ H x v vl vu lo hi sl Q I rx hs pl pu h
  unfold mSl at h
  split at h
  · exact hS pins s σ H _ v vl vu lo hi sl Q I rx hs pl pu ⟨_, rfl, h.1, h.2⟩
  · obtain ⟨xs, h1, h2⟩ := h
    exact hL pins s σ H _ v vl vu lo hi sl Q I rx hs pl pu ⟨_, xs, rfl, h1, h2⟩
  · exact h.elim
/-- xs[::-1] -/
def xRev (K : PySem.W.Frag) (te : TE) : TE := fun σ H Q => te σ H fun x H1 => match x with
  | .ref p => ∃ xs, SqL K H1 p xs ∧ ∀ q, H1 q = none → Q (.ref q) (upd H1 q (.lst xs.reverse))
  | _ => False
theorem xRev_eq (K : PySem.W.Frag) (te : TE) : xRev K te = tRevL K te := by
  funext σ H Q
  refine congrArg (te σ H) (funext fun x => funext fun H1 => propext ⟨fun h => ?_, fun ⟨a, xs, e, h⟩ => ?_⟩)
  · cases x <;> first | exact ⟨_, _, rfl, h.choose_spec⟩ | exact h.elim
  · subst e; exact ⟨xs, h⟩

/-! ### methods -/
def lmAppend : V → List V → Hp → VK → Prop := fun x vs H Q => match x, vs with
  | .ref p, [y] => ∃ xs, H p = some (.lst xs) ∧ xs.length < sizeLine ∧ Q .non (upd H p (.lst (xs ++ [y])))
  | _, _ => False
theorem xm_append : MtR X "list.append" lmAppend := mtImp (r := rAppend) mt_append fun x vs H Q h => by
  unfold lmAppend at h
  split at h
  · obtain ⟨xs, h1, h2, h3⟩ := h
    exact ⟨_, xs, _, rfl, rfl, h1, h2, h3⟩
  · exact h.elim
def lmPop : V → List V → Hp → VK → Prop := fun x vs H Q => match x, vs with
  | .ref p, [.int i] => ∃ xs k y, H p = some (.lst xs) ∧ i = ((k : Nat) : Int) ∧ k < 2 ^ 62 ∧ xs[k]? = some y ∧ Q y (upd H p (.lst (xs.eraseIdx k)))
  | _, _ => False
theorem xm_pop : MtR X "list.pop" lmPop := mtImp (r := rPopAt) mt_popAt fun x vs H Q h => by
  unfold lmPop at h
  split at h
  · obtain ⟨xs, k, y, h1, rfl, h2, h3, h4⟩ := h
    refine ⟨_, xs, _, k, y, rfl, rfl, h1, by omega, by omega, ?_, h3, h4⟩
    have hk := (List.getElem?_eq_some_iff.mp h3).1
    unfold seqIndex?
    simp only []
    first | (rw [if_neg (by omega), if_pos (by omega)]; simp) | (simp; omega)
  · exact h.elim
def lmInsert : V → List V → Hp → VK → Prop := fun x vs H Q => match x, vs with
  | .ref p, [.int i, y] => ∃ xs, H p = some (.lst xs) ∧ xs.length < sizeLine ∧ 0 ≤ i ∧ i < 2 ^ 63 ∧ Q .non (upd H p (.lst (xs.take i.toNat ++ [y] ++ xs.drop i.toNat)))
  | _, _ => False
theorem xm_insert : MtR X "list.insert" lmInsert := mtImp mt_insert fun x vs H Q h => by
  unfold lmInsert at h
  split at h
  · obtain ⟨xs, h1, h2, h3, h4, h5⟩ := h
    exact ⟨_, xs, _, _, rfl, rfl, h1, h2, h3, h4, h5⟩
  · exact h.elim
def lmIndex (K : PySem.W.Frag) : V → List V → Hp → VK → Prop := fun x vs H Q => match x, vs with
  | .ref p, [y] => ∃ xs j z, SqL K H p xs ∧ flatV y = true ∧ xs.all flatV = true ∧ xs[j]? = some z ∧ eqV z y = true ∧ (∀ (m : Nat) z', m < j → xs[m]? = some z' → eqV z' y = false) ∧ Q (.int (j : Nat)) H
  | _, _ => False
theorem xm_index : MtR X "list.index" (lmIndex X.K) := mtImp mt_index fun x vs H Q h => by
  unfold lmIndex at h
  split at h
  · obtain ⟨xs, j, z, h1, h2, h3, h4, h5, h6, h7⟩ := h
    exact ⟨_, xs, _, j, z, rfl, rfl, h1, h2, h3, h4, h5, h6, h7⟩
  · exact h.elim
def eqU (y : V) (u : Value) : Bool := match absV u with
  | some x => eqV x y
  | none => false
theorem eqU_count {y : V} : ∀ {xs : List V} {us : List Value}, Vals xs us → us.countP (eqU y) = xs.countP (fun x => eqV x y)
  | _, _, .nil => rfl
  | _, _, .cons r t => by
    rw [List.countP_cons, List.countP_cons, eqU_count t]
    unfold eqU
    rw [r.abs]
theorem vals_mem : ∀ {xs : List V} {us : List Value} {u : Value}, Vals xs us → u ∈ us → ∃ x, x ∈ xs ∧ RelV x u
  | _, _, _, .cons r t, h => by
    rcases List.mem_cons.mp h with e | e
    · subst e; exact ⟨_, List.mem_cons_self, r⟩
    · obtain ⟨x, h1, h2⟩ := vals_mem t e
      exact ⟨x, List.mem_cons_of_mem _ h1, h2⟩
def lmCount (K : PySem.W.Frag) : V → List V → Hp → VK → Prop := fun x vs H Q => match x, vs with
  | .ref p, [y] => ∃ xs, SqL K H p xs ∧ flatV y = true ∧ xs.all flatV = true ∧ Q (.int (xs.countP (fun x => eqV x y) : Nat)) H
  | _, _ => False
theorem xm_count : MtR X "list.count" (lmCount X.K) := by
  intro pins s σ H x vs v us Q I rx rxs h
  unfold lmCount at h
  split at h
  · rename_i p y
    obtain ⟨xs, hs, fy, fx, q⟩ := h
    cases rx
    obtain ⟨u, rfl, ru⟩ := rxs.one
    obtain ⟨its, rv, ⟨⟨cls, dd, data, sl⟩, n, ho, hc, hdn, hd⟩, hlen⟩ := I.list hs
    simp only at hc hd
    subst hc hd
    refine call_meets PySem.F.slot_list_count ⟨_, ho, rfl⟩ PySem.F.entry_list_count (PySem.F.args_list_count_2 _ _)
      (SeqAt.list_countAt p its.toArray n dd sl u (eqU y)) ⟨ho, fun w hw => ?_, ?_⟩
    · obtain ⟨x, hx, rw'⟩ := vals_mem rv (show w ∈ its by simpa using hw)
      have e : eqU y w = eqV x y := by unfold eqU; rw [rw'.abs]
      rw [e]
      exact eqAt_V rw' ru (List.all_eq_true.mp fx x hx) fy
    · refine ⟨.int (its.toArray.toList.countP (eqU y) : Nat), H, I.tok _, ⟨s.toks, rfl⟩, ?_⟩
      have e : its.toArray.toList.countP (eqU y) = xs.countP (fun x => eqV x y) := eqU_count rv
      rw [e]
      exact q
  · exact h.elim
/-- a method of a list -/
def xL (K : PySem.W.Frag) (r : V → List V → Hp → VK → Prop) (to : TE) (t : TA) : TE := fun σ H Q => to σ H fun x H1 => match x with
  | .ref p => (∃ xs, SqL K H1 p xs) ∧ t σ H1 fun vs H2 => r (.ref p) vs H2 Q
  | _ => False
theorem xL_le {K : PySem.W.Frag} {r : V → List V → Hp → VK → Prop} {to : TE} {t : TA} (mono : ∀ σ H (Q Q' : VK), (∀ v H1, Q v H1 → Q' v H1) → to σ H Q → to σ H Q') : ∀ σ H Q, xL K r to t σ H Q → tBM K "list" r to t σ H Q := fun σ H Q h => mono σ H _ _ (fun x H1 h => by
  cases x <;> first | exact h.elim | exact ⟨.inl ⟨rfl, h.1⟩, h.2⟩) h
/-- text.upper() -/
def xUpper (te : TE) : TE := fun σ H Q => te σ H fun x H1 => match x with
  | .str a => a.length ≤ 5592405 ∧ Q (.str (PySem.Txt.upper a)) H1
  | _ => False

/-! ### walks -/
def iSeq (K : PySem.W.Frag) (tl : TE) : TI := fun σ H R => iList K tl σ H R ∨ iTup K tl σ H R
theorem xi_seq {tg l : Expr} {tl : TE} (hl : PE X l tl) : PI X tg l (iSeq X.K tl) := piOr (pi_list hl) (pi_tup hl)
end

/-! ### heaps -/
/-- all but what stands at s is kept -/
def Keep (s : Addr) (H H' : Hp) : Prop := ∀ b o, b ≠ s → H b = some o → H' b = some o
theorem Keep.refl {s : Addr} {H : Hp} : Keep s H H := fun _ _ _ h => h
theorem Keep.trans {s : Addr} {H H1 H2 : Hp} (a : Keep s H H1) (b : Keep s H1 H2) : Keep s H H2 := fun c o n h => b c o n (a c o n h)
theorem Keep.new {s : Addr} {H : Hp} {p : Addr} {o : HO} (h : H p = none) : Keep s H (upd H p o) := fun b u _ e => by
  rw [upd_ne (ne_of_none e h)]; exact e
theorem Keep.put {s : Addr} {H : Hp} {o : HO} : Keep s H (upd H s o) := fun b u n e => by
  rw [upd_ne n]; exact e
theorem Same.keep {s : Addr} {H H' : Hp} (h : Same H H') : Keep s H H' := fun b o _ e => h b o e
theorem Keep.free {s : Addr} {H H' : Hp} (h : Keep s H H') {p : Addr} (n : p ≠ s) (e : H' p = none) : H p = none := by
  cases q : H p with
  | none => rfl
  | some o => rw [h p o n q] at e; cases e
theorem same_new {H : Hp} {p : Addr} {o : HO} (h : H p = none) : Same H (upd H p o) := fun b u e => by
  rw [upd_ne (ne_of_none e h)]; exact e
end RK

namespace RK
open PySem PySem.Spec PyProof.Rows L2
section
variable {X : Cx} {CX : CXT} {k : Nat} {f : Addr} {fd : FuncData} {ps ks : List Str} {sp : Sp} {E : XK} {x : Str} {p pos : Pos} {kws : List Keyword} {tk : TA} {g : List Value → List Value → List Value} {gV : List V → List V → List V}
/-- f(k = v, ..), no positional argument -/
theorem pe_kw0 (F : FnOk X.prog X.w X.K X.mg X.base CX k f fd ps sp) (hr : Room k X.A) (hg : Gl X x) (hm : X.mg x = some (.ref f)) (hk : PySem.W.keepIn X.K (.ref f) = true) (hb : KBn X.K fd ps 0 ks g gV) (hx : Passes CX X E)
    (hkw : PK X kws tk) (hall : (backToKw pos (keywordEach kws X.env)).all (·.1.isSome) = true := by rfl) (hks : (backToKw pos (keywordEach kws X.env)).filterMap (·.1) = ks := by rfl)
    (hdb : (x == ("__debug__" : Str)) = false := by decide)
    (hpl : ((backTo pos (starEach [] X.env)).any (·.1) || (backToKw pos (keywordEach kws X.env)).any (·.1.isNone)) = false := by rfl) :
    PE X (.Call (.Name x p) [] kws pos) (tCallN 0 ks.length sp gV E tNil tk) := by
  refine ⟨fun pins s σ H Q I h => ?_⟩
  refine wpAny_Call_Name_kw (ld_glob I hg hm ?_ hdb)
  refine PySem.W.callWith_KW0 (h₀ := X.base) I.ok.mod.kin hk hall ?_ hpl
  refine thn (hkw.run pos pins s σ H _ I h) fun ws s2 ⟨zs, H2, I2, rz, l1, l2, q2⟩ => ⟨I2.kIn, ?_⟩
  rw [hks]
  exact run_fnN (us := []) (vs := []) F hr hb hx I2 .nil rz l1 l2 q2
end
theorem fun_kb {K : PySem.W.Frag} {x qual : Str} {st : Stmt} {f : Addr} {fd : FuncData} {ps ks : List Str} (F : Fun K x qual st f fd)
    (h : ∀ (kV doc pm : Value) (an : Option Addr) (cdv ct : Value) (us ws : List Value), us.length = 0 → ws.length = ks.length → bindArgs (PySem.W.fnOf x qual (defArgs st) (defBody st) (defScope st) .none kV doc pm an cdv ct) ⟨us, ks.zip ws⟩ = pure (ps.zip ws)) :
    KBn K fd ps 0 ks (fun _ ws => ws) (fun _ zs => zs) := by
  obtain ⟨oc, od, kV, doc, pm, an, cdv, ct, osl, rfl, lk, hcd⟩ := F.ex
  exact ⟨fun s us ws X l1 l2 => .of_eq (h kV doc pm an cdv ct us ws l1 l2), fun _ r => r⟩

/-! ### isinstance by a built-in class -/
inductive K5 | list | tuple | bool | int | str
def K5.name : K5 → String
  | .list => "list" | .tuple => "tuple" | .bool => "bool" | .int => "int" | .str => "str"
def K5.isB : K5 → Bool | .bool => true | .int => true | _ => false
def K5.isI : K5 → Bool | .int => true | _ => false
def K5.isS : K5 → Bool | .str => true | _ => false
def K5.isL : K5 → Bool | .list => true | _ => false
def K5.isT : K5 → Bool | .tuple => true | _ => false
def mIsi (c5 : K5) : List V → Hp → VK → Prop := fun vs H Q => match vs with
  | [x, c] => c = .ty c5.name ∧ match x with
    | .non => Q (.bl false) H
    | .bl _ => Q (.bl c5.isB) H
    | .int _ => Q (.bl c5.isI) H
    | .str _ => Q (.bl c5.isS) H
    | .ref p => ((∃ xs, H p = some (.lst xs)) ∧ Q (.bl c5.isL) H) ∨ ((∃ xs, H p = some (.tup xs)) ∧ Q (.bl c5.isT) H)
    | _ => False
  | _ => False
section
variable {X : Cx}
theorem xc_isi (c5 : K5) : CallR X (.builtin "isinstance") (mIsi c5) := calImp call_isi fun vs H Q h => by
  unfold mIsi at h
  split at h
  · rename_i x c
    obtain ⟨rfl, h⟩ := h
    split at h
    · exact ⟨_, _, .type "NoneType", _, false, rfl, .ty _, .base .non, kit_ty (by cases c5 <;> decide +kernel), h⟩
    · exact ⟨_, _, .type "bool", _, _, rfl, .ty _, .base (.bl _), kit_ty (by cases c5 <;> decide +kernel), h⟩
    · exact ⟨_, _, .type "int", _, _, rfl, .ty _, .base (.int _), kit_ty (by cases c5 <;> decide +kernel), h⟩
    · exact ⟨_, _, .type "str", _, _, rfl, .ty _, .base (.str _), kit_ty (by cases c5 <;> decide +kernel), h⟩
    · rcases h with ⟨⟨xs, e⟩, h⟩ | ⟨⟨xs, e⟩, h⟩
      · exact ⟨_, _, .type "list", _, _, rfl, .ty _, .base (.lst e), kit_ty (by cases c5 <;> decide +kernel), h⟩
      · exact ⟨_, _, .type "tuple", _, _, rfl, .ty _, .base (.tup e), kit_ty (by cases c5 <;> decide +kernel), h⟩
    · exact h.elim
  · exact h.elim
end
end RK

namespace RK
open PySem PySem.Spec PyProof.Rows L2
/-- a middle that one names -/
def xCut (t u : TS) : TS := fun D σ H => ∃ M : L2.St → Hp → Prop, t { D with nx := M } σ H ∧ ∀ σ' H', M σ' H' → u D σ' H'
theorem xss_cut {X : Cx} {st : Stmt} {rest : List Stmt} {t u : TS} (h1 : PS X st t) (h2 : PSs X rest u) : PSs X (st :: rest) (xCut t u) := by
  refine ⟨fun pins s σ H D I h => ?_⟩
  obtain ⟨M, hm, hu⟩ := h
  refine wpAny_execs_cons (thn (h1.run pins s σ H { D with nx := M } I hm) fun f s1 q => ?_)
  cases f with
  | next =>
    obtain ⟨σ', H', I', q⟩ := q
    exact h2.run pins s1 σ' H' D I' (hu σ' H' q)
  | ret v => exact q
  | brk => exact q
  | cont => exact q
theorem xe_rev {X : Cx} {e : Expr} {te : TE} {k : Nat} {p1 p2 p3 pos : Pos} (he : PE X e te) : PE X (.Subscript e (.Slice none none (some (.UnaryOp .USub (.Constant (.int 1) k p1) p2)) p3) pos) (xRev X.K te) := by
  rw [xRev_eq]; exact pe_revL he
/-! ### what one needs of numbers and places -/
theorem sl_big : sizeLine = 16777216 := sizeLine_eq
theorem ixN_nat {n j : Nat} (h : j < n) : ixN n (j : Int) = some j := by
  unfold ixN
  rw [if_pos (by omega), if_pos (by omega)]
  simp
theorem at_int {α : Type} {xs : List α} {i : Int} {j : Nat} {v : α} (e : i = (j : Int)) (h : xs[j]? = some v) : atI xs i = some v := by
  subst e; exact atI_nat h
theorem tyL {K : PySem.W.Frag} {p : Addr} {xs : List V} {H : Hp} (h : H p = some (.lst xs)) : tyV K "list" (.ref p) H := .inl ⟨rfl, _, SqL.of h⟩
theorem Sq.l {K : PySem.W.Frag} {H : Hp} {p : Addr} {xs : List V} (h : H p = some (.lst xs)) : Sq K H p xs := .inl (SqL.of h)
theorem Sq.t {K : PySem.W.Frag} {H : Hp} {p : Addr} {xs : List V} (h : H p = some (.tup xs)) : Sq K H p xs := .inr (SqT.of h)
theorem no_tf {A : Prop} (h : true = false) : A := Bool.noConfusion h
theorem no_ft {A : Prop} (h : false = true) : A := Bool.noConfusion h
theorem ref_ne {H : Hp} {a b : Addr} {o u : HO} (h : H a = some o) (h' : H b = some u) (d : o ≠ u) : a ≠ b := ne_of h h' d

/-! ### the store of draws -/
def sRow (c : Addr) (a d : Nat) (b e : Int) : HO := .lst [.ref c, .int a, .int b, .int d, .int e]
/-- at s a store that has given at most n numbers; its own list at c -/
structure Sto (s c : Addr) (n : Nat) (H : Hp) : Prop where
  ex : ∃ (ns : List Int) (a d : Nat) (b e : Int), H s = some (sRow c a d b e) ∧ H c = some (.lst (ns.map V.int)) ∧ c ≠ s ∧ a ≤ ns.length ∧ ns.length ≤ 63 ∧ 0 ≤ b ∧ d ≤ n
section
variable {s c p : Addr} {n m : Nat} {H H' : Hp} {o : HO}
theorem Sto.mono (S : Sto s c n H) (h : n ≤ m) : Sto s c m H := by
  obtain ⟨ns, a, d, b, e, h1, h2, h3, h4, h5, h6, h7⟩ := S.ex
  exact ⟨ns, a, d, b, e, h1, h2, h3, h4, h5, h6, by omega⟩
theorem Sto.got (S : Sto s c n H) : ∃ o, H s = some o := by
  obtain ⟨ns, a, d, b, e, h1, _⟩ := S.ex
  exact ⟨_, h1⟩
theorem Sto.gotc (S : Sto s c n H) : ∃ o, H c = some o := by
  obtain ⟨ns, a, d, b, e, h1, h2, _⟩ := S.ex
  exact ⟨_, h2⟩
theorem Sto.same (S : Sto s c n H) (k : Same H H') : Sto s c n H' := by
  obtain ⟨ns, a, d, b, e, h1, h2, h3⟩ := S.ex
  exact ⟨ns, a, d, b, e, k _ _ h1, k _ _ h2, h3⟩
/-- a new object -/
theorem Sto.new (S : Sto s c n H) (h : H p = none) : Sto s c n (upd H p o) := S.same (same_new h)
/-- an object that is not the store's is written -/
theorem Sto.put (S : Sto s c n H) (h1 : p ≠ s) (h2 : p ≠ c) : Sto s c n (upd H p o) := by
  obtain ⟨ns, a, d, b, e, g1, g2, g3⟩ := S.ex
  exact ⟨ns, a, d, b, e, (upd_ne (Ne.symm h1)).trans g1, (upd_ne (Ne.symm h2)).trans g2, g3⟩
theorem Sto.ne (S : Sto s c n H) (h : H p = none) : p ≠ s := by
  obtain ⟨o, e⟩ := S.got
  exact Ne.symm (ne_of_none e h)
theorem Sto.nec (S : Sto s c n H) (h : H p = none) : p ≠ c := by
  obtain ⟨o, e⟩ := S.gotc
  exact Ne.symm (ne_of_none e h)
end
/-- a comprehension over a list that leaves the heap alone: a test, a value -/
theorem lc_fm {K : PySem.W.Frag} {a : Addr} {xs : List V} {j : Nat} {tt : TT} {te : TE} {vs : List Nat} {σ : L2.St} {H1 : Hp} {D : Addr} {Qd : Hp → Prop} (f : V → V) (p : V → Bool) (hx : SqL K H1 a xs) (hD : H1 D = none) (hz : xs.length ≤ sizeLine)
    (hw : ∀ x : V, wipe ((wipe σ vs).set j (some x)) vs = wipe σ vs)
    (ht : ∀ (x : V) (acc : List V) (Q : Bool → Hp → Prop), x ∈ xs → Q (p x) (upd H1 D (.lst acc)) → tt ((wipe σ vs).set j (some x)) (upd H1 D (.lst acc)) Q)
    (he : ∀ (x : V) (acc : List V) (Q : VK), x ∈ xs → Q (f x) (upd H1 D (.lst acc)) → te ((wipe σ vs).set j (some x)) (upd H1 D (.lst acc)) Q)
    (hd : Qd (upd H1 D (.lst ((xs.filter p).map f)))) :
    ∃ W : Nat → Nat → Hp → Prop, (∃ m, W 0 m (upd H1 D (.lst []))) ∧ ∀ i m H, W i m H →
      ((Itl K a).stop i H ∧ Qd H) ∨ ((Itl K a).go i H ∧ ∃ Nx : Hp → Prop, (∀ H', Nx H' → ∃ m', m' < m ∧ W (i + 1) m' H') ∧ ∀ x H', (Itl K a).yld i H x H' → gName j x (wipe σ vs) H' fun σ2 H2 => wipe σ2 vs = wipe σ vs ∧ tt σ2 H2 fun b H3 =>
        if b = true then te σ2 H3 fun y H4 => ∃ acc, H4 D = some (.lst acc) ∧ acc.length < sizeLine ∧ Nx (upd H4 D (.lst (acc ++ [y]))) else Nx H3) := by
  have keep : ∀ acc, SqL K (upd H1 D (.lst acc)) a xs := fun acc => (same_new hD).seq hx
  refine lc_list (xs := xs) (fun i H => H = upd H1 D (.lst (((xs.take i).filter p).map f))) rfl (fun i H _ e => by rw [e]; exact keep _) (fun i x H hi e => ?_) (fun H e => by rw [e, List.take_length]; exact hd)
  subst e
  have hm : x ∈ xs := List.mem_of_getElem? hi
  have hil := (List.getElem?_eq_some_iff.mp hi).1
  have et : xs.take (i + 1) = xs.take i ++ [x] := by rw [List.take_add_one, hi]; rfl
  refine ⟨hw x, ht x _ _ hm ?_⟩
  cases hp : p x with
  | true =>
    rw [if_pos rfl]
    refine he x _ _ hm ⟨_, upd_same, ?_, ?_⟩
    · rw [List.length_map]
      have := List.length_filter_le p (xs.take i)
      rw [List.length_take] at this
      omega
    · rw [upd_upd, et, List.filter_append, List.map_append]
      simp [hp]
  | false =>
    rw [if_neg Bool.false_ne_true, et, List.filter_append]
    simp [hp]
theorem lc_f {K : PySem.W.Frag} {a : Addr} {xs : List V} {j : Nat} {te : TE} {vs : List Nat} {σ : L2.St} {H1 : Hp} {D : Addr} {Qd : Hp → Prop} (f : V → V) (hx : SqL K H1 a xs) (hD : H1 D = none) (hz : xs.length ≤ sizeLine)
    (hw : ∀ x : V, wipe ((wipe σ vs).set j (some x)) vs = wipe σ vs)
    (he : ∀ (x : V) (acc : List V) (Q : VK), x ∈ xs → Q (f x) (upd H1 D (.lst acc)) → te ((wipe σ vs).set j (some x)) (upd H1 D (.lst acc)) Q)
    (hd : Qd (upd H1 D (.lst (xs.map f)))) :
    ∃ W : Nat → Nat → Hp → Prop, (∃ m, W 0 m (upd H1 D (.lst []))) ∧ ∀ i m H, W i m H →
      ((Itl K a).stop i H ∧ Qd H) ∨ ((Itl K a).go i H ∧ ∃ Nx : Hp → Prop, (∀ H', Nx H' → ∃ m', m' < m ∧ W (i + 1) m' H') ∧ ∀ x H', (Itl K a).yld i H x H' → gName j x (wipe σ vs) H' fun σ2 H2 => wipe σ2 vs = wipe σ vs ∧ tYes σ2 H2 fun b H3 =>
        if b = true then te σ2 H3 fun y H4 => ∃ acc, H4 D = some (.lst acc) ∧ acc.length < sizeLine ∧ Nx (upd H4 D (.lst (acc ++ [y]))) else Nx H3) :=
  lc_fm f (fun _ => true) hx hD hz hw (fun _ _ _ _ q => q) he (by rw [List.filter_eq_self.mpr (fun _ _ => rfl)]; exact hd)
theorem sl_of {xs : List V} {n : Nat} (h : xs.length = n) (hn : n ≤ 1000 := by decide) : xs.length ≤ sizeLine := by rw [h]; exact Nat.le_of_lt (small1000 hn)
end RK

namespace RK
open PySem PySem.Spec PyProof.Rows L2 SX
/-! ### texts as lists of codes -/
theorem S_c (l : List Nat) : (S l).cps.toList = l := rfl
theorem S_of (z : Str) : z = S z.cps.toList := (S_tl z).symm
theorem S_one (c : Nat) : (⟨#[c]⟩ : Str) = S [c] := rfl
theorem S_dec (a b : List Nat) : decide (S a = S b) = decide (a = b) := by
  rw [decide_eq_decide]
  exact ⟨S_inj, fun h => by rw [h]⟩
theorem dec_S {a b : List Nat} {s : Str} (h : s = S b) : decide (S a = s) = decide (a = b) := by rw [h, S_dec]
theorem cut_to (l : List Nat) (k : Nat) : cutS (S l) none (some (k : Int)) = S (l.take k) := by
  unfold cutS
  rw [show HT.sIx (S l).length 0 none = 0 from rfl, HT.sIx_nat, Nat.sub_zero, List.drop_zero, S_c, S_len]
  congr 1
  rw [show l.take (min k l.length) = l.take k by
    by_cases h : k ≤ l.length
    · rw [Nat.min_eq_left h]
    · rw [Nat.min_eq_right (by omega), List.take_length, List.take_of_length_le (by omega)]]
theorem cut_from (l : List Nat) (k : Nat) : cutS (S l) (some (k : Int)) none = S (l.drop k) := by
  unfold cutS
  rw [show HT.sIx (S l).length (S l).length none = (S l).length from rfl, HT.sIx_nat, S_c, S_len]
  congr 1
  by_cases h : k ≤ l.length
  · rw [Nat.min_eq_left h, List.take_of_length_le (by rw [List.length_drop]; omega)]
  · rw [Nat.min_eq_right (by omega), Nat.sub_self, List.take_zero, List.drop_of_length_le (by omega)]
theorem cutV_to (l : List V) (k : Nat) : cutV l none (some (k : Int)) = l.take k := by
  unfold cutV
  rw [show HT.sIx l.length 0 none = 0 from rfl, HT.sIx_nat, Nat.sub_zero, List.drop_zero]
  by_cases h : k ≤ l.length
  · rw [Nat.min_eq_left h]
  · rw [Nat.min_eq_right (by omega), List.take_length, List.take_of_length_le (by omega)]
theorem cutV_from (l : List V) (k : Nat) : cutV l (some (k : Int)) none = l.drop k := by
  unfold cutV
  rw [show HT.sIx l.length l.length none = l.length from rfl, HT.sIx_nat]
  by_cases h : k ≤ l.length
  · rw [Nat.min_eq_left h, List.take_of_length_le (by rw [List.length_drop]; omega)]
  · rw [Nat.min_eq_right (by omega), Nat.sub_self, List.take_zero, List.drop_of_length_le (by omega)]
/-- a text over again -/
def rep (n : Nat) (l : List Nat) : List Nat := (List.replicate n l).flatten
theorem rep_succ (n : Nat) (l : List Nat) : rep (n + 1) l = l ++ rep n l := by unfold rep; rw [List.replicate_succ, List.flatten_cons]
theorem rep_len (n : Nat) (l : List Nat) : (rep n l).length = n * l.length := by
  induction n with
  | zero => simp [rep]
  | succ n ih => rw [rep_succ, List.length_append, ih, Nat.succ_mul, Nat.add_comm]
theorem fold_app (xs : List (Array Nat)) (a : Array Nat) : (xs.foldl (· ++ ·) a).toList = a.toList ++ (xs.map Array.toList).flatten := by
  induction xs generalizing a with
  | nil => simp
  | cons x r ih => rw [List.foldl_cons, ih]; simp
theorem mul_S (l : List Nat) (n : Nat) : PySem.Txt.mul (S l) (n : Int) = S (rep n l) := by
  unfold PySem.Txt.mul
  by_cases h1 : n = 0
  · subst h1
    rw [if_pos (by decide)]
    rfl
  · rw [if_neg (by omega)]
    by_cases h2 : (((n : Int) == 1) || (S l).length == 0) = true
    · rw [if_pos h2]
      rcases Bool.or_eq_true _ _ ▸ h2 with h | h
      · have : n = 1 := by have := eq_of_beq h; omega
        subst this
        congr 1
        simp [rep]
      · have : l = [] := by have := eq_of_beq h; rw [S_len] at this; exact List.length_eq_zero_iff.mp this
        subst this
        congr 1
        simp [rep]
    · rw [if_neg h2]
      refine TL.ext_tl ?_
      show ((List.replicate ((n : Int)).toNat (S l).cps).foldl (· ++ ·) #[]).toList = rep n l
      rw [fold_app, Int.toNat_natCast]
      simp [rep]
theorem mul_ok (l : List Nat) (n : Nat) (hn : n ≤ 20000) (hz : l.length * n ≤ sizeLine) : PySem.MulOk (S l) (n : Int) := by
  refine ⟨by simp; omega, fun h1 h2 => ?_, fun h1 h2 => ?_⟩
  · rw [S_len]
    have hl : l.length ≤ sizeLine := Nat.le_trans (Nat.le_mul_of_pos_right _ (by omega)) hz
    rw [sl_big] at hl
    have : (20000 : Int) * (l.length : Int) ≤ 2 ^ 63 - 1 := by omega
    have h3 : (l.length : Int) ≤ (2 ^ 63 - 1) / n := by
      rw [Int.le_ediv_iff_mul_le (by omega)]
      have : (l.length : Int) * n ≤ (l.length : Int) * 20000 := Int.mul_le_mul_of_nonneg_left (by omega) (by omega)
      omega
    omega
  · rw [S_len, Int.toNat_natCast]
    rw [sl_big] at hz
    show decide (_ > sizeLine) = false
    rw [decide_eq_false_iff_not, sl_big]
    omega

/-! ### names -/
def low (c : Nat) : Bool := decide (97 ≤ c) && decide (c ≤ 122)
def lowD (c : Nat) : Bool := low c || (decide (48 ≤ c) && decide (c ≤ 57))
def aZ : List Nat := [97, 98, 99, 100, 101, 102, 103, 104, 105, 106, 107, 108, 109, 110, 111, 112, 113, 114, 115, 116, 117, 118, 119, 120, 121, 122]
def aZ9 : List Nat := aZ ++ [48, 49, 50, 51, 52, 53, 54, 55, 56, 57]
theorem lit_az : Str.ofString "abcdefghijklmnopqrstuvwxyz" = S aZ := by decide +kernel
theorem lit_az9 : Str.ofString "abcdefghijklmnopqrstuvwxyz0123456789" = S aZ9 := by decide +kernel
theorem lit_sea : Str.ofString "sea" = S [115, 101, 97] := by decide +kernel
theorem lit_it : Str.ofString "it" = S [105, 116] := by decide +kernel
theorem lit_0 : Str.ofString "0" = S [48] := by decide +kernel
theorem lit_e : Str.ofString "" = S [] := by decide +kernel
theorem mem_az {c : Nat} : c ∈ aZ ↔ low c = true := by
  unfold low
  rw [Bool.and_eq_true, decide_eq_true_iff, decide_eq_true_iff]
  constructor
  · intro h
    have : ∀ x ∈ aZ, 97 ≤ x ∧ x ≤ 122 := by decide
    exact this c h
  · intro h
    have : ∀ x, x < 123 → 97 ≤ x → x ∈ aZ := by decide
    exact this c (by omega) h.1
theorem mem_az9 {c : Nat} : c ∈ aZ9 ↔ lowD c = true := by
  unfold lowD
  rw [Bool.or_eq_true, ← mem_az, Bool.and_eq_true, decide_eq_true_iff, decide_eq_true_iff]
  unfold aZ9
  rw [List.mem_append]
  constructor
  · rintro (h | h)
    · exact .inl h
    · have : ∀ x ∈ ([48, 49, 50, 51, 52, 53, 54, 55, 56, 57] : List Nat), 48 ≤ x ∧ x ≤ 57 := by decide
      exact .inr (this c h)
  · rintro (h | h)
    · exact .inl h
    · have : ∀ x, x < 58 → 48 ≤ x → x ∈ ([48, 49, 50, 51, 52, 53, 54, 55, 56, 57] : List Nat) := by decide
      exact .inr (this c (by omega) h.1)
theorem low_lowD {c : Nat} (h : low c = true) : lowD c = true := by unfold lowD; rw [h]; rfl
theorem lowD_lt {c : Nat} (h : lowD c = true) : c < 123 := by
  unfold lowD low at h
  simp at h
  omega
/-- it starts with a letter; letters and digits follow -/
def word (l : List Nat) : Bool := (match l with | [] => false | c :: _ => low c) && l.all lowD
def nameL (l : List Nat) : Bool := !(decide (l = [115, 101, 97])) && !(decide (l = [105, 116])) && decide (1 ≤ l.length) && decide (l.length ≤ 8) && word l
theorem word_all {l : List Nat} (h : word l = true) : ∀ c ∈ l, lowD c = true := by
  unfold word at h
  exact List.all_eq_true.mp (Bool.and_eq_true _ _ ▸ h).2
theorem word_ne {l : List Nat} (h : word l = true) : l ≠ [] := by
  rintro rfl
  exact Bool.noConfusion h
theorem word_app {l m : List Nat} (h : word l = true) (k : ∀ c ∈ m, lowD c = true) : word (l ++ m) = true := by
  cases l with
  | nil => exact absurd h Bool.false_ne_true
  | cons c r =>
    unfold word at h ⊢
    rw [Bool.and_eq_true] at h ⊢
    exact ⟨h.1, List.all_eq_true.mpr fun x hx => (List.mem_append.mp hx).elim (List.all_eq_true.mp h.2 x) (k x)⟩
theorem word_take {l : List Nat} (h : word l = true) {k : Nat} (hk : 0 < k) : word (l.take k) = true := by
  cases l with
  | nil => exact absurd h Bool.false_ne_true
  | cons c r =>
    cases k with
    | zero => omega
    | succ k =>
      unfold word at h ⊢
      rw [Bool.and_eq_true] at h ⊢
      exact ⟨h.1, List.all_eq_true.mpr fun x hx => List.all_eq_true.mp h.2 x (List.mem_of_mem_take hx)⟩
structure IsNm (l : List Nat) : Prop where
  w : word l = true
  l1 : l.length ≤ 8
  ns : l ≠ [115, 101, 97]
  ni : l ≠ [105, 116]
theorem IsNm.ne {l : List Nat} (h : IsNm l) : l ≠ [] := word_ne h.w
theorem nameL_iff {l : List Nat} : nameL l = true ↔ IsNm l := by
  unfold nameL
  simp only [Bool.and_eq_true, Bool.not_eq_true', decide_eq_false_iff_not, decide_eq_true_iff]
  constructor
  · rintro ⟨⟨⟨⟨a, b⟩, c⟩, d⟩, e⟩
    exact ⟨e, d, a, b⟩
  · intro h
    have := List.length_pos_iff.mpr h.ne
    exact ⟨⟨⟨⟨h.ns, h.ni⟩, this⟩, h.l1⟩, h.w⟩
/-! ### a comprehension over a text's signs -/
theorem lc_str {l : List Nat} {j : Nat} {tt : TT} {te : TE} {vs : List Nat} {σ : L2.St} {H1 : Hp} {D : Addr} {Qd : Hp → Prop} (f : Nat → V) (p : Nat → Bool) (hz : l.length ≤ sizeLine)
    (hw : ∀ x : V, wipe ((wipe σ vs).set j (some x)) vs = wipe σ vs)
    (ht : ∀ (x : Nat) (acc : List V) (Q : Bool → Hp → Prop), x ∈ l → Q (p x) (upd H1 D (.lst acc)) → tt ((wipe σ vs).set j (some (.str (S [x])))) (upd H1 D (.lst acc)) Q)
    (he : ∀ (x : Nat) (acc : List V) (Q : VK), x ∈ l → Q (f x) (upd H1 D (.lst acc)) → te ((wipe σ vs).set j (some (.str (S [x])))) (upd H1 D (.lst acc)) Q)
    (hd : Qd (upd H1 D (.lst ((l.filter p).map f)))) :
    ∃ W : Nat → Nat → Hp → Prop, (∃ m, W 0 m (upd H1 D (.lst []))) ∧ ∀ i m H, W i m H →
      ((Its (S l)).stop i H ∧ Qd H) ∨ ((Its (S l)).go i H ∧ ∃ Nx : Hp → Prop, (∀ H', Nx H' → ∃ m', m' < m ∧ W (i + 1) m' H') ∧ ∀ x H', (Its (S l)).yld i H x H' → gName j x (wipe σ vs) H' fun σ2 H2 => wipe σ2 vs = wipe σ vs ∧ tt σ2 H2 fun b H3 =>
        if b = true then te σ2 H3 fun y H4 => ∃ acc, H4 D = some (.lst acc) ∧ acc.length < sizeLine ∧ Nx (upd H4 D (.lst (acc ++ [y]))) else Nx H3) := by
  have hsz : (S l).cps.size = l.length := S_len l
  refine ⟨fun i m H => m = l.length - i ∧ i ≤ l.length ∧ H = upd H1 D (.lst (((l.take i).filter p).map f)), ⟨l.length, by simp, Nat.zero_le _, rfl⟩, ?_⟩
  rintro i m H ⟨rfl, hi, rfl⟩
  by_cases hlt : i < l.length
  · refine .inr ⟨by show i < (S l).cps.size; rw [hsz]; exact hlt, fun H' => H' = upd H1 D (.lst (((l.take (i + 1)).filter p).map f)), fun H' e => ⟨l.length - (i + 1), by omega, rfl, hlt, e⟩, ?_⟩
    rintro x H' ⟨rfl, c, hc, rfl⟩
    have hc' : l[i]? = some c := by simpa using hc
    have hm : c ∈ l := List.mem_of_getElem? hc'
    have et : l.take (i + 1) = l.take i ++ [c] := by rw [List.take_add_one, hc']; rfl
    refine ⟨hw _, ht c _ _ hm ?_⟩
    cases hp : p c with
    | true =>
      rw [if_pos rfl]
      refine he c _ _ hm ⟨_, upd_same, ?_, ?_⟩
      · rw [List.length_map]
        have := List.length_filter_le p (l.take i)
        rw [List.length_take] at this
        omega
      · rw [upd_upd, et, List.filter_append, List.map_append]
        simp [hp]
    | false =>
      rw [if_neg Bool.false_ne_true, et, List.filter_append]
      simp [hp]
  · have e : i = l.length := by omega
    subst e
    rw [List.take_length]
    exact .inl ⟨by show (S l).cps.size ≤ _; rw [hsz]; exact Nat.le_refl _, hd⟩
theorem filter_nil_iff {α : Type} {p : α → Bool} {l : List α} : ((l.filter p).length = 0) ↔ ∀ x ∈ l, p x = false := by
  rw [List.length_eq_zero_iff, List.filter_eq_nil_iff]
  exact ⟨fun h x hx => by simpa using h x hx, fun h x hx => by rw [h x hx]; exact Bool.false_ne_true⟩
end RK

namespace RK
open PySem PySem.Spec PyProof.Rows L2 SX
/-! ### the rules once more, with the written part named -/
section
variable {X : Cx} {K : PySem.W.Frag} (h : X.K = K)
include h
theorem ko_add : OpR X (binaryOp .Add) (mAdd K) := h ▸ xo_add
theorem ko_eq (hu : X.A.units + 64 < cLine) : OpR X (compareOp .Eq) (mEq K) := h ▸ xo_eq hu
theorem ko_ne (hu : X.A.units + 64 < cLine) : OpR X (compareOp .NotEq) (mNe K) := h ▸ xo_ne hu
theorem ko_in : OpR X (compareOp .In) (mIn K false) := h ▸ xo_in
theorem ko_notin : OpR X (compareOp .NotIn) (mIn K true) := h ▸ xo_notin
theorem kc_len : CallR X (.builtin "len") (mLen K) := h ▸ xc_len
theorem kc_list (hc : X.calm = true) : CallR X (.type "list") (mList K) := h ▸ xc_list hc
theorem kc_tuple : CallR X (.type "tuple") (mTuple K) := h ▸ xc_tuple
theorem kc_sorted : CallR X (.builtin "sorted") (rSortedS K) := h ▸ cr_sortedS
theorem kix : IxR X (mIx K) := h ▸ xix
theorem ksl : SlR X (mSl K) := h ▸ xsl
theorem ke_rev {e : Expr} {te : TE} {k : Nat} {p1 p2 p3 pos : Pos} (he : PE X e te) : PE X (.Subscript e (.Slice none none (some (.UnaryOp .USub (.Constant (.int 1) k p1) p2)) p3) pos) (xRev K te) := h ▸ xe_rev he
theorem km_index : MtR X "list.index" (lmIndex K) := h ▸ xm_index
theorem km_count : MtR X "list.count" (lmCount K) := h ▸ xm_count
theorem ki_seq {tg l : Expr} {tl : TE} (hl : PE X l tl) : PI X tg l (iSeq K tl) := h ▸ xi_seq hl
theorem ke_bm {o e : Expr} {es : List Expr} {to : TE} {t : TA} {name : Str} {apos cpos : Pos} {T id : String} {r : V → List V → Hp → VK → Prop} (pa : PlainAttrs T) (slot : Slot T name id) (hty : typeOf (.builtin id) = pure (.type "method_descriptor")) (hm : MtR X id r) (ho : PE X o to) (ha : PA X (e :: es) t)
    (hbase : attributeBase o name X.env (eval o X.env) = eval o X.env := by rfl)
    (hfew : ((backTo cpos (starEach (e :: es) X.env)).all (fun x => !x.1) && (backToKw cpos (keywordEach [] X.env)).all (fun x => x.1.isSome)
      && decide ((e :: es).length + ([] : List Keyword).length + (if ([] : List Keyword).isEmpty then 0 else 1) < 30)) = true := by rfl)
    (hline : (apos.endLine == cpos.line) = true := by rfl) (hs : starEach (e :: es) X.env = (false, eval e X.env) :: starEach es X.env := by rfl) (hplain : (backTo cpos (starEach es X.env)).any (·.1) = false := by rfl) :
    PE X (.Call (.Attribute o name apos) (e :: es) [] cpos) (tBM K T r to t) := h ▸ pe_bm pa slot hty hm ho ha hbase hfew hline hs hplain
end
end RK

namespace PyProof.Rows
open PySem PySem.Spec
section
variable {prog : Program} {w : World} {A : Around} {E : Value → Shared → Prop} {s : Shared}
/-- what a tuple holds is put into a list, as of a list -/
theorem rk_collect {l : Addr} {T : String} {o : Obj} {n : Nat} {vs : List Value} {Q : List Value → Shared → Prop} (hT : T = "list" ∨ T = "tuple") (ho : s.heap.get? l = some o) (hc : o.cls = .type T) (hd : o.data = .seq vs.toArray n)
    (h : Q vs { s with heap := (s.heap.push (seqObj "list" #[] 0)).update s.heap.objs.size (Obj.mapSeq (· ++ vs.toArray)) }) (hz : vs.length ≤ sizeLine) :
    wpAny (model prog w) A (collect (.ref l)) Q E s := by
  unfold collect
  apply wpAny_bind
  apply wpAny_runValue
  apply codeAny_builtin entry_proto_collect'
  show wpAny _ _ (do again (.builtin "list.__iadd__" ⟨[← newList [], .ref l], []⟩)) _ _ s
  apply wpAny_bind
  refine wpAny_newList ?_
  apply wpAny_pure
  refine ⟨Code.quiet_builtin _ (by decide +kernel), ?_⟩
  apply codeAny_builtin entry_list_iadd'
  show wpAny _ _ (Builtin.List.listExtendWith (.ref s.heap.objs.size) (.ref l) (.ref s.heap.objs.size)) _ _ { s with heap := s.heap.push (seqObj "list" #[] 0) }
  unfold Builtin.List.listExtendWith
  have old : (s.heap.push (seqObj "list" #[] 0)).get? l = some o := Heap.get?_push_of_some _ ho
  apply wpAny_bind
  refine wpAny_typeOf (T := T) ⟨o, old, hc⟩ ?_
  have cond : ∀ b : Bool, (b || Value.type T == Value.type "list" || Value.type T == Value.type "tuple") = true := by
    intro b
    rcases hT with rfl | rfl <;> cases b <;> decide
  rw [if_pos (by rcases hT with rfl | rfl <;> simp)]
  apply wpAny_bind
  refine listItems_at old hd ?_
  apply wpAny_bind
  refine listItems_at (xs := #[]) (n := 0) (Heap.get?_push_size _ rfl) rfl ?_
  rw [if_neg (by simp)]
  apply wpAny_bind
  refine listUpdate_at (xs := #[]) (n := 0) (Heap.get?_push_size _ rfl) rfl ?_ (Nat.zero_le _) (by show (#[] ++ vs.toArray).size ≤ sizeLine + 1; simp only [Array.size_append, List.size_toArray, List.length_nil]; omega)
  apply wpAny_pure
  show wpAny (model prog w) A (do
      let o ← load s.heap.objs.size
      match o.data with | .seq xs _ => pure xs.toList | _ => unsupported "internal:collect") Q E { s with heap := (s.heap.push (seqObj "list" #[] 0)).update s.heap.objs.size (Obj.mapSeq (· ++ vs.toArray)) }
  apply wpAny_bind
  refine wpAny_load (get?_update_seq (Heap.get?_push_size _ rfl) _) ?_
  show wpAny _ _ (pure ((#[] : Array Value) ++ vs.toArray).toList) Q E _
  have e : ((#[] : Array Value) ++ vs.toArray).toList = vs := by simp
  rw [e]
  exact wpAny_pure h
theorem rk_sorted {T : String} {o : Obj} {n : Nat} {l : Addr} {vs : List Value} {ss : List Str} {Q : Value → Shared → Prop} (hT : T = "list" ∨ T = "tuple") (ho : s.heap.get? l = some o) (hc : o.cls = .type T) (hd : o.data = .seq vs.toArray n) (hS : StrsAre vs ss) (h64 : vs.length < 64)
    (h : ∀ (out : Array Value) (zs : List Str), StrsAre out.toList zs → zs.Perm ss → sortedS zs = true → Q (.ref (s.heap.objs.size + 1)) { s with heap := sortedAll s.heap vs out }) :
    wpAny (model prog w) A (call (.builtin "sorted") [.ref l]) Q E s := by
  have line := sizeLine_eq
  apply Calls.call_function_entry kind_sorted plain_sorted entry_sorted (args_sorted1 _)
  unfold Builtin.«sorted»
  refine wpAny_bind (m := checkCount "sorted" 1 1 _) ?_
  apply wpAny_pure
  apply wpAny_bind
  refine rk_collect hT ho hc hd ?_ (by omega)
  apply wpAny_bind
  refine wpAny_newList ?_ (by omega)
  generalize hh : (s.heap.push (seqObj "list" #[] 0)).update s.heap.objs.size (Obj.mapSeq (· ++ vs.toArray)) = hp
  have hsz : hp.objs.size = s.heap.objs.size + 1 := by
    rw [← hh, Heap.size_update, size_push']
  have hoL : (hp.push (seqObj "list" vs.toArray 0)).get? (s.heap.objs.size + 1) = some (seqObj "list" vs.toArray 0) := by
    rw [← hsz]
    exact Heap.get?_push_size _ rfl
  show wpAny _ _ _ _ _ { s with heap := hp.push (seqObj "list" vs.toArray 0) }
  rw [hsz]
  apply wpAny_bind
  apply wpAny_holding
  refine wpAny_call_entry slot_list_sort ⟨_, hoL, rfl⟩ entry_list_sort (list_sort_treeK (κ := strKind) strKind_oneLt hoL hS.keysOf (fun v₁ v₂ rest e => keyKind_strs (by rw [← e]; exact hS)) h64 fun st' hp' hs => ⟨_, rfl, ?_⟩) (args_list_sort _)
  obtain ⟨zs, q1, q2, q3⟩ := sorted_out_str hS hp' hs
  refine wpAny_pure ⟨_, rfl, ?_⟩
  have z := h _ zs q1 q2 q3
  unfold sortedAll at z
  rw [hh] at z
  exact z
end
end PyProof.Rows
namespace RK
open PySem PySem.Spec PyProof.Rows L2 SX
def mSort (K : PySem.W.Frag) : List V → Hp → VK → Prop := fun vs H Q => match vs with
  | [.ref p] => ∃ xs : List Str, Sq K H p (xs.map V.str) ∧ xs.length < 64 ∧ ∀ (ys : List Str) (q : Addr), ys.Perm xs → sortedS ys = true → H q = none → Q (.ref q) (upd H q (.lst (ys.map V.str)))
  | _ => False
theorem kc_sort {X : Cx} {K : PySem.W.Frag} (hK : X.K = K) : CallR X (.builtin "sorted") (mSort K) := by
  subst hK
  intro pins s σ H vs us Q I r h
  unfold mSort at h
  split at h
  · rename_i p
    obtain ⟨xs, hs, h64, q⟩ := h
    rw [Vals.ref1 r]
    have fin : ∀ its : List Value, Vals (xs.map V.str) its → ∀ (out : Array Value) (zs : List Str), StrsAre out.toList zs → zs.Perm xs → sortedS zs = true → EP X pins σ Q (.ref (s.heap.objs.size + 1)) { s with heap := sortedAll s.heap its out } := by
      intro its rv out zs h1 h2 h3
      obtain ⟨ep, he'⟩ := PyProof.Rows.sortedAll_at s.heap its out
      have hz : (zs.map V.str).length ≤ sizeLine := by rw [List.length_map, h2.length_eq, sl_big]; omega
      exact ⟨.ref _, upd H (s.heap.objs.size + 1) (.lst (zs.map V.str)), I.laid (t' := s.toks) (fun _ _ => PyProof.Rows.sortedAll_old) (Nat.le_succ _) ⟨hz, out.toList, ep, vals_of_strs h1, he'⟩, rfl, q zs _ h2 h3 (I.hok.fresh (Nat.le_succ _))⟩
    rcases hs with hs | hs
    · obtain ⟨its, rv, pl, _⟩ := I.list hs
      have hl := rv.length
      rw [List.length_map] at hl
      obtain ⟨o, ho, hc, n, hd⟩ := pl.isList
      exact PyProof.Rows.rk_sorted (.inl rfl) ho hc hd rv.strs (by omega) (fin its rv)
    · obtain ⟨its, rv, pl, _⟩ := I.tuple hs
      have hl := rv.length
      rw [List.length_map] at hl
      obtain ⟨o, ho, hc, n, hd⟩ := pl
      exact PyProof.Rows.rk_sorted (.inr rfl) ho hc hd rv.strs (by omega) (fin its rv)
  · exact h.elim
/-! ### lists of texts -/
def sv (ts : List (List Nat)) : List V := ts.map fun t => V.str (S t)
theorem sv_len (ts : List (List Nat)) : (sv ts).length = ts.length := List.length_map _
theorem sv_flat (ts : List (List Nat)) : (sv ts).all flatV = true := List.all_eq_true.mpr fun x hx => by
  obtain ⟨t, _, rfl⟩ := List.mem_map.mp hx
  rfl
theorem sv_app (a b : List (List Nat)) : sv (a ++ b) = sv a ++ sv b := List.map_append
theorem sv_get {ts : List (List Nat)} {i : Nat} {t : List Nat} (h : ts[i]? = some t) : (sv ts)[i]? = some (.str (S t)) := by
  unfold sv
  rw [List.getElem?_map, h]
  rfl
theorem sv_mem {ts : List (List Nat)} {v : V} (h : v ∈ sv ts) : ∃ t, t ∈ ts ∧ v = .str (S t) := by
  obtain ⟨t, h1, h2⟩ := List.mem_map.mp h
  exact ⟨t, h1, h2.symm⟩
theorem str_eqv (a b : List Nat) : eqV (.str (S a)) (.str (S b)) = decide (a = b) := by
  show (S a == S b) = _
  rw [S_beq_eq]
theorem inV_sv (t : List Nat) (ts : List (List Nat)) : inV (.str (S t)) (sv ts) = decide (t ∈ ts) := by
  unfold inV sv
  rw [List.any_map, Bool.eq_iff_iff, decide_eq_true_iff, List.any_eq_true]
  constructor
  · rintro ⟨x, h1, h2⟩
    have e : eqV (.str (S x)) (.str (S t)) = true := h2
    rw [str_eqv] at e
    have := of_decide_eq_true e
    subst this
    exact h1
  · intro h
    exact ⟨t, h, by show eqV (.str (S t)) (.str (S t)) = true; rw [str_eqv]; exact decide_eq_true rfl⟩
theorem sv_erase (ts : List (List Nat)) (k : Nat) : (sv ts).eraseIdx k = sv (ts.eraseIdx k) := by
  unfold sv
  induction ts generalizing k with
  | nil => simp
  | cons t r ih =>
    cases k with
    | zero => simp
    | succ k =>
      have := ih k
      simp_all
theorem sv_take (ts : List (List Nat)) (k : Nat) : (sv ts).take k = sv (ts.take k) := by unfold sv; rw [List.map_take]
theorem sv_strs (ts : List (List Nat)) : sv ts = (ts.map S).map V.str := by unfold sv; rw [List.map_map]; rfl
/-- a function of texts, on values -/
def onS (g : List Nat → List Nat) : V → V
  | .str z => .str (S (g z.cps.toList))
  | v => v
theorem sv_on (g : List Nat → List Nat) (ts : List (List Nat)) : (sv ts).map (onS g) = sv (ts.map g) := by
  unfold sv
  rw [List.map_map, List.map_map]
  rfl
theorem sorted_same {a b : List Str} (ha : sortedS a = true) (hb : sortedS b = true) (h : a.Perm b) : a = b := by
  have up : ∀ l : List Str, sortedS l = true → l.Pairwise (fun x y => x.cps.toList ≤ y.cps.toList) := by
    have go : ∀ (l : List Str) (p : Str), risingS p l = true → (p :: l).Pairwise (fun x y => x.cps.toList ≤ y.cps.toList) := by
      intro l
      induction l with
      | nil => intro p _; simp
      | cons x r ih =>
        intro p h
        have h' : (!ltCps x.cps.toList p.cps.toList && risingS x r) = true := h
        rw [Bool.and_eq_true] at h'
        have hr := ih x h'.2
        have px : p.cps.toList ≤ x.cps.toList := by
          have e := h'.1
          rw [ltCps_eq] at e
          have : decide (x.cps.toList < p.cps.toList) = false := by simpa using e
          exact of_decide_eq_false this
        rw [List.pairwise_cons]
        refine ⟨fun y hy => ?_, hr⟩
        rcases List.mem_cons.mp hy with e | hy
        · rw [e]; exact px
        · exact List.le_trans px ((List.pairwise_cons.mp hr).1 y hy)
    intro l hl
    cases l with
    | nil => exact List.Pairwise.nil
    | cons x r => exact go r x hl
  exact h.eq_of_pairwise (fun x y _ _ h1 h2 => ext_toList (List.le_antisymm h1 h2)) (up a ha) (up b hb)
/-! ### == of lists of texts -/
def dS (ts : List (List Nat)) : List PyData := ts.map fun t => PyData.str (S t)
theorem dp_sv {K : PySem.W.Frag} {H : Hp} : ∀ ts : List (List Nat), DpAll K H (sv ts) (dS ts)
  | [] => .nil
  | t :: r => .cons (.str _) (dp_sv r)
/-- a short text of ASCII signs -/
structure Fine (t : List Nat) : Prop where
  l : t.length ≤ 250
  a : ∀ c ∈ t, c < 128
def Fines (ts : List (List Nat)) : Prop := ∀ t ∈ ts, Fine t
theorem Fines.sub {ts us : List (List Nat)} (h : Fines ts) (k : ∀ t ∈ us, t ∈ ts) : Fines us := fun t ht => h t (k t ht)
theorem IsNm.fine {l : List Nat} (h : IsNm l) : Fine l := ⟨Nat.le_trans h.l1 (by decide), fun c hc => by have := lowD_lt (word_all h.w c hc); omega⟩
theorem Fine.all {t : List Nat} (h : Fine t) : t.all (· < 128) = true := List.all_eq_true.mpr fun c hc => decide_eq_true (h.a c hc)
theorem shaped_dS {ts : List (List Nat)} (hf : Fines ts) : SeqAt.shaped (.list (dS ts)) = true := by
  have go : ∀ l : List (List Nat), Fines l → PyData.canLayAll0 (l.map fun t => PyData.str (S t)) = true ∧ PyData.depthAll (l.map fun t => PyData.str (S t)) ≤ 1 := by
    intro l
    induction l with
    | nil => exact fun _ => ⟨by simp [PyData.canLayAll0], by simp [PyData.depthAll]⟩
    | cons t r ih =>
      intro hl
      have ih := ih (hl.sub fun x hx => List.mem_cons_of_mem _ hx)
      have ht := hl t List.mem_cons_self
      refine ⟨?_, ?_⟩
      · have o : PyData.strOk (S t) = true := by
          show (S t).cps.all (· < 0x110000) = true
          rw [Array.all_eq_true']
          intro c hc
          have := ht.a c (by simpa using hc)
          exact decide_eq_true (by omega)
        rw [List.map_cons, PyData.canLayAll0, ih.1]
        simp [PyData.canLay0, o]
      · have := ih.2
        simp only [List.map_cons, PyData.depthAll, PyData.depth]
        omega
  unfold SeqAt.shaped dS
  have h := go ts hf
  rw [Bool.and_eq_true, PyData.canLay0]
  refine ⟨h.1, decide_eq_true ?_⟩
  simp only [PyData.depth]
  omega
theorem eqv_dS (a b : List (List Nat)) : PyData.eqv (.list (dS a)) (.list (dS b)) = decide (a = b) := by
  rw [PyData.eqv]
  induction a generalizing b with
  | nil => cases b <;> simp [dS, PyData.eqvAll]
  | cons x r ih =>
    cases b with
    | nil => simp [dS, PyData.eqvAll]
    | cons y t =>
      have ih := ih t
      unfold dS at ih ⊢
      rw [List.map_cons, List.map_cons, PyData.eqvAll, ih, PyData.eqv]
      rw [Bool.eq_iff_iff]
      simp
theorem liking_iff {ls ts : List (List Nat)} (nd : ts.Nodup) : (ls.length = ts.length ∧ ∀ t ∈ ts, ls.count t = 1) ↔ ls.Perm ts := by
  constructor
  · rintro ⟨h1, h2⟩
    induction ts generalizing ls with
    | nil => rw [List.length_eq_zero_iff.mp h1]
    | cons t r ih =>
      have ht := h2 t List.mem_cons_self
      have hm : t ∈ ls := List.count_pos_iff.mp (by omega)
      have p := List.perm_cons_erase hm
      have nd' := List.nodup_cons.mp nd
      refine p.trans (List.Perm.cons t (ih nd'.2 (by rw [List.length_erase_of_mem hm, h1]; rfl) fun x hx => ?_))
      have ne : x ≠ t := fun e => nd'.1 (e ▸ hx)
      rw [List.count_erase_of_ne ne]
      exact h2 x (List.mem_cons_of_mem _ hx)
  · intro h
    refine ⟨h.length_eq, fun t ht => ?_⟩
    rw [h.count_eq]
    have := List.nodup_iff_count.mp nd t
    have := List.count_pos_iff.mpr ht
    omega
theorem count_sv (t : List Nat) (ts : List (List Nat)) : (sv ts).countP (fun x => eqV x (.str (S t))) = ts.count t := by
  unfold sv
  rw [List.countP_map, List.count]
  congr 1
  funext x
  show eqV (.str (S x)) (.str (S t)) = (x == t)
  rw [str_eqv, Bool.eq_iff_iff]
  simp
end RK

namespace RK
open PySem PySem.Spec PyProof.Rows L2 SX
def W21 : List (List Nat) := [[116, 111, 119, 110], [116, 104, 105, 110, 103], [108, 97, 110, 100], [97, 108, 108], [115, 101, 116, 116, 108, 101], [119, 104, 105, 108, 101], [117, 110, 116, 105, 108], [105, 102], [101, 108, 115, 101], [101, 97, 99, 104], [97, 102, 108, 111, 97, 116], [107, 101, 112, 116], [97, 110, 121], [102, 117, 108, 108], [110, 111, 116], [115, 101, 97, 115], [105, 116, 48], [115, 101], [105], [102, 114, 101, 101], [108, 97, 110, 100, 101, 100]]
theorem words_eq : ([V.str (Str.ofString "town"), V.str (Str.ofString "thing"), V.str (Str.ofString "land"), V.str (Str.ofString "all"), V.str (Str.ofString "settle"), V.str (Str.ofString "while"), V.str (Str.ofString "until"), V.str (Str.ofString "if"), V.str (Str.ofString "else"), V.str (Str.ofString "each"), V.str (Str.ofString "afloat"), V.str (Str.ofString "kept")] ++ [V.str (Str.ofString "any"), V.str (Str.ofString "full"), V.str (Str.ofString "not"), V.str (Str.ofString "seas"), V.str (Str.ofString "it0"), V.str (Str.ofString "se"), V.str (Str.ofString "i"), V.str (Str.ofString "free"), V.str (Str.ofString "landed")] : List V) = sv W21 := by decide +kernel
theorem w21_nm : ∀ l ∈ W21, IsNm l := by
  have h : W21.all nameL = true := by decide +kernel
  exact fun l hl => nameL_iff.mp (List.all_eq_true.mp h l hl)
theorem lit_a09 : Str.ofString "a09zt" = S [97, 48, 57, 122, 116] := by decide +kernel
theorem lit_quays : Str.ofString "quays" = S [113, 117, 97, 121, 115] := by decide +kernel
theorem lit_sp : Str.ofString " " = S [32] := by decide +kernel
theorem lit_nl : Str.ofString "\n" = S [10] := by decide +kernel
theorem cut7 (l : List Nat) : cutS (S l) none (some 7) = S (l.take 7) := cut_to l 7
theorem cut5 (l : List Nat) : cutS (S l) none (some 5) = S (l.take 5) := cut_to l 5
theorem cut9 (l : List Nat) : cutS (S l) none (some 9) = S (l.take 9) := cut_to l 9
theorem num_S0 (i : Nat) : (((toString (0 + (i : Int))) : String) : Str) = S (TL.numL i) := by
  rw [Int.zero_add]
  exact num_S i
theorem log_ok {i : Nat} (h : i ≤ 1000) : ((0 : Int) + (i : Int)).natAbs.log2 < 1920 := by
  have : ((0 : Int) + (i : Int)).natAbs = i := by omega
  rw [this]
  exact Nat.lt_of_le_of_lt (Nat.log2_le_self i) (by omega)
theorem num_fine {k : Nat} : ∀ c ∈ TL.numL k, lowD c = true := fun c hc => by
  have h : 48 ≤ c ∧ c ≤ 57 := by
    have := TL.numL_digits k
    first | exact this c hc | exact List.all_eq_true.mp this c hc
  unfold lowD
  rw [decide_eq_true h.1, decide_eq_true h.2]
  simp
theorem nm_dig {m : List Nat} {k : Nat} (w : word m = true) (hm : m.length ≤ 5) (hk : k < 1000) : IsNm (m ++ TL.numL k) := by
  have hl := TL.numL_len (n := k) (k := 3) (by decide) hk
  have last : ∀ c, (m ++ TL.numL k).getLast? = some c → 48 ≤ c ∧ c ≤ 57 := by
    intro c hc
    have hm : c ∈ TL.numL k := by
      rw [List.getLast?_append] at hc
      cases e : (TL.numL k).getLast? with
      | none => exact absurd (List.getLast?_eq_none_iff.mp e) (TL.numL_ne k)
      | some d =>
        rw [e] at hc
        have : d = c := by simpa using hc
        subst this
        exact List.mem_of_getLast? e
    have := TL.numL_digits k
    first | exact this c hm | exact List.all_eq_true.mp this c hm
  refine ⟨word_app w fun c hc => num_fine c hc, by rw [List.length_append]; omega, fun e => ?_, fun e => ?_⟩
  · have := last 97 (by rw [e]; rfl)
    omega
  · have := last 116 (by rw [e]; rfl)
    omega
theorem pigeon {ts : List (List Nat)} {m : List Nat} (h : ∀ j, j < ts.length + 1 → (m ++ TL.numL j) ∈ ts) : False := by
  have nd : ((List.range (ts.length + 1)).map fun j => m ++ TL.numL j).Nodup := by
    unfold List.Nodup
    rw [List.pairwise_map]
    exact List.Pairwise.imp (fun {a b} ne e => ne (TL.numL_inj (List.append_cancel_left e))) List.nodup_range
  have := nd.length_le_of_subset fun x hx => by
    obtain ⟨j, hj, rfl⟩ := List.mem_map.mp hx
    exact h j (List.mem_range.mp hj)
  rw [List.length_map, List.length_range] at this
  omega
end RK

namespace RK
open PySem PySem.Spec PyProof.Rows L2 SX
theorem signs_S (l : List Nat) : signs (S l) = sv (l.map fun c => [c]) := by
  unfold signs sv
  rw [List.map_map]
  rfl
theorem one_get {ls : List Nat} {i : Nat} {c : Nat} (h : ls[i]? = some c) : (sv (ls.map fun c => [c]))[i]? = some (.str (S [c])) := sv_get (by rw [List.getElem?_map, h]; rfl)
theorem one_len (ls : List Nat) : (sv (ls.map fun c => [c])).length = ls.length := by rw [sv_len, List.length_map]
theorem one_erase (ls : List Nat) (k : Nat) : (sv (ls.map fun c => [c])).eraseIdx k = sv ((ls.eraseIdx k).map fun c => [c]) := by
  rw [sv_erase]
  congr 1
  induction ls generalizing k with
  | nil => simp
  | cons t r ih =>
    cases k with
    | zero => simp
    | succ k =>
      have := ih k
      simp_all
theorem nd_erase {ls : List Nat} {k : Nat} {c : Nat} (nd : ls.Nodup) (h : ls[k]? = some c) : c ∉ ls.eraseIdx k ∧ (ls.eraseIdx k).Nodup ∧ (∀ x ∈ ls.eraseIdx k, x ∈ ls) := by
  have hk := (List.getElem?_eq_some_iff.mp h).1
  refine ⟨fun hm => ?_, nd.sublist (List.eraseIdx_sublist ls k), fun x hx => (List.eraseIdx_sublist ls k).subset hx⟩
  obtain ⟨i, hi, ne, e⟩ := List.mem_eraseIdx_iff_getElem.mp hm
  exact ne (nd_ix nd (List.getElem?_eq_some_iff.mpr ⟨hi, e⟩) h)
theorem rep_cons {r : Nat} (hr : 1 ≤ r) (c : Nat) : rep r [c] = c :: rep (r - 1) [c] := by
  obtain ⟨k, rfl⟩ : ∃ k, r = k + 1 := ⟨r - 1, by omega⟩
  rw [rep_succ]
  rfl
theorem rep_mem {r c x : Nat} (h : x ∈ rep r [c]) : x = c := by
  induction r with
  | zero => simp [rep] at h
  | succ r ih =>
    rw [rep_succ] at h
    rcases List.mem_append.mp h with h | h
    · exact List.mem_singleton.mp h
    · exact ih h
theorem mid_ne {m d : List Nat} {a b r q : Nat} (hr : 1 ≤ r) (hq : 1 ≤ q) (h : m ++ rep r [a] ++ d = m ++ rep q [b] ++ d) : a = b := by
  rw [List.append_assoc, List.append_assoc] at h
  have h := List.append_cancel_left h
  rw [rep_cons hr, rep_cons hq] at h
  exact (List.cons.inj h).1
/-- a name made of one sign within a stem -/
theorem mid_nm {st : List Nat} {a r c : Nat} (hs : (st = [] ∧ 1 ≤ r ∧ r ≤ 8) ∨ (word st = true ∧ 4 ≤ st.length ∧ st.length ≤ 7 ∧ r = 1)) (hc : low c = true) : IsNm (st.take a ++ rep r [c] ++ st.drop a) := by
  have hr : 1 ≤ r := by rcases hs with ⟨_, h, _⟩ | ⟨_, _, _, h⟩ <;> omega
  have ln : (st.take a ++ rep r [c] ++ st.drop a).length = st.length + r := by
    rw [List.length_append, List.length_append, rep_len, List.length_take, List.length_drop]
    simp
    omega
  have all : ∀ x ∈ st, lowD x = true := by
    rcases hs with ⟨rfl, _⟩ | ⟨w, _⟩
    · intro x hx; simp at hx
    · exact word_all w
  have wd : word (st.take a ++ rep r [c] ++ st.drop a) = true := by
    have w1 : word (rep r [c] ++ st.drop a) = true := by
      rw [rep_cons hr]
      show (low c && ((c :: (rep (r - 1) [c] ++ st.drop a)).all lowD)) = true
      rw [hc, Bool.true_and, List.all_eq_true]
      intro x hx
      rcases List.mem_cons.mp hx with e | hx
      · rw [e]; exact low_lowD hc
      rcases List.mem_append.mp hx with hx | hx
      · rw [rep_mem hx]; exact low_lowD hc
      · exact all x (List.mem_of_mem_drop hx)
    rw [List.append_assoc]
    by_cases ha : (st.take a) = []
    · rw [ha]; exact w1
    · rcases hs with ⟨rfl, _⟩ | ⟨w, _⟩
      · simp at ha
      · refine word_app (word_take w ?_) (word_all w1)
        cases a with
        | zero => simp at ha
        | succ a => omega
  refine ⟨wd, by rw [ln]; rcases hs with ⟨rfl, h1, h2⟩ | ⟨_, h1, h2, h3⟩; · show 0 + r ≤ 8; omega
                 · omega, fun e => ?_, fun e => ?_⟩
  · rcases hs with ⟨rfl, h1, h2⟩ | ⟨_, h1, h2, h3⟩
    · simp at e
      have h115 : (115 : Nat) = c := rep_mem (r := r) (by rw [e]; simp)
      have h101 : (101 : Nat) = c := rep_mem (r := r) (by rw [e]; simp)
      omega
    · have := congrArg List.length e
      rw [ln] at this
      simp at this
      omega
  · rcases hs with ⟨rfl, h1, h2⟩ | ⟨_, h1, h2, h3⟩
    · simp at e
      have h115 : (105 : Nat) = c := rep_mem (r := r) (by rw [e]; simp)
      have h101 : (116 : Nat) = c := rep_mem (r := r) (by rw [e]; simp)
      omega
    · have := congrArg List.length e
      rw [ln] at this
      simp at this
      omega
theorem rep_one (c : Nat) : rep 1 [c] = [c] := rfl
end RK

namespace RK
open PySem PySem.Spec PyProof.Rows L2 SX
theorem lit_dg : Str.ofString "0123456789" = S [48, 49, 50, 51, 52, 53, 54, 55, 56, 57] := by decide +kernel
def badL : List Nat := [10, 32, 33, 34, 35, 36, 38, 39, 40, 41, 42, 43, 44, 45, 46, 47, 58, 59, 60, 61, 62, 63, 64, 65, 77, 90, 91, 92, 93, 94, 95, 96, 123, 124, 125, 126]
theorem lit_bad : Str.ofString "\n !\"#$&'()*+,-./:;<=>?@AMZ[\\]^_`{|}~" = S badL := by decide +kernel
theorem not_word_head {c : Nat} {r : List Nat} (h : low c = false) : ¬ IsNm (c :: r) := fun z => by
  have : (low c && (c :: r).all lowD) = true := z.w
  rw [h] at this
  exact Bool.noConfusion this
theorem not_nm_bad {l : List Nat} {c : Nat} (hc : c ∈ l) (h : lowD c = false) : ¬ IsNm l := fun z => by
  have := word_all z.w c hc
  rw [h] at this
  exact Bool.noConfusion this
theorem rep_sub {n : Nat} {l : List Nat} {x : Nat} (h : x ∈ rep n l) : x ∈ l := by
  induction n with
  | zero => simp [rep] at h
  | succ r ih =>
    rw [rep_succ] at h
    rcases List.mem_append.mp h with h | h
    · exact h
    · exact ih h
theorem up_fine {t : List Nat} (h : Fine t) : Fine (t.map up1) := ⟨by rw [List.length_map]; exact h.l, fun c hc => by
  obtain ⟨d, hd, rfl⟩ := List.mem_map.mp hc
  have := h.a d hd
  unfold up1
  split <;> omega⟩
theorem up_not {t : List Nat} (h : IsNm t) : ¬ IsNm (t.map up1) := by
  have w := h.w
  cases t with
  | nil => exact absurd rfl h.ne
  | cons c r =>
    unfold word at w
    have hc := (Bool.and_eq_true _ _ ▸ w).1
    refine not_word_head ?_
    unfold low at hc ⊢
    rw [Bool.and_eq_true, decide_eq_true_iff, decide_eq_true_iff] at hc
    unfold up1
    rw [if_pos hc]
    rw [decide_eq_false (by omega)]
    rfl
theorem up_inj {t u : List Nat} (ht : ∀ c ∈ t, lowD c = true) (hu : ∀ c ∈ u, lowD c = true) (h : t.map up1 = u.map up1) : t = u := by
  induction t generalizing u with
  | nil =>
    cases u with
    | nil => rfl
    | cons c r => simp at h
  | cons a r ih =>
    cases u with
    | nil => simp at h
    | cons c s =>
      rw [List.map_cons, List.map_cons] at h
      have h1 := List.cons.inj h
      have e := ih (fun x hx => ht x (List.mem_cons_of_mem _ hx)) (fun x hx => hu x (List.mem_cons_of_mem _ hx)) h1.2
      have ha := ht a List.mem_cons_self
      have hc := hu c List.mem_cons_self
      have : a = c := by
        unfold lowD low at ha hc
        simp at ha hc
        have h2 := h1.1
        unfold up1 at h2
        split at h2 <;> split at h2 <;> omega
      rw [e, this]
theorem nd_map {ts : List (List Nat)} {g : List Nat → List Nat} (nd : ts.Nodup) (h : ∀ t ∈ ts, ∀ u ∈ ts, g t = g u → t = u) : (ts.map g).Nodup := by
  unfold List.Nodup at nd ⊢
  rw [List.pairwise_map]
  exact List.Pairwise.imp_of_mem (fun {a b} ha hb ne e => ne (h a ha b hb e)) nd
theorem nd_set {ts : List (List Nat)} {j : Nat} (nd : ts.Nodup) (h : ∀ t ∈ ts, t ≠ []) : (ts.set j []).Nodup := by
  induction ts generalizing j with
  | nil => simpa using nd
  | cons t r ih =>
    have n2 := List.nodup_cons.mp nd
    cases j with
    | zero =>
      show ([] :: r : List (List Nat)).Nodup
      exact List.nodup_cons.mpr ⟨fun hm => h [] (List.mem_cons_of_mem _ hm) rfl, n2.2⟩
    | succ j =>
      show (t :: r.set j []).Nodup
      refine List.nodup_cons.mpr ⟨fun hm => ?_, ih n2.2 fun x hx => h x (List.mem_cons_of_mem _ hx)⟩
      rcases List.mem_or_eq_of_mem_set hm with hm | e
      · exact n2.1 hm
      · exact h t List.mem_cons_self e
theorem sv_set (ts : List (List Nat)) (j : Nat) (t : List Nat) : (sv ts).set j (.str (S t)) = sv (ts.set j t) := by unfold sv; rw [List.map_set]
theorem nm_fines {ts : List (List Nat)} (h : ∀ t ∈ ts, IsNm t) : Fines ts := fun t ht => (h t ht).fine
theorem sv_nonempty {ts : List (List Nat)} (h : (0 : Int) < ((sv ts).length : Nat)) : sv ts ≠ [] := fun e => by
  rw [e] at h
  exact absurd h (by decide)
end RK

namespace RK
open PySem PySem.Spec PyProof.Rows L2 SX
theorem xtp {X : Cx} {op : CmpOp} {a b : Expr} {t : TE} {pos : Pos} (h : PC X op a b t) (h1 : behindInMarks op b = false := by rfl) : PT X (.Compare a [op] [b] pos) (xT t) := by
  rw [xT_eq]; exact pt_cmp h h1
theorem perm_pick {α : Type} {l : List α} {i : Nat} {x : α} (h : l[i]? = some x) : (x :: l.eraseIdx i).Perm l := by
  induction l generalizing i with
  | nil => simp at h
  | cons a r ih =>
    cases i with
    | zero =>
      have : a = x := Option.some.inj h
      subst this
      exact List.Perm.refl _
    | succ i => exact (List.Perm.swap a x _).trans (List.Perm.cons a (ih (i := i) h))
/-- a comprehension over a range, its element drawn -/
theorem lc_rng {lo : Int} {n j : Nat} {te : TE} {vs : List Nat} {σ : L2.St} {H1 : Hp} {D : Addr} {Qd : Hp → Prop} (Pv : Nat → Hp → Prop) (hw : ∀ x : V, wipe ((wipe σ vs).set j (some x)) vs = wipe σ vs) (h0 : Pv 0 (upd H1 D (.lst [])))
    (hs : ∀ i H, i < n → Pv i H → te ((wipe σ vs).set j (some (.int (lo + i)))) H fun y H4 => ∃ acc, H4 D = some (.lst acc) ∧ acc.length < sizeLine ∧ Pv (i + 1) (upd H4 D (.lst (acc ++ [y])))) (hd : ∀ H, Pv n H → Qd H) :
    ∃ W : Nat → Nat → Hp → Prop, (∃ m, W 0 m (upd H1 D (.lst []))) ∧ ∀ i m H, W i m H →
      ((Itr lo n).stop i H ∧ Qd H) ∨ ((Itr lo n).go i H ∧ ∃ Nx : Hp → Prop, (∀ H', Nx H' → ∃ m', m' < m ∧ W (i + 1) m' H') ∧ ∀ x H', (Itr lo n).yld i H x H' → gName j x (wipe σ vs) H' fun σ2 H2 => wipe σ2 vs = wipe σ vs ∧ tYes σ2 H2 fun b H3 =>
        if b = true then te σ2 H3 fun y H4 => ∃ acc, H4 D = some (.lst acc) ∧ acc.length < sizeLine ∧ Nx (upd H4 D (.lst (acc ++ [y]))) else Nx H3) := by
  refine lc_range (lo := lo) (n := n) Pv h0 (fun i H hi hP => ?_) hd
  refine ⟨hw _, ?_⟩
  simp only [tYes, ↓reduceIte]
  exact hs i H hi hP
/-- the least index at which an item was there before, or none -/
def FD (ts : List (List Nat)) (v : V) : Prop := (v = .non ∧ ts.Nodup) ∨ ∃ (i : Nat) (t : List Nat), ts[i]? = some t ∧ t ∈ ts.take i ∧ (ts.take i).Nodup ∧ v = .str (S t)
theorem nd_snoc' {ts : List (List Nat)} {i : Nat} {t : List Nat} (h : ts[i]? = some t) (nd : (ts.take i).Nodup) (no : t ∉ ts.take i) : (ts.take (i + 1)).Nodup := by
  rw [List.take_add_one, h]
  exact List.nodup_append.mpr ⟨nd, by simp, fun a ha b hb e => no (by
    have : b = t := by simpa using hb
    rw [← this, ← e]; exact ha)⟩
theorem FD.inj {ts : List (List Nat)} {v w : V} (a : FD ts v) (b : FD ts w) : v = w := by
  have dup : ∀ {i : Nat} {t : List Nat}, ts[i]? = some t → t ∈ ts.take i → ¬ (ts.take (i + 1)).Nodup := by
    intro i t h hm nd
    rw [List.take_add_one, h] at nd
    have := (List.nodup_append.mp nd).2.2 t hm t (by simp)
    exact this rfl
  have sub : ∀ {i k : Nat}, i ≤ k → (ts.take k).Nodup → (ts.take i).Nodup := fun {i k} hik nd => nd.sublist (by
    rw [show ts.take i = (ts.take k).take i by rw [List.take_take, Nat.min_eq_left hik]]
    exact List.take_sublist _ _)
  rcases a with ⟨rfl, nd⟩ | ⟨i, t, h1, h2, h3, rfl⟩
  · rcases b with ⟨rfl, _⟩ | ⟨i, t, h1, h2, h3, rfl⟩
    · rfl
    · exact (dup h1 h2 (nd.sublist (List.take_sublist _ _))).elim
  · rcases b with ⟨rfl, nd⟩ | ⟨k, u, g1, g2, g3, rfl⟩
    · exact (dup h1 h2 (nd.sublist (List.take_sublist _ _))).elim
    · have : i = k := by
        rcases Nat.lt_trichotomy i k with h | h | h
        · exact (dup h1 h2 (sub h g3)).elim
        · exact h
        · exact (dup g1 g2 (sub h h3)).elim
      subst this
      rw [h1] at g1
      rw [Option.some.inj g1]
/-- two values that hold the same data -/
def Rep (H : Hp) : Nat → V → V → Prop
  | _, .non, .non => True
  | _, .bl a, .bl b => a = b
  | _, .int i, .int j => i = j
  | _, .str a, .str b => a = b
  | n + 1, .ref a, .ref b => (∃ xs ys, H a = some (.lst xs) ∧ H b = some (.lst ys) ∧ xs.length = ys.length ∧ ys.length ≤ 1000000 ∧ ∀ (k : Nat) x y, xs[k]? = some x → ys[k]? = some y → Rep H n x y) ∨
      (∃ xs ys, H a = some (.tup xs) ∧ H b = some (.tup ys) ∧ xs.length = ys.length ∧ ys.length ≤ 1000000 ∧ ∀ (k : Nat) x y, xs[k]? = some x → ys[k]? = some y → Rep H n x y)
  | _, _, _ => False
theorem FD.rep {ts : List (List Nat)} {v w : V} {H : Hp} (a : FD ts v) (b : FD ts w) : Rep H 7 v w := by
  have e := a.inj b
  subst e
  rcases a with ⟨rfl, _⟩ | ⟨i, t, _, _, _, rfl⟩
  · exact True.intro
  · exact rfl
theorem first_at : ∀ {ts : List (List Nat)} {k : Nat} {t : List Nat}, ts[k]? = some t → ∃ j, j ≤ k ∧ ts[j]? = some t ∧ ∀ m, m < j → ts[m]? ≠ some t
  | [], _, _, h => by simp at h
  | a :: r, k, t, h => by
    by_cases e : a = t
    · subst e
      exact ⟨0, Nat.zero_le _, rfl, fun m hm => absurd hm (Nat.not_lt_zero m)⟩
    · cases k with
      | zero => exact absurd (Option.some.inj h) e
      | succ k =>
        obtain ⟨j, h1, h2, h3⟩ := first_at (ts := r) (k := k) (t := t) h
        refine ⟨j + 1, by omega, h2, fun m hm => ?_⟩
        cases m with
        | zero => exact fun z => e (Option.some.inj z)
        | succ m => exact h3 m (by omega)
theorem mem_take_iff {ts : List (List Nat)} {k : Nat} {t : List Nat} : t ∈ ts.take k ↔ ∃ m, m < k ∧ ts[m]? = some t := by
  rw [List.mem_iff_getElem?]
  constructor
  · rintro ⟨m, hm⟩
    rw [List.getElem?_take] at hm
    split at hm
    · exact ⟨m, ‹_›, hm⟩
    · cases hm
  · rintro ⟨m, h1, h2⟩
    exact ⟨m, by rw [List.getElem?_take, if_pos h1]; exact h2⟩
theorem sv_us {ys : List Str} : ys.map V.str = sv (ys.map fun z => z.cps.toList) := by
  unfold sv
  rw [List.map_map]
  congr 1
theorem eqv_self (ts : List (List Nat)) : PyData.eqv (.list (dS ts)) (.list (dS ts)) = true := by rw [eqv_dS]; exact decide_eq_true rfl
/-- a function that is never called -/
theorem fn_never {P : Program} {w : World} {K : PySem.W.Frag} {mg : Str → Option Value} {base : Heap} {CX : CXT} {k : Nat} {f : Addr} {fd : FuncData} {ps : List Str} : FnOk P w K mg base CX k f fd ps (fun _ _ _ _ => False) :=
  ⟨fun _ _ _ _ h => h.elim, fun _ _ _ _ _ _ _ _ _ _ _ _ _ h => h.elim⟩
/-- a test of texts, on values -/
def onP (g : List Nat → Bool) : V → Bool
  | .str z => g z.cps.toList
  | _ => false
theorem sv_filter (g : List Nat → Bool) (ts : List (List Nat)) : (sv ts).filter (onP g) = sv (ts.filter g) := by
  unfold sv
  rw [List.filter_map]
  rfl
end RK

namespace RK
open PySem PySem.Spec PyProof.Rows L2 SX
theorem lit_new : Str.ofString "new" = S [110, 101, 119] := by decide +kernel
theorem join_tC {x y : V} {σ : L2.St} {H : Hp} {Q : VK} {c : Bool} (h : ∀ v, (v = x ∨ v = y) → Q v H) : (c = true → tC x σ H Q) ∧ (c = false → tC y σ H Q) := ⟨fun _ => h x (.inl rfl), fun _ => h y (.inr rfl)⟩
theorem sv_back {ys : List V} {ts us : List (List Nat)} (hm : ∀ y ∈ ys, y ∈ sv ts ∨ y ∈ sv us) (hf : Fines ts) (hu : Fines us) : ∃ zs, ys = sv zs ∧ Fines zs := by
  induction ys with
  | nil => exact ⟨[], rfl, fun t ht => by simp at ht⟩
  | cons y r ih =>
    obtain ⟨zs, e, f⟩ := ih fun z hz => hm z (List.mem_cons_of_mem _ hz)
    have : ∃ t, y = .str (S t) ∧ Fine t := by
      rcases hm y List.mem_cons_self with h | h
      · obtain ⟨t, ht, e2⟩ := sv_mem h
        exact ⟨t, e2, hf t ht⟩
      · obtain ⟨t, ht, e2⟩ := sv_mem h
        exact ⟨t, e2, hu t ht⟩
    obtain ⟨t, e2, ft⟩ := this
    exact ⟨t :: zs, by rw [e, e2]; rfl, fun z hz => (List.mem_cons.mp hz).elim (fun h => h ▸ ft) (f z)⟩
theorem sv_inj {a b : List (List Nat)} (h : sv a = sv b) : a = b := by
  have e : ∀ l : List (List Nat), (sv l).map (fun v => match v with | .str z => z.cps.toList | _ => []) = l := by
    intro l
    unfold sv
    rw [List.map_map]
    exact List.map_id l
  rw [← e a, ← e b, h]
theorem sv_perm {ys : List V} {ts : List (List Nat)} (h : ys.Perm (sv ts)) : ∃ us, ys = sv us ∧ us.Perm ts := by
  have e : ∀ l : List (List Nat), (sv l).map (fun v => match v with | .str z => z.cps.toList | _ => []) = l := by
    intro l
    unfold sv
    rw [List.map_map]
    exact List.map_id l
  refine ⟨ys.map (fun v => match v with | .str z => z.cps.toList | _ => []), ?_, ?_⟩
  · unfold sv
    rw [List.map_map]
    refine (List.map_id ys).symm.trans (List.map_congr_left fun y hy => ?_)
    obtain ⟨t, _, rfl⟩ := sv_mem (h.mem_iff.mp hy)
    rfl
  · have := h.map (fun v => match v with | .str z => z.cps.toList | _ => [])
    rw [e] at this
    exact this
theorem sv_rev (ts : List (List Nat)) : (sv ts).reverse = sv ts.reverse := by unfold sv; rw [List.map_reverse]
theorem sv_one (t : List Nat) : [V.str (S t)] = sv [t] := rfl
end RK

namespace RK
open PySem PySem.Spec PyProof.Rows L2 L2H HotX

/-! ### a list walked while an error is handled -/
section
variable {prog : Program} {w : World} {A : Around} {E : Value → Shared → Prop} {s : Shared}
/-- the end of a list iterator: StopIteration gets the handled error as its context, and is thrown away -/
theorem hot_listEnd {j l y1 : Addr} {i : Nat} {its : Array Value} {Q : Option Value → Shared → Prop} (hot : HotAt A y1 s.heap) (hj : s.heap.IsListIter j l i) (hl : s.heap.IsList l its) (out : its[i]? = none) (ny : y1 ≠ j)
    (q : ∀ h2, (∀ b o, b ≠ j → s.heap.get? b = some o → h2.get? b = some o) → Q none { s with heap := h2 }) : wpAny (model prog w) A (pyNext (.ref j)) Q E s := by
  obtain ⟨oj, gj, cj, dj⟩ := id hj
  obtain ⟨ol, gl, _, kl, dl⟩ := hl
  obtain ⟨hh, o1, v1, g1, d1, c1⟩ := hot
  unfold pyNext
  refine wpAny_bind (wpAny_attempt (wpAny_callSpecial?_slot (name := Str.ofString "__next__") hj.typeIs slot_listiter_next (wpAny_call_entry slot_listiter_next hj.typeIs entry_listiter_next ?_ (args_listiter_next _))))
  show wpAny _ _ (do let u ← field (.ref j) 0; _) _ _ s
  refine wpAny_bind (wpAny_field gj dj (x := .ref l) rfl ?_)
  show wpAny _ _ (ite ((Value.ref l == Value.none) = true) _ _) _ _ s
  rw [if_neg (fun z => by cases z)]
  show wpAny _ _ (do let u ← field (.ref j) 1; _) _ _ s
  refine wpAny_bind (wpAny_field gj dj (x := .int i 0) rfl ?_)
  show wpAny _ _ (do let u ← seqItems? (.ref l); _) _ _ s
  refine wpAny_bind (wpAny_seqItems gl dl ?_)
  simp only [Int.toNat_natCast, out]
  refine wpAny_bind (wpAny_rule (wpAny_bind (wpAny_setField gj dj (by simp) ?_)))
  have g1' := (Heap.get?_update_other s.heap (Obj.mapFields (·.setIfInBounds 0 Value.none)) (Ne.symm ny)).trans g1
  show wpAny _ _ (do let u ← newExc (.type "StopIteration") []; _) _ _ _
  refine wpAny_bind ?_
  simp only [newExc, newTuple]
  refine wpAny_bind (wpAny_newObj_type ?_ (by size_fits))
  refine wpAny_bind (m := firstArgMember _ _) (wpAny_of_eq (a := Value.none) (by first | rfl | (simp only [firstArgMember]; rfl)) ?_)
  refine wpAny_newObj_type ?_ (by size_fits)
  refine raiseNew_hot ⟨hh, o1, v1, Heap.get?_push_of_some _ (Heap.get?_push_of_some _ g1'), d1, c1⟩ (Nat.ne_of_lt (Heap.lt_size (Heap.get?_push_of_some _ g1'))) (Heap.get?_push_size _ rfl) rfl
    (by first | (simp; done) | (simp; omega) | (simp only [Array.size_append]; simp; omega)) ?_
  refine wpAny_bind (wpAny_isInstance (T := "StopIteration") (b := true) ⟨_, Heap.get?_update_self _ (Heap.get?_push_size _ rfl) rfl, rfl⟩ isSubtype_stop ?_)
  refine wpAny_pure (q _ fun b o nb gb => ?_)
  have gb' := (Heap.get?_update_other s.heap (Obj.mapFields (·.setIfInBounds 0 Value.none)) (Ne.symm nb)).trans gb
  rw [Heap.get?_update_other _ _ (Nat.ne_of_gt (Heap.lt_size (Heap.get?_push_of_some _ gb')))]
  exact Heap.get?_push_of_some _ (Heap.get?_push_of_some _ gb')
end

section
variable {X : Cx} {tg : Expr}
theorem hot_turnL {P : Program} {w : World} {K : PySem.W.Frag} (a j : Addr) : TurnH P w K tg (Itl K a) [j] j (fun i h => h.IsListIter j a i) where
  mem := List.mem_singleton.mpr rfl
  obj := fun i h ij b hb => by
    cases List.mem_singleton.mp hb
    obtain ⟨oj, gj, cj, dj⟩ := ij
    exact ⟨oj, gj, fun v z => by rw [dj] at z; cases z⟩
  keep := fun i h h2 ij k => ij.at fun o e => k j (List.mem_singleton.mpr rfl) o e
  item := by
    intro X hP hw hK hc i pn s σ H E I own ij go
    subst hP hw hK
    obtain ⟨zs, z, lz, iz⟩ := go
    obtain ⟨us, vz, pl, _⟩ := I.list lz
    obtain ⟨u, iu, ru⟩ := vz.get iz
    obtain ⟨n0, n1, n2, n3, n4, n5⟩ := own j (List.mem_singleton.mpr rfl)
    refine wpAny_pyNext_list_item ij pl.isList (x := u) (by simpa using iu) fun h2 ij2 sb => ?_
    obtain ⟨oj, gj, cj, dj⟩ := id ij2
    refine ⟨u, rfl, go_of (s := { s with heap := h2 }) gj cj dj (by decide) ⟨z, H, ?_, ru, ⟨rfl, fun ys ly => by rw [I.list_inj ly lz]; exact iz⟩, ij2, fun b hb => (own b hb).1⟩⟩
    exact I.turned (t' := s.toks) (fun b o nb e => (sb.2 b nb).trans e) n0 n1 n3 n4 n5
  done := by
    intro X hP hw hK hc i pn s σ H E I own ij stop
    subst hP hw hK
    obtain ⟨zs, lz, iz⟩ := stop
    obtain ⟨us, vz, pl, _⟩ := I.list lz
    obtain ⟨n0, n1, n2, n3, n4, n5⟩ := own j (List.mem_singleton.mpr rfl)
    have len := vz.length
    obtain ⟨p, ⟨hh, v1, e1, c1⟩, hp⟩ := hc
    have gp := (I.pin p (List.mem_append_left _ hp)).1
    exact hot_listEnd (y1 := p.1) ⟨hh, p.2, v1, gp, e1, c1⟩ ij pl.isList (by simp; omega) (n5 p (List.mem_append_left _ hp)) fun h2 kk => ⟨rfl, I.turned (t' := s.toks) kk n0 n1 n3 n4 n5⟩
  self := fun _ _ _ _ _ ij q => wpAny_pyIter_listiter ij q
theorem hot_itL {l : Expr} {tl : TE} (hl : PE X l tl) : PIH X tg l (iList X.K tl) := ⟨fun pn s σ H R I h => by
  refine thn (hl.run pn s σ H _ I h) fun v s1 ⟨x, H1, J, rx, a, ea, ⟨zs, lz⟩, q⟩ => ?_
  subst ea
  cases rx
  obtain ⟨us, _, pl, _⟩ := J.list lz
  refine wpAny_pyIter_list pl.isList ⟨s1.heap.objs.size, [s1.heap.objs.size], _, _, H1, rfl, J.kept (t' := s1.toks) fun b o e => Heap.get?_push_of_some _ e, hot_turnL a _, ⟨_, Heap.get?_push_size _ rfl, rfl, rfl⟩, fun b hb => ?_, q⟩
  cases List.mem_singleton.mp hb
  exact J.fpOk (Nat.le_refl _) (J.hok.fresh (Nat.le_refl _))⟩
end
end RK

namespace RK
open PySem PySem.Spec PyProof.Rows L2 L2H HotX

/-! ### a list comprehension while an error is handled -/
/-- its block: the pins of the def stay -/
abbrev blkP (X : Cx) (s : Shared) (H : Hp) (sc : Scope) (ce : Env) (fp : List Addr) : Cx := { X.blk s H sc ce fp with pn := X.pn }
section
variable {X : Cx}
theorem blkP_hot {s : Shared} {H : Hp} {sc : Scope} {ce : Env} {fp : List Addr} (hc : HotC X) : HotC (blkP X s H sc ce fp) := hc
theorem blkP_inv {s s1 : Shared} {H H1 : Hp} {sc : Scope} {ce : Env} {fp : List Addr} {σ : L2.St} (J : Inv (X.blk s H sc ce fp) [] σ H1 s1)
    (pin : ∀ p ∈ X.pn, s1.heap.get? p.1 = some p.2 ∧ H1 p.1 = none ∧ p.1 ≠ ce.locals ∧ p.1 ∉ frs X.stack ∧ ∀ v, p.2.data ≠ .cell v) : Inv (blkP X s H sc ce fp) [] σ H1 s1 where
  ok := ⟨J.ok.mod, J.ok.kind, J.ok.glob, J.ok.blt, J.ok.above, J.ok.inj, J.ok.has, J.ok.cab, J.ok.hd, J.ok.frames, J.ok.stk, J.ok.exf, J.ok.bs, J.ok.bsz, J.ok.noex, J.ok.exfs, J.ok.funs, J.ok.frf⟩
  os := J.os
  bare := J.bare
  base := J.base
  loc := J.loc
  cell := J.cell
  free := J.free
  freeC := J.freeC
  pin := fun p hp => pin p (by simpa using hp)
  hok := J.hok
  len := J.len
/-- the first state of the block -/
theorem blkP_start {s : Shared} {H : Hp} {σ : L2.St} {pn : List (Addr × Obj)} {sc : Scope} {own : List (Str × Nat)} {fp : List Addr} (I : Inv X pn σ H s) (ok : BlkOk X.N X.env.scope sc own) (nd : X.N.Nodup) (hfp : ∀ b ∈ fp, FpOk X pn H b ∧ b < s.heap.objs.size) :
    Inv (blkP X s H sc (compEnvC sc (cellsFrom (s.heap.objs.size + 1) sc.names (cloFrom X.env.cells sc.names [])) s.heap.objs.size X.env) fp) [] (wipe σ (own.map (·.2))) H
      { s with heap := pushCells (s.heap.push { cls := .type "dict", data := .dict #[] }) sc.names } := by
  refine blkP_inv (block_start I ok nd hfp) fun p hp => ?_
  obtain ⟨g, n, nl, nf, nc⟩ := I.pin p (List.mem_append_left _ hp)
  refine ⟨pushCells_keeps _ _ _ _ (Heap.get?_push_of_some _ g), n, Nat.ne_of_lt (Heap.lt_size g), fun z => ?_, nc⟩
  rcases List.mem_cons.mp (I.stkSub _ z) with z | z
  · exact nl z
  · exact nf z
theorem hot_lc {elt tg iter : Expr} {ifs : List Expr} {sc : Scope} {own : List (Str × Nat)} {pos : Pos} {wi : TI} {g : TG} {tt : TT} {te : TE} (hc : HotC X) (nd : X.N.Nodup) (hi : PIH X tg iter wi) (ok : BlkOk X.N X.env.scope sc own)
    (hg : ∀ s H C cl fp, PG (blkP X s H sc (compEnvC sc cl C X.env) fp) tg g) (ht : ∀ s H C cl fp, PTs (blkP X s H sc (compEnvC sc cl C X.env) fp) ifs tt) (he : ∀ s H C cl fp, PE (blkP X s H sc (compEnvC sc cl C X.env) fp) elt te)
    (hs : ∀ x, foldedSetIterable iter X.env x = pure x := by intro _; rfl) : PE X (.ListComp elt [⟨tg, iter, ifs, 0⟩] sc pos) (tLc wi g tt te (own.map (·.2))) := by
  refine ⟨fun pn s0 σ H0 Q I0 h => ?_⟩
  rw [eval_ListComp]
  have hfree : ∀ y ∈ sc.names, y.2 = .free → ∃ c, X.env.cells.lookup y.1 = some c := fun y hy e => (ok.free y hy e).elim (fun k => I0.ok.has _ (.inl k)) fun k => I0.ok.has _ (.inr k)
  refine wpAny_comprehension_free (use := none) rfl hs (closure_ok hfree) ok.kind (fun y hy e => (ok.uniq y hy).trans (congrArg some e)) (thn (hi.run pn s0 σ H0 _ I0 h) fun xv s1 hx => thn hx fun iv s2 got => ?_)
  obtain ⟨j, fp, tn, J, H2, rfl, I2, T, st2, fp2, q⟩ := got
  refine wpAny_newObj_type (newEnv_comp ?_) (by show 0 ≤ sizeLine; decide)
  have nD : H2 s2.heap.objs.size = none := I2.hok.fresh (Nat.le_refl _)
  obtain ⟨W, ⟨m0, w0⟩, turn⟩ := q s2.heap.objs.size nD
  generalize eD : s2.heap.objs.size = D at *
  generalize e3 : ({ s2 with heap := s2.heap.push { cls := .type "list", data := .seq ([] : List Value).toArray } } : Shared) = s3
  have g3 : s3.heap = s2.heap.push { cls := .type "list", data := .seq ([] : List Value).toArray } := by rw [← e3]
  have I3 : Inv X pn σ (upd H2 D (.lst [])) s3 := by
    rw [← e3]
    exact I2.laid (t' := s2.toks) (fun b o e => Heap.get?_push_of_some _ e) (Nat.le_of_eq eD) ⟨Nat.zero_le _, [], 0, .nil, by rw [← eD]; exact Heap.get?_push_size _ rfl⟩
  have below : ∀ b ∈ fp, b < D := fun b hb => by
    obtain ⟨o, e, _⟩ := T.obj _ _ st2 b hb
    rw [← eD]
    exact Heap.lt_size e
  have own3 : ∀ b ∈ fp, FpOk X pn (upd H2 D (.lst [])) b ∧ b < s3.heap.objs.size := fun b hb =>
    ⟨⟨by rw [upd_ne (Nat.ne_of_lt (below b hb))]; exact (fp2 b hb).1, (fp2 b hb).2⟩, by rw [g3, Heap.size_push, eD]; exact Nat.lt_succ_of_lt (below b hb)⟩
  have st3 : tn 0 s3.heap := T.keep _ _ _ st2 fun b _ o e => by rw [g3]; exact Heap.get?_push_of_some _ e
  have I4 := blkP_start I3 ok nd own3
  have pg := hg s3 (upd H2 D (.lst [])) s3.heap.objs.size (cellsFrom (s3.heap.objs.size + 1) sc.names (cloFrom X.env.cells sc.names [])) fp
  have pt := ht s3 (upd H2 D (.lst [])) s3.heap.objs.size (cellsFrom (s3.heap.objs.size + 1) sc.names (cloFrom X.env.cells sc.names [])) fp
  have pe := he s3 (upd H2 D (.lst [])) s3.heap.objs.size (cellsFrom (s3.heap.objs.size + 1) sc.names (cloFrom X.env.cells sc.names [])) fp
  have n3 : ∀ b ∈ fp, (upd H2 D (.lst [])) b = none := fun b hb => (own3 b hb).1.1
  show codeAny _ _ (.compStart _ 0 (.ref j) (.ref D) (compEnvC sc (cellsFrom (s3.heap.objs.size + 1) sc.names (cloFrom X.env.cells sc.names [])) s3.heap.objs.size X.env)) (compPost _ _ X.xe none _ (.ref D) s3.heap.objs.size)
    { s3 with heap := pushCells (s3.heap.push { cls := .type "dict", data := .dict #[] }) sc.names }
  have hL : (compEnvC sc (cellsFrom (s3.heap.objs.size + 1) sc.names (cloFrom X.env.cells sc.names [])) s3.heap.objs.size X.env).locals = s3.heap.objs.size := rfl
  generalize (compEnvC sc (cellsFrom (s3.heap.objs.size + 1) sc.names (cloFrom X.env.cells sc.names [])) s3.heap.objs.size X.env) = ce at I4 pg pt pe hL ⊢
  generalize upd H2 D (.lst []) = H3 at I3 I4 pg pt pe w0 n3 own3
  generalize e4 : ({ s3 with heap := pushCells (s3.heap.push { cls := .type "dict", data := .dict #[] }) sc.names } : Shared) = s4 at I4 ⊢
  have st4 : tn 0 s4.heap := T.keep _ _ _ st3 fun b _ o e => by rw [← e4]; exact pushCells_keeps _ _ _ _ (Heap.get?_push_of_some _ e)
  generalize eB : blkP X s3 H3 sc ce fp = B at I4 pg pt pe
  have hB : HotC B := by rw [← eB]; exact hc
  -- the iterator's records: nobody else's
  have fpB : ∀ {σ' : L2.St} {H' : Hp} {s' : Shared}, Inv B [] σ' H' s' → (∀ b ∈ fp, H' b = none) → ∀ b ∈ fp, FpOk B [] H' b := fun {σ' H' s'} K n b hb => by
    subst eB
    refine ⟨n b hb, (K.ok.exf b hb).1, K.ok.exfs b hb, .inl hb, (K.ok.exf b hb).2, fun p hp => ?_⟩
    have hp : p ∈ X.pn := by simpa using hp
    exact (own3 b hb).1.2.2.2.2.2 p (List.mem_append_left _ hp)
  have whole : codeAny (model X.prog X.w) X.A (.compLoop (.ListComp elt [⟨tg, iter, ifs, 0⟩] sc pos) 0 (.ref j) (.ref D) ce) (compPost (model X.prog X.w) X.A X.xe none (EP X pn σ Q) (.ref D) s3.heap.objs.size) s4 := by
    have idB : B.A = X.A ∧ B.prog = X.prog ∧ B.w = X.w ∧ B.K = X.K ∧ B.env = ce ∧ B.xe = (fun _ _ => False) ∧ B.N = X.N := by subst eB; exact ⟨rfl, rfl, rfl, rfl, rfl, rfl, rfl⟩
    refine compLoop_any (fun n t => ∃ i Hi, Inv B [] (wipe σ (own.map (·.2))) Hi t ∧ tn i t.heap ∧ (∀ b ∈ fp, Hi b = none) ∧ W i n Hi) ?_ m0 ⟨0, H3, I4, st4, n3, w0⟩
    rintro n t ⟨i, Hi, Ii, sti, ni, wi'⟩
    subst eB
    rcases turn i n Hi wi' with ⟨stop, last⟩ | ⟨go, Nx, less, step⟩
    · -- no more item
      refine thnF (T.done (blkP X s3 H3 sc ce fp) rfl rfl rfl hB i [] t _ Hi (fun _ _ => False) Ii (fpB Ii ni) sti stop) fun r t1 ⟨er, I1⟩ => ?_
      subst er
      have back : Inv X pn σ Hi t1 := I3.call' (ch := fp) I1.os I1.base I1.hok I1.bare fun b hb => by
        obtain ⟨_, o1, _, o3, o4, o5⟩ := (own3 b hb).1
        exact ⟨o3, o1, o4, o5⟩
      obtain ⟨m, ns, _⟩ := I1.loc
      have ns : t1.heap.Ns ce.locals m := ns
      have nC : Hi ce.locals = none := I1.free
      rw [hL] at ns nC
      obtain ⟨_, f1, f2, f3, f4, f5⟩ := I3.fpOk (Nat.le_refl _) nC
      exact ⟨m, ns, fun h2 sb => ⟨.ref D, Hi, back.turned (t' := t1.toks) (fun b o nb e => (sb.2 b nb).trans e) nC f1 f3 f4 f5, rfl, last⟩⟩
    · refine thnF (T.item (blkP X s3 H3 sc ce fp) rfl rfl rfl hB i [] t _ Hi (fun _ _ => False) Ii (fpB Ii ni) sti go) fun r t1 ⟨u, er, more⟩ => ?_
      subst er
      refine thnF more fun _ t2 ⟨x, Hx, Ix, rx, yx, stx, nx⟩ => ?_
      refine thnF (pg.run _ t2 _ Hx x u _ (Ix.pinned (fpB Ix nx) (T.obj _ _ stx)) rx (step x Hx yx)) fun _ t3 ⟨σ3, Hy, Iy, same, qy⟩ => ?_
      -- what one turn leaves
      have next : ∀ {t' : Shared} {H' : Hp}, Inv (blkP X s3 H3 sc ce fp) ([] ++ pinsAt fp t2.heap) σ3 H' t' → Nx H' →
          ∃ m, m < n ∧ ∃ i Hi, Inv (blkP X s3 H3 sc ce fp) [] (wipe σ (own.map (·.2))) Hi t' ∧ tn i t'.heap ∧ (∀ b ∈ fp, Hi b = none) ∧ W i m Hi := fun {t' H'} K' z => by
        obtain ⟨m, lm, wm⟩ := less H' z
        have stay : ∀ b ∈ fp, ∀ o, t2.heap.get? b = some o → t'.heap.get? b = some o ∧ H' b = none := fun b hb o e => by
          have y := K'.pin (b, o) (List.mem_append_right _ (List.mem_append_right _ (mem_pinsAt hb e)))
          exact ⟨y.1, y.2.1⟩
        refine ⟨m, lm, i + 1, H', K'.unpinned.weak (by rw [← same, wipe_length]) (fun k v e => ?_), T.keep _ _ _ stx fun b hb o e => (stay b hb o e).1, fun b hb => ?_, wm⟩
        · rw [← same] at e
          exact (wipe_some e).1
        · obtain ⟨o, e, _⟩ := T.obj _ _ stx b hb
          exact (stay b hb o e).2
      refine thnF (pt.run _ t3 σ3 Hy _ Iy qy) fun yes t4 ⟨Hz, Iz, qz⟩ => ?_
      cases yes with
      | true =>
        try dsimp only at qz
        try dsimp only
        rw [if_pos rfl] at qz ⊢
        refine thnF (pe.run _ t4 σ3 Hz _ Iz qz) fun v t5 ⟨y, Ha, Ia, ra, acc, ha, la, na⟩ => ?_
        exact app_ok (X := blkP X s3 H3 sc ce fp) Ia ha la ra fun t6 I6 => next I6 na
      | false =>
        try dsimp only at qz
        try dsimp only
        rw [if_neg Bool.false_ne_true] at qz ⊢
        exact next Iz qz
  exact codeAny_compStart_list whole (T.self X.A 0 _ _ _ st4 whole)
end
end RK

namespace RK
open PySem PySem.Spec PyProof.Rows L2 L2H HotX

/-! ### a def that is called while p's error is handled: what it promises may speak of p -/
structure FnE (P : Program) (w : World) (K : PySem.W.Frag) (mg : Str → Option Value) (base : Heap) (CX : CXT) (k : Nat) (f : Addr) (fd : FuncData) (ps : List Str) (sp : Addr × Obj → Sp) : Prop where
  len : ∀ p vs H Q E, sp p vs H Q E → vs.length = ps.length
  run : ∀ (p : Addr × Obj) (A : Around) (out : List Env) (s : Shared) (H : Hp) (args : Args) (us : List Value) (vs : List V) (Q : VK) (E : XK), RoomH k A → Hot1 A p → PinOk out H s p → Env0 P w K mg base A out s H →
    BindsTo s fd args (ps.zip us) → Vals vs us → sp p vs H Q E → codeAny (model P w) A (.call (.ref f) args) (CR CX out P w H s Q E) s
section
variable {CX : CXT} {P : Program} {w : World} {K : PySem.W.Frag} {mg : Str → Option Value} {base : Heap} {k : Nat} {f : Addr}
theorem fnE_of {name qual : Str} {params : Arguments} {body : List Stmt} {sc : Scope} {dV kV doc pm cdv ct oc : Value} {an od : Option Addr} {osl : Array (Option Value)} {N ps : List Str} {sp : Addr × Obj → Sp}
    (lk : K.lookup f = some ⟨oc, od, .func (PySem.W.fnOf name qual params body sc dV kV doc pm an cdv ct), osl⟩) (hcd : PySem.W.codeIn K cdv qual = true) (S : FnScope N ps sc) (len : ∀ p vs H Q E, sp p vs H Q E → vs.length = ps.length)
    (go : ∀ (p : Addr × Obj) (A : Around) (out : List Env) (s : Shared) (H : Hp) (vs : List V) (Q : VK) (E : XK), Hot1 A p → RoomH k (A.deeper (envOfC qual sc s.heap.objs.size f cdv)) → sp p vs H Q E →
      ∃ t, PSs (cxH CX P w K mg base N qual sc f cdv A out s H E p) body t ∧ t { nx := fun _ H' => Q .non H', rt := Q } (L2.start N vs) H) :
    FnE P w K mg base CX (k + 1) f (PySem.W.fnOf name qual params body sc dV kV doc pm an cdv ct) ps sp := by
  refine ⟨len, fun p A out s H args us vs Q E room hot pin e0 bind rv h => ?_⟩
  have n := len _ _ _ _ _ h
  have kin : K.In s.heap := e0.mod.kin.keeps fun b o e => (e0.bs b o e).1
  refine codeAny_call_function room.depth (kin _ _ lk) rfl S.co S.gen rfl (PySem.W.codeRec_of kin hcd) (bind _ _ _ _ ?_)
  refine wpAny_newFunctionEnv_cells S.kind (fun y hy => ?_) fun env he s1 x => ?_
  · rcases S.par y.1 (List.of_mem_zip hy).1 with q | q
    · exact .inl q
    · exact .inr ⟨q, PySem.W.cellsFrom_some _ _ _ (.inl q)⟩
  subst he
  refine ⟨(e0.mod.nolimit.keeps fun b o e => (e0.bs b o e).1).keeps x.toInCall.keep, codeAny_func ?_⟩
  obtain ⟨t, run, ht⟩ := go p A out s H vs Q E hot (room.deeper _) h
  refine wpAny_mono (run.run [] s1 (L2.start N vs) H _ (inv_startH S pin e0 n rv x) ht) (fun fl s2 r => ?_) fun e s2 r => r
  cases fl with
  | ret u =>
    obtain ⟨v, σ2, H2, J, ru, q⟩ := r
    exact ⟨v, H2, J.os, J.bare, J.base, J.hok, ru, q⟩
  | next =>
    obtain ⟨σ2, H2, J, q⟩ := r
    exact ⟨.non, H2, J.os, J.bare, J.base, J.hok, rfl, q⟩
  | brk => exact r.elim fun _ r => r.elim fun _ r => r.2.elim
  | cont => exact r.elim fun _ r => r.elim fun _ r => r.2.elim
end
section
variable {X : Cx} {CX : CXT} {k : Nat} {f : Addr} {fd : FuncData} {ps : List Str} {sp : Addr × Obj → Sp} {E : L2.St → XK} {x : Str} {q pos : Pos} {e : Expr} {es : List Expr} {t : TA} {p : Addr × Obj}
/-- a call where p's error is handled -/
theorem pe_callE (F : FnE X.prog X.w X.K X.mg X.base CX k f fd ps sp) (hr : RoomH k X.A) (hot : Hot1 X.A p) (hp : p ∈ X.pn) (hg : Gl X x) (hm : X.mg x = some (.ref f)) (hk : PySem.W.keepIn X.K (.ref f) = true) (hb : Binds X.K fd ps [])
    (hx : ∀ σ, PassesAt CX X σ (E σ)) (ha : PA X (e :: es) t) (hdb : (x == ("__debug__" : Str)) = false := by decide) (he : starEach (e :: es) X.env = (false, eval e X.env) :: starEach es X.env := by rfl)
    (hpl : (backTo pos (starEach es X.env)).any (·.1) = false := by rfl) : PE X (.Call (.Name x q) (e :: es) [] pos) (tCallS (sp p) E t) := by
  refine ⟨fun pn s σ H Q I h => wpAny_Call_Name_kw (ld_glob I hg hm ?_ hdb)⟩
  refine PySem.W.callWith_K (h₀ := X.base) I.ok.mod.kin hk (thn (ha.run pos pn s σ H _ I h) fun us s1 ⟨vs, H1, J, rv, z⟩ => ⟨J.kIn, ?_⟩) he hpl
  have n := F.len _ _ _ _ _ z
  have b := hb s1 us J.kIn (by rw [List.append_nil, ← rv.length]; exact n)
  rw [List.append_nil] at b
  obtain ⟨g1, g2, g3, g4, g5⟩ := J.pin p (List.mem_append_left _ hp)
  have pin : PinOk X.stack H1 s1 p := ⟨g1, g2, fun z => (List.mem_cons.mp (J.stkSub p.1 z)).elim g3 g4, g5⟩
  refine wpAny_call (codeAny_mono (F.run p X.A X.stack s1 H1 ⟨us, []⟩ us vs Q (E σ) hr hot pin J.env0 b rv z) fun r s2 y => ?_)
  cases r with
  | error er => exact hx σ pn H1 s1 er s2 J y
  | ok fl => cases fl with
    | ret u => exact J.after y
    | next => exact y.elim
    | brk => exact y.elim
    | cont => exact y.elim
end

/-! ### the error at hand: its class, its attributes -/
/-- what an error class must say -/
structure ErrC (K : PySem.W.Frag) (D : Addr) : Prop where
  cl : (PySem.W.clsIn K D).isSome = true
  gt : PySem.W.findIn K (.ref D) "__getattribute__" = some (some (.builtin "BaseException.__getattribute__"))
  gn : PySem.W.findIn K (.ref D) "__getattr__" = some none
  sb : PySem.W.subIn K (.ref D) (.type "BaseException") = some true
  cc : PySem.W.findIn K (.ref D) "__class__" = some (some (.builtin "object.__class__"))
  sg : PySem.W.specialIn K (.builtin "object.__class__") "__get__" = some (some (.builtin "getset_descriptor.__get__"))
  tk : PySem.W.takesIn K (.builtin "object.__class__") = some true
  mr : PySem.W.mroIn K D (.type "object") = some true
  hd : PySem.W.hasDictIn K D = true
/-- p's object is an error of the class D whose dictionary stands at d -/
structure IsErr (p : Addr × Obj) (D d : Addr) : Prop where
  cls : p.2.cls = .ref D
  dct : p.2.dict = some d
  dat : ∃ vs, p.2.data = .fields vs
section
variable {X : Cx} {p : Addr × Obj} {D d : Addr}
theorem IsErr.inst (T : IsErr p D d) {h : Heap} {od : Obj} (g : h.get? p.1 = some p.2) (gd : h.get? d = some od) : PySem.W.InstAt h p.1 p.2 D (some od) := by
  obtain ⟨vs, dat⟩ := T.dat
  exact ⟨g, T.cls, by unfold PySem.W.notCls; rw [dat], by rw [T.dct]; exact gd⟩
/-- isinstance(error, c): b by the classes alone -/
def mIsErr (K : PySem.W.Frag) (D d a : Addr) : List V → Hp → VK → Prop := fun xs H Q => ∃ (c : V) (cv : Value) (b : Bool), xs = [.ref a, c] ∧ (∀ u, RelV c u → u = cv) ∧ PySem.W.kitOne K (.ref D) cv = some b ∧ (∃ fs, H d = some (.xd fs)) ∧ Q (.bl b) H
theorem call_isErr (C : ErrC X.K D) (T : IsErr p D d) (hp : p ∈ X.pn) : CallR X (.builtin "isinstance") (mIsErr X.K D d p.1) := by
  rintro pn s σ H xs us Q I rv ⟨c, cv, b, rfl, one, kit, ⟨fs, ed⟩, q⟩
  obtain ⟨u1, us', rfl⟩ : ∃ u1 us', us = u1 :: us' := by cases rv; exact ⟨_, _, rfl⟩
  obtain ⟨u2, us'', rfl⟩ : ∃ u2 us'', us' = u2 :: us'' := by cases rv with | cons _ r => cases r; exact ⟨_, _, rfl⟩
  cases rv with
  | cons r1 rv =>
    cases rv with
    | cons r2 rv =>
      cases rv
      cases r1
      cases one _ r2
      obtain ⟨g, _⟩ := I.pin p (List.mem_append_left _ hp)
      obtain ⟨mA, ns, _⟩ := (show ObjOk X.prog X.w H s.heap d (.xd fs) from I.hok d _ ed)
      obtain ⟨od, ho, _⟩ := lookIn_ns ns
      exact PySem.W.kia_one (PySem.W.kitx_exc C.cl C.gt C.gn C.sb C.cc C.sg C.tk C.mr) I.kIn (T.inst g ho) kit (fun z => nomatch z) fun tk => ⟨.bl b, H, I.kept (t' := tk) fun _ _ z => z, rfl, q⟩
/-- error.n -/
def tErrF (d a : Addr) (n : Str) (te : TE) : TE := fun σ H Q => te σ H fun x H1 => x = .ref a ∧ ∃ fs v, H1 d = some (.xd fs) ∧ fs.lookup n = some v ∧ Q v H1
theorem pe_errF {e : Expr} {te : TE} {pos : Pos} {n : Str} (C : ErrC X.K D) (T : IsErr p D d) (hp : p ∈ X.pn) (no : PySem.W.findIn X.K (.ref D) n = some none) (he : PE X e te) (hb : attributeBase e n X.env (eval e X.env) = eval e X.env := by rfl) :
    PE X (.Attribute e n pos) (tErrF d p.1 n te) := by
  refine ⟨fun pn s σ H Q I h => attr_of hb (thn (he.run pn s σ H _ I h) fun u s1 ⟨y, H1, J, ry, ey, fs, v, ed, lf, q⟩ => ?_)⟩
  subst ey
  cases ry
  obtain ⟨g, _⟩ := J.pin p (List.mem_append_left _ hp)
  obtain ⟨mA, ns, hr⟩ := (show ObjOk X.prog X.w H1 s1.heap d (.xd fs) from J.hok d _ ed)
  obtain ⟨od, ho, hl⟩ := lookIn_ns ns
  obtain ⟨u, hu, ru⟩ := RelO.some_of (v := v) (o := mA n) (by rw [← lf]; exact hr n)
  exact HandSPX.exc_get J.kIn (T.inst g ho) C.gt C.gn C.sb (PySem.W.findObj_own C.hd no rfl (by rw [hl, hu])) (handed_of ru) ⟨v, H1, J.tok _, ru, q⟩
end
end RK

namespace RK
open PySem PySem.Spec PyProof.Rows L2

/-! ### raise X(e, ..) where nothing is handled: the error's context is None -/
section
variable {X : Cx}
theorem pmkN {CX : CXT} {x : Str} {e : Expr} {es : List Expr} {ta : TA} {p pos : Pos} {C g : Addr} {k : Nat} {fd : FuncData} {ps : List Str} {sp : Sp} (T : OexC X.K C) (ini : PySem.W.findIn X.K (.ref C) "__init__" = some (some (.ref g))) (fun_ : PySem.W.typeIn X.K (.ref g) = some (.type "function"))
    (Fi : FnOk X.prog X.w X.K X.mg X.base CX k g fd ps sp) (hr : Room (k + 1) X.A) (hb : Binds X.K fd ps []) (hx : Passes CX X (fun _ _ _ => False)) (hg : Gl X x) (hm : X.mg x = some (.ref C)) (ha : PA X (e :: es) ta)
    (hdb : (x == ("__debug__" : Str)) = false := by decide) (he : starEach (e :: es) X.env = (false, eval e X.env) :: starEach es X.env := by rfl) (hpl : (backTo pos (starEach es X.env)).any (·.1) = false := by rfl) :
    L2N.PMk X (.Call (.Name x p) (e :: es) [] pos) (tMkO C sp [] ta) := by
  intro pn s0 σ H0 Q I0 h
  obtain ⟨nm, q, N, bs, bm, sn, sub, ab, col, dd, k0, k1, k2, k3, k5, obj, tail⟩ := T.cls
  refine wpAny_Call_Name_kw (ld_glob I0 hg hm ?_ hdb)
  refine PySem.W.callWith_K (h₀ := X.base) I0.ok.mod.kin T.kC (thn (ha.run pos pn s0 σ H0 _ I0 h) fun us s1 ⟨vs, H1, I, rv, few, next⟩ => ⟨I.kIn, ?_⟩) he hpl
  show wpAny _ _ (call (.ref C) us) _ _ _
  obtain ⟨hp, gn, dr, tk, os⟩ := s1
  have up := Nat.le_succ hp.objs.size
  have go := next (hp.objs.size + 1) (I.hok.fresh up)
  rw [List.append_nil] at go
  have keep : ∀ b o, hp.get? b = some o → ((hp.push (PySem.W.kdv_tup us)).push (PySem.HandSPX.excO C hp.objs.size)).get? b = some o := fun b o e => Heap.get?_push_of_some _ (Heap.get?_push_of_some _ e)
  have made : ((hp.push (PySem.W.kdv_tup us)).push (PySem.HandSPX.excO C hp.objs.size)).get? (hp.objs.size + 1) = some (PySem.HandSPX.excO C hp.objs.size) := by heap_get
  have J := I.laid (t' := tk) (a := hp.objs.size + 1) (o := exo (hp.objs.size + 1) C none) (h' := (hp.push (PySem.W.kdv_tup us)).push (PySem.HandSPX.excO C hp.objs.size)) keep up (exo_ok made)
  have rv2 : Vals (V.ref (hp.objs.size + 1) :: vs) (Value.ref (hp.objs.size + 1) :: us) := .cons rfl rv
  have many : us.length ≤ sizeLine := by rw [← Paired.length rv, sizeLine_eq]; omega
  have bind := hb _ (Value.ref (hp.objs.size + 1) :: us) J.kIn (by rw [List.append_nil, ← rv2.length]; exact Fi.len _ _ _ _ go)
  rw [List.append_nil] at bind
  refine wpAny_call (PySem.HandSPX.call_own F.excBase_ValueError (fun Y => PySem.HandSPX.refsVE_contains Y bm tail) (I.kIn _ _ obj) (PySem.W.looks_findIn I.kIn ini) (fun self => PySem.W.bind_fn I.kIn self fun_) many
    (codeAny_mono (Fi.run _ X.stack _ _ ⟨Value.ref (hp.objs.size + 1) :: us, []⟩ (Value.ref (hp.objs.size + 1) :: us) _ _ (fun _ _ _ => False) (hr.make C us []) (J.env0.make C us []) bind rv2 go) fun r s2 z => ?_))
  cases r with
  | error er => exact hx pn σ _ _ er s2 J z
  | ok fl => cases fl with
    | ret u =>
      obtain ⟨v, H2, os2, bare2, un2, hok2, ru, ev, d, fs, ea, ed, new, last⟩ := z
      subst ev
      obtain ⟨h2, g2, d2, t2, o2⟩ := s2
      obtain ⟨t0, G, JG, kG, nG, at_, na⟩ := mk_end0 (d2 := d2) (t2 := t2) I up keep un2 hok2 os2 bare2 ea ed new
      exact ⟨ru, hp.objs.size + 1, _, _, ⟨G, g2, d2, t2, o2⟩, _, .ref C, some d, rfl, JG, kG, nG, at_, ⟨rfl, rfl, fun vs hv => by cases hv; rfl⟩, rfl, rfl, na, rfl, bare2, raises_own T.exC T.tyC, last⟩
    | next => exact z.elim
    | brk => exact z.elim
    | cont => exact z.elim
end

/-! ### an error class whose __init__ keeps one value -/
/-- what its __init__ does -/
def spIni (C : Addr) (fld : Str) : Sp := fun vs H Q _ => ∃ a v, vs = [.ref a, v] ∧ H a = some (exo a C none) ∧ ∀ dx, H dx = none → dx ≠ a → Q .non (upd (upd H dx (exd dx [(fld, v)])) a (exo a C (some dx)))
/-- a class of errors of the program: what the raising and the asking need -/
structure Err (K : PySem.W.Frag) (mg : Str → Option Value) (x fld : Str) (C g : Addr) (fd : FuncData) (ps : List Str) : Prop where
  ox : OexC K C
  er : ErrC K C
  ini : PySem.W.findIn K (.ref C) "__init__" = some (some (.ref g))
  fn : PySem.W.typeIn K (.ref g) = some (.type "function")
  no : PySem.W.findIn K (.ref C) fld = some none
  at_ : mg x = some (.ref C)
  bi : Binds K fd ps []
/-- raise X(e) -/
def tRaise1 (C : Addr) (fld : Str) (te : TE) (W : WX) : TS := fun _ σ H => tMkO C (spIni C fld) [] (tCons te tNil) σ H fun cls d H' => W cls d σ H'
theorem del_back {H : Hp} {a d : Addr} {o1 o2 o3 o4 : HO} (n : H a = none) (ne : d ≠ a) : upd (del (upd (upd (upd H a o1) d o2) a o3) a) d o4 = upd H d o4 := by
  funext b
  by_cases h : b = d
  · subst h; rw [upd_same, upd_same]
  · rw [upd_ne h, upd_ne h]
    by_cases h2 : b = a
    · subst h2; rw [del_same, n]
    · rw [del_ne h2, upd_ne h2, upd_ne h, upd_ne h2]
theorem ps_raise1 {X : Cx} {W : WX} {x fld : Str} {e : Expr} {te : TE} {p pos pos' : Pos} {C g : Addr} {fd : FuncData} {ps : List Str} (T : Err X.K X.mg x fld C g fd ps) (F : FnOk X.prog X.w X.K X.mg X.base CX0 1 g fd ps (spIni C fld)) (hr : Room 2 X.A) (hc : X.calm = true)
    (tk : L2N.Takes X W) (hg : Gl X x) (he : PE X e te) (hdb : (x == ("__debug__" : Str)) = false := by decide) (h1 : starEach [e] X.env = (false, eval e X.env) :: starEach [] X.env := by rfl) (hpl : (backTo pos (starEach [] X.env)).any (·.1) = false := by rfl) :
    PS X (.Raise (some (.Call (.Name x p) [e] [] pos)) none pos') (tRaise1 C fld te W) := by
  exact L2N.ps_raise hc tk (pmkN T.ox T.ini T.fn F hr T.bi pass0 hg T.at_ (pa_cons he pa_nil (hs := h1)) hdb h1 hpl)
/-- .. as it is read, e's value at hand -/
theorem raise1_go {C : Addr} {fld : Str} {W : WX} {σ : L2.St} {H : Hp} {v : V} (h : ∀ d, H d = none → W (.ref C) (some d) σ (upd H d (.xd [(fld, v)]))) :
    [v].length ≤ 1000 ∧ ∀ a, H a = none → spIni C fld (.ref a :: ([v] ++ [])) (upd H a (exo a C none)) (fun u H2 => u = .non ∧ ∃ (d : Addr) (fs : List (Str × V)), H2 a = some (exo a C (some d)) ∧ H2 d = some (exd d fs) ∧ H d = none ∧ W (.ref C) (some d) σ (upd (del H2 a) d (.xd fs))) (fun _ _ _ => False) := by
  refine ⟨show (1 : Nat) ≤ 1000 by decide, fun a n => ⟨a, v, rfl, upd_same, fun dx nd ne => ⟨rfl, dx, [(fld, v)], upd_same, ?_, ?_, ?_⟩⟩⟩
  · rw [upd_ne ne, upd_same]
  · rw [upd_ne ne] at nd; exact nd
  · rw [upd_ne ne] at nd
    rw [del_back n ne]
    exact h dx nd
theorem ok_ini {P : Program} {w : World} {K : PySem.W.Frag} {mg : Str → Option Value} {base : Heap} {x fld qual : Str} {st : Stmt} {C g : Addr} {fd : FuncData} {p0 p1 : Str} (T : Err K mg x fld C g fd [p0, p1]) (F : Fun K "__init__" qual st g fd) (S : FnScope [p0, p1] [p0, p1] (defScope st))
    (body : ∀ X : Cx, X.K = K → X.N = [p0, p1] → X.env.scope = defScope st → PSs X (defBody st) (fun D σ H => tOst K fld (xV 0) (xV 1) D σ H)) : FnOk P w K mg base CX0 1 g fd [p0, p1] (spIni C fld) := by
  refine F.ok (k := 0) S (fun vs H Q E ⟨a, v, e, _⟩ => by rw [e]; rfl) (fun cdv A outer s0 H vs Q E hr h => ?_)
  obtain ⟨a, v, rfl, ha, go⟩ := h
  refine ⟨_, body _ rfl rfl rfl, ?_⟩
  refine ⟨a, C, rfl, T.ox, T.no, .inl ⟨ha, fun dx nd ne => go dx nd ne⟩⟩
end RK

namespace RK
open PySem PySem.Spec PyProof.Rows L2 L2H

theorem takesN0 {X : Cx} : L2N.Takes X (fun _ _ _ _ => False) := fun _ _ x => by
  obtain ⟨_, _, _, _, _, _, _, _, _, _, _, _, _, _, _, _, z⟩ := x
  exact z.elim
/-- a promise of a def that gets the caught error: the error's address, class and dictionary -/
abbrev SpE := Addr → Value → Option Addr → Sp
abbrev atE (sp : SpE) : Addr × Obj → Sp := fun p => sp p.1 p.2.cls p.2.dict
/-- return f(e), e the caught error -/
abbrev tTold (sp : SpE) (i : Nat) : Addr → Value → Option Addr → TS := fun a cls d => tRet (tCallS (sp a cls d) (fun _ _ _ _ => False) (tCons (xV i) tNil))
section
variable {X : Cx} {x n f : Str} {c : Value} {i k : Nat} {body : List Stmt} {np p1 p2 p3 p4 pos pos' : Pos} {tb : WX → TS} {Wout : WX} {fa : Addr} {fd : FuncData} {ps : List Str} {sp : SpE}
/-- try: body, except x as n: return f(n) -/
theorem ps_tried (hs : X.stack = X.env :: X.outer) (hf : X.env.frame = some X.env.locals) (nd : X.N.Nodup) (hi : X.N[i]? = some n) (hln : X.env.kindOf n = some .local) (hc : Names X x c) (tk : L2N.Takes X Wout)
    (hb : ∀ (W : WX) (pn : List (Addr × Obj)) (xe : Value → Shared → Prop), L2N.Takes (X.tr pn xe) W → PSs (X.tr pn xe) body (tb W))
    (F : FnE X.prog X.w X.K X.mg X.base CX0 k fa fd ps (atE sp)) (hr : RoomH k X.A) (hg : Gl X f) (hm : X.mg f = some (.ref fa)) (hk : PySem.W.keepIn X.K (.ref fa) = true) (hbi : Binds X.K fd ps [])
    (hd : (n == ("__debug__" : Str)) = false := by decide) (hcd : (n == ("__classdict__" : Str)) = false := by decide) (hdb : (f == ("__debug__" : Str)) = false := by decide)
    (st : starEach [.Name n p2] X.env = (false, eval (.Name n p2) X.env) :: starEach [] X.env := by rfl) (pl : (backTo p3 (starEach [] X.env)).any (·.1) = false := by rfl) :
    PS X (.Try body [.ExceptHandler (some (.Name x np)) (some n) [.Return (some (.Call (.Name f p1) [.Name n p2] [] p3)) p4] pos'] [] [] pos) (fun D σ H => tb (wAs X.K c i (tTold sp i) Wout D) D σ H) := by
  refine L2N.ps_try_as hs hf nd hi hln hc tk (fun W pn xe h _ => hb W pn xe h) fun a oe cls d pn z ⟨vs, dat⟩ => ?_
  obtain ⟨z1, z2, z3⟩ := z
  subst z1 z2
  have hot : Hot1 (X.A.mark (some (.ref a))) (a, oe) := ⟨rfl, vs, dat, z3 vs dat⟩
  refine pss_one (ps_ret ?_)
  exact pe_callE (X := X.suite a ((a, oe) :: pn)) (p := (a, oe)) F ⟨hr.dp, hr.un⟩ hot List.mem_cons_self hg hm hk hbi (fun _ _ _ _ _ _ _ z => z.elim) (pa_cons (xv i hi (.inl hln) hd hcd) pa_nil (hs := st)) hdb st pl
end

/-! ### the classes of the program by their names -/
def cA (K : PySem.W.Frag) (x : Str) : Addr := match PySem.W.nsIn K mainGlobals x with
  | some (some (.ref C)) => C
  | _ => 0
theorem cA_of {K : PySem.W.Frag} {x : Str} {C : Addr} (h : PySem.W.nsIn K mainGlobals x = some (some (.ref C))) : cA K x = C := by unfold cA; rw [h]
theorem kit_own {K : PySem.W.Frag} {C D : Addr} {cd : ClassData} {b : Bool} (h1 : PySem.W.clsIn K C = some cd) (h2 : PySem.W.typeIn K (.ref C) = some (.type "type")) (h3 : PySem.W.subIn K (.ref D) (.ref C) = some b) (h4 : C = D → b = true) : PySem.W.kitOne K (.ref D) (.ref C) = some b := by
  unfold PySem.W.kitOne PySem.W.kitCls
  by_cases e : C = D
  · subst e
    rw [if_pos (by simp), h4 rfl]
  · rw [if_neg (by simpa using fun z => e z.symm)]
    dsimp only
    rw [h1, h2]
    exact h3
theorem kit_val {K : PySem.W.Frag} {D : Addr} {T : String} {b : Bool} (h1 : PySem.W.kitMeta T = true) (h2 : PySem.W.subIn K (.ref D) (.type T) = some b) : PySem.W.kitOne K (.ref D) (.type T) = some b := by
  unfold PySem.W.kitOne PySem.W.kitCls
  rw [if_neg (by simp)]
  dsimp only
  rw [if_pos h1]
  exact h2
theorem exm_own {K : PySem.W.Frag} {C D : Addr} {cd : ClassData} {b : Bool} (h0 : PySem.W.subIn K (.ref C) (.type "BaseException") = some true) (h1 : PySem.W.clsIn K C = some cd) (h2 : PySem.W.typeIn K (.ref C) = some (.type "type")) (h3 : PySem.W.subIn K (.ref D) (.ref C) = some b) :
    PySem.W.exmOne K (.ref D) (.ref C) = some b := by
  unfold PySem.W.exmOne PySem.W.kitCls
  rw [h0]
  dsimp only
  rw [h1, h2]
  exact h3
/-- isinstance(error, c) by the names of the classes: yes tells which ones -/
def mIsNm (K : PySem.W.Frag) (D d a : Addr) : List V → Hp → VK → Prop := fun xs H Q => match xs with
  | [.ref b, .ref c] => b = a ∧ (∃ fs, H d = some (.xd fs)) ∧ ∃ y, PySem.W.kitOne K (.ref D) (.ref c) = some y ∧ Q (.bl y) H
  | [.ref b, .ty T] => b = a ∧ (∃ fs, H d = some (.xd fs)) ∧ ∃ y, PySem.W.kitOne K (.ref D) (.type T) = some y ∧ Q (.bl y) H
  | _ => False
theorem call_isNm {X : Cx} {p : Addr × Obj} {D d : Addr} (C : ErrC X.K D) (T : IsErr p D d) (hp : p ∈ X.pn) : CallR X (.builtin "isinstance") (mIsNm X.K D d p.1) := calImp (call_isErr C T hp) fun xs H Q h => by
  unfold mIsNm at h
  split at h
  · obtain ⟨rfl, hx, y, e, q⟩ := h
    exact ⟨_, _, y, rfl, fun u r => r, e, hx, q⟩
  · obtain ⟨rfl, hx, y, e, q⟩ := h
    exact ⟨_, _, y, rfl, fun u r => r, e, hx, q⟩
  · exact h.elim

/-! ### defs that raise, defs that get the caught error: their promise by their body -/
section
variable {P : Program} {w : World} {K : PySem.W.Frag} {mg : Str → Option Value} {base : Heap}
theorem okN {x qual : Str} {st : Stmt} {f : Addr} {fd : FuncData} {N ps : List Str} {k : Nat} {sp : Sp} (F : Fun K x qual st f fd) (S : FnScope N ps (defScope st)) (len : ∀ vs H Q E, sp vs H Q E → vs.length = ps.length)
    (go : ∀ (cdv : Value) (A : Around) (out : List Env) (s : Shared) (H : Hp) (vs : List V) (Q : VK) (E : XK), Room k (A.deeper (envOfC qual (defScope st) s.heap.objs.size f cdv)) → L2N.Takes (cxOf (L2N.CX P w) P w K mg base N qual (defScope st) f cdv A out s H E) (fun cls d _ H' => E cls d H') →
      sp vs H Q E → ∃ t, PSs (cxOf (L2N.CX P w) P w K mg base N qual (defScope st) f cdv A out s H E) (defBody st) t ∧ t { nx := fun _ H' => Q .non H', rt := Q } (start N vs) H) : FnOk P w K mg base (L2N.CX P w) (k + 1) f fd ps sp := by
  obtain ⟨oc, od, kV, doc, pm, an, cdv, ct, osl, rfl, lk, code⟩ := F.ex
  exact fn_of lk code S len fun A out s H vs Q E hr h => go cdv A out s H vs Q E hr (L2N.takes_of rfl rfl rfl rfl) h
theorem okE {x qual : Str} {st : Stmt} {f : Addr} {fd : FuncData} {N ps : List Str} {k : Nat} {sp : SpE} (F : Fun K x qual st f fd) (S : FnScope N ps (defScope st)) (len : ∀ a cls d vs H Q E, sp a cls d vs H Q E → vs.length = ps.length)
    (go : ∀ (cdv : Value) (p : Addr × Obj) (A : Around) (out : List Env) (s : Shared) (H : Hp) (vs : List V) (Q : VK) (E : XK), Hot1 A p → RoomH k (A.deeper (envOfC qual (defScope st) s.heap.objs.size f cdv)) → sp p.1 p.2.cls p.2.dict vs H Q E →
      ∃ t, PSs (cxH CX0 P w K mg base N qual (defScope st) f cdv A out s H E p) (defBody st) t ∧ t { nx := fun _ H' => Q .non H', rt := Q } (start N vs) H) : FnE P w K mg base CX0 (k + 1) f fd ps (atE sp) := by
  obtain ⟨oc, od, kV, doc, pm, an, cdv, ct, osl, rfl, lk, code⟩ := F.ex
  exact fnE_of lk code S (fun p => len _ _ _) fun p A out s H vs Q E hot hr h => go cdv p A out s H vs Q E hot hr h
end
theorem passAtN {X : Cx} : ∀ σ, PassesAt (L2N.CX X.prog X.w) X σ ((fun _ _ _ _ => False : L2.St → XK) σ) := fun _ _ _ _ _ _ _ h => by
  obtain ⟨_, _, _, _, _, _, _, _, _, _, _, _, z⟩ := h
  exact z.elim
theorem passN {X : Cx} : Passes (L2N.CX X.prog X.w) X (fun _ _ _ => False) := fun _ _ _ _ _ _ _ h => by
  obtain ⟨_, _, _, _, _, _, _, _, _, _, _, _, z⟩ := h
  exact z.elim
theorem _root_.L2H.RoomH.units {k : Nat} {A : Around} (r : RoomH k A) : A.units + 64 < cLine := by have := r.un; omega
def clsS (t : Stmt) : Stmt := match t with
  | .ClassDef (body := b) .. => b.getD 0 (.Pass ⟨0, 0, 0, 0⟩)
  | _ => .Pass ⟨0, 0, 0, 0⟩
theorem bb_isi : bootBuiltins "isinstance" = some (.builtin "isinstance") := by decide +kernel
end RK

namespace RK
open PySem PySem.Spec PyProof.Rows L2 L2H
section
variable {X : Cx}
theorem peOr {e : Expr} {t u : TE} (h : PE X e t) (g : PE X e u) : PE X e (fun σ H Q => t σ H Q ∨ u σ H Q) := ⟨fun pins s σ H Q I q => q.elim (h.run pins s σ H Q I) (g.run pins s σ H Q I)⟩
/-- t.index(z), t a tuple of texts -/
def mIxT (K : PySem.W.Frag) : V → List V → Hp → VK → Prop := fun x vs H Q => match x, vs with
  | .ref p, [.str z] => ∃ ys : List Str, SqT K H p (ys.map V.str) ∧ z ∈ ys ∧ Q (.int (ys.idxOf z : Nat)) H
  | _, _ => False
theorem strs_are : ∀ {ys : List Str} {us : List Value}, Vals (ys.map V.str) us → StrsAre us ys
  | [], us, h => by cases h; exact .nil
  | y :: ys, us, h => by
    cases h with
    | cons r rr =>
      obtain ⟨t, rfl⟩ := r
      exact .cons _ _ (strs_are rr)
theorem mt_indexT : MtR X "tuple.index" (mIxT X.K) := by
  intro pins s σ H x xs v us Q I rx rxs h
  unfold mIxT at h
  split at h
  · rename_i p z
    obtain ⟨ys, hs, hz, q⟩ := h
    cases rx
    cases rxs with
    | cons r rr =>
      cases rr
      obtain ⟨t, rfl⟩ := r
      obtain ⟨its, rv, pl, hl⟩ := I.tuple hs
      exact PySem.SeqAt.tuple_index_strs pl (strs_are rv) hz ⟨.int _, H, I.tok _, ⟨_, rfl⟩, q⟩
  · exact h.elim
end

/-! ### max, reverse, whole numbers of the module -/
section
variable {X : Cx}
def mMax : List V → Hp → VK → Prop := fun vs H Q => match vs with
  | [.int i, .int j] => Q (.int (if j > i then j else i)) H
  | _ => False
theorem xc_max (hc : X.calm = true) : CallR X (.builtin "max") mMax := calImp (call_max2 hc) fun xs H Q h => by
  unfold mMax at h
  split at h
  · exact ⟨_, _, rfl, h⟩
  · exact h.elim
def lmReverse : V → List V → Hp → VK → Prop := fun x vs H Q => match x, vs with
  | .ref p, [] => ∃ xs, H p = some (.lst xs) ∧ Q .non (upd H p (.lst xs.reverse))
  | _, _ => False
theorem xm_reverse : MtR X "list.reverse" lmReverse := mtImp (r := rReverse) mt_reverse fun x vs H Q h => by
  unfold lmReverse at h
  split at h
  · obtain ⟨xs, h1, h2⟩ := h
    exact ⟨_, xs, rfl, rfl, h1, h2⟩
  · exact h.elim
theorem pe_gint {x : Str} {i : Int} {pos : Pos} (hg : Gl X x) (h : ∃ t, X.mg x = some (.int i t)) (hd : (x == ("__debug__" : Str)) = false := by decide) : PE X (.Name x pos) (tC (.int i)) := by
  obtain ⟨t, h⟩ := h
  exact pe_glob hg h ⟨t, rfl⟩ hd
end

theorem fun_kbn {K : PySem.W.Frag} {x qual : Str} {st : Stmt} {f : Addr} {fd : FuncData} {ps ks : List Str} {n : Nat} (F : Fun K x qual st f fd)
    (h : ∀ (kV doc pm : Value) (an : Option Addr) (cdv ct : Value) (us ws : List Value), us.length = n → ws.length = ks.length → bindArgs (PySem.W.fnOf x qual (defArgs st) (defBody st) (defScope st) .none kV doc pm an cdv ct) ⟨us, ks.zip ws⟩ = pure (ps.zip (us ++ ws))) :
    KBn K fd ps n ks (fun us ws => us ++ ws) (fun vs zs => vs ++ zs) := by
  obtain ⟨oc, od, kV, doc, pm, an, cdv, ct, osl, rfl, lk, hcd⟩ := F.ex
  exact ⟨fun s us ws X l1 l2 => .of_eq (h kV doc pm an cdv ct us ws l1 l2), fun r rz => r.append rz⟩
end RK

namespace RK
open PySem PySem.Spec PyProof.Rows L2 L2H
/-! ### tuples made at run time whose record is known: their methods may be called -/
/-- a tuple, no dictionary -/
def Tpl (H : Hp) (p : Addr) (xs : List V) : Prop := ∃ o : Obj, H p = some (.frz o (.tup xs)) ∧ o.cls = .type "tuple" ∧ o.dict = none
theorem Tpl.sq {K : PySem.W.Frag} {H : Hp} {p : Addr} {xs : List V} (h : Tpl H p xs) : SqT K H p xs := by
  obtain ⟨o, e, _⟩ := h
  exact .inl (.inr ⟨o, e⟩)
theorem Tpl.same {H H' : Hp} {p : Addr} {xs : List V} (h : Tpl H p xs) (s : Same H H') : Tpl H' p xs := by
  obtain ⟨o, e, c, d⟩ := h
  exact ⟨o, s _ _ e, c, d⟩
/-- a list or a tuple -/
def Lt (H : Hp) (p : Addr) (xs : List V) : Prop := H p = some (.lst xs) ∨ Rd H p (.tup xs)
theorem Lt.same {H H' : Hp} {p : Addr} {xs : List V} (h : Lt H p xs) (s : Same H H') : Lt H' p xs := h.imp (s _ _) fun z => z.imp (s _ _) fun ⟨o, e⟩ => ⟨o, s _ _ e⟩
theorem Lt.keep {s : Addr} {H H' : Hp} {p : Addr} {xs : List V} (h : Lt H p xs) (k : Keep s H H') (n : p ≠ s) : Lt H' p xs := h.imp (k _ _ n) fun z => z.imp (k _ _ n) fun ⟨o, e⟩ => ⟨o, k _ _ n e⟩
theorem Lt.l {H : Hp} {p : Addr} {xs : List V} (h : H p = some (.lst xs)) : Lt H p xs := .inl h
theorem Lt.t {H : Hp} {p : Addr} {xs : List V} (h : H p = some (.tup xs)) : Lt H p xs := .inr (.inl h)
/-- a list, or a tuple whose record is known -/
def Lx (H : Hp) (p : Addr) (xs : List V) : Prop := H p = some (.lst xs) ∨ Tpl H p xs
theorem Lx.lt {H : Hp} {p : Addr} {xs : List V} (h : Lx H p xs) : Lt H p xs := h.imp id fun ⟨o, e, _⟩ => .inr ⟨o, e⟩
theorem Lx.same {H H' : Hp} {p : Addr} {xs : List V} (h : Lx H p xs) (s : Same H H') : Lx H' p xs := h.imp (s _ _) fun z => z.same s
theorem Lx.keep {s : Addr} {H H' : Hp} {p : Addr} {xs : List V} (h : Lx H p xs) (k : Keep s H H') (n : p ≠ s) : Lx H' p xs := h.imp (k _ _ n) fun ⟨o, e, c⟩ => ⟨o, k _ _ n e, c⟩
theorem Lt.sq {K : PySem.W.Frag} {H : Hp} {p : Addr} {xs : List V} (h : Lt H p xs) : Sq K H p xs := h.elim Sq.l fun z => .inr (.inl z)
theorem Lt.has {H : Hp} {p q : Addr} {xs : List V} (h : Lt H p xs) (n : H q = none) : p ≠ q := fun z => by
  subst z
  rcases h with h | h | ⟨o, h⟩ <;> (rw [h] at n; cases n)
theorem for_seq {K : PySem.W.Frag} {p : Addr} {xs : List V} {g : TG} {tb : TS} {D : Ends} {σ : L2.St} {H : Hp} (Pv : Nat → L2.St → Hp → Prop) (hp : Lt H p xs) (h0 : Pv 0 σ H) (keep : ∀ i σ H', Pv i σ H' → H' p = H p)
    (hs : ∀ i x σ H', xs[i]? = some x → Pv i σ H' → g x σ H' fun σ2 H2 => tb { D with nx := fun σ' H' => Pv (i + 1) σ' H', ct := fun σ' H' => Pv (i + 1) σ' H', bk := D.nx } σ2 H2) (hd : ∀ σ H', Pv xs.length σ H' → D.nx σ H') :
    (fun (x : V) (H1 : Hp) => ∃ a, x = .ref a ∧ (∃ xs, SqL K H1 a xs) ∧ ∃ W : Nat → Nat → L2.St → Hp → Prop, (∃ m, W 0 m σ H1) ∧ ∀ i m σ H, W i m σ H →
      ((Itl K a).stop i H ∧ D.nx σ H) ∨ ((Itl K a).go i H ∧ ∃ N : L2.St → Hp → Prop, (∀ σ' H', N σ' H' → ∃ m', m' < m ∧ W (i + 1) m' σ' H') ∧ ∀ x H', (Itl K a).yld i H x H' → g x σ H' fun σ2 H2 => tb { D with nx := N, ct := N, bk := D.nx } σ2 H2)) (.ref p) H ∨
    (fun (x : V) (H1 : Hp) => ∃ a, x = .ref a ∧ (∃ xs, SqT K H1 a xs) ∧ ∃ W : Nat → Nat → L2.St → Hp → Prop, (∃ m, W 0 m σ H1) ∧ ∀ i m σ H, W i m σ H →
      ((Itt K a).stop i H ∧ D.nx σ H) ∨ ((Itt K a).go i H ∧ ∃ N : L2.St → Hp → Prop, (∀ σ' H', N σ' H' → ∃ m', m' < m ∧ W (i + 1) m' σ' H') ∧ ∀ x H', (Itt K a).yld i H x H' → g x σ H' fun σ2 H2 => tb { D with nx := N, ct := N, bk := D.nx } σ2 H2)) (.ref p) H := by
  rcases hp with hp | hp
  · exact .inl ⟨p, rfl, ⟨_, SqL.of hp⟩, for_list Pv h0 (fun i σ H' _ q => SqL.of ((keep i σ H' q).trans hp)) hs hd⟩
  · refine .inr ⟨p, rfl, ⟨_, .inl hp⟩, for_tup Pv h0 (fun i σ H' _ q => .inl (hp.imp (fun e => (keep i σ H' q).trans e) fun ⟨o, e⟩ => ⟨o, (keep i σ H' q).trans e⟩)) hs hd⟩
theorem sv_drop (ts : List (List Nat)) (k : Nat) : (sv ts).drop k = sv (ts.drop k) := by unfold sv; rw [List.map_drop]
theorem lc_fmT {K : PySem.W.Frag} {a : Addr} {xs : List V} {j : Nat} {tt : TT} {te : TE} {vs : List Nat} {σ : L2.St} {H1 : Hp} {D : Addr} {Qd : Hp → Prop} (f : V → V) (p : V → Bool) (hx : Rd H1 a (.tup xs)) (hD : H1 D = none) (hz : xs.length ≤ sizeLine)
    (hw : ∀ x : V, wipe ((wipe σ vs).set j (some x)) vs = wipe σ vs)
    (ht : ∀ (x : V) (acc : List V) (Q : Bool → Hp → Prop), x ∈ xs → Q (p x) (upd H1 D (.lst acc)) → tt ((wipe σ vs).set j (some x)) (upd H1 D (.lst acc)) Q)
    (he : ∀ (x : V) (acc : List V) (Q : VK), x ∈ xs → Q (f x) (upd H1 D (.lst acc)) → te ((wipe σ vs).set j (some x)) (upd H1 D (.lst acc)) Q)
    (hd : Qd (upd H1 D (.lst ((xs.filter p).map f)))) :
    ∃ W : Nat → Nat → Hp → Prop, (∃ m, W 0 m (upd H1 D (.lst []))) ∧ ∀ i m H, W i m H →
      ((Itt K a).stop i H ∧ Qd H) ∨ ((Itt K a).go i H ∧ ∃ Nx : Hp → Prop, (∀ H', Nx H' → ∃ m', m' < m ∧ W (i + 1) m' H') ∧ ∀ x H', (Itt K a).yld i H x H' → gName j x (wipe σ vs) H' fun σ2 H2 => wipe σ2 vs = wipe σ vs ∧ tt σ2 H2 fun b H3 =>
        if b = true then te σ2 H3 fun y H4 => ∃ acc, H4 D = some (.lst acc) ∧ acc.length < sizeLine ∧ Nx (upd H4 D (.lst (acc ++ [y]))) else Nx H3) := by
  have keep : ∀ acc, SqT K (upd H1 D (.lst acc)) a xs := fun acc => .inl (hx.imp ((same_new hD) _ _) fun ⟨o, e⟩ => ⟨o, (same_new hD) _ _ e⟩)
  refine lc_tup (xs := xs) (fun i H => H = upd H1 D (.lst (((xs.take i).filter p).map f))) rfl (fun i H _ e => by rw [e]; exact keep _) (fun i x H hi e => ?_) (fun H e => by rw [e, List.take_length]; exact hd)
  subst e
  have hm : x ∈ xs := List.mem_of_getElem? hi
  have hil := (List.getElem?_eq_some_iff.mp hi).1
  have et : xs.take (i + 1) = xs.take i ++ [x] := by rw [List.take_add_one, hi]; rfl
  refine ⟨hw x, ht x _ _ hm ?_⟩
  cases hp : p x with
  | true =>
    rw [if_pos rfl]
    refine he x _ _ hm ⟨_, upd_same, ?_, ?_⟩
    · rw [List.length_map]
      have := List.length_filter_le p (xs.take i)
      rw [List.length_take] at this
      omega
    · rw [upd_upd, et, List.filter_append, List.map_append]
      simp [hp]
  | false =>
    rw [if_neg Bool.false_ne_true, et, List.filter_append]
    simp [hp]

theorem lc_sq {K : PySem.W.Frag} {p : Addr} {xs : List V} {j : Nat} {tt : TT} {te : TE} {vs : List Nat} {σ : L2.St} {H : Hp} {Q : VK} (f : V → V) (c : V → Bool) (hp : Lt H p xs) (hz : xs.length ≤ sizeLine)
    (hw : ∀ x : V, wipe ((wipe σ vs).set j (some x)) vs = wipe σ vs)
    (ht : ∀ (D : Addr), H D = none → ∀ (x : V) (acc : List V) (Q : Bool → Hp → Prop), x ∈ xs → Q (c x) (upd H D (.lst acc)) → tt ((wipe σ vs).set j (some x)) (upd H D (.lst acc)) Q)
    (he : ∀ (D : Addr), H D = none → ∀ (x : V) (acc : List V) (Q : VK), x ∈ xs → Q (f x) (upd H D (.lst acc)) → te ((wipe σ vs).set j (some x)) (upd H D (.lst acc)) Q)
    (hd : ∀ D, H D = none → Q (.ref D) (upd H D (.lst ((xs.filter c).map f)))) :
    (fun (x : V) (H1 : Hp) => ∃ a, x = .ref a ∧ (∃ xs, SqL K H1 a xs) ∧ ∀ D, H1 D = none → ∃ W : Nat → Nat → Hp → Prop, (∃ m, W 0 m (upd H1 D (.lst []))) ∧ ∀ i m H, W i m H →
      ((Itl K a).stop i H ∧ Q (.ref D) H) ∨ ((Itl K a).go i H ∧ ∃ Nx : Hp → Prop, (∀ H', Nx H' → ∃ m', m' < m ∧ W (i + 1) m' H') ∧ ∀ x H', (Itl K a).yld i H x H' → gName j x (wipe σ vs) H' fun σ2 H2 => wipe σ2 vs = wipe σ vs ∧ tt σ2 H2 fun b H3 =>
        if b = true then te σ2 H3 fun y H4 => ∃ acc, H4 D = some (.lst acc) ∧ acc.length < sizeLine ∧ Nx (upd H4 D (.lst (acc ++ [y]))) else Nx H3)) (.ref p) H ∨
    (fun (x : V) (H1 : Hp) => ∃ a, x = .ref a ∧ (∃ xs, SqT K H1 a xs) ∧ ∀ D, H1 D = none → ∃ W : Nat → Nat → Hp → Prop, (∃ m, W 0 m (upd H1 D (.lst []))) ∧ ∀ i m H, W i m H →
      ((Itt K a).stop i H ∧ Q (.ref D) H) ∨ ((Itt K a).go i H ∧ ∃ Nx : Hp → Prop, (∀ H', Nx H' → ∃ m', m' < m ∧ W (i + 1) m' H') ∧ ∀ x H', (Itt K a).yld i H x H' → gName j x (wipe σ vs) H' fun σ2 H2 => wipe σ2 vs = wipe σ vs ∧ tt σ2 H2 fun b H3 =>
        if b = true then te σ2 H3 fun y H4 => ∃ acc, H4 D = some (.lst acc) ∧ acc.length < sizeLine ∧ Nx (upd H4 D (.lst (acc ++ [y]))) else Nx H3)) (.ref p) H := by
  rcases hp with hp | hp
  · exact .inl ⟨p, rfl, ⟨_, SqL.of hp⟩, fun D hD => lc_fm f c (SqL.of hp) hD hz hw (ht D hD) (he D hD) (hd D hD)⟩
  · exact .inr ⟨p, rfl, ⟨_, .inl hp⟩, fun D hD => lc_fmT f c hp hD hz hw (ht D hD) (he D hD) (hd D hD)⟩
end RK

namespace RK
open PySem PySem.Spec PyProof.Rows L2 L2H
section
variable {X : Cx}
theorem call_tupF : CallR X (.type "tuple") (fun xs H Q => ∃ p ys, xs = [.ref p] ∧ SqL X.K H p ys ∧ ∀ l o, H l = none → o.cls = .type "tuple" → o.dict = none → Q (.ref l) (upd H l (.frz o (.tup ys)))) := by
  rintro pn s σ H xs us Q I rv ⟨p, ys, rfl, hs, q⟩
  obtain ⟨u, rfl, ru⟩ := vals1 rv
  cases ru
  obtain ⟨its, ri, pl, few⟩ := I.list hs
  have len := ri.length
  refine call_tuple_list pl.isList (fun h2 kp => ?_) (by rw [List.size_toArray]; omega)
  have J := I.kept (t' := s.toks) kp
  have got := Heap.get?_push_size h2 (o := { cls := .type "tuple", data := .seq its.toArray }) rfl
  refine ⟨.ref h2.objs.size, _, J.laid (t' := s.toks) (o := .frz { cls := .type "tuple", data := .seq its.toArray } (.tup ys)) (fun b o e => Heap.get?_push_of_some _ e) (Nat.le_refl _) ⟨got, few, its, ri, IsTup.new _ _⟩, rfl, q _ _ (J.hok.fresh (Nat.le_refl _)) rfl rfl⟩
/-- t.m(e, ..), t such a tuple -/
def tBMF (r : V → List V → Hp → VK → Prop) (to : TE) (t : TA) : TE := fun σ H Q => to σ H fun x H1 => (∃ p xs, x = .ref p ∧ Tpl H1 p xs) ∧ t σ H1 fun ys H2 => r x ys H2 Q
theorem pe_bmF {o e : Expr} {es : List Expr} {to : TE} {t : TA} {name : Str} {apos cpos : Pos} {id : String} {r : V → List V → Hp → VK → Prop} (slot : Slot "tuple" name id) (hty : typeOf (.builtin id) = pure (.type "method_descriptor")) (hm : MtR X id r) (ho : PE X o to) (ha : PA X (e :: es) t)
    (hbase : attributeBase o name X.env (eval o X.env) = eval o X.env := by rfl)
    (hfew : ((backTo cpos (starEach (e :: es) X.env)).all (fun x => !x.1) && (backToKw cpos (keywordEach [] X.env)).all (fun x => x.1.isSome)
      && decide ((e :: es).length + ([] : List Keyword).length + (if ([] : List Keyword).isEmpty then 0 else 1) < 30)) = true := by rfl)
    (hline : (apos.endLine == cpos.line) = true := by rfl) (hs : starEach (e :: es) X.env = (false, eval e X.env) :: starEach es X.env := by rfl) (plain : (backTo cpos (starEach es X.env)).any (·.1) = false := by rfl) :
    PE X (.Call (.Attribute o name apos) (e :: es) [] cpos) (tBMF r to t) := by
  refine ⟨fun pn s σ H Q I h => wpAny_Call_method_late hbase hfew hline rfl (thn (ho.run pn s σ H _ I h) fun v s1 ⟨x, H1, J, rx, ⟨p, xs, ex, ob, eo, co, dd⟩, q⟩ => ?_)⟩
  subst ex
  cases rx
  have got : s1.heap.get? p = some ob := (J.hok p _ eo).1
  refine ⟨"tuple", id, PySem.F.plainAttrs_tuple, slot, hty, ⟨ob, got, co⟩, fun a e => by cases e; exact ⟨ob, got, dd⟩, ?_⟩
  have hA := ha.run cpos pn s1 σ H1 _ J q
  rw [hs] at hA ⊢
  refine Calls.callWith_builtin (by show (false || (backTo cpos (starEach es X.env)).any (·.1)) = false; rw [plain]; rfl) (Calls.evalArgs_plain ?_)
  exact thn hA fun us s2 ⟨ys, H2, J2, ry, q2⟩ => hm pn s2 σ H2 (.ref p) ys _ us Q J2 rfl ry q2
end

section
variable {X : Cx}
/-- tuple(l), l a list -/
def mTupF (K : PySem.W.Frag) : List V → Hp → VK → Prop := fun vs H Q => match vs with
  | [.ref p] => ∃ ys, SqL K H p ys ∧ ∀ l o, H l = none → o.cls = .type "tuple" → o.dict = none → Q (.ref l) (upd H l (.frz o (.tup ys)))
  | _ => False
theorem xc_tupF : CallR X (.type "tuple") (mTupF X.K) := calImp call_tupF fun xs H Q h => by
  unfold mTupF at h
  split at h
  · obtain ⟨ys, h1, h2⟩ := h
    exact ⟨_, ys, rfl, h1, h2⟩
  · exact h.elim
end

/-! ### slices of lists and tuples alike -/
section
variable {X : Cx}
def mSlA (K : PySem.W.Frag) : V → Option Int → Option Int → Hp → VK → Prop := fun x lo hi H Q => mSl K x lo hi H Q ∨ rSlA K x lo hi H Q
theorem ksla {K : PySem.W.Frag} (h : X.K = K) : SlR X (mSlA K) := h ▸ SlR.or xsl sl_tupA
theorem cut_all {xs : List V} {lo hi : Option Int} (h : HT.sIx xs.length 0 lo = 0 ∧ HT.sIx xs.length xs.length hi = xs.length) : cutV xs lo hi = xs := by
  unfold cutV
  rw [h.1, h.2]
  simp
theorem Lt.cut {K : PySem.W.Frag} {H : Hp} {p : Addr} {xs : List V} {lo hi : Option Int} {Q : VK} (h : Lt H p xs) (q : ∀ r H', Same H H' → Lt H' r (cutV xs lo hi) → Q (.ref r) H') : mSlA K (.ref p) lo hi H Q := by
  rcases h with h | h
  · exact .inl ⟨xs, SqL.of h, fun r hr => q r _ (same_new hr) (.inl upd_same)⟩
  · refine .inr ⟨p, xs, rfl, .inl h, fun w => ?_, fun _ r hr => q r _ (same_new hr) (.inr (.inl upd_same))⟩
    exact q p H (Same.refl _) (by rw [cut_all w]; exact .inr h)
end
end RK

namespace RK
open PySem PySem.Spec PyProof.Rows L2 L2H
/-! ### dict comprehensions whose keys are tuples, too -/
section
variable {X : Cx} {pins : List (Addr × Obj)} {σ : L2.St} {H : Hp} {s : Shared}
/-- a comprehension's d[y] = v -/
theorem dc_store {Hn : Hp} {D : Addr} {y v : V} {u r : Value} {Er : Value → Shared → Prop} {Q : Unit → Shared → Prop} (hu : X.A.units < cLine) (I : Inv X pins σ H s) (g : DPut H D y v Hn) (ry : RelV y u) (rv : RelV v r)
    (go : ∀ t, Inv X pins σ Hn t → Q () t) : wpAny (model X.prog X.w) X.A (dictSet D u r) Q Er s := by
  rcases g with ⟨kvs, k, at_, ek, few, eH⟩ | ⟨kvs, k, b, at_, ek, atb, few, eH⟩
  · subst ek eH
    exact d_dictSet I at_ few ry rv go
  · subst ek eH
    cases (show u = Value.ref b from ry)
    obtain ⟨z, nm, xs, rel, dd⟩ := dt_of I.hok at_
    have z1 : xs.length ≤ sizeLine := by rw [← Paired.length rel]; exact z
    have z2 : (putK kvs k v).length ≤ sizeLine := Nat.le_trans (length_putK kvs k v) few
    refine wpAny_dictSet_heap (hsz := z1) (show (tupleKind (mixKind X.prog X.w)).room X.A from hu) (key_of I.hok atb) dd fun hp da sb => go _ ?_
    obtain ⟨q, es, ep, hq, a2, a3, a4, _, a5⟩ := da
    refine d_write I (by rw [at_]; trivial) sb ⟨q, hq⟩ ⟨z2, nm, _, (rel.put k atb rv).keeps fun c ys ec => ?_, q, es, ep, hq, a2, a3, a4, a5⟩
    rw [upd_ne (ne_of ec at_ (fun y => nomatch y)), ec]
end
/-- {k: v for target in iter if ..}: begun as e0 (no key yet), each pair put -/
def yDc (e0 : HO) (wi : TI) (g : TG) (tt : TT) (tk tv : TE) (vs : List Nat) : TE := fun σ H Q => wi σ H fun J Ha => ∀ D, Ha D = none → ∃ W : Nat → Nat → Hp → Prop, (∃ m, W 0 m (upd Ha D e0)) ∧ ∀ i m Hb, W i m Hb →
  (J.stop i Hb ∧ Q (.ref D) Hb) ∨ (J.go i Hb ∧ ∃ Nx : Hp → Prop, (∀ Hc, Nx Hc → ∃ m', m' < m ∧ W (i + 1) m' Hc) ∧ ∀ x Hc, J.yld i Hb x Hc → g x (wipe σ vs) Hc fun σ2 H2 => wipe σ2 vs = wipe σ vs ∧ tt σ2 H2 fun b H3 =>
    if b = true then tk σ2 H3 fun y H4 => tv σ2 H4 fun z H5 => ∃ H6, DPut H5 D y z H6 ∧ Nx H6 else Nx H3)
section
variable {X : Cx}
theorem dcP_core {e0 : HO} {pins : List (Addr × Obj)} {s : Shared} {σ : L2.St} {H : Hp} {Q : VK} {kx vx tg iter : Expr} {ifs : List Expr} {scope : Scope} {own : List (Str × Nat)} {pos lpos : Pos} {wi : TI} {g : TG} {tt : TT} {tk tv : TE}
    {use : Option (Value → Sem Unit)} {Qf : Value → Shared → Prop} (he0 : e0 = .dK [] ∨ e0 = .dT []) (hu : X.A.units < cLine)
    (calm : X.calm = true) (nd : X.N.Nodup) (I : Inv X pins σ H s) (walk : PI X tg iter wi) (blk : BlkOk X.N X.env.scope scope own)
    (pg : ∀ (t : Shared) (G : Hp) (C : Addr) (cl : List (Str × Addr)) (fp : List Addr), PG (X.blk t G scope (compEnvC scope cl C X.env) fp) tg g)
    (pt : ∀ (t : Shared) (G : Hp) (C : Addr) (cl : List (Str × Addr)) (fp : List Addr), PTs (X.blk t G scope (compEnvC scope cl C X.env) fp) ifs tt)
    (pk : ∀ (t : Shared) (G : Hp) (C : Addr) (cl : List (Str × Addr)) (fp : List Addr), PE (X.blk t G scope (compEnvC scope cl C X.env) fp) kx tk)
    (pv : ∀ (t : Shared) (G : Hp) (C : Addr) (cl : List (Str × Addr)) (fp : List Addr), PE (X.blk t G scope (compEnvC scope cl C X.env) fp) vx tv)
    (fold : ∀ x, foldedSetIterable iter X.env x = pure x) (q0 : yDc e0 wi g tt tk tv (own.map (·.2)) σ H Q)
    (fin : ∀ D C t m G, Inv X pins σ G t → Q (.ref D) G → t.heap.Ns C m → FpOk X pins G C → compPost (model X.prog X.w) X.A X.xe use Qf (.ref D) C (.ok .next) t) :
    wpAny (model X.prog X.w) X.A (comprehension (.DictComp kx vx [⟨tg, iter, ifs, 0⟩] scope pos) scope X.env lpos newDict false (eval iter X.env) use) Qf X.xe s := by
  have caps : ∀ y ∈ scope.names, y.2 = .free → ∃ c, X.env.cells.lookup y.1 = some c := fun y hy e => (blk.free y hy e).elim (fun k => I.ok.has _ (.inl k)) fun k => I.ok.has _ (.inr k)
  refine wpAny_comprehension_free (use := use) rfl fold (closure_ok caps) blk.kind (fun y hy e => by rw [blk.uniq y hy, e]) (thn (walk.run pins s σ H _ I q0) fun xv s1 hx => thn hx fun itv s2 h2 => ?_)
  obtain ⟨it, fp, tn, J, Ha, ei, Ia, T, sta, fpa, q1⟩ := h2
  subst ei
  refine wpAny_newObj_type (newEnv_comp ?_)
  -- the dict begins
  have free0 : Ha s2.heap.objs.size = none := Ia.hok.fresh (Nat.le_refl _)
  obtain ⟨W, ⟨m0, w0⟩, turn⟩ := q1 s2.heap.objs.size free0
  generalize hD : s2.heap.objs.size = D at free0 w0 turn ⊢
  generalize hsD : ({ s2 with heap := s2.heap.push { cls := .type "dict", data := .dict #[] } } : Shared) = sD
  have heapD : sD.heap = s2.heap.push { cls := .type "dict", data := .dict #[] } := by rw [← hsD]
  have ID : Inv X pins σ (upd Ha D e0) sD := by
    rw [← hsD]
    refine Ia.laid (t' := s2.toks) (fun c o e => Heap.get?_push_of_some _ e) (Nat.le_of_eq hD) ?_
    rw [← hD]
    rcases he0 with e | e
    · rw [e]; exact dk_empty s2.heap Ia.big
    · rw [e]; exact dt_empty s2.heap Ia.big
  have below : ∀ c ∈ fp, c < s2.heap.objs.size := fun c hc => let ⟨o, e, _⟩ := T.obj _ _ sta c hc; Heap.lt_size e
  have fpD : ∀ c ∈ fp, FpOk X pins (upd Ha D e0) c ∧ c < sD.heap.objs.size := fun c hc => by
    have lt := below c hc
    refine ⟨⟨?_, (fpa c hc).2⟩, ?_⟩
    · rw [upd_ne (by rw [← hD]; exact Nat.ne_of_lt lt)]; exact (fpa c hc).1
    · rw [heapD, Heap.size_push]; exact Nat.lt_succ_of_lt lt
  have stD : tn 0 sD.heap := T.keep _ _ _ sta fun c _ o e => by rw [heapD]; exact Heap.get?_push_of_some _ e
  have IB := block_start ID blk nd fpD
  have kg := pg sD (upd Ha D e0) sD.heap.objs.size (cellsFrom (sD.heap.objs.size + 1) scope.names (cloFrom X.env.cells scope.names [])) fp
  have kt := pt sD (upd Ha D e0) sD.heap.objs.size (cellsFrom (sD.heap.objs.size + 1) scope.names (cloFrom X.env.cells scope.names [])) fp
  have kk := pk sD (upd Ha D e0) sD.heap.objs.size (cellsFrom (sD.heap.objs.size + 1) scope.names (cloFrom X.env.cells scope.names [])) fp
  have kv := pv sD (upd Ha D e0) sD.heap.objs.size (cellsFrom (sD.heap.objs.size + 1) scope.names (cloFrom X.env.cells scope.names [])) fp
  have quiet : ∀ c ∈ fp, (upd Ha D e0) c = none := fun c hc => (fpD c hc).1.1
  show codeAny _ _ (.compStart (.DictComp kx vx [⟨tg, iter, ifs, 0⟩] scope pos) 0 (.ref it) (.ref D) (compEnvC scope (cellsFrom (sD.heap.objs.size + 1) scope.names (cloFrom X.env.cells scope.names [])) sD.heap.objs.size X.env)) (compPost (model X.prog X.w) X.A X.xe use Qf (.ref D) sD.heap.objs.size) { sD with heap := pushCells (sD.heap.push { cls := .type "dict", data := .dict #[] }) scope.names }
  generalize hce : compEnvC scope (cellsFrom (sD.heap.objs.size + 1) scope.names (cloFrom X.env.cells scope.names [])) sD.heap.objs.size X.env = ce at IB kg kt kk kv ⊢
  have place : ce.locals = sD.heap.objs.size := by subst hce; rfl
  generalize hHD : upd Ha D e0 = HD at ID IB kg kt kk kv w0 quiet fpD
  generalize hsB : ({ sD with heap := pushCells (sD.heap.push { cls := .type "dict", data := .dict #[] }) scope.names } : Shared) = sB at IB ⊢
  have stB : tn 0 sB.heap := T.keep _ _ _ stD fun c _ o e => by rw [← hsB]; exact pushCells_keeps _ _ _ _ (Heap.get?_push_of_some _ e)
  -- what the walk looks at stays as it is, from turn to turn
  have calmly : ∀ {σa : L2.St} {Hx : Hp} {sx : Shared}, Inv (X.blk sD HD scope ce fp) [] σa Hx sx → (∀ c ∈ fp, Hx c = none) → ∀ c ∈ fp, FpOk (X.blk sD HD scope ce fp) [] Hx c := fun {σa Hx sx} Ix hn c hc =>
    ⟨hn c hc, (Ix.ok.exf c hc).1, Ix.ok.exfs c hc, .inl hc, fun x d e => (Ix.ok.exf c hc).2 x d e, fun p hp => absurd (show p ∈ ([] : List (Addr × Obj)) ++ [] from hp) (by simp)⟩
  have loop : codeAny (model X.prog X.w) X.A (.compLoop (.DictComp kx vx [⟨tg, iter, ifs, 0⟩] scope pos) 0 (.ref it) (.ref D) ce) (compPost (model X.prog X.w) X.A X.xe use Qf (.ref D) sD.heap.objs.size) sB := by
    let Turn : Nat → Shared → Prop := fun n t => ∃ i G, Inv (X.blk sD HD scope ce fp) [] (wipe σ (own.map (·.2))) G t ∧ tn i t.heap ∧ (∀ c ∈ fp, G c = none) ∧ W i n G
    refine compLoop_anyD Turn ?_ m0 ⟨0, HD, IB, stB, quiet, w0⟩
    rintro n t ⟨i, G, It, stt, nt, wt⟩
    rcases turn i n G wt with ⟨stop, over⟩ | ⟨go, Nx, next, step⟩
    · -- no item is left
      have dn := T.done (X.blk sD HD scope ce fp) rfl rfl rfl calm i [] t _ G (fun _ _ => False) It (calmly It nt) stt stop
      refine thnF dn fun r t2 ⟨er, I2⟩ => ?_
      subst er
      have Iout : Inv X pins σ G t2 := ID.call' (ch := fp) I2.os I2.base I2.hok I2.bare fun c hc => ⟨(fpD c hc).1.2.2.2.1, (fpD c hc).1.2.1, (fpD c hc).1.2.2.2.2.1, (fpD c hc).1.2.2.2.2.2⟩
      have gone : G sD.heap.objs.size = none := by
        have y : G ce.locals = none := I2.free
        rwa [place] at y
      obtain ⟨m, names, _⟩ := I2.loc
      have names : t2.heap.Ns ce.locals m := names
      rw [place] at names
      exact fin D sD.heap.objs.size t2 m G Iout over names (ID.fpOk (Nat.le_refl _) gone)
    · have itm := T.item (X.blk sD HD scope ce fp) rfl rfl rfl calm i [] t _ G (fun _ _ => False) It (calmly It nt) stt go
      refine thnF itm fun r t2 ⟨u, er, rest⟩ => ?_
      subst er
      refine thnF rest fun _ t3 ⟨x, G3, I3, r3, y3, st3, n3⟩ => ?_
      have P3 := I3.pinned (calmly I3 n3) (T.obj _ _ st3)
      refine thnF (kg.run _ t3 _ G3 x u _ P3 r3 (step x G3 y3)) fun _ t4 ⟨σ4, G4, I4, same4, q4⟩ => ?_
      refine thnF (kt.run _ t4 σ4 G4 _ I4 q4) fun b t5 ⟨G5, I5, q5⟩ => ?_
      have on : ∀ {tz : Shared} {Gz : Hp}, Inv (X.blk sD HD scope ce fp) ([] ++ pinsAt fp t3.heap) σ4 Gz tz → Nx Gz → ∃ m, m < n ∧ Turn m tz := fun {tz Gz} Iz nx => by
        obtain ⟨m1, less, w1⟩ := next Gz nx
        have stays : ∀ c ∈ fp, ∀ o, t3.heap.get? c = some o → tz.heap.get? c = some o ∧ Gz c = none := fun c hc o e =>
          let y := Iz.pin (c, o) (List.mem_append_right _ (List.mem_append_right _ (mem_pinsAt hc e)))
          ⟨y.1, y.2.1⟩
        have len : (wipe σ (own.map (·.2))).length = σ4.length := by rw [← same4, wipe_length]
        refine ⟨m1, less, i + 1, Gz, (Iz.unpinned (pins := [])).weak len (fun j v e => ?_), T.keep _ _ _ st3 fun c hc o e => (stays c hc o e).1, fun c hc => ?_, w1⟩
        · rw [← same4] at e; exact (wipe_some e).1
        · obtain ⟨o, e, _⟩ := T.obj _ _ st3 c hc; exact (stays c hc o e).2
      cases b with
      | false => exact on I5 (by simpa using q5)
      | true =>
        have q5 : tk σ4 G5 fun y H4 => tv σ4 H4 fun z H5 => ∃ H6, DPut H5 D y z H6 ∧ Nx H6 := by simpa using q5
        refine thnF (kk.run _ t5 σ4 G5 _ I5 q5) fun z t6 ⟨yk, G6, I6, r6, q6⟩ => ?_
        refine thnF (kv.run _ t6 σ4 G6 _ I6 q6) fun z2 t7 ⟨yv, G7, I7, r7, G8, put, nx⟩ => ?_
        exact dc_store (X := X.blk sD HD scope ce fp) hu I7 put r6 r7 fun t8 I8 => on I8 nx
  exact codeAny_compStart_dict loop (T.self X.A 0 _ _ _ stB loop)
theorem pe_dcP {e0 : HO} {kx vx tg iter : Expr} {ifs : List Expr} {scope : Scope} {own : List (Str × Nat)} {pos : Pos} {wi : TI} {g : TG} {tt : TT} {tk tv : TE} (he0 : e0 = .dK [] ∨ e0 = .dT []) (hu : X.A.units < cLine)
    (calm : X.calm = true) (nd : X.N.Nodup) (walk : PI X tg iter wi) (blk : BlkOk X.N X.env.scope scope own)
    (pg : ∀ (t : Shared) (G : Hp) (C : Addr) (cl : List (Str × Addr)) (fp : List Addr), PG (X.blk t G scope (compEnvC scope cl C X.env) fp) tg g)
    (pt : ∀ (t : Shared) (G : Hp) (C : Addr) (cl : List (Str × Addr)) (fp : List Addr), PTs (X.blk t G scope (compEnvC scope cl C X.env) fp) ifs tt)
    (pk : ∀ (t : Shared) (G : Hp) (C : Addr) (cl : List (Str × Addr)) (fp : List Addr), PE (X.blk t G scope (compEnvC scope cl C X.env) fp) kx tk)
    (pv : ∀ (t : Shared) (G : Hp) (C : Addr) (cl : List (Str × Addr)) (fp : List Addr), PE (X.blk t G scope (compEnvC scope cl C X.env) fp) vx tv)
    (fold : ∀ x, foldedSetIterable iter X.env x = pure x := by intro _; rfl) : PE X (.DictComp kx vx [⟨tg, iter, ifs, 0⟩] scope pos) (yDc e0 wi g tt tk tv (own.map (·.2))) := by
  refine ⟨fun pins s σ H Q I q0 => ?_⟩
  rw [arm_eval_DictComp]
  refine dcP_core he0 hu calm nd I walk blk pg pt pk pv fold q0 fun D C t m G It over names free => ⟨m, names, fun hz sb => ?_⟩
  obtain ⟨f0, f1, f2, f3, f4, f5⟩ := free
  exact ⟨.ref D, G, It.turned (t' := t.toks) (fun c o hc e => (sb.2 c hc).trans e) f0 f1 f3 f4 f5, rfl, over⟩
/-- y = {k: v for ..} -/
theorem ps_setDcP {i : Nat} {y : Str} {py spos : Pos} {e0 : HO} {kx vx tg iter : Expr} {ifs : List Expr} {scope : Scope} {own : List (Str × Nat)} {pos : Pos} {wi : TI} {g : TG} {tt : TT} {tk tv : TE} (hy : X.N[i]? = some y) (hyl : X.env.scope.names.lookup y = some .local)
    (sw : swapsWith (.DictComp kx vx [⟨tg, iter, ifs, 0⟩] scope pos) (some (.Name y py)) spos.line X.env = pure true) (he0 : e0 = .dK [] ∨ e0 = .dT []) (hu : X.A.units < cLine)
    (calm : X.calm = true) (nd : X.N.Nodup) (walk : PI X tg iter wi) (blk : BlkOk X.N X.env.scope scope own)
    (pg : ∀ (t : Shared) (G : Hp) (C : Addr) (cl : List (Str × Addr)) (fp : List Addr), PG (X.blk t G scope (compEnvC scope cl C X.env) fp) tg g)
    (pt : ∀ (t : Shared) (G : Hp) (C : Addr) (cl : List (Str × Addr)) (fp : List Addr), PTs (X.blk t G scope (compEnvC scope cl C X.env) fp) ifs tt)
    (pk : ∀ (t : Shared) (G : Hp) (C : Addr) (cl : List (Str × Addr)) (fp : List Addr), PE (X.blk t G scope (compEnvC scope cl C X.env) fp) kx tk)
    (pv : ∀ (t : Shared) (G : Hp) (C : Addr) (cl : List (Str × Addr)) (fp : List Addr), PE (X.blk t G scope (compEnvC scope cl C X.env) fp) vx tv)
    (fold : ∀ x, foldedSetIterable iter X.env x = pure x := by intro _; rfl) : PS X (.Assign [.Name y py] (.DictComp kx vx [⟨tg, iter, ifs, 0⟩] scope pos) spos) (tAsg (yDc e0 wi g tt tk tv (own.map (·.2))) (gName i)) := by
  refine ⟨fun pins s σ H D I q0 => ?_⟩
  rw [exec_Assign_Name_used _ _ _ _ sw]
  refine wpAny_bind (wpAny_standAt (wpAny_bind ?_))
  have q1 : yDc e0 wi g tt tk tv (own.map (·.2)) σ H (fun x H1 => gName i x σ H1 D.nx) := q0
  refine wpAny_bind (thn (dcP_core (lpos := firstIterPos [⟨tg, iter, ifs, 0⟩] pos) (use := some (assign (.Name y py) X.env)) (Qf := fun _ t => SP X pins D .next t) he0 hu calm nd I walk blk pg pt pk pv fold q1 fun L C t m G It over names free => ?_) fun _ t hq => wpAny_pure (wpAny_pure hq))
  show wpAny _ _ (assign (.Name y py) X.env (.ref L)) _ _ _
  refine wpAny_assign_Name (store_ok2 (v := V.ref L) It nd hy (.inl hyl) rfl (fun t2 I2 ⟨a, sb, ha⟩ => ?_) (.inr hyl))
  obtain ⟨f0, f1, f2, f3, f4, f5⟩ := free
  have apart : C ≠ a := ha.elim (fun z => by rw [z]; exact f1) fun z e => f4 y a z e.symm
  exact ⟨m, names.sameBut sb apart, fun hz sb3 => ⟨_, G, I2.turned (t' := t2.toks) (fun c o hc e => (sb3.2 c hc).trans e) f0 f1 f3 f4 f5, over⟩⟩
theorem sw_dict {kx vx : Expr} {gs : List Comprehension} {scope : Scope} {pos py : Pos} {y : Str} {l : Nat} {env : Env} (hk : env.scope.kind = .function) (hy : env.scope.names.lookup y = some .local) (hl : (py.line == pos.line) = true)
    (no : (scope.names.any fun (n, k) => n == y && (k == .local || k == .cell)) = false) : swapsWith (.DictComp kx vx gs scope pos) (some (.Name y py)) l env = pure true := by
  have b1 : env.kindOf y = some .local := hy
  have b2 : env.blockKind = .function := by unfold Env.blockKind; rw [hk]; rfl
  unfold swapsWith
  simp only [b1, b2, no, Expr.pos, hl]
  rfl
end
end RK

namespace RK
open PySem PySem.Spec PyProof.Rows L2 L2H
/-! ### the head's facts, at written addresses -/
inductive Fl where
  /-- nothing of the module has this name -/
  | free (x : Str)
  | int (x : Str) (i : Int)
  | str (x z : Str)
  /-- the name x stands for the object at a -/
  | glo (x : Str) (a : Addr)
  | tup (a : Addr) (zs : List Str)
  /-- a def at a, its qualified name -/
  | fn (a : Addr) (q : Str)
  /-- a class at a, its line of classes -/
  | cls (a : Addr) (l : List Value)
  /-- an error class at a with an __init__ at i -/
  | err (a i : Addr)
  | nof (a : Addr) (f : Str)
  | base
  /-- a class with instances -/
  | inst (a : Addr)
  | meth (a : Addr) (m : Str) (g : Addr)
  | make (a g : Addr)
  | prop (a : Addr) (f : Str) (p g : Addr)
def eqOB (a b : Option Bool) : Bool := decide (a = b)
def eqVo (a b : Option Value) : Bool := decide (a = b)
def isNon : Value → Bool
  | .none => true
  | _ => false
def Fl.ok (K : PySem.W.Frag) : Fl → Bool
  | .free x => He.eqO (PySem.W.nsIn K mainGlobals x) (some none)
  | .int x i => (match PySem.W.nsIn K mainGlobals x with
    | some (some (.int j _)) => decide (j = i)
    | _ => false)
  | .str x z => (match PySem.W.nsIn K mainGlobals x with
    | some (some (.str y _)) => decide (y = z)
    | _ => false)
  | .glo x a => He.eqO (PySem.W.nsIn K mainGlobals x) (some (some (.ref a)))
  | .tup a zs => (match K.lookup a with
    | some ⟨.type c, _, .seq its _, _⟩ => decide (c = "tuple") && (decide (its.size ≤ sizeLine) && He.relAll (zs.map V.str) its.toList)
    | _ => false)
  | .fn a q => PySem.W.keepIn K (.ref a) && (match K.lookup a with
    | some ⟨_, _, .func u, _⟩ => PySem.W.codeIn K u.code q && isNon u.defaults
    | _ => false)
  | .cls a l => (match PySem.W.clsIn K a with
    | some cd => decide (cd.mro = l)
    | none => false) && (eqVo (PySem.W.typeIn K (.ref a)) (some (.type "type")) && !l.isEmpty)
  | .err a i => (match K.lookup a with
      | some ⟨.type "type", _, .cls cd, sl⟩ => (match cd.mro, sl.toList with
        | .ref C' :: bm, [_, _, _, _, some (.builtin n), _] => C' == a && n == "ValueError.__new__" && !cd.hasDel && cd.hasDict && PySem.HandSPX.refsVE bm
        | _, _ => false)
      | _ => false) &&
    (He.eqO (PySem.W.findIn K (.ref a) "__setattr__") (some (some (.builtin "object.__setattr__"))) &&
    (PySem.W.keepIn K (.ref a) &&
    (He.eqO (PySem.W.findIn K (.ref a) "__init__") (some (some (.ref i))) &&
    (eqVo (PySem.W.typeIn K (.ref i)) (some (.type "function")) &&
    (He.eqO (PySem.W.findIn K (.ref a) "__getattribute__") (some (some (.builtin "BaseException.__getattribute__"))) &&
    (He.eqO (PySem.W.findIn K (.ref a) "__getattr__") (some none) &&
    (He.eqO (PySem.W.findIn K (.ref a) "__class__") (some (some (.builtin "object.__class__"))) &&
    PySem.W.hasDictIn K a)))))))
  | .nof a f => He.eqO (PySem.W.findIn K (.ref a) f) (some none)
  | .base => He.eqO (PySem.W.specialIn K (.builtin "object.__class__") "__get__") (some (some (.builtin "getset_descriptor.__get__"))) && eqOB (PySem.W.takesIn K (.builtin "object.__class__")) (some true)
  | .inst a => PySem.W.plainGet K a Str.empty && (PySem.W.hasDictIn K a && (PySem.W.plainOver K a && He.eqO (PySem.W.findIn K (.ref a) "__setattr__") (some (some (.builtin "object.__setattr__")))))
  | .meth a m g => He.eqO (PySem.W.findIn K (.ref a) m) (some (some (.ref g))) && (PySem.W.isFn K (.ref g) && PySem.W.keepIn K (.ref g))
  | .make a g => PySem.W.makesIn K a && (He.eqO (PySem.W.findIn K (.ref a) "__init__") (some (some (.ref g))) && (PySem.W.isFn K (.ref g) && PySem.W.keepIn K (.ref a)))
  | .prop a f p g => He.eqO (PySem.W.findIn K (.ref a) f) (some (some (.ref p))) && (He.eqO (PySem.W.specialIn K (.ref p) "__get__") (some (some (.builtin "property.__get__"))) &&
      (eqOB (PySem.W.takesIn K (.ref p)) (some true) && (match PySem.W.recIn K p "property" with
        | some (v :: _) => decide (v = .ref g)
        | _ => false)))
section
variable {K : PySem.W.Frag} {h : Heap} {mg : Str → Option Value}
theorem eqOB_ok {a b : Option Bool} (e : eqOB a b = true) : a = b := of_decide_eq_true e
theorem eqVo_ok {a b : Option Value} (e : eqVo a b = true) : a = b := of_decide_eq_true e
theorem Fl.free_ok (X : K.In h) (G : h.Ns mainGlobals mg) {x : Str} (c : (Fl.free x).ok K = true) : mg x = none := PySem.W.mg_none_of X G (He.eqO_ok c)
theorem Fl.int_ok (X : K.In h) (G : h.Ns mainGlobals mg) {x : Str} {i : Int} (c : (Fl.int x i).ok K = true) : ∃ t, mg x = some (.int i t) := He.int_ok X G (x := x) (i := i) c
theorem Fl.str_ok (X : K.In h) (G : h.Ns mainGlobals mg) {x z : Str} (c : (Fl.str x z).ok K = true) : ∃ t, mg x = some (.str z t) := He.str_ok X G (x := x) (z := z) c
theorem Fl.glo_ok (X : K.In h) (G : h.Ns mainGlobals mg) {x : Str} {a : Addr} (c : (Fl.glo x a).ok K = true) : mg x = some (.ref a) := PySem.W.mg_of X G (He.eqO_ok c)
theorem Fl.ca {x : Str} {a : Addr} (c : (Fl.glo x a).ok K = true) : cA K x = a := cA_of (He.eqO_ok c)
theorem Fl.tup_ok {a : Addr} {zs : List Str} (c : (Fl.tup a zs).ok K = true) (H : Hp) : SqT K H a (zs.map V.str) := by
  have c1 : (match K.lookup a with
    | some ⟨.type c, _, .seq its _, _⟩ => decide (c = "tuple") && (decide (its.size ≤ sizeLine) && He.relAll (zs.map V.str) its.toList)
    | _ => false) = true := c
  cases l : K.lookup a with
  | none => rw [l] at c1; cases c1
  | some o =>
    obtain ⟨oc, od, dt, sl⟩ := o
    rw [l] at c1
    cases oc with
    | type n =>
      cases dt with
      | seq its e =>
        obtain ⟨h1, h2⟩ := He.ba (show (decide (n = "tuple") && (decide (its.size ≤ sizeLine) && He.relAll (zs.map V.str) its.toList)) = true from c1)
        obtain ⟨h3, h4⟩ := He.ba h2
        exact .inr ⟨_, its, e, l, congrArg Value.type (of_decide_eq_true h1), rfl, of_decide_eq_true h3, He.relAll_ok h4⟩
      | _ => cases c1
    | _ => cases dt <;> cases c1
def fnA (K : PySem.W.Frag) (a : Addr) : He.FnW := match K.lookup a with
  | some ⟨_, _, .func u, _⟩ => some (u.name, u.qualname, u.params, u.body, u.scope, u.globals, u.closure, u.builtins)
  | _ => none
theorem fun_at {a : Addr} {x q : Str} {st : Stmt} (e : fnA K a = some (x, q, defArgs st, .stmts (defBody st), defScope st, mainGlobals, [], builtinsNs)) (c : (Fl.fn a q).ok K = true) : ∃ fd, Fun K x q st a fd := by
  obtain ⟨kp, c2⟩ := He.ba (show (PySem.W.keepIn K (.ref a) && (match K.lookup a with
    | some ⟨_, _, .func u, _⟩ => PySem.W.codeIn K u.code q && isNon u.defaults
    | _ => false)) = true from c)
  unfold fnA at e
  cases l : K.lookup a with
  | none => rw [l] at c2; cases c2
  | some o =>
    obtain ⟨oc, od, dt, sl⟩ := o
    rw [l] at c2 e
    cases dt with
    | func u =>
      obtain ⟨m1, m2, m3, m4, m5, m6, m7, m8, m9, m10, m11, m12, m13, m14, m15⟩ := u
      have e2 : (some (m1, m2, m3, m4, m5, m6, m7, m15) : He.FnW) = some (x, q, defArgs st, .stmts (defBody st), defScope st, mainGlobals, [], builtinsNs) := e
      simp only [Option.some.injEq, Prod.mk.injEq] at e2
      obtain ⟨z1, z2, z3, z4, z5, z6, z7, z8⟩ := e2
      subst z1 z2 z3 z4 z5 z6 z7 z8
      obtain ⟨k1, k2⟩ := He.ba (show (PySem.W.codeIn K m13 m2 && isNon m8) = true from c2)
      have : m8 = .none := by
        cases m8 <;> first | rfl | cases k2
      subst this
      exact ⟨_, ⟨oc, od, m9, m10, m11, m12, m13, m14, sl, rfl, l, k1⟩, kp⟩
    | _ => cases c2
theorem binds_law {x qual : Str} {st : Stmt} {f : Addr} {fd : FuncData} (F : Fun K x qual st f fd)
    (h : ∀ (kV doc pm : Value) (an : Option Addr) (cdv ct v : Value), bindArgs (PySem.W.fnOf x qual (defArgs st) (defBody st) (defScope st) .none kV doc pm an cdv ct) ⟨[v], []⟩ = pure [(("script" : Str), v)]) : ∀ (s : Shared) (v : Value), BindsTo s fd ⟨[v], []⟩ [("script", v)] := by
  obtain ⟨oc, od, kV, doc, pm, an, cdv, ct, osl, rfl, _, _⟩ := F.ex
  exact fun s v => .of_eq (h _ _ _ _ _ _ _)
/-- the facts of a class -/
structure ClL (K : PySem.W.Frag) (x : Str) (a : Addr) (l : List Value) : Prop where
  e : cA K x = a
  c : ∃ cd, PySem.W.clsIn K a = some cd ∧ cd.mro = l
  t : PySem.W.typeIn K (.ref a) = some (.type "type")
  n : l ≠ []
theorem Fl.cls_ok {x : Str} {a : Addr} {l : List Value} (g : (Fl.glo x a).ok K = true) (c : (Fl.cls a l).ok K = true) : ClL K x a l := by
  obtain ⟨c1, c⟩ := He.ba (show ((match PySem.W.clsIn K a with
    | some cd => decide (cd.mro = l)
    | none => false) && (eqVo (PySem.W.typeIn K (.ref a)) (some (.type "type")) && !l.isEmpty)) = true from c)
  obtain ⟨c2, c3⟩ := He.ba c
  refine ⟨Fl.ca g, ?_, eqVo_ok c2, fun e => by rw [e] at c3; cases c3⟩
  cases q : PySem.W.clsIn K a with
  | none => rw [q] at c1; cases c1
  | some cd => rw [q] at c1; exact ⟨cd, rfl, of_decide_eq_true c1⟩
theorem ClL.sub {x : Str} {a : Addr} {l : List Value} (c : ClL K x a l) (b : Value) : PySem.W.subIn K (.ref (cA K x)) b = some (l.contains b) := by
  obtain ⟨cd, h, e⟩ := c.c
  rw [c.e]
  show (PySem.W.clsIn K a).bind _ = _
  rw [h]
  show (if cd.mro.isEmpty = true then none else some (cd.mro.contains b)) = _
  rw [e, if_neg (by simpa using c.n)]
theorem ClL.at_ {x : Str} {a : Addr} {l : List Value} (c : ClL K x a l) (X : K.In h) (G : h.Ns mainGlobals mg) (g : (Fl.glo x a).ok K = true) : mg x = some (.ref (cA K x)) := by
  rw [c.e]; exact Fl.glo_ok X G g
theorem ClL.kit {x y : Str} {a b : Addr} {l m : List Value} {r : Bool} (c : ClL K x a l) (d : ClL K y b m) (hr : l.contains (.ref b) = r) (hd : (b == a) = true → r = true) : PySem.W.kitOne K (.ref (cA K x)) (.ref (cA K y)) = some r := by
  obtain ⟨cd, h, e⟩ := d.c
  refine kit_own (cd := cd) (by rw [d.e]; exact h) (by rw [d.e]; exact d.t) (by rw [c.sub, d.e, hr]) fun z => hd (by rw [d.e, c.e] at z; simpa using z)
theorem ClL.exm {x y : Str} {a b : Addr} {l m : List Value} {r : Bool} (c : ClL K x a l) (d : ClL K y b m) (hr : l.contains (.ref b) = r) (hm : m.contains (.type "BaseException") = true) : PySem.W.exmOne K (.ref (cA K x)) (.ref (cA K y)) = some r := by
  obtain ⟨cd, h, e⟩ := d.c
  exact exm_own (cd := cd) (by rw [d.sub, hm]) (by rw [d.e]; exact h) (by rw [d.e]; exact d.t) (by rw [c.sub, d.e, hr])
theorem ClL.val {x : Str} {a : Addr} {l : List Value} (c : ClL K x a l) (hv : l.contains (.type "ValueError") = true) (km : PySem.W.kitMeta "ValueError" = true) : PySem.W.kitOne K (.ref (cA K x)) (.type "ValueError") = some true := kit_val km (by rw [c.sub, hv])
/-- the facts of an error class -/
structure ErL (K : PySem.W.Frag) (x : Str) (i : Addr) : Prop where
  ox : OexC K (cA K x)
  er : ErrC K (cA K x)
  ini : PySem.W.findIn K (.ref (cA K x)) "__init__" = some (some (.ref i))
  fn : PySem.W.typeIn K (.ref i) = some (.type "function")
theorem Fl.err_ok {x : Str} {a i : Addr} {l : List Value} (cl : ClL K x a l) (bs : Fl.base.ok K = true) (hb : l.contains (.type "BaseException") = true) (ho : l.contains (.type "object") = true) (c : (Fl.err a i).ok K = true) : ErL K x i := by
  obtain ⟨s1, s2⟩ := He.ba (show (He.eqO (PySem.W.specialIn K (.builtin "object.__class__") "__get__") (some (some (.builtin "getset_descriptor.__get__"))) && eqOB (PySem.W.takesIn K (.builtin "object.__class__")) (some true)) = true from bs)
  obtain ⟨c0, c⟩ := He.ba c
  obtain ⟨c1, c⟩ := He.ba c
  obtain ⟨c3, c⟩ := He.ba c
  obtain ⟨c4, c⟩ := He.ba c
  obtain ⟨c5, c⟩ := He.ba c
  obtain ⟨c6, c⟩ := He.ba c
  obtain ⟨c7, c⟩ := He.ba c
  obtain ⟨c8, c10⟩ := He.ba c
  have sub := cl.sub
  have mr : PySem.W.mroIn K a (.type "object") = some true := by
    have := cl.sub (.type "object")
    rw [cl.e, ho] at this
    exact this
  have sb := sub (.type "BaseException")
  rw [hb] at sb
  have e := cl.e
  obtain ⟨cd, hcd, _⟩ := cl.c
  rw [e] at sb
  refine ⟨?_, ?_, by rw [e]; exact He.eqO_ok c4, eqVo_ok c5⟩
  · rw [e]
    refine ⟨?_, He.eqO_ok c1, sb, cl.t, c3⟩
    split at c0
    · rename_i dd cd sl ho
      split at c0
      · rename_i C' bm k0 k1 k2 k3 n k5 hm hs
        simp only [Bool.and_eq_true, beq_iff_eq, Bool.not_eq_true'] at c0
        obtain ⟨⟨⟨⟨hC, rfl⟩, hdel⟩, hdc⟩, ht⟩ := c0
        subst hC
        obtain ⟨nm, bs, mro, ns, qn, hd, sn, sub, ab, col, del⟩ := cd
        dsimp only at hm hdel hdc
        subst hm hdel hdc
        have hsl : sl = #[k0, k1, k2, k3, some (.builtin "ValueError.__new__"), k5] := by
          obtain ⟨l⟩ := sl
          simp only at hs
          rw [hs]
        subst hsl
        exact ⟨nm, qn, ns, bs, bm, sn, sub, ab, col, dd, k0, k1, k2, k3, k5, ho, ht⟩
      · cases c0
    · cases c0
  · rw [e]
    exact ⟨by rw [hcd]; rfl, He.eqO_ok c6, He.eqO_ok c7, sb, He.eqO_ok c8, He.eqO_ok s1, eqOB_ok s2, mr, c10⟩
theorem Fl.nof_ok {x f : Str} {a : Addr} (e : cA K x = a) (c : (Fl.nof a f).ok K = true) : PySem.W.findIn K (.ref (cA K x)) f = some none := by rw [e]; exact He.eqO_ok c
theorem Fl.noat_ok {x f : Str} {a : Addr} (e : cA K x = a) (c : (Fl.nof a f).ok K = true) : NoAttr K (cA K x) f := Fl.nof_ok e c
theorem Fl.inst_ok {x : Str} {a : Addr} (e : cA K x = a) (c : (Fl.inst a).ok K = true) : Cls K (cA K x) := by
  rw [e]
  obtain ⟨c1, c⟩ := He.ba c
  obtain ⟨c2, c⟩ := He.ba c
  obtain ⟨c3, c4⟩ := He.ba c
  exact ⟨c1, c2, c3, He.eqO_ok c4⟩
theorem Fl.meth_ok {x m : Str} {a g : Addr} (e : cA K x = a) (c : (Fl.meth a m g).ok K = true) : Meth K (cA K x) m g := by
  rw [e]
  obtain ⟨c1, c⟩ := He.ba c
  obtain ⟨c2, c3⟩ := He.ba c
  exact ⟨He.eqO_ok c1, c2, c3⟩
theorem Fl.make_ok {x : Str} {a g : Addr} (e : cA K x = a) (c : (Fl.make a g).ok K = true) : Mk K (cA K x) g := by
  rw [e]
  obtain ⟨c1, c⟩ := He.ba c
  obtain ⟨c2, c⟩ := He.ba c
  obtain ⟨c3, c4⟩ := He.ba c
  exact ⟨c1, He.eqO_ok c2, c3, c4⟩
theorem Fl.prop_ok {x f : Str} {a p g : Addr} (e : cA K x = a) (c : (Fl.prop a f p g).ok K = true) : PropOf K (cA K x) f p g := by
  rw [e]
  obtain ⟨c1, c⟩ := He.ba (show (He.eqO (PySem.W.findIn K (.ref a) f) (some (some (.ref p))) && (He.eqO (PySem.W.specialIn K (.ref p) "__get__") (some (some (.builtin "property.__get__"))) &&
      (eqOB (PySem.W.takesIn K (.ref p)) (some true) && (match PySem.W.recIn K p "property" with
        | some (v :: _) => decide (v = .ref g)
        | _ => false)))) = true from c)
  obtain ⟨c2, c⟩ := He.ba c
  obtain ⟨c3, c4⟩ := He.ba c
  refine ⟨He.eqO_ok c1, He.eqO_ok c2, eqOB_ok c3, ?_⟩
  split at c4
  · rename_i v r e
    rw [of_decide_eq_true c4] at e
    exact ⟨r, e⟩
  · cases c4
end
/-! ### the Hook -/
/-- a def: its address, name, qualified name, statement -/
structure Df where
  a : Addr
  name : Str
  qual : Str
  st : Stmt
def Df.val (d : Df) : He.FnW := some (d.name, d.qual, defArgs d.st, .stmts (defBody d.st), defScope d.st, mainGlobals, [], builtinsNs)
abbrev AlL : Type := Bool × List He.FnW
def obsL (fb : List Fl) (fn : List Df) (K : PySem.W.Frag) : AlL := ((fb.all fun f => f.ok K) && fn.all fun d => (Fl.fn d.a d.qual).ok K, fn.map fun d => fnA K d.a)
def valL (fn : List Df) : AlL := (true, fn.map Df.val)
def SaysL (fb : List Fl) (fn : List Df) (K : PySem.W.Frag) : Prop := obsL fb fn K = valL fn
def obsLG (as : List Addr) (fb : List Fl) (fn : List Df) (g : Addr → Option Obj) : AlL := obsL fb fn (He.frG g as)
def hookL (as : List Addr) (fb : List Fl) (fn : List Df) : PySem.W.Hook where
  α := AlL
  obs := fun s => obsLG as fb fn s.heap.get?
  val := fun _ => valL fn
  says := fun _ h => ∃ K : PySem.W.Frag, K.In h ∧ SaysL fb fn K
  of := fun _ _ e => ⟨_, He.frG_in, e⟩
  keeps := fun _ _ _ ⟨K, hK, c⟩ k => ⟨K, PySem.W.Frag.In.keeps hK k, c⟩
theorem obsLG_eq {as : List Addr} {fb : List Fl} {fn : List Df} {g : Addr → Option Obj} {s : Shared} (h : ∀ a, g a = s.heap.get? a) : obsLG as fb fn g = (hookL as fb fn).obs s := by
  have e : g = s.heap.get? := funext h
  rw [e] <;> rfl
section
variable {fb : List Fl} {fn : List Df} {K : PySem.W.Frag}
theorem SaysL.all (c : SaysL fb fn K) : ((fb.all fun f => f.ok K) && fn.all fun d => (Fl.fn d.a d.qual).ok K) = true := congrArg (fun z : AlL => z.1) c
theorem SaysL.fact (c : SaysL fb fn K) (i : Nat) {f : Fl} (h : fb[i]? = some f := by rfl) : f.ok K = true := List.all_eq_true.mp (He.ba c.all).1 f (List.mem_of_getElem? h)
theorem SaysL.def_ (c : SaysL fb fn K) (i : Nat) {d : Df} (h : fn[i]? = some d := by rfl) : ∃ fd, Fun K d.name d.qual d.st d.a fd := by
  have k := List.all_eq_true.mp (He.ba c.all).2 d (List.mem_of_getElem? h)
  have e : fn.map (fun d => fnA K d.a) = fn.map Df.val := congrArg (fun z : AlL => z.2) c
  have e2 : (fn.map fun d => fnA K d.a)[i]? = (fn.map Df.val)[i]? := by rw [e]
  rw [List.getElem?_map, List.getElem?_map, h] at e2
  exact fun_at (Option.some.inj e2) k
end
/-- a class's j-th statement -/
def clsN (t : Stmt) (j : Nat) : Stmt := match t with
  | .ClassDef (body := b) .. => b.getD j (.Pass ⟨0, 0, 0, 0⟩)
  | _ => .Pass ⟨0, 0, 0, 0⟩
/-- two looks at one run -/
theorem both_looks {α β γ : Type} {o : Option α} {f : α → β} {g : α → γ} {b : β} {c : γ} (h1 : o.map f = some b) (h2 : o.map g = some c) : o.map (fun s => (f s, g s)) = some (b, c) := by
  cases o with
  | none => cases h1
  | some s => cases h1; cases h2; rfl
/-- three looks at one run -/
theorem three_looks {α β γ δ : Type} {o : Option α} {f : α → β} {e : α → δ} {g : α → γ} {b : β} {d : δ} {c : γ} (h1 : o.map (fun s => (f s, e s)) = some (b, d)) (h2 : o.map g = some c) : o.map (fun s => (f s, e s, g s)) = some (b, d, c) := by
  cases o with
  | none => cases h1
  | some s => cases h1; cases h2; rfl
end RK

namespace RK
open PySem PySem.Spec PyProof.Rows L2 L2H SX
theorem hu0_of {A : Around} {k : Nat} (hr : Room k A) : A.units < cLine := Nat.lt_of_succ_lt (hu_of hr)
section
variable {X : Cx}
theorem pe_gstr {x z : Str} {pos : Pos} (hg : Gl X x) (h : ∃ t, X.mg x = some (.str z t)) (hd : (x == ("__debug__" : Str)) = false := by decide) : PE X (.Name x pos) (tC (.str z)) := by
  obtain ⟨t, h⟩ := h
  exact pe_glob hg h ⟨t, rfl⟩ hd
/-- o.f, o a name -/
def xF (K : PySem.W.Frag) (i : Nat) (f : Str) : TE := fun σ H Q => match σ[i]? with
  | some (some (.ref a)) => ∃ C dx fs v, H a = some (.ins C dx fs) ∧ Cls K C ∧ NoAttr K C f ∧ fs.lookup f = some v ∧ Q v H
  | _ => False
theorem xfld (i : Nat) {x f : Str} {p1 pos : Pos} (hN : X.N[i]? = some x := by rfl) (hv : Vis X.env.scope x := by first | exact Or.inl rfl | exact Or.inr (Or.inl rfl) | exact Or.inr (Or.inr rfl)) (hd : (x == ("__debug__" : Str)) = false := by decide)
    (hcd : (x == ("__classdict__" : Str)) = false := by decide) (hab : attributeBase (.Name x p1) f X.env (eval (.Name x p1) X.env) = eval (.Name x p1) X.env := by rfl) : PE X (.Attribute (.Name x p1) f pos) (xF X.K i f) :=
  peImp (pe_fld (pe_var hN hv hd hcd) hab) fun σ H Q h => by
    unfold xF at h
    split at h
    · rename_i a e
      obtain ⟨C, dx, fs, v, h1, h2, h3, h4, h5⟩ := h
      exact ⟨_, e, a, C, dx, fs, v, rfl, h1, h2, h3, h4, h5⟩
    · exact h.elim
/-- a list as a test -/
def xL1 (K : PySem.W.Frag) (te : TE) : TT := fun σ H Q => te σ H fun x H1 => match x with
  | .ref p => ∃ xs, Sq K H1 p xs ∧ Q (!xs.isEmpty) H1
  | _ => False
theorem xtL {e : Expr} {te : TE} (h : PE X e te) (he : ∀ whole, isTrue e X.env whole = (do let v ← whole; standAt e.pos; holding [v] (truthy v)) := by intro _; rfl) : PT X e (xL1 X.K te) := by
  refine ⟨fun pins s σ H Q I q => ?_⟩
  refine isTrue_plain (thn (h.run pins s σ H _ I q) fun v s1 ⟨x, H1, I1, r1, q1⟩ => tru_ok pins s1 σ H1 x v Q I1 r1 ?_) (he _)
  cases x with
  | ref p =>
    obtain ⟨xs, h1 | h1, q2⟩ := q1
    · exact ⟨_, .inl ⟨xs, h1, rfl⟩, q2⟩
    · exact ⟨_, .inr (.inl ⟨xs, h1, rfl⟩), q2⟩
  | _ => exact q1.elim
def mAll (K : PySem.W.Frag) : List V → Hp → VK → Prop := fun vs H Q => match vs with
  | [.ref a] => ∃ bs : List Bool, SqL K H a (bs.map V.bl) ∧ Q (.bl (bs.all id)) H
  | _ => False
theorem xc_all (hc : X.calm = true) : CallR X (.builtin "all") (mAll X.K) := calImp (cr_all hc) fun vs H Q h => by
  unfold mAll at h
  split at h
  · obtain ⟨bs, h1, h2⟩ := h
    exact ⟨_, bs, rfl, h1, h2⟩
  · exact h.elim
end

/-! ### K named -/
section
variable {X : Cx} {K : PySem.W.Frag}
theorem kfld (hK : X.K = K) (i : Nat) {x f : Str} {p1 pos : Pos} (hN : X.N[i]? = some x := by rfl) (hv : Vis X.env.scope x := by first | exact Or.inl rfl | exact Or.inr (Or.inl rfl) | exact Or.inr (Or.inr rfl)) (hd : (x == ("__debug__" : Str)) = false := by decide)
    (hcd : (x == ("__classdict__" : Str)) = false := by decide) (hab : attributeBase (.Name x p1) f X.env (eval (.Name x p1) X.env) = eval (.Name x p1) X.env := by rfl) : PE X (.Attribute (.Name x p1) f pos) (xF K i f) := hK ▸ xfld i hN hv hd hcd hab
theorem kg_tup (hK : X.K = K) {es : List Expr} {k : Nat} {t : TGs} {n : Nat} {pos : Pos} (hc : X.calm = true) (h : PGs X es t) (hn : (assignEach es X.env).length = n := by rfl) (hst : (assignEach es X.env).findIdx? (·.1) = none := by rfl) : PG X (.Tuple es k pos) (gTup K n t) := hK ▸ pg_tup hc h hn hst
theorem kc_all (hK : X.K = K) (hc : X.calm = true) : CallR X (.builtin "all") (mAll K) := hK ▸ xc_all hc
theorem ki_enum (hK : X.K = K) {e : Expr} {ta : TA} {p pos tpos : Pos} {elts : List Expr} {kk : Nat} (hg : Gl X "enumerate") (hm : X.mg "enumerate" = none) (ha : PA X [e] ta) (hs : starEach [e] X.env = [(false, eval e X.env)] := by rfl) :
    PI X (.Tuple elts kk tpos) (.Call (.Name "enumerate" p) [e] [] pos) (iEnum K ta) := hK ▸ pi_enum hg hm ha hs
theorem ktL (hK : X.K = K) {e : Expr} {te : TE} (h : PE X e te) (he : ∀ whole, isTrue e X.env whole = (do let v ← whole; standAt e.pos; holding [v] (truthy v)) := by intro _; rfl) : PT X e (xL1 K te) := hK ▸ xtL h he
end
/-! ### walks with a target of any form -/
section
variable {K : PySem.W.Frag} {p : Addr} {xs : List V} {g : TG} {tt : TT} {te : TE} {vs : List Nat} {σ : L2.St} {H : Hp} {Q : VK}
/-- [e for target in xs if t], xs a list or a tuple that stays -/
theorem lc_lt (Pv : Addr → Nat → Hp → Prop) (hp : Lt H p xs) (h0 : ∀ D, H D = none → Pv D 0 (upd H D (.lst []))) (keep : ∀ D i H', H D = none → Pv D i H' → H' p = H p)
    (hs : ∀ D i x H', H D = none → xs[i]? = some x → Pv D i H' → g x (wipe σ vs) H' fun σ2 H2 => wipe σ2 vs = wipe σ vs ∧ tt σ2 H2 fun b H3 =>
      if b = true then te σ2 H3 fun y H4 => ∃ acc, H4 D = some (.lst acc) ∧ acc.length < sizeLine ∧ Pv D (i + 1) (upd H4 D (.lst (acc ++ [y]))) else Pv D (i + 1) H3) (hd : ∀ D H', H D = none → Pv D xs.length H' → Q (.ref D) H') :
    (fun (x : V) (H1 : Hp) => ∃ a, x = .ref a ∧ (∃ xs, SqL K H1 a xs) ∧ ∀ D, H1 D = none → ∃ W : Nat → Nat → Hp → Prop, (∃ m, W 0 m (upd H1 D (.lst []))) ∧ ∀ i m H, W i m H →
      ((Itl K a).stop i H ∧ Q (.ref D) H) ∨ ((Itl K a).go i H ∧ ∃ Nx : Hp → Prop, (∀ H', Nx H' → ∃ m', m' < m ∧ W (i + 1) m' H') ∧ ∀ x H', (Itl K a).yld i H x H' → g x (wipe σ vs) H' fun σ2 H2 => wipe σ2 vs = wipe σ vs ∧ tt σ2 H2 fun b H3 =>
        if b = true then te σ2 H3 fun y H4 => ∃ acc, H4 D = some (.lst acc) ∧ acc.length < sizeLine ∧ Nx (upd H4 D (.lst (acc ++ [y]))) else Nx H3)) (.ref p) H ∨
    (fun (x : V) (H1 : Hp) => ∃ a, x = .ref a ∧ (∃ xs, SqT K H1 a xs) ∧ ∀ D, H1 D = none → ∃ W : Nat → Nat → Hp → Prop, (∃ m, W 0 m (upd H1 D (.lst []))) ∧ ∀ i m H, W i m H →
      ((Itt K a).stop i H ∧ Q (.ref D) H) ∨ ((Itt K a).go i H ∧ ∃ Nx : Hp → Prop, (∀ H', Nx H' → ∃ m', m' < m ∧ W (i + 1) m' H') ∧ ∀ x H', (Itt K a).yld i H x H' → g x (wipe σ vs) H' fun σ2 H2 => wipe σ2 vs = wipe σ vs ∧ tt σ2 H2 fun b H3 =>
        if b = true then te σ2 H3 fun y H4 => ∃ acc, H4 D = some (.lst acc) ∧ acc.length < sizeLine ∧ Nx (upd H4 D (.lst (acc ++ [y]))) else Nx H3)) (.ref p) H := by
  rcases hp with hp | hp
  · exact .inl ⟨p, rfl, ⟨_, SqL.of hp⟩, fun D hD => lc_list (xs := xs) (Pv D) (h0 D hD) (fun i H' _ q => SqL.of ((keep D i H' hD q).trans hp)) (fun i x H' hx q => hs D i x H' hD hx q) fun H' q => hd D H' hD q⟩
  · have k : ∀ {H'}, H' p = H p → SqT K H' p xs := fun e => .inl (hp.imp (fun z => e.trans z) fun ⟨o, z⟩ => ⟨o, e.trans z⟩)
    exact .inr ⟨p, rfl, ⟨_, .inl hp⟩, fun D hD => lc_tup (xs := xs) (Pv D) (h0 D hD) (fun i H' _ q => k (keep D i H' hD q)) (fun i x H' hx q => hs D i x H' hD hx q) fun H' q => hd D H' hD q⟩
/-- {k: e for target in xs}, xs a list or a tuple that stays -/
theorem dc_lt {e0 : HO} {tk tv : TE} (Pv : Addr → Nat → Hp → Prop) (hp : Lt H p xs) (h0 : ∀ D, H D = none → Pv D 0 (upd H D e0)) (keep : ∀ D i H', H D = none → Pv D i H' → H' p = H p)
    (hs : ∀ D i x H', H D = none → xs[i]? = some x → Pv D i H' → g x (wipe σ vs) H' fun σ2 H2 => wipe σ2 vs = wipe σ vs ∧ tt σ2 H2 fun b H3 =>
      if b = true then tk σ2 H3 fun y H4 => tv σ2 H4 fun z H5 => ∃ H6, DPut H5 D y z H6 ∧ Pv D (i + 1) H6 else Pv D (i + 1) H3) (hd : ∀ D H', H D = none → Pv D xs.length H' → Q (.ref D) H') :
    (fun (x : V) (H1 : Hp) => ∃ a, x = .ref a ∧ (∃ xs, SqL K H1 a xs) ∧ ∀ D, H1 D = none → ∃ W : Nat → Nat → Hp → Prop, (∃ m, W 0 m (upd H1 D e0)) ∧ ∀ i m Hb, W i m Hb →
      ((Itl K a).stop i Hb ∧ Q (.ref D) Hb) ∨ ((Itl K a).go i Hb ∧ ∃ Nx : Hp → Prop, (∀ Hc, Nx Hc → ∃ m', m' < m ∧ W (i + 1) m' Hc) ∧ ∀ x Hc, (Itl K a).yld i Hb x Hc → g x (wipe σ vs) Hc fun σ2 H2 => wipe σ2 vs = wipe σ vs ∧ tt σ2 H2 fun b H3 =>
        if b = true then tk σ2 H3 fun y H4 => tv σ2 H4 fun z H5 => ∃ H6, DPut H5 D y z H6 ∧ Nx H6 else Nx H3)) (.ref p) H ∨
    (fun (x : V) (H1 : Hp) => ∃ a, x = .ref a ∧ (∃ xs, SqT K H1 a xs) ∧ ∀ D, H1 D = none → ∃ W : Nat → Nat → Hp → Prop, (∃ m, W 0 m (upd H1 D e0)) ∧ ∀ i m Hb, W i m Hb →
      ((Itt K a).stop i Hb ∧ Q (.ref D) Hb) ∨ ((Itt K a).go i Hb ∧ ∃ Nx : Hp → Prop, (∀ Hc, Nx Hc → ∃ m', m' < m ∧ W (i + 1) m' Hc) ∧ ∀ x Hc, (Itt K a).yld i Hb x Hc → g x (wipe σ vs) Hc fun σ2 H2 => wipe σ2 vs = wipe σ vs ∧ tt σ2 H2 fun b H3 =>
        if b = true then tk σ2 H3 fun y H4 => tv σ2 H4 fun z H5 => ∃ H6, DPut H5 D y z H6 ∧ Nx H6 else Nx H3)) (.ref p) H := by
  have walk : ∀ D, H D = none → ∃ W : Nat → Nat → Hp → Prop, (∃ m, W 0 m (upd H D e0)) ∧ ∀ i m Hb, W i m Hb → Hb p = H p ∧ ((i = xs.length ∧ Q (.ref D) Hb) ∨ (i < xs.length ∧ ∃ Nx : Hp → Prop, (∀ Hc, Nx Hc → ∃ m', m' < m ∧ W (i + 1) m' Hc) ∧ ∀ x, xs[i]? = some x → g x (wipe σ vs) Hb fun σ2 H2 => wipe σ2 vs = wipe σ vs ∧ tt σ2 H2 fun b H3 =>
      if b = true then tk σ2 H3 fun y H4 => tv σ2 H4 fun z H5 => ∃ H6, DPut H5 D y z H6 ∧ Nx H6 else Nx H3)) := fun D hD => by
    refine ⟨fun i m Hb => m = xs.length - i ∧ i ≤ xs.length ∧ Pv D i Hb, ⟨_, rfl, Nat.zero_le _, h0 D hD⟩, ?_⟩
    rintro i m Hb ⟨rfl, le, q⟩
    refine ⟨keep D i Hb hD q, ?_⟩
    by_cases lt : i < xs.length
    · exact .inr ⟨lt, Pv D (i + 1), fun Hc q2 => ⟨_, by omega, rfl, lt, q2⟩, fun x hx => hs D i x Hb hD hx q⟩
    · have e : i = xs.length := by omega
      subst e
      exact .inl ⟨rfl, hd D Hb hD q⟩
  rcases hp with hp | hp
  · refine .inl ⟨p, rfl, ⟨_, SqL.of hp⟩, fun D hD => ?_⟩
    obtain ⟨W, w0, st⟩ := walk D hD
    refine ⟨W, w0, fun i m Hb w => ?_⟩
    obtain ⟨e, q⟩ := st i m Hb w
    have sq : SqL K Hb p xs := SqL.of (e.trans hp)
    refine q.imp (fun ⟨z, q⟩ => ⟨⟨xs, sq, by rw [z]; exact Nat.le_refl _⟩, q⟩) fun ⟨lt, Nx, n1, n2⟩ => ⟨⟨xs, xs[i], sq, by simp [lt]⟩, Nx, n1, fun x Hc y => ?_⟩
    obtain ⟨rfl, y⟩ := y
    exact n2 x (y xs sq)
  · refine .inr ⟨p, rfl, ⟨_, .inl hp⟩, fun D hD => ?_⟩
    obtain ⟨W, w0, st⟩ := walk D hD
    refine ⟨W, w0, fun i m Hb w => ?_⟩
    obtain ⟨e, q⟩ := st i m Hb w
    have sq : SqT K Hb p xs := .inl (hp.imp (fun z => e.trans z) fun ⟨o, z⟩ => ⟨o, e.trans z⟩)
    refine q.imp (fun ⟨z, q⟩ => ⟨⟨xs, sq, by rw [z]; exact Nat.le_refl _⟩, q⟩) fun ⟨lt, Nx, n1, n2⟩ => ⟨⟨xs, xs[i], sq, by simp [lt]⟩, Nx, n1, fun x Hc y => ?_⟩
    obtain ⟨rfl, y⟩ := y
    exact n2 x (y xs sq)
end
end RK

namespace RK
open PySem PySem.Spec PyProof.Rows L2 L2H SX
abbrev Tx := List Nat
/-! ### sorted texts -/
def tsort (ts : List Tx) : List Tx := ts.mergeSort fun a b => decide (a ≤ b)
theorem tsort_perm (ts : List Tx) : (tsort ts).Perm ts := List.mergeSort_perm ts _
theorem tsort_up (ts : List Tx) : (tsort ts).Pairwise fun a b => a ≤ b := by
  have := List.pairwise_mergeSort (le := fun a b : Tx => decide (a ≤ b)) (fun a b c h1 h2 => decide_eq_true (List.le_trans (of_decide_eq_true h1) (of_decide_eq_true h2)))
    (fun a b => by simpa using List.le_total a b) ts
  exact this.imp fun h => of_decide_eq_true h
theorem up_of {l : List Str} (h : sortedS l = true) : l.Pairwise fun x y => x.cps.toList ≤ y.cps.toList := by
  have go : ∀ (l : List Str) (p : Str), risingS p l = true → (p :: l).Pairwise fun x y => x.cps.toList ≤ y.cps.toList := by
    intro l
    induction l with
    | nil => intro p _; simp
    | cons x r ih =>
      intro p h
      obtain ⟨h1, h2⟩ := Bool.and_eq_true_iff.mp (show (!ltCps x.cps.toList p.cps.toList && risingS x r) = true from h)
      have hr := ih x h2
      have px : p.cps.toList ≤ x.cps.toList := by
        rw [ltCps_eq] at h1
        exact of_decide_eq_false (by simpa using h1)
      refine List.pairwise_cons.mpr ⟨fun y hy => ?_, hr⟩
      rcases List.mem_cons.mp hy with e | hy
      · rw [e]; exact px
      · exact List.le_trans px ((List.pairwise_cons.mp hr).1 y hy)
  cases l with
  | nil => exact List.Pairwise.nil
  | cons x r => exact go r x h
theorem tsort_is {ys : List Str} {ts : List Tx} (p : ys.Perm (ts.map S)) (h : sortedS ys = true) : ys = (tsort ts).map S := by
  have p2 : (ys.map fun z => z.cps.toList).Perm ts := by
    have := p.map fun z => z.cps.toList
    rw [List.map_map] at this
    exact this.trans (by rw [show ((fun z : Str => z.cps.toList) ∘ S) = id from rfl, List.map_id])
  have e : (ys.map fun z => z.cps.toList) = tsort ts := by
    refine (p2.trans (tsort_perm ts).symm).eq_of_pairwise (fun x y _ _ h1 h2 => List.le_antisymm h1 h2) ?_ (tsort_up ts)
    rw [List.pairwise_map]
    exact up_of h
  rw [← e, List.map_map]
  exact (List.map_id ys).symm.trans (List.map_congr_left fun z _ => S_of z)
theorem tsort_mem {ts : List Tx} {t : Tx} : t ∈ tsort ts ↔ t ∈ ts := (tsort_perm ts).mem_iff
theorem tsort_len (ts : List Tx) : (tsort ts).length = ts.length := (tsort_perm ts).length_eq
theorem tsort_nd {ts : List Tx} (h : ts.Nodup) : (tsort ts).Nodup := (tsort_perm ts).nodup_iff.mpr h
theorem tsort_eq {a b : List Tx} (p : a.Perm b) : tsort a = tsort b :=
  (((tsort_perm a).trans p).trans (tsort_perm b).symm).eq_of_pairwise (fun x y _ _ h1 h2 => List.le_antisymm h1 h2) (tsort_up a) (tsort_up b)
/-! ### rivers -/
structure Row where
  t : Tx
  a : Option Tx
  r : Nat
  l : List Tx
def ov : Option Tx → V
  | none => .non
  | some t => .str (S t)
theorem ov_inj {a b : Option Tx} (h : ov a = ov b) : a = b := by
  cases a with
  | none => cases b with
    | none => rfl
    | some t => cases h
  | some t => cases b with
    | none => cases h
    | some u => rw [S_inj (V.str.inj h)]
structure Rv where
  T : List Row
  U : List (Tx × Tx)
def Rv.tn (R : Rv) : List Tx := R.T.map (·.t)
def Rv.un (R : Rv) : List Tx := R.U.map (·.1)
structure Rv.Ok (R : Rv) (rk : Tx → Nat) : Prop where
  t0 : 1 ≤ R.T.length
  t8 : R.T.length ≤ 8
  u10 : R.U.length ≤ 10
  tnm : ∀ w ∈ R.T, IsNm w.t
  tnd : R.tn.Nodup
  unm : ∀ u ∈ R.U, IsNm u.1
  und : R.un.Nodup
  af : ∀ w ∈ R.T, ∀ a, w.a = some a → a ∈ R.tn ∧ rk a < rk w.t
  rkn : ∀ w ∈ R.T, rk w.t < R.T.length
  rm : ∀ w ∈ R.T, w.r ≤ 99
  lk : ∀ w ∈ R.T, w.l.Perm R.un
  sp : ∀ u ∈ R.U, u.2 ∈ R.tn
/-- the value at a key of pairs -/
theorem val_map {α : Type} {xs : List α} {k : α → Tx} {v : α → V} (nd : (xs.map k).Nodup) {x : α} (h : x ∈ xs) : valV (xs.map fun x => ((Sum.inr (S (k x)) : Key), v x)) (Sum.inr (S (k x))) = some (v x) := by
  induction xs with
  | nil => cases h
  | cons y r ih =>
    rw [List.map_cons] at nd
    obtain ⟨n1, n2⟩ := List.nodup_cons.mp nd
    unfold valV
    rw [List.map_cons, List.find?_cons]
    by_cases e : k y = k x
    · have : y = x := by
        rcases List.mem_cons.mp h with h | h
        · exact h.symm
        · exact absurd (e ▸ List.mem_map.mpr ⟨x, h, rfl⟩ : k y ∈ r.map k) n1
      subst this
      simp
    · have : decide (((Sum.inr (S (k y)) : Key), v y).1 = Sum.inr (S (k x))) = false := decide_eq_false fun z => e (S_inj (Sum.inr.inj z))
      rw [this]
      rcases List.mem_cons.mp h with h | h
      · subst h; exact absurd rfl e
      · exact ih n2 h
theorem val_none {α : Type} {xs : List α} {k : α → Tx} {v : α → V} {t : Tx} (h : t ∉ xs.map k) : valV (xs.map fun x => ((Sum.inr (S (k x)) : Key), v x)) (Sum.inr (S t)) = none := by
  unfold valV
  rw [Option.map_eq_none_iff, List.find?_eq_none]
  intro y hy
  obtain ⟨x, hx, rfl⟩ := List.mem_map.mp hy
  refine fun z => h ?_
  have z := of_decide_eq_true z
  exact List.mem_map.mpr ⟨x, hx, S_inj (Sum.inr.inj z)⟩
theorem put_map {α : Type} {xs : List α} {k : α → Tx} {v : α → V} {x : α} (h : k x ∉ xs.map k) : putK (xs.map fun x => ((Sum.inr (S (k x)) : Key), v x)) (Sum.inr (S (k x))) (v x) = (xs ++ [x]).map fun x => ((Sum.inr (S (k x)) : Key), v x) := by
  rw [putK_new _ (val_none h), List.map_append]
  rfl
/-! ### rows as objects -/
/-- objects of a list or a tuple, each of its form -/
def Objs {α : Type} (P : Hp → Addr → α → Prop) (H : Hp) (p : Addr) (ws : List α) : Prop := ∃ zs : List (Addr × α), zs.map (·.2) = ws ∧ Lt H p (zs.map fun z => V.ref z.1) ∧ ∀ z ∈ zs, P H z.1 z.2
def RowO (H : Hp) (p : Addr) (w : Row) : Prop := ∃ q, H p = some (.tup [.str (S w.t), ov w.a, .int (w.r : Nat), .ref q]) ∧ Lt H q (sv w.l)
def ThO (H : Hp) (p : Addr) (u : Tx × Tx) : Prop := H p = some (.tup [.str (S u.1), .str (S u.2)])
theorem RowO.same {H H' : Hp} {p : Addr} {w : Row} (h : RowO H p w) (s : Same H H') : RowO H' p w := let ⟨q, h1, h2⟩ := h; ⟨q, s _ _ h1, h2.same s⟩
theorem ThO.same {H H' : Hp} {p : Addr} {u : Tx × Tx} (h : ThO H p u) (s : Same H H') : ThO H' p u := s _ _ h
theorem Objs.same {α : Type} {P : Hp → Addr → α → Prop} {H H' : Hp} {p : Addr} {ws : List α} (h : Objs P H p ws) (s : Same H H') (m : ∀ a w, P H a w → P H' a w) : Objs P H' p ws :=
  let ⟨zs, h1, h2, h3⟩ := h; ⟨zs, h1, h2.same s, fun z hz => m _ _ (h3 z hz)⟩
abbrev RowsO := Objs RowO
abbrev ThsO := Objs ThO
theorem rows_same {H H' : Hp} {p : Addr} {ws : List Row} (h : RowsO H p ws) (s : Same H H') : RowsO H' p ws := h.same s fun _ _ z => z.same s
theorem ths_same {H H' : Hp} {p : Addr} {ws : List (Tx × Tx)} (h : ThsO H p ws) (s : Same H H') : ThsO H' p ws := h.same s fun _ _ z => z.same s
/-- the first item of each -/
def NmO (H : Hp) (p : Addr) (t : Tx) : Prop := ∃ r, H p = some (.tup (.str (S t) :: r))
abbrev NmsO := Objs NmO
theorem NmO.same {H H' : Hp} {p : Addr} {t : Tx} (h : NmO H p t) (s : Same H H') : NmO H' p t := let ⟨r, e⟩ := h; ⟨r, s _ _ e⟩
theorem nms_same {H H' : Hp} {p : Addr} {ws : List Tx} (h : NmsO H p ws) (s : Same H H') : NmsO H' p ws := h.same s fun _ _ z => z.same s
theorem rows_nms {H : Hp} {p : Addr} {ws : List Row} (h : RowsO H p ws) : NmsO H p (ws.map (·.t)) := by
  obtain ⟨zs, rfl, h2, h3⟩ := h
  refine ⟨zs.map fun z => (z.1, z.2.t), by rw [List.map_map, List.map_map]; rfl, by rw [List.map_map]; exact h2, fun z hz => ?_⟩
  obtain ⟨y, hy, rfl⟩ := List.mem_map.mp hz
  obtain ⟨q, e, _⟩ := h3 y hy
  exact ⟨_, e⟩
theorem ths_nms {H : Hp} {p : Addr} {ws : List (Tx × Tx)} (h : ThsO H p ws) : NmsO H p (ws.map (·.1)) := by
  obtain ⟨zs, rfl, h2, h3⟩ := h
  refine ⟨zs.map fun z => (z.1, z.2.1), by rw [List.map_map, List.map_map]; rfl, by rw [List.map_map]; exact h2, fun z hz => ?_⟩
  obtain ⟨y, hy, rfl⟩ := List.mem_map.mp hz
  exact ⟨_, h3 y hy⟩
theorem Objs.len {α : Type} {P : Hp → Addr → α → Prop} {H : Hp} {p : Addr} {ws : List α} (h : Objs P H p ws) : ∃ xs, Lt H p xs ∧ xs.length = ws.length := by
  obtain ⟨zs, rfl, h2, _⟩ := h
  exact ⟨_, h2, by rw [List.length_map, List.length_map]⟩
/-- the walk's item -/
theorem objs_get {α : Type} {zs : List (Addr × α)} {i : Nat} {x : V} (h : (zs.map fun z => V.ref z.1)[i]? = some x) : ∃ z, zs[i]? = some z ∧ x = .ref z.1 := by
  rw [List.getElem?_map] at h
  cases e : zs[i]? with
  | none => rw [e] at h; cases h
  | some z => rw [e] at h; exact ⟨z, rfl, (Option.some.inj h).symm⟩
theorem take_succ_get {α : Type} {l : List α} {i : Nat} {x : α} (h : l[i]? = some x) : l.take (i + 1) = l.take i ++ [x] := by rw [List.take_add_one, h]; rfl
/-- the first item of the tuple at x -/
def fsN (G : Hp) : V → V := fun v => match v with | .ref a => (match G a with | some (.tup (n :: _)) => n | _ => .non) | _ => .non
theorem fsN_at {G : Hp} {a : Addr} {t : Tx} (h : NmO G a t) : fsN G (.ref a) = .str (S t) := by
  obtain ⟨r, e⟩ := h
  unfold fsN
  dsimp only
  rw [e]
theorem nms_map {H : Hp} : ∀ {zs : List (Addr × Tx)}, (∀ z ∈ zs, NmO H z.1 z.2) → ((zs.map fun z => V.ref z.1).filter fun _ => true).map (fsN H) = sv (zs.map (·.2))
  | [], _ => rfl
  | z :: r, h => by
    have ih := nms_map (zs := r) fun y hy => h y (List.mem_cons_of_mem _ hy)
    rw [List.map_cons, List.filter_cons, if_pos rfl, List.map_cons, ih, fsN_at (h z List.mem_cons_self)]
    rfl
theorem nm_ix {K : PySem.W.Frag} {H : Hp} {D a : Addr} {t : Tx} {acc : List V} {Q : VK} (hD : H D = none) (h : NmO H a t) (q : Q (fsN H (.ref a)) (upd H D (.lst acc))) : ∃ xs v, Sq K (upd H D (.lst acc)) a xs ∧ atI xs 0 = some v ∧ Q v (upd H D (.lst acc)) := by
  rw [fsN_at h] at q
  obtain ⟨r, e⟩ := h
  exact ⟨_, _, Sq.t (same_new hD _ _ e), at_int (j := 0) rfl rfl, q⟩
/-! ### folded: as the terms have them -/
section
variable {K : PySem.W.Frag} {te0 : TE} {p : Addr} {g : TG} {tt : TT} {te tk tv : TE} {vs : List Nat} {σ : L2.St} {H : Hp} {Q : VK} {xs : List V}
theorem tLc_lt (h0 : ∀ R : VK, R (.ref p) H → te0 σ H R) (Pv : Addr → Nat → Hp → Prop) (hp : Lt H p xs) (h1 : ∀ D, H D = none → Pv D 0 (upd H D (.lst []))) (keep : ∀ D i H', H D = none → Pv D i H' → H' p = H p)
    (hs : ∀ D i x H', H D = none → xs[i]? = some x → Pv D i H' → g x (wipe σ vs) H' fun σ2 H2 => wipe σ2 vs = wipe σ vs ∧ tt σ2 H2 fun b H3 =>
      if b = true then te σ2 H3 fun y H4 => ∃ acc, H4 D = some (.lst acc) ∧ acc.length < sizeLine ∧ Pv D (i + 1) (upd H4 D (.lst (acc ++ [y]))) else Pv D (i + 1) H3) (hd : ∀ D H', H D = none → Pv D xs.length H' → Q (.ref D) H') : tLc (iSeq K te0) g tt te vs σ H Q :=
  (lc_lt (K := K) (Q := Q) Pv hp h1 keep hs hd).imp (h0 _) (h0 _)
theorem yDc_lt {e0 : HO} (h0 : ∀ R : VK, R (.ref p) H → te0 σ H R) (Pv : Addr → Nat → Hp → Prop) (hp : Lt H p xs) (h1 : ∀ D, H D = none → Pv D 0 (upd H D e0)) (keep : ∀ D i H', H D = none → Pv D i H' → H' p = H p)
    (hs : ∀ D i x H', H D = none → xs[i]? = some x → Pv D i H' → g x (wipe σ vs) H' fun σ2 H2 => wipe σ2 vs = wipe σ vs ∧ tt σ2 H2 fun b H3 =>
      if b = true then tk σ2 H3 fun y H4 => tv σ2 H4 fun z H5 => ∃ H6, DPut H5 D y z H6 ∧ Pv D (i + 1) H6 else Pv D (i + 1) H3) (hd : ∀ D H', H D = none → Pv D xs.length H' → Q (.ref D) H') : yDc e0 (iSeq K te0) g tt tk tv vs σ H Q :=
  (dc_lt (K := K) (Q := Q) Pv hp h1 keep hs hd).imp (h0 _) (h0 _)
theorem tLc_names {j : Nat} {ts : List Tx} (h0 : ∀ R : VK, R (.ref p) H → te0 σ H R) (h : NmsO H p ts) (big : ts.length ≤ 1000) (hw : ∀ x : V, wipe ((wipe σ vs).set j (some x)) vs = wipe σ vs) (hj : ∀ x : V, ((wipe σ vs).set j (some x))[j]? = some (some x))
    (hd : ∀ D, H D = none → Q (.ref D) (upd H D (.lst (sv ts)))) : tLc (iSeq K te0) (gName j) tYes (tOp (mIx K) (xV j) (tC (.int 0))) vs σ H Q := by
  obtain ⟨zs, rfl, hl, hz⟩ := h
  rw [List.length_map] at big
  have base := lc_sq (K := K) (xs := zs.map fun z => V.ref z.1) (j := j) (tt := tYes) (te := tOp (mIx K) (xV j) (tC (.int 0))) (vs := vs) (σ := σ) (Q := Q) (fsN H) (fun _ => true) hl (by rw [List.length_map, sl_big]; omega) hw (fun D hD x acc Q' _ q' => q') (fun D hD x acc Q' hx q' => by
    obtain ⟨z, zm, rfl⟩ := List.mem_map.mp hx
    show xV j _ _ _
    unfold xV
    rw [hj]
    exact nm_ix hD (hz z zm) q') (fun D hD => by rw [nms_map hz]; exact hd D hD)
  exact base.imp (h0 _) (h0 _)
/-- [t for t in ts if c] -/
theorem tLc_filter {j : Nat} {ts : List Tx} {c : Tx → Bool} (h0 : ∀ R : VK, R (.ref p) H → te0 σ H R) (h : H p = some (.lst (sv ts))) (big : ts.length ≤ 1000) (hw : ∀ x : V, wipe ((wipe σ vs).set j (some x)) vs = wipe σ vs) (hj : ∀ x : V, ((wipe σ vs).set j (some x))[j]? = some (some x))
    (ht : ∀ (D : Addr) (G : Hp) (u : Tx), H D = none → Keep D H G → u ∈ ts → ∀ Q' : Bool → Hp → Prop, Q' (c u) G → tt ((wipe σ vs).set j (some (.str (S u)))) G Q') (hd : ∀ D, H D = none → Q (.ref D) (upd H D (.lst (sv (ts.filter c))))) : tLc (iSeq K te0) (gName j) tt (xV j) vs σ H Q := by
  have base := lc_sq (K := K) (xs := sv ts) (j := j) (tt := tt) (te := xV j) (vs := vs) (σ := σ) (Q := Q) id (onP c) (Lt.l h) (by rw [sv_len, sl_big]; omega) hw (fun D hD x acc Q' hx q' => by
    obtain ⟨u, um, rfl⟩ := sv_mem hx
    exact ht D _ u hD (fun b o n e => (upd_ne n).trans e) um Q' q') (fun D hD x acc Q' hx q' => by
    unfold xV
    rw [hj]
    exact q') (fun D hD => by rw [List.map_id, sv_filter]; exact hd D hD)
  exact base.imp (h0 _) (h0 _)
/-- [a new object for t in ts] -/
theorem tLc_objs {j : Nat} {ts : List Tx} {P : Addr → Hp → Addr → Tx → Prop} (h0 : ∀ R : VK, R (.ref p) H → te0 σ H R) (h : H p = some (.lst (sv ts))) (big : ts.length ≤ 1000) (hw : ∀ x : V, wipe ((wipe σ vs).set j (some x)) vs = wipe σ vs)
    (mono : ∀ D G G' a t, Keep D G G' → P D G a t → P D G' a t)
    (he : ∀ (D : Addr) (G : Hp) (u : Tx) (acc : List V), H D = none → Keep D H G → G D = some (.lst acc) → u ∈ ts → ∀ Q' : VK, (∀ a G', Same G G' → P D G' a u → Q' (.ref a) G') → te ((wipe σ vs).set j (some (.str (S u)))) G Q')
    (hd : ∀ D G (zs : List (Addr × Tx)), Same H G → H D = none → zs.map (·.2) = ts → G D = some (.lst (zs.map fun z => V.ref z.1)) → (∀ z ∈ zs, P D G z.1 z.2) → Q (.ref D) G) : tLc (iSeq K te0) (gName j) tYes te vs σ H Q := by
  refine tLc_lt h0 (fun D i G => ∃ zs : List (Addr × Tx), zs.map (·.2) = ts.take i ∧ Keep D H G ∧ G D = some (.lst (zs.map fun z => V.ref z.1)) ∧ ∀ z ∈ zs, P D G z.1 z.2) (Lt.l h) (fun D hD => ⟨[], by simp, fun b o n e => (upd_ne n).trans e, upd_same, fun z m => by cases m⟩) (fun D i G hD e => ?_) (fun D i x G hD hx e => ?_) (fun D G hD e => ?_)
  · obtain ⟨zs, _, k, _⟩ := e
    rw [k _ _ (ne_of_none h hD) h, h]
  · obtain ⟨zs, ez, k, dG, hz⟩ := e
    have hil := (List.getElem?_eq_some_iff.mp hx).1
    rw [sv_len] at hil
    have gt : ts[i]? = some ts[i] := List.getElem?_eq_getElem hil
    have ex : x = .str (S ts[i]) := Option.some.inj (hx.symm.trans (sv_get gt))
    subst ex
    refine ⟨hw _, ?_⟩
    simp only [tYes, ↓reduceIte]
    refine he D G ts[i] _ hD k dG (List.mem_of_getElem? gt) _ fun a G' s pa => ⟨_, s _ _ dG, ?_, zs ++ [(a, ts[i])], by rw [List.map_append, ez, take_succ_get gt]; rfl, fun b o n e => (upd_ne n).trans (s _ _ (k _ _ n e)), ?_, fun z zm => ?_⟩
    · have := congrArg List.length ez
      rw [List.length_map, List.length_take] at this
      rw [List.length_map, sl_big]; omega
    · rw [upd_same, List.map_append]; rfl
    · have kk : Keep D G' (upd G' D (.lst ((zs.map fun z => V.ref z.1) ++ [V.ref a]))) := fun b o n e => (upd_ne n).trans e
      rcases List.mem_append.mp zm with zm | zm
      · exact mono _ _ _ _ _ kk (mono _ _ _ _ _ (Same.keep s) (hz z zm))
      · rw [List.mem_singleton.mp zm]
        exact mono _ _ _ _ _ kk pa
  · obtain ⟨zs, ez, k, dG, hz⟩ := e
    rw [sv_len, List.take_length] at ez
    exact hd D G zs (fun b o e => k b o (ne_of_none e hD) e) hD ez dG hz
/-- sorted([row[0] for row in rows]) -/
theorem sorted_names {j : Nat} {ts : List Tx} (h0 : ∀ R : VK, R (.ref p) H → te0 σ H R) (h : NmsO H p ts) (few : ts.length < 64) (hw : ∀ x : V, wipe ((wipe σ vs).set j (some x)) vs = wipe σ vs) (hj : ∀ x : V, ((wipe σ vs).set j (some x))[j]? = some (some x))
    (hd : ∀ L H', Same H H' → H L = none → H' L = some (.lst (sv (tsort ts))) → Q (.ref L) H') : tCB (mSort K) (tCons (tLc (iSeq K te0) (gName j) tYes (tOp (mIx K) (xV j) (tC (.int 0))) vs) tNil) σ H Q := by
  dsimp only [tCB, tCons, tNil]
  have few2 : ts.length ≤ 1000 := by omega
  refine tLc_names h0 h few2 hw hj fun D hD => ?_
  have sD := same_new (o := .lst (sv ts)) hD
  refine ⟨ts.map S, by rw [← sv_strs]; exact Sq.l upd_same, by rw [List.length_map]; exact few, fun ys L py sy hL => ?_⟩
  have ey := tsort_is py sy
  subst ey
  rw [← sv_strs]
  exact hd L _ (sD.trans (same_new hL)) (sD.free hL) upd_same
/-- {row[0]: row[m] for row in rows} -/
theorem yDc_rows {j m : Nat} {α : Type} {zs : List (Addr × α)} {k : α → Tx} {v : α → V} (h0 : ∀ R : VK, R (.ref p) H → te0 σ H R) (hl : Lt H p (zs.map fun z => V.ref z.1)) (hz : ∀ z ∈ zs, ∃ r : List V, H z.1 = some (.tup r) ∧ r[0]? = some (.str (S (k z.2))) ∧ r[m]? = some (v z.2))
    (nd : (zs.map fun z => k z.2).Nodup) (few : zs.length ≤ 1000) (hw : ∀ x : V, wipe ((wipe σ vs).set j (some x)) vs = wipe σ vs) (hj : ∀ x : V, ((wipe σ vs).set j (some x))[j]? = some (some x))
    (hd : ∀ D, H D = none → Q (.ref D) (upd H D (.dK (zs.map fun z => ((Sum.inr (S (k z.2)) : Key), v z.2))))) : yDc (.dK []) (iSeq K te0) (gName j) tYes (tOp (mIx K) (xV j) (tC (.int 0))) (tOp (mIx K) (xV j) (tC (.int (m : Nat)))) vs σ H Q := by
  refine yDc_lt h0 (fun D i H' => H' = upd H D (.dK ((zs.take i).map fun z => ((Sum.inr (S (k z.2)) : Key), v z.2)))) hl (fun D _ => rfl) (fun D i H' hD e => by rw [e]; exact upd_ne (hl.has hD)) (fun D i x H' hD hx e => ?_) (fun D H' hD e => ?_)
  · subst e
    obtain ⟨z, gz, rfl⟩ := objs_get hx
    have zm := List.mem_of_getElem? gz
    have il := (List.getElem?_eq_some_iff.mp gz).1
    obtain ⟨r, e1, e2, e3⟩ := hz z zm
    have at_ : ∀ u, upd H D u z.1 = some (.tup r) := fun u => (upd_ne (ne_of_none e1 hD)).trans e1
    refine ⟨hw _, ?_⟩
    simp only [tYes, ↓reduceIte]
    have vj : ∀ R : VK, ∀ Hx, R (V.ref z.1) Hx → xV j ((wipe σ vs).set j (some (.ref z.1))) Hx R := fun R Hx r => by unfold xV; rw [hj]; exact r
    refine vj _ _ ?_
    refine ⟨_, _, Sq.t (at_ _), at_int (j := 0) rfl e2, ?_⟩
    refine vj _ _ ?_
    refine ⟨_, _, Sq.t (at_ _), atI_nat e3, _, DPut.k (k := Sum.inr (S (k z.2))) upd_same (by rw [List.length_map, List.length_take, sl_big]; omega), ?_⟩
    have out : k z.2 ∉ (zs.take i).map fun z => k z.2 := by
      intro mm
      have e : (zs.map fun z => k z.2).take (i + 1) = ((zs.take i).map fun z => k z.2) ++ [k z.2] := by rw [← List.map_take, take_succ_get gz, List.map_append]; rfl
      have nd2 : ((zs.map fun z => k z.2).take (i + 1)).Nodup := nd.sublist (List.take_sublist _ _)
      rw [e] at nd2
      exact (List.nodup_append.mp nd2).2.2 _ mm _ (List.mem_singleton.mpr rfl) rfl
    rw [put_map (k := fun z : Addr × α => k z.2) (v := fun z => v z.2) (x := z) out, ← take_succ_get gz, upd_upd]
  · subst e
    rw [List.length_map, List.take_length]
    exact hd D hD
/-- [t for t in ts if c], the test makes objects -/
theorem tLc_filterS {j : Nat} {ts : List Tx} {c : Tx → Bool} (h0 : ∀ R : VK, R (.ref p) H → te0 σ H R) (h : H p = some (.lst (sv ts))) (big : ts.length ≤ 1000) (hw : ∀ x : V, wipe ((wipe σ vs).set j (some x)) vs = wipe σ vs) (hj : ∀ x : V, ((wipe σ vs).set j (some x))[j]? = some (some x))
    (ht : ∀ (D : Addr) (G : Hp) (u : Tx), H D = none → Same H G → u ∈ ts → ∀ Q' : Bool → Hp → Prop, (∀ G', Same G G' → Q' (c u) G') → tt ((wipe σ vs).set j (some (.str (S u)))) G Q')
    (hd : ∀ D G, Same H G → H D = none → G D = some (.lst (sv (ts.filter c))) → Q (.ref D) G) : tLc (iSeq K te0) (gName j) tt (xV j) vs σ H Q := by
  refine tLc_lt h0 (fun D i G => Keep D H G ∧ G D = some (.lst (sv ((ts.take i).filter c)))) (Lt.l h) (fun D hD => ⟨fun b o n e => (upd_ne n).trans e, by rw [upd_same]; rfl⟩) (fun D i G hD e => by rw [e.1 _ _ (ne_of_none h hD) h, h]) (fun D i x G hD hx e => ?_) (fun D G hD e => ?_)
  · obtain ⟨k, dG⟩ := e
    have hil := (List.getElem?_eq_some_iff.mp hx).1
    rw [sv_len] at hil
    have gt : ts[i]? = some ts[i] := List.getElem?_eq_getElem hil
    have ex : x = .str (S ts[i]) := Option.some.inj (hx.symm.trans (sv_get gt))
    subst ex
    refine ⟨hw _, ?_⟩
    refine ht D G ts[i] hD (fun b o e => k b o (ne_of_none e hD) e) (List.mem_of_getElem? gt) _ fun G' s => ?_
    have ef : (ts.take (i + 1)).filter c = (ts.take i).filter c ++ (if c ts[i] = true then [ts[i]] else []) := by
      rw [take_succ_get gt, List.filter_append]
      congr 1
      by_cases e : c ts[i] = true
      · rw [if_pos e, List.filter_cons, if_pos e]; rfl
      · rw [if_neg e, List.filter_cons, if_neg e]; rfl
    have k2 : Keep D H G' := fun b o n e => s _ _ (k b o n e)
    by_cases e : c ts[i] = true
    · rw [if_pos e] at ef
      rw [if_pos e]
      unfold xV
      rw [hj]
      refine ⟨_, s _ _ dG, ?_, fun b o n e => (upd_ne n).trans (k2 b o n e), ?_⟩
      · rw [sv_len, sl_big]
        have := List.length_filter_le c (ts.take i)
        rw [List.length_take] at this
        omega
      · rw [upd_same, ef, sv_app]; rfl
    · rw [if_neg e] at ef
      rw [if_neg e]
      rw [List.append_nil] at ef
      exact ⟨k2, by rw [ef]; exact s _ _ dG⟩
  · obtain ⟨k, dG⟩ := e
    rw [sv_len, List.take_length] at dG
    exact hd D G (fun b o e => k b o (ne_of_none e hD) e) hD dG
/-- [a truth for u in us], the list made by a call -/
theorem tLc_boolsM {j : Nat} {us : List Tx} {c : Tx → Bool} (h0 : ∀ R : VK, (∀ p G, Same H G → H p = none → G p = some (.lst (sv us)) → R (.ref p) G) → te0 σ H R) (big : us.length ≤ 1000) (hw : ∀ x : V, wipe ((wipe σ vs).set j (some x)) vs = wipe σ vs)
    (he : ∀ (G : Hp) (u : Tx), Same H G → u ∈ us → ∀ Q' : VK, Q' (.bl (c u)) G → te ((wipe σ vs).set j (some (.str (S u)))) G Q')
    (hd : ∀ D G, Same H G → H D = none → G D = some (.lst ((us.map c).map V.bl)) → Q (.ref D) G) : tLc (iSeq K te0) (gName j) tYes te vs σ H Q := by
  refine .inl (h0 _ fun p G0 s0 f0 e0 => ?_)
  refine ⟨p, rfl, ⟨_, SqL.of e0⟩, fun D hD => lc_list (xs := sv us) (fun i G => Keep D G0 G ∧ G D = some (.lst (((us.take i).map c).map V.bl))) ⟨fun b o n e => (upd_ne n).trans e, by rw [upd_same]; rfl⟩ (fun i H' _ q => SqL.of (q.1 _ _ (ne_of_none e0 hD) e0)) (fun i x G hx q => ?_) fun G q => ?_⟩
  · obtain ⟨k, dG⟩ := q
    have hil := (List.getElem?_eq_some_iff.mp hx).1
    rw [sv_len] at hil
    have gt : us[i]? = some us[i] := List.getElem?_eq_getElem hil
    have ex : x = .str (S us[i]) := Option.some.inj (hx.symm.trans (sv_get gt))
    subst ex
    refine ⟨hw _, ?_⟩
    simp only [tYes, ↓reduceIte]
    refine he G us[i] (s0.trans fun b o e => k b o (ne_of_none e hD) e) (List.mem_of_getElem? gt) _ ?_
    refine ⟨_, dG, ?_, fun b o n e => (upd_ne n).trans (k b o n e), ?_⟩
    · rw [List.length_map, List.length_map, List.length_take, sl_big]; omega
    · rw [upd_same, take_succ_get gt, List.map_append, List.map_append]; rfl
  · obtain ⟨k, dG⟩ := q
    rw [sv_len, List.take_length] at dG
    exact hd D G (s0.trans fun b o e => k b o (ne_of_none e hD) e) (s0.free hD) dG
/-- [a truth for u in us] -/
theorem tLc_bools {j : Nat} {us : List Tx} {c : Tx → Bool} (h0 : ∀ R : VK, R (.ref p) H → te0 σ H R) (h : H p = some (.lst (sv us))) (big : us.length ≤ 1000) (hw : ∀ x : V, wipe ((wipe σ vs).set j (some x)) vs = wipe σ vs)
    (he : ∀ (D : Addr) (G : Hp) (u : Tx), H D = none → Same H G → u ∈ us → ∀ Q' : VK, Q' (.bl (c u)) G → te ((wipe σ vs).set j (some (.str (S u)))) G Q')
    (hd : ∀ D G, Same H G → H D = none → G D = some (.lst ((us.map c).map V.bl)) → Q (.ref D) G) : tLc (iSeq K te0) (gName j) tYes te vs σ H Q := by
  refine tLc_lt h0 (fun D i G => Keep D H G ∧ G D = some (.lst (((us.take i).map c).map V.bl))) (Lt.l h) (fun D hD => ⟨fun b o n e => (upd_ne n).trans e, by rw [upd_same]; rfl⟩) (fun D i G hD e => by rw [e.1 _ _ (ne_of_none h hD) h, h]) (fun D i x G hD hx e => ?_) (fun D G hD e => ?_)
  · obtain ⟨k, dG⟩ := e
    have hil := (List.getElem?_eq_some_iff.mp hx).1
    rw [sv_len] at hil
    have gt : us[i]? = some us[i] := List.getElem?_eq_getElem hil
    have ex : x = .str (S us[i]) := Option.some.inj (hx.symm.trans (sv_get gt))
    subst ex
    refine ⟨hw _, ?_⟩
    simp only [tYes, ↓reduceIte]
    refine he D G us[i] hD (fun b o e => k b o (ne_of_none e hD) e) (List.mem_of_getElem? gt) _ ?_
    refine ⟨_, dG, ?_, fun b o n e => (upd_ne n).trans (k b o n e), ?_⟩
    · rw [List.length_map, List.length_map, List.length_take, sl_big]; omega
    · rw [upd_same, take_succ_get gt, List.map_append, List.map_append]; rfl
  · obtain ⟨k, dG⟩ := e
    rw [sv_len, List.take_length] at dG
    exact hd D G (fun b o e => k b o (ne_of_none e hD) e) hD dG
end
theorem ite_t {c : Bool} {A B : Prop} (e : c = true) (h : A) : if c = true then A else B := by rw [if_pos e]; exact h
theorem ite_f {c : Bool} {A B : Prop} (e : ¬ c = true) (h : B) : if c = true then A else B := by rw [if_neg e]; exact h
theorem no_nt {A : Prop} (h : (!true) = true) : A := by cases h
theorem no_nf {A : Prop} (h : (!false) = false) : A := by cases h
/-! ### the rows' ways -/
theorem row_tup {H : Hp} {zs : List (Addr × Row)} (hz : ∀ z ∈ zs, RowO H z.1 z.2) : ∀ z ∈ zs, ∃ r : List V, H z.1 = some (.tup r) ∧ r[0]? = some (.str (S z.2.t)) ∧ r[1]? = some (ov z.2.a) := fun z m => let ⟨q, e, _⟩ := hz z m; ⟨_, e, rfl, rfl⟩
theorem row_tup2 {H : Hp} {zs : List (Addr × Row)} (hz : ∀ z ∈ zs, RowO H z.1 z.2) : ∀ z ∈ zs, ∃ r : List V, H z.1 = some (.tup r) ∧ r[0]? = some (.str (S z.2.t)) ∧ r[2]? = some (.int (z.2.r : Nat)) := fun z m => let ⟨q, e, _⟩ := hz z m; ⟨_, e, rfl, rfl⟩
theorem th_tup {H : Hp} {zs : List (Addr × (Tx × Tx))} (hz : ∀ z ∈ zs, ThO H z.1 z.2) : ∀ z ∈ zs, ∃ r : List V, H z.1 = some (.tup r) ∧ r[0]? = some (.str (S z.2.1)) ∧ r[1]? = some (.str (S z.2.2)) := fun z m => ⟨_, hz z m, rfl, rfl⟩
/-- the next town -/
def nxt (ws : List Row) (t : Tx) : Option Tx := (ws.find? fun w => decide (w.t = t)).bind (·.a)
theorem nxt_at {ws : List Row} (nd : (ws.map (·.t)).Nodup) {w : Row} (h : w ∈ ws) : nxt ws w.t = w.a := by
  unfold nxt
  induction ws with
  | nil => cases h
  | cons y r ih =>
    rw [List.map_cons] at nd
    obtain ⟨n1, n2⟩ := List.nodup_cons.mp nd
    rw [List.find?_cons]
    rcases List.mem_cons.mp h with e | h
    · subst e; simp
    · have : decide (y.t = w.t) = false := decide_eq_false fun e => n1 (e ▸ List.mem_map.mpr ⟨w, h, rfl⟩)
      rw [this]
      exact ih n2 h
/-- the towns in a row, ranked: each town's next one ranks lower -/
structure Down (ws : List Row) (rk : Tx → Nat) : Prop where
  nd : (ws.map (·.t)).Nodup
  af : ∀ w ∈ ws, ∀ a, w.a = some a → a ∈ ws.map (·.t) ∧ rk a < rk w.t
  lt : ∀ w ∈ ws, rk w.t < ws.length
theorem Down.next {ws : List Row} {rk : Tx → Nat} (d : Down ws rk) {t u : Tx} (h : t ∈ ws.map (·.t)) (e : nxt ws t = some u) : u ∈ ws.map (·.t) ∧ rk u < rk t := by
  obtain ⟨w, hw, rfl⟩ := List.mem_map.mp h
  rw [nxt_at d.nd hw] at e
  exact d.af w hw u e
theorem Down.low {ws : List Row} {rk : Tx → Nat} (d : Down ws rk) {t : Tx} (h : t ∈ ws.map (·.t)) : rk t < ws.length := by
  obtain ⟨w, hw, rfl⟩ := List.mem_map.mp h
  exact d.lt w hw
/-- the dict of the next towns -/
def nxtD (ws : List Row) : List (Key × V) := ws.map fun w => ((Sum.inr (S w.t) : Key), ov w.a)
theorem nxtD_at {ws : List Row} (nd : (ws.map (·.t)).Nodup) {t : Tx} (h : t ∈ ws.map (·.t)) : valV (nxtD ws) (Sum.inr (S t)) = some (ov (nxt ws t)) := by
  obtain ⟨w, hw, rfl⟩ := List.mem_map.mp h
  rw [nxt_at nd hw]
  exact val_map nd hw
/-- len of a dict -/
def mLenD : List V → Hp → VK → Prop := fun vs H Q => match vs with
  | [.ref p] => ∃ kvs, H p = some (.dK kvs) ∧ Q (.int (kvs.length : Nat)) H
  | _ => False
theorem xc_lenD {X : Cx} : CallR X (.builtin "len") mLenD := by
  intro pins s σ H xs us Q I r h
  unfold mLenD at h
  split at h
  · obtain ⟨kvs, e, q⟩ := h
    obtain ⟨u, rfl, rx⟩ := vals1 r
    cases rx
    exact d_len I (.inl e) fun t s' I' => ⟨.int kvs.length, H, I', ⟨t, rfl⟩, q⟩
  · exact h.elim
theorem map_step {α : Type} {xs : List α} {i : Nat} {x : α} {k : α → Tx} {v : α → V} (nd : (xs.map k).Nodup) (g : xs[i]? = some x) : putK ((xs.take i).map fun x => ((Sum.inr (S (k x)) : Key), v x)) (Sum.inr (S (k x))) (v x) = (xs.take (i + 1)).map fun x => ((Sum.inr (S (k x)) : Key), v x) := by
  have out : k x ∉ (xs.take i).map k := by
    intro m
    have e : (xs.map k).take (i + 1) = ((xs.take i).map k) ++ [k x] := by rw [← List.map_take, take_succ_get g, List.map_append]; rfl
    have nd2 : ((xs.map k).take (i + 1)).Nodup := nd.sublist (List.take_sublist _ _)
    rw [e] at nd2
    exact (List.nodup_append.mp nd2).2.2 _ m _ (List.mem_singleton.mpr rfl) rfl
  rw [put_map (k := k) (v := v) out, take_succ_get g]
end RK

namespace RK
open PySem PySem.Spec PyProof.Rows L2 L2H SX Srt SrtO
/-! ### sorted rows: tuples whose first items are texts, unlike ones -/
def IsRow (h : Heap) (v : Value) (k : Str) : Prop := ∃ a o t us n, v = .ref a ∧ h.get? a = some o ∧ o.cls = .type "tuple" ∧ o.data = .seq us n ∧ us[0]? = some (.str k t)
theorem IsRow.keeps {h h' : Heap} {v : Value} {x : Str} (p : IsRow h v x) (k : ∀ b o, h.get? b = some o → o.cls = .type "tuple" → h'.get? b = some o) : IsRow h' v x := by
  obtain ⟨a, o, t, us, n, e, ho, hc, hd, h0⟩ := p
  exact ⟨a, o, t, us, n, e, k _ _ ho hc, hc, hd, h0⟩
theorem firsts_row {h : Heap} : ∀ {vs : List Value}, (∀ v ∈ vs, ∃ x, IsRow h v x) → ∃ fs : List Value, PySem.W.KatTups h vs fs ∧ fs.length = vs.length ∧ ∀ f ∈ fs, ∃ x t, f = Value.str x t
  | [], _ => ⟨[], PySem.W.KatTups.nil, rfl, fun _ hm => by simp at hm⟩
  | v :: vs, hp => by
    obtain ⟨fs, h1, h2, h3⟩ := firsts_row (vs := vs) fun v' hm => hp v' (List.mem_cons_of_mem _ hm)
    obtain ⟨x, a, o, t, us, n, e, ho, hc, hd, h0⟩ := hp v List.mem_cons_self
    subst e
    refine ⟨.str x t :: fs, PySem.W.KatTups.cons ho hc hd h0 h1, by rw [List.length_cons, List.length_cons, h2], fun f hm => ?_⟩
    rcases List.mem_cons.mp hm with rfl | hm
    · exact ⟨x, t, rfl⟩
    · exact h3 f hm
def ltX (a b : Str) : Bool := decide (a.cps.toList < b.cps.toList)
theorem ltX_swo {α : Type} (k : α → Str) : Swo fun x y => ltX (k x) (k y) := by
  refine ⟨fun x y h => ?_, fun x y z h1 h2 => ?_⟩
  · exact decide_eq_false (List.lt_asymm (of_decide_eq_true h))
  · exact decide_eq_false fun h => (List.le_trans (of_decide_eq_false h1) (of_decide_eq_false h2)) h
section
variable {prog : Program} {w : World} {A : Around} {s : Shared}
theorem kat_self {b : Bool} {Q : Bool → Shared → Prop} (h : Q false s) : ∀ (l : List Value) (i : Nat), PySem.W.KatLex prog w A b false Q (l.zip l) i s
  | [], i => PySem.W.kat_nil h
  | v :: r, i => PySem.W.kat_cons (SeqAt.EqAt.same v prog w _ _ (PySem.W.kat_yes (kat_self h r (i + 1))))
theorem row_cmp {vs : List Value} {k : Value → Str} (hp : ∀ v ∈ vs, IsRow s.heap v (k v)) (inj : ∀ v ∈ vs, ∀ u ∈ vs, k v = k u → v = u) : Cmp prog w A s (tuples' true) (fun p => p.1 ∈ vs) (lt2 fun v u => ltX (k v) (k u)) := by
  intro p q hm hm'
  have h1 := hp _ hm
  have h2 := hp _ hm'
  show wpAny (model prog w) A (keyLt' (tuples' true) p.1 q.1) (fun r s' => s' = s ∧ r = ltX (k p.1) (k q.1)) (fun _ _ => False) s
  by_cases e : p.1 = q.1
  · rw [e]
    obtain ⟨a, o, t, us, n, e1, ho, hc, hd, h0⟩ := h2
    have ir : ltX (k q.1) (k q.1) = false := decide_eq_false (List.lt_irrefl _)
    rw [ir, e1]
    refine PySem.W.kat_lt ho hd ho hd ?_
    have e2 : decide (us.size < us.size) = false := decide_eq_false (Nat.lt_irrefl _)
    rw [e2]
    exact kat_self ⟨rfl, rfl⟩ us.toList 0
  · have ne : k p.1 ≠ k q.1 := fun z => e (inj _ hm _ hm' z)
    generalize k p.1 = x at h1 ne ⊢
    generalize k q.1 = y at h2 ne ⊢
    obtain ⟨a, o, t, us, n, e1, ho, hc, hd, h0⟩ := h1
    obtain ⟨a', o', t', us', n', e1', ho', hc', hd', h0'⟩ := h2
    rw [e1, e1']
    refine PySem.W.kat_lt ho hd ho' hd' ?_
    have g0 : us.toList[0]? = some (.str x t) := by simpa using h0
    have g0' : us'.toList[0]? = some (.str y t') := by simpa using h0'
    generalize decide (us.size < us'.size) = fin
    cases hl : us.toList with
    | nil => rw [hl] at g0; simp at g0
    | cons v r =>
      cases hl' : us'.toList with
      | nil => rw [hl'] at g0'; simp at g0'
      | cons v' r' =>
        rw [hl] at g0
        rw [hl'] at g0'
        have ev : v = .str x t := Option.some.inj g0
        have ev' : v' = .str y t' := Option.some.inj g0'
        subst ev ev'
        refine PySem.W.kat_cons (SeqAt.EqAt.str_str x t y t' prog w _ _ ?_)
        refine PySem.W.kat_go (fun z => ?_) (fun z => ?_)
        · exact absurd (by simpa using z) ne
        · exact PySem.W.kat_no (oneLt_str ⟨rfl, rfl⟩)
theorem rows_sortable {a : Addr} {vs : List Value} {k : Value → Str} (h0 : 0 < vs.length) (hp : ∀ v ∈ vs, IsRow s.heap v (k v)) (inj : ∀ v ∈ vs, ∀ u ∈ vs, k v = k u → v = u) (ha : ∀ o, s.heap.get? a = some o → o.cls ≠ .type "tuple") : SortableO prog w A s a vs fun v u => ltX (k v) (k u) := by
  intro h' keep
  have hp' : ∀ v ∈ vs, IsRow h' v (k v) := fun v hm => (hp v hm).keeps fun b o e c => keep b o (fun z => by subst z; exact ha o e c) e
  obtain ⟨fs, h1, h2, h3⟩ := firsts_row fun v hm => ⟨_, hp' v hm⟩
  refine ⟨tuples' true, fun Q E hq => ?_, row_cmp hp' inj⟩
  refine PySem.W.kat_kind (T := .type "str") h1 (by omega) (fun f hm => ?_) (by rfl) ?_
  · obtain ⟨x, t, rfl⟩ := h3 f hm
    exact PySem.W.Looks.now
  · have e : (Value.type "str" != Value.type "tuple") = true := by first | decide +kernel | rfl | decide
    rw [e]
    exact hq
theorem sorted_rows {l : Addr} {vs : List Value} {k : Value → Str} {Q : Value → Shared → Prop} {E : Value → Shared → Prop} (hl : s.heap.IsList l vs.toArray) (hz : vs.length ≤ sizeLine) (hp : ∀ v ∈ vs, IsRow s.heap v (k v)) (inj : ∀ v ∈ vs, ∀ u ∈ vs, k v = k u → v = u)
    (h : ∀ (h' : Heap) (d : Addr) (out : List Value), Srtd (fun v u => ltX (k v) (k u)) out → out.Perm vs → (∀ b o, s.heap.get? b = some o → h'.get? b = some o) → s.heap.objs.size ≤ d → (∃ n, h'.get? d = some (seqObj "list" out.toArray n)) → Q (.ref d) { s with heap := h' }) :
    wpAny (model prog w) A (call (.builtin "sorted") [.ref l]) Q E s := by
  refine sorted_ord (ltX_swo k) hl hz (fun h2 h₁ a ha kk => ?_) fun out hs hb => ?_
  · refine rows_sortable (s := { s with heap := h₁ }) (by omega) (fun v hm => (hp v hm).keeps fun b o e _ => (kk b o e).2) inj fun o e => ?_
    have e' : some o = some (seqObj "list" vs.toArray 0) := e.symm.trans ha
    cases e'
    intro c
    exact absurd (Value.type.inj c) (by decide)
  · exact h _ _ out hs hb.perm (fun b o e => sortedAll_old e) (Nat.le_succ _) (sortedAll_at s.heap vs out.toArray)
end
def mSortR (K : PySem.W.Frag) : List V → Hp → VK → Prop := fun vs H Q => match vs with
  | [.ref a] => ∃ (xs : List V) (k : V → Str), SqL K H a xs ∧ (∀ x ∈ xs, ∃ t r, x = V.ref t ∧ H t = some (.tup (.str (k x) :: r))) ∧ (∀ x ∈ xs, ∀ y ∈ xs, k x = k y → x = y) ∧
    ∀ ys p, Srtd (fun x y => ltX (k x) (k y)) ys → ys.Perm xs → H p = none → Q (.ref p) (upd H p (.lst ys))
  | _ => False
theorem cr_sortRow {X : Cx} : CallR X (.builtin "sorted") (mSortR X.K) := by
  intro pins s σ H vs us Q I r h
  unfold mSortR at h
  split at h
  · rename_i a
    obtain ⟨xs, k, hs, hx, inj, q⟩ := h
    obtain ⟨its, rv, hl, hz⟩ := I.list hs
    obtain ⟨u, rfl, ru⟩ := vals1 r
    obtain rfl : u = Value.ref a := ru
    obtain ⟨e1, e2⟩ := refs_back rv fun x m => by
      obtain ⟨t, _, e, _⟩ := hx x m
      exact ⟨t, e⟩
    have back : ∀ v ∈ its, backV v ∈ xs := fun v hv => by rw [e1]; exact List.mem_map.mpr ⟨v, hv, rfl⟩
    refine sorted_rows (k := fun u => k (backV u)) hl.isList (by rw [← rv.length]; exact hz) (fun v hv => ?_) (fun v hv u hu e => ?_) fun h' d out h1 h2 kp hd hn => ?_
    · obtain ⟨t, rfl⟩ := e2 v hv
      have hm : V.ref t ∈ xs := back _ hv
      obtain ⟨t', r', e, ht⟩ := hx _ hm
      cases e
      obtain ⟨_, its2, r2, o, ho, hc, n, hd⟩ := I.hok _ _ ht
      cases r2 with
      | cons r0 rr =>
        obtain ⟨t1, rfl⟩ := r0
        exact ⟨t, o, t1, _, n, rfl, ho, hc, hd, rfl⟩
    · obtain ⟨t, rfl⟩ := e2 v hv
      obtain ⟨t', rfl⟩ := e2 u hu
      have := inj _ (back _ hv) _ (back _ hu) e
      have e3 : V.ref t = V.ref t' := this
      rw [V.ref.inj e3]
    · have h3 : ∀ u ∈ out, ∃ a, u = Value.ref a := fun u hu => e2 u (h2.mem_iff.mp hu)
      obtain ⟨n, hn⟩ := hn
      have hb : (out.map backV).Perm xs := by
        rw [e1]
        exact h2.map backV
      refine ⟨.ref d, upd H d (.lst (out.map backV)), I.laid (t' := s.toks) kp hd ⟨?_, out, n, vals_back h3, hn⟩, rfl, q _ d (List.pairwise_map.mpr h1) hb (I.hok.fresh hd)⟩
      rw [hb.length_eq]
      exact hz
  · exact h.elim
theorem kc_sortR {X : Cx} {K : PySem.W.Frag} (hK : X.K = K) : CallR X (.builtin "sorted") (mSortR K) := hK ▸ cr_sortRow
end RK

namespace RK
open PySem PySem.Spec PyProof.Rows L2 L2H SX
/-! ### methods that raise -/
section
variable {X : Cx} {CX : CXT} {k : Nat} {f C : Addr} {fd : FuncData} {ps : List Str} {sp : Sp} {E : L2.St → XK} {x m : Str} {p pos apos : Pos} {e o : Expr} {es : List Expr} {ta : TE} {t : TA}
def tMethS (C : Addr) (sp : Sp) (E : L2.St → XK) (m : Str) (ta : TE) (t : TA) : TE := fun σ H Q => tMeth C m sp [] (E σ) ta t σ H Q
theorem vals_app_nil {vs : List V} {us : List Value} (r : Vals vs us) : Vals (vs ++ []) us := by rw [List.append_nil]; exact r
theorem pe_methS {pl : Sem Bool} (he : PE X o ta) (c : Cls X.K C) (hm : Meth X.K C m f) (F : FnOk X.prog X.w X.K X.mg X.base CX k f fd ps sp) (hr : Room k X.A) (hb : Binds X.K fd ps []) (hx : ∀ σ, PassesAt CX X σ (E σ)) (ha : PA X (e :: es) t)
    (hst : starEach (e :: es) X.env = (false, eval e X.env) :: starEach es X.env := by rfl) (hpl : (backTo pos (starEach es X.env)).any (·.1) = false := by rfl)
    (ht : eval (.Call (.Attribute o m apos) (e :: es) [] pos) X.env = (do
      let ov ← eval o X.env
      standAt apos.atName
      let (f, first) ← holding [ov] (getMethod ov m pl)
      callWith pos f first (backTo pos (starEach (e :: es) X.env)) (backToKw pos (keywordEach [] X.env))) := by rfl) :
    PE X (.Call (.Attribute o m apos) (e :: es) [] pos) (tMethS C sp E m ta t) := by
  refine ⟨fun pins s σ H Q I h => ?_⟩
  refine PySem.W.methodCall_KW (pl := pl) (thn (he.run pins s σ H _ I h) fun u s1 ⟨x, H1, I1, rx, a, dx, fs, ex, ea, l, q⟩ => ?_) ht
  subst ex
  obtain rfl : u = Value.ref a := rx
  refine getmeth_ok I1 ea c hm l ?_
  refine PySem.W.callWith_K (first := [.ref a]) (h₀ := X.base) I.ok.mod.kin hm.kp (thn (ha.run pos pins s1 σ H1 _ I1 q) fun us s2 ⟨vs, H2, I2, r, q2⟩ => ⟨I2.kIn, ?_⟩) hst hpl
  exact run_fnS (us := .ref a :: us) (vs := .ref a :: vs ++ []) F hr hb (hx σ) I2 (vals_app_nil (.cons rfl r)) q2
/-- o.m(k=e, ..) -/
def tMethK (C : Addr) (m : Str) (sp : Sp) (E : XK) (n : Nat) (gV : List V → List V → List V) (ta : TE) (tk : TA) : TE := fun σ H Q => ta σ H fun x H1 => ∃ a dx fs, x = .ref a ∧ H1 a = some (.ins C dx fs) ∧ fs.lookup m = none ∧ tk σ H1 fun zs H2 => zs.length = n ∧ sp (gV [.ref a] zs) H2 Q E
theorem pe_methK {pl : Sem Bool} {E : XK} {kws : List Keyword} {tk : TA} {ks : List Str} {g : List Value → List Value → List Value} {gV : List V → List V → List V} (he : PE X o ta) (c : Cls X.K C) (hm : Meth X.K C m f) (F : FnOk X.prog X.w X.K X.mg X.base CX k f fd ps sp) (hr : Room k X.A)
    (hb : KBn X.K fd ps 1 ks g gV) (hx : Passes CX X E) (hkw : PK X kws tk)
    (hall : (backToKw pos (keywordEach kws X.env)).all (·.1.isSome) = true := by rfl) (hks : (backToKw pos (keywordEach kws X.env)).filterMap (·.1) = ks := by rfl)
    (hpl : ((backTo pos (starEach [] X.env)).any (·.1) || (backToKw pos (keywordEach kws X.env)).any (·.1.isNone)) = false := by rfl)
    (ht : eval (.Call (.Attribute o m apos) [] kws pos) X.env = (do
      let ov ← eval o X.env
      standAt apos.atName
      let (f, first) ← holding [ov] (getMethod ov m pl)
      callWith pos f first (backTo pos (starEach [] X.env)) (backToKw pos (keywordEach kws X.env))) := by rfl) :
    PE X (.Call (.Attribute o m apos) [] kws pos) (tMethK C m sp E ks.length gV ta tk) := by
  refine ⟨fun pins s σ H Q I h => ?_⟩
  refine PySem.W.methodCall_KW (pl := pl) (thn (he.run pins s σ H _ I h) fun u s1 ⟨x, H1, I1, rx, a, dx, fs, ex, ea, l, q⟩ => ?_) ht
  subst ex
  obtain rfl : u = Value.ref a := rx
  refine getmeth_ok I1 ea c hm l ?_
  refine PySem.W.callWith_KW0 (first := [.ref a]) (h₀ := X.base) I.ok.mod.kin hm.kp hall ?_ hpl
  refine thn (hkw.run pos pins s1 σ H1 _ I1 q) fun ws s2 ⟨zs, H2, I2, rz, l2, q2⟩ => ⟨I2.kIn, ?_⟩
  rw [hks]
  exact run_fnN (us := [.ref a]) (vs := [.ref a]) F hr hb hx I2 (.cons rfl .nil) rz rfl l2 q2
end
end RK

namespace RK
open PySem PySem.Spec PyProof.Rows L2 SX
/-! ### min of a list of texts -/
def mMinS (K : PySem.W.Frag) : List V → Hp → VK → Prop := fun vs H Q => match vs with
  | [.ref p] => ∃ ts : List Tx, SqL K H p (sv ts) ∧ ts ≠ [] ∧ ∀ m, m ∈ ts → (∀ t ∈ ts, m ≤ t) → Q (.str (S m)) H
  | _ => False
theorem minD_strs (x : Str) : ∀ xs : List Str, ∃ z, PySem.W.minD (PyData.str x) (xs.map PyData.str) = PyData.str z ∧ z ∈ x :: xs ∧ ∀ y ∈ x :: xs, z.cps.toList ≤ y.cps.toList := by
  intro xs
  unfold PySem.W.minD
  induction xs generalizing x with
  | nil => exact ⟨x, rfl, List.mem_cons_self, fun y hy => by rw [List.mem_singleton.mp hy]; exact List.le_refl _⟩
  | cons k r ih =>
    rw [List.map_cons, List.foldl_cons, PySem.W.dataLt_str]
    by_cases h : k.cps.toList < x.cps.toList
    · rw [if_pos (decide_eq_true h)]
      obtain ⟨z, e, m, l⟩ := ih k
      refine ⟨z, e, List.mem_cons_of_mem _ m, fun y hy => ?_⟩
      rcases List.mem_cons.mp hy with rfl | hy
      · exact List.le_trans (l k List.mem_cons_self) (List.le_of_lt h)
      · exact l y hy
    · rw [if_neg (by rw [decide_eq_false h]; decide)]
      obtain ⟨z, e, m, l⟩ := ih x
      refine ⟨z, e, ?_, fun y hy => ?_⟩
      · rcases List.mem_cons.mp m with rfl | m
        · exact List.mem_cons_self
        · exact List.mem_cons_of_mem _ (List.mem_cons_of_mem _ m)
      · rcases List.mem_cons.mp hy with rfl | hy
        · exact l y List.mem_cons_self
        · rcases List.mem_cons.mp hy with rfl | hy
          · exact List.le_trans (l x List.mem_cons_self) (List.not_lt.mp h)
          · exact l y (List.mem_cons_of_mem _ hy)
theorem xc_minS {X : Cx} (hc : X.calm = true) (hu : X.A.units + 64 < cLine) : CallR X (.builtin "min") (mMinS X.K) := by
  intro pins s σ H vs us Q I r h
  unfold mMinS at h
  split at h
  · rename_i p
    obtain ⟨ts, hs, ne, q⟩ := h
    obtain ⟨its, rv, hl, _⟩ := I.list hs
    rw [Vals.ref1 r]
    cases ts with
    | nil => exact (ne rfl).elim
    | cons t ts =>
      rw [sv_strs] at rv
      have hr := rv.strs.reads s.heap
      rw [List.map_cons, List.map_cons] at hr
      refine PySem.W.min_list_data (I.ok.hd hc) hl.isList hr ⟨fun x hx y hy => ?_, fun x hx => ?_⟩ ?_ fun i v h' tk bs hv rd hk => ?_
      · obtain ⟨z, rfl⟩ : ∃ z, x = PyData.str z := by
          rcases List.mem_cons.mp hx with rfl | hx
          · exact ⟨_, rfl⟩
          · obtain ⟨z, _, rfl⟩ := List.mem_map.mp hx; exact ⟨_, rfl⟩
        obtain ⟨z, rfl⟩ : ∃ z, y = PyData.str z := by
          rcases List.mem_cons.mp hy with rfl | hy
          · exact ⟨_, rfl⟩
          · obtain ⟨z, _, rfl⟩ := List.mem_map.mp hy; exact ⟨_, rfl⟩
        rfl
      · obtain ⟨z, rfl⟩ : ∃ z, x = PyData.str z := by
          rcases List.mem_cons.mp hx with rfl | hx
          · exact ⟨_, rfl⟩
          · obtain ⟨z, _, rfl⟩ := List.mem_map.mp hx; exact ⟨_, rfl⟩
        exact fun z => by cases z
      · have e := depthAll_strs' ((t :: ts).map S)
        rw [List.map_cons, List.map_cons] at e
        rw [e]
        omega
      · obtain ⟨z, e, zm, zl⟩ := minD_strs (S t) (ts.map S)
        rw [e] at rd
        have zm' : z ∈ (t :: ts).map S := by rw [List.map_cons]; exact zm
        obtain ⟨m, mm, rfl⟩ := List.mem_map.mp zm'
        cases rd with
        | str _ tt => exact ⟨.str (S m), H, I.kept hk, ⟨_, rfl⟩, q m mm fun y hy => zl (S y) (by rw [← List.map_cons]; exact List.mem_map.mpr ⟨y, hy, rfl⟩)⟩
  · exact h.elim
theorem units65 {k : Nat} {A : Around} (r : Room k A) : A.units + 65 < cLine := by have := r.un; omega
theorem km_indexD {X : Cx} {K : PySem.W.Frag} (hK : X.K = K) (hu : X.A.units + 65 < cLine) : MtR X "list.index" (rIndexD K) := hK ▸ mt_indexD hu
/-- x in a list or a tuple, by data -/
def rInDS (K : PySem.W.Frag) (neg : Bool) : R2 := fun x y H Q => ∃ d ds, Dp K H x d ∧ (Dp K H y (.list ds) ∨ Dp K H y (.tuple ds)) ∧ SeqAt.shaped d = true ∧ SeqAt.shaped (.list ds) = true ∧ Q (.bl (if neg then !(ds.any fun z => PyData.eqv z d) else ds.any fun z => PyData.eqv z d)) H
theorem op_inDS {X : Cx} (hu : X.A.units + 65 < cLine) : OpR X (compareOp .In) (rInDS X.K false) := by
  intro pins s σ H x y v u Q I rx ry h
  obtain ⟨d, ds, hd, he | he, sd, se, q⟩ := h
  · obtain ⟨as, r1⟩ := Dp.reads I d x v hd rx
    obtain ⟨bs, r2⟩ := Dp.reads I (.list ds) y u he ry
    exact SeqAt.in_list_reads r2 r1 (SeqAt.canLay_of_shaped se) (SeqAt.canLay_of_shaped sd) (room_in_shaped sd hu) ⟨.bl _, H, I, rfl, q⟩
  · obtain ⟨as, r1⟩ := Dp.reads I d x v hd rx
    obtain ⟨bs, r2⟩ := Dp.reads I (.tuple ds) y u he ry
    exact SeqAt.in_tuple_reads r2 r1 (SeqAt.canLay_of_shaped se) (SeqAt.canLay_of_shaped sd) (room_in_shaped sd hu) ⟨.bl _, H, I, rfl, q⟩
theorem op_notInDS {X : Cx} (hu : X.A.units + 65 < cLine) : OpR X (compareOp .NotIn) (rInDS X.K true) := by
  intro pins s σ H x y v u Q I rx ry h
  obtain ⟨d, ds, hd, he | he, sd, se, q⟩ := h
  · obtain ⟨as, r1⟩ := Dp.reads I d x v hd rx
    obtain ⟨bs, r2⟩ := Dp.reads I (.list ds) y u he ry
    exact SeqAt.notIn_list_reads r2 r1 (SeqAt.canLay_of_shaped se) (SeqAt.canLay_of_shaped sd) (room_in_shaped sd hu) ⟨.bl _, H, I, rfl, q⟩
  · obtain ⟨as, r1⟩ := Dp.reads I d x v hd rx
    obtain ⟨bs, r2⟩ := Dp.reads I (.tuple ds) y u he ry
    exact SeqAt.notIn_tuple_reads r2 r1 (SeqAt.canLay_of_shaped se) (SeqAt.canLay_of_shaped sd) (room_in_shaped sd hu) ⟨.bl _, H, I, rfl, q⟩
theorem ko_in2 {X : Cx} {K : PySem.W.Frag} (hK : X.K = K) (hu : X.A.units + 65 < cLine) : OpR X (compareOp .In) (fun x y H Q => mIn K false x y H Q ∨ rInDS K false x y H Q) := hK ▸ opOr xo_in (op_inDS hu)
theorem ko_notin2 {X : Cx} {K : PySem.W.Frag} (hK : X.K = K) (hu : X.A.units + 65 < cLine) : OpR X (compareOp .NotIn) (fun x y H Q => mIn K true x y H Q ∨ rInDS K true x y H Q) := hK ▸ opOr xo_notin (op_notInDS hu)
def mMinI : List V → Hp → VK → Prop := fun xs H Q => match xs with
  | [.int i, .int j] => Q (.int (if j < i then j else i)) H
  | _ => False
theorem kc_minI {X : Cx} {K : PySem.W.Frag} (hK : X.K = K) (hc : X.calm = true) (hu : X.A.units + 64 < cLine) : CallR X (.builtin "min") mMinI := calImp (call_min2 hc) fun xs H Q h => by
  unfold mMinI at h
  split at h
  · exact ⟨_, _, rfl, h⟩
  · exact h.elim
/-! ### len of a dict, locked or not -/
def mLenR : List V → Hp → VK → Prop := fun xs H Q => match xs with
  | [.ref p] => ∃ kvs, Rd H p (.dK kvs) ∧ Q (.int (kvs.length : Nat)) H
  | _ => False
theorem kc_minS {X : Cx} {K : PySem.W.Frag} (hK : X.K = K) (hc : X.calm = true) (hu : X.A.units + 64 < cLine) : CallR X (.builtin "min") (mMinS K) := hK ▸ xc_minS hc hu
theorem xc_lenR {X : Cx} : CallR X (.builtin "len") mLenR := by
  intro pins s σ H xs us Q I r h
  unfold mLenR at h
  split at h
  · obtain ⟨kvs, e, q⟩ := h
    obtain ⟨u, rfl, rx⟩ := vals1 r
    cases rx
    exact d_len I e fun t s' I' => ⟨.int kvs.length, H, I', ⟨t, rfl⟩, q⟩
  · exact h.elim
section
variable {K : PySem.W.Frag} {p : Addr} {xs : List V} {g : TG} {tt : TT} {te : TE} {vs : List Nat} {σ : L2.St} {H : Hp} {Q : VK}
theorem dc_ltL {e0 : HO} {tk tv : TE} (Pv : Addr → Nat → Hp → Prop) (hp : H p = some (.lst xs)) (h0 : ∀ D, H D = none → Pv D 0 (upd H D e0)) (keep : ∀ D i H', H D = none → Pv D i H' → H' p = H p)
    (hs : ∀ D i x H', H D = none → xs[i]? = some x → Pv D i H' → g x (wipe σ vs) H' fun σ2 H2 => wipe σ2 vs = wipe σ vs ∧ tt σ2 H2 fun b H3 =>
      if b = true then tk σ2 H3 fun y H4 => tv σ2 H4 fun z H5 => ∃ H6, DPut H5 D y z H6 ∧ Pv D (i + 1) H6 else Pv D (i + 1) H3) (hd : ∀ D H', H D = none → Pv D xs.length H' → Q (.ref D) H') :
    (fun (x : V) (H1 : Hp) => ∃ a, x = .ref a ∧ (∃ xs, SqL K H1 a xs) ∧ ∀ D, H1 D = none → ∃ W : Nat → Nat → Hp → Prop, (∃ m, W 0 m (upd H1 D e0)) ∧ ∀ i m Hb, W i m Hb →
      ((Itl K a).stop i Hb ∧ Q (.ref D) Hb) ∨ ((Itl K a).go i Hb ∧ ∃ Nx : Hp → Prop, (∀ Hc, Nx Hc → ∃ m', m' < m ∧ W (i + 1) m' Hc) ∧ ∀ x Hc, (Itl K a).yld i Hb x Hc → g x (wipe σ vs) Hc fun σ2 H2 => wipe σ2 vs = wipe σ vs ∧ tt σ2 H2 fun b H3 =>
        if b = true then tk σ2 H3 fun y H4 => tv σ2 H4 fun z H5 => ∃ H6, DPut H5 D y z H6 ∧ Nx H6 else Nx H3)) (.ref p) H := by
  have walk : ∀ D, H D = none → ∃ W : Nat → Nat → Hp → Prop, (∃ m, W 0 m (upd H D e0)) ∧ ∀ i m Hb, W i m Hb → Hb p = H p ∧ ((i = xs.length ∧ Q (.ref D) Hb) ∨ (i < xs.length ∧ ∃ Nx : Hp → Prop, (∀ Hc, Nx Hc → ∃ m', m' < m ∧ W (i + 1) m' Hc) ∧ ∀ x, xs[i]? = some x → g x (wipe σ vs) Hb fun σ2 H2 => wipe σ2 vs = wipe σ vs ∧ tt σ2 H2 fun b H3 =>
      if b = true then tk σ2 H3 fun y H4 => tv σ2 H4 fun z H5 => ∃ H6, DPut H5 D y z H6 ∧ Nx H6 else Nx H3)) := fun D hD => by
    refine ⟨fun i m Hb => m = xs.length - i ∧ i ≤ xs.length ∧ Pv D i Hb, ⟨_, rfl, Nat.zero_le _, h0 D hD⟩, ?_⟩
    rintro i m Hb ⟨rfl, le, q⟩
    refine ⟨keep D i Hb hD q, ?_⟩
    by_cases lt : i < xs.length
    · exact .inr ⟨lt, Pv D (i + 1), fun Hc q2 => ⟨_, by omega, rfl, lt, q2⟩, fun x hx => hs D i x Hb hD hx q⟩
    · have e : i = xs.length := by omega
      subst e
      exact .inl ⟨rfl, hd D Hb hD q⟩
  refine ⟨p, rfl, ⟨_, SqL.of hp⟩, fun D hD => ?_⟩
  obtain ⟨W, w0, st⟩ := walk D hD
  refine ⟨W, w0, fun i m Hb w => ?_⟩
  obtain ⟨e, q⟩ := st i m Hb w
  have sq : SqL K Hb p xs := SqL.of (e.trans hp)
  refine q.imp (fun ⟨z, q⟩ => ⟨⟨xs, sq, by rw [z]; exact Nat.le_refl _⟩, q⟩) fun ⟨lt, Nx, n1, n2⟩ => ⟨⟨xs, xs[i], sq, by simp [lt]⟩, Nx, n1, fun x Hc y => ?_⟩
  obtain ⟨rfl, y⟩ := y
  exact n2 x (y xs sq)
end
/-- {t: e for t in a list of texts just made} -/
theorem dc_texts {K : PySem.W.Frag} {te0 tv : TE} {j : Nat} {vs : List Nat} {σ : L2.St} {H : Hp} {Q : VK} {ts : List Tx} (f : Tx → V) (h0 : ∀ R : VK, (∀ p G, Same H G → H p = none → G p = some (.lst (sv ts)) → R (.ref p) G) → te0 σ H R) (nd : ts.Nodup) (big : ts.length ≤ 1000)
    (hw : ∀ x : V, wipe ((wipe σ vs).set j (some x)) vs = wipe σ vs) (hj : ∀ x : V, ((wipe σ vs).set j (some x))[j]? = some (some x))
    (hv : ∀ (G : Hp) (u : Tx), Same H G → u ∈ ts → ∀ Q' : VK, (∀ G', Same G G' → Q' (f u) G') → tv ((wipe σ vs).set j (some (.str (S u)))) G Q')
    (hd : ∀ D G, Same H G → H D = none → G D = some (.dK (ts.map fun t => ((Sum.inr (S t) : Key), f t))) → Q (.ref D) G) : yDc (.dK []) (iSeq K te0) (gName j) tYes (xV j) tv vs σ H Q := by
  refine .inl (h0 _ fun p G0 s0 np ep => ?_)
  refine dc_ltL (K := K) (Q := Q) (xs := sv ts) (fun D i G => Keep D G0 G ∧ G D = some (.dK ((ts.take i).map fun t => ((Sum.inr (S t) : Key), f t)))) ep (fun D hD => ⟨fun b o n e => (upd_ne n).trans e, upd_same⟩) (fun D i G hD e => ?_) (fun D i x G hD hx e => ?_) (fun D G hD e => ?_)
  · rw [e.1 _ _ (ne_of_none ep hD) ep, ep]
  · obtain ⟨k, dG⟩ := e
    have sG : Same G0 G := fun b o e => k b o (ne_of_none e hD) e
    have hil := (List.getElem?_eq_some_iff.mp hx).1
    rw [sv_len] at hil
    have gt : ts[i]? = some ts[i] := List.getElem?_eq_getElem hil
    have ex : x = .str (S ts[i]) := Option.some.inj (hx.symm.trans (sv_get gt))
    subst ex
    refine ⟨hw _, ?_⟩
    simp only [tYes, ↓reduceIte]
    unfold xV
    rw [hj]
    refine hv G ts[i] (s0.trans sG) (List.mem_of_getElem? gt) _ fun G' s' => ?_
    refine ⟨_, DPut.k (k := Sum.inr (S ts[i])) (s' _ _ dG) (by rw [List.length_map, List.length_take, sl_big]; omega), fun b o n e => (upd_ne n).trans (s' _ _ (k b o n e)), ?_⟩
    have out : ts[i] ∉ (ts.take i).map id := by
      rw [List.map_id]
      intro mm
      have nd2 : (ts.take (i + 1)).Nodup := nd.sublist (List.take_sublist _ _)
      rw [take_succ_get gt] at nd2
      exact (List.nodup_append.mp nd2).2.2 _ mm _ (List.mem_singleton.mpr rfl) rfl
    rw [upd_same]
    have := put_map (k := fun t : Tx => t) (v := f) (x := ts[i]) (xs := ts.take i) (by rw [List.map_id] at out; rw [List.map_id']; exact out)
    rw [this, ← take_succ_get gt]
  · obtain ⟨k, dG⟩ := e
    rw [sv_len, List.take_length] at dG
    exact hd D G (s0.trans fun b o e => k b o (ne_of_none e hD) e) (s0.free hD) dG
/-! ### isinstance(error, (A, B, ..)) -/
section
variable {X : Cx} {p : Addr × Obj} {D d : Addr}
def mIsErrT (K : PySem.W.Frag) (D d a : Addr) : List V → Hp → VK → Prop := fun xs H Q => ∃ (tp : Addr) (cs : List V) (us : List Value) (b : Bool), xs = [.ref a, .ref tp] ∧ H tp = some (.tup cs) ∧ Paired ClsV cs us ∧ PySem.W.kitAny K (.ref D) us = some b ∧ (∃ fs, H d = some (.xd fs)) ∧ Q (.bl b) H
theorem call_isErrT (C : ErrC X.K D) (T : IsErr p D d) (hp : p ∈ X.pn) : CallR X (.builtin "isinstance") (mIsErrT X.K D d p.1) := by
  rintro pn s σ H xs us Q I rv ⟨tp, cs, ws, b, rfl, hT, k, kit, ⟨fs, ed⟩, q⟩
  obtain ⟨u1, u2, rfl, r1, r2⟩ := vals2 rv
  cases (show u2 = Value.ref tp from r2)
  cases (show u1 = Value.ref p.1 from r1)
  obtain ⟨g, _⟩ := I.pin p (List.mem_append_left _ hp)
  obtain ⟨mA, ns, _⟩ := (show ObjOk X.prog X.w H s.heap d (.xd fs) from I.hok d _ ed)
  obtain ⟨od, ho, _⟩ := lookIn_ns ns
  obtain ⟨_, its, rv, o, h1, h2, n, h3⟩ := (show ObjOk X.prog X.w H s.heap tp (.tup cs) from I.hok tp _ hT)
  have e3 := ClsV.all k rv
  subst e3
  obtain ⟨oc, od', dt, sl⟩ := o
  simp only at h2 h3
  subst h2 h3
  exact PySem.W.kia_tup (PySem.W.kitx_exc C.cl C.gt C.gn C.sb C.cc C.sg C.tk C.mr) I.kIn (T.inst g ho) h1 kit (fun z => nomatch z) fun tk => ⟨.bl b, H, I.kept (t' := tk) fun _ _ z => z, rfl, q⟩
end
end RK

namespace RK
open PySem PySem.Spec PyProof.Rows L2 L2H SX Srt SrtO
/-! ### sorted(rows, key=lambda x: x[0]) -/
section
variable {prog : Program} {w : World} {A : Around} {s : Shared}
theorem lam_first {f c' : Addr} {qual x : Str} {params : Arguments} {scope : Scope} {pm ctv v : Value} {k : Str} {p1 p2 p3 : Pos} {j : Nat}
    (hf : s.heap.get? f = some (PySem.W.kla_obj "<lambda>" qual params (.Subscript (.Name x p1) (.Constant (.int 0) j p3) p2) scope [] pm c' ctv)) (hcd : s.heap.CodeRec (.ref c') qual) (lim : s.heap.NoLimit) (hr : A.depth < recursionLimit)
    (hk : scope.kind = .function) (hco : scope.isCoroutine = false) (hgen : scope.isGenerator = false) (hcell : ∀ y ∈ scope.names, y.2 ≠ .cell) (hx : scope.names.lookup x = some .local)
    (hbind : bindArgs (PySem.W.kla_fn "<lambda>" qual params (.Subscript (.Name x p1) (.Constant (.int 0) j p3) p2) scope [] pm (.ref c') ctv) ⟨[v], []⟩ = pure [(x, v)]) (hv : IsRow s.heap v k)
    (hd : (x == ("__debug__" : Str)) = false := by decide) :
    wpAny (model prog w) A (call (.ref f) [v]) (PySem.W.KeyPure (.str k) s) (fun _ _ => False) s := by
  refine wpAny_call ?_
  refine PySem.W.kla_callFunE hr hf rfl hco hgen rfl hcd ?_
  rw [hbind]
  refine wpAny_pure (wpAny_newFunctionEnv hcell (fun y hy => by rw [List.mem_singleton.mp hy]; exact hx) (fun h₁ hns hsb => ⟨lim.fresh _ hsb, ?_⟩) hk)
  have kp : ∀ b o, s.heap.get? b = some o → h₁.get? b = some o := fun b o e => hsb.extBut b o (Nat.ne_of_lt (Heap.lt_size e)) (Heap.get?_push_of_some _ e)
  refine PySem.W.kla_codeExpr ?_
  obtain ⟨a, o, t, us, n, rfl, ho, hc, hdat, h0⟩ := hv
  refine Subscript_ (wpAny_Name (wpAny_loadName_local (v := .ref a) hk (show (_ : Env).kindOf x = _ from hx) hns (by simp [List.lookup]) ?_) hd)
  refine wpAny_Constant_int ?_
  have ho1 := kp _ _ ho
  have h0s : 0 < us.size := (Array.getElem?_eq_some_iff.mp h0).1
  have e0 : PySem.seqIndex? 0 us.size = some 0 := by
    unfold PySem.seqIndex?
    simp [h0s]
  refine subscriptTail_builtinR (x := .str k t) ⟨o, ho1, hc⟩ slot_tuple_getitem.lookup (getItem_tuple (j := 0) ⟨o, ho1, hc, n, hdat⟩ (by decide) (by decide) e0 h0 ⟨rfl, ?_⟩)
  exact ⟨_, _, rfl, kp, .str _ _⟩
end
theorem cloFrom_nil {cells : List (Str × Addr)} : ∀ (l : List (Str × NameKind)) (acc : List (Str × Addr)), (∀ y ∈ l, y.2 ≠ .free) → cloFrom cells l acc = acc
  | [], _, _ => rfl
  | (n, k) :: r, acc, h => by
    unfold cloFrom
    have hk : (k == NameKind.free) = false := by
      have := h (n, k) List.mem_cons_self
      cases k <;> first | rfl | exact absurd rfl this
    rw [hk]
    exact cloFrom_nil r acc fun y hy => h y (List.mem_cons_of_mem _ hy)
theorem sql_extN {K : PySem.W.Frag} {H H' : Hp} {p : Addr} {xs : List V} (h : SqL K H p xs) (e : LamX.ExtN H H') : SqL K H' p xs := by
  rcases h with (h | ⟨o, h⟩) | h
  · exact .inl (.inl (e _ _ h fun ps z => by cases z))
  · exact .inl (.inr ⟨o, e _ _ h fun ps z => by cases z⟩)
  · exact .inr h
/-- a table that is all right -/
abbrev TabO (P : Addr) (q : Str) (H : Hp) : Prop := LamX.Tabs [(P, q)] H
def tSortLam (K : PySem.W.Frag) (P : Addr) (q : Str) (t : TA) : TE := fun σ H Q => t σ H fun vs H1 => TabO P q H1 ∧ ∃ (a : Addr) (xs : List V) (k : V → Str), vs = [.ref a] ∧ SqL K H1 a xs ∧ (∀ x ∈ xs, ∃ t r, x = .ref t ∧ H1 t = some (.tup (.str (k x) :: r))) ∧
  ∀ H2 ys p, LamX.ExtN H1 H2 → TabO P q H2 → Srtd (fun x y => ltX (k x) (k y)) ys → ys.Perm xs → H2 p = none → Q (.ref p) (upd H2 p (.lst ys))
theorem pe_sortLam {X : Cx} {K : PySem.W.Frag} {c P : Addr} {n : Nat} {e : Expr} {params : Arguments} {scope : Scope} {x q : Str} {p pos p1 p2 p3 lpos kpos : Pos} {j : Nat} {t : TA} (hK : X.K = K)
    (hg : Gl X "sorted") (hm : X.mg "sorted" = none) (ha : PA X [e] t) (TB : LamX.TabB X.base X.mg c P) (hcode : X.env.code = .ref c) (hq : X.env.qual ++ "<lambda>" = q) (hr : Room (n + 1) X.A) (hdef : defaultsOf params X.env = ([], []))
    (hk : scope.kind = .function) (hco : scope.isCoroutine = false) (hgen : scope.isGenerator = false) (hcell : ∀ y ∈ scope.names, y.2 ≠ .cell) (hfree : ∀ y ∈ scope.names, y.2 ≠ .free) (hx : scope.names.lookup x = some .local)
    (hbind : ∀ (pm cv ctv v : Value), bindArgs (PySem.W.kla_fn "<lambda>" q params (.Subscript (.Name x p1) (.Constant (.int 0) j p3) p2) scope [] pm cv ctv) ⟨[v], []⟩ = pure [(x, v)]) (hd : (x == ("__debug__" : Str)) = false := by decide)
    (he : backTo pos (starEach [e] X.env) = (false, eval e X.env) :: backTo pos (starEach [] X.env) := by rfl) (hpl : (backTo pos (starEach [e] X.env)).any (·.1) = false := by rfl) :
    PE X (.Call (.Name "sorted" p) [e] [⟨some "key", .Lambda params (.Subscript (.Name x p1) (.Constant (.int 0) j p3) p2) scope lpos, kpos⟩] pos) (tSortLam K P q t) := by
  subst hK hq
  refine ⟨fun pins s σ H Q I h => ?_⟩
  refine wpAny_Call_Name_kw (ld_blt (u := .builtin "sorted") I hg hm (by rfl) ?_ (by decide) (by decide))
  refine PyProof.Rows.callWith_kw (thn (ha.run pos pins s σ H _ I h) fun us s1 ⟨vs, H1, I1, r1, q1⟩ => ?_) he hpl (by rfl) (by rfl)
  obtain ⟨hT, a, xs, k, rfl, hs, hxs, go⟩ := q1
  show wpAny _ _ (evalAll ((do let v ← eval (.Lambda params (.Subscript (.Name x p1) (.Constant (.int 0) j p3) p2) scope lpos) X.env; standAt pos; pure v) :: [])) _ _ s1
  refine wpAny_evalAll_cons (wpAny_bind (LamX.lam_make2 (T := [(P, X.env.qual ++ "<lambda>")]) I1 TB hcode (List.mem_singleton.mpr rfl) (fun p hp _ => by rw [List.mem_singleton.mp hp]) hT hdef (fun y hy e => absurd e (hfree y hy)) fun f c' pm ctv H2 s2 I2 eN T2 hf hfn hfr hco' => wpAny_bind (wpAny_standAt (wpAny_pure (wpAny_evalAll_nil ?_)))))
  rw [cloFrom_nil _ _ hfree] at hf
  obtain ⟨its, rv, hl, hz⟩ := I2.list (sql_extN hs eN)
  obtain ⟨u, rfl, ru⟩ := vals1 r1
  obtain rfl : u = Value.ref a := ru
  obtain ⟨e1, e2⟩ := refs_back rv fun x m => by
    obtain ⟨t, _, e, _⟩ := hxs x m
    exact ⟨t, e⟩
  have back : ∀ v ∈ its, backV v ∈ xs := fun v hv => by rw [e1]; exact List.mem_map.mpr ⟨v, hv, rfl⟩
  obtain ⟨⟨oc, vs', t', hoc, hdc, hvc⟩, _, _⟩ := I2.hok c' _ hco'
  have lim := I2.nolimit
  have rows : ∀ v ∈ its, IsRow s2.heap v (k (backV v)) := fun v hv => by
    obtain ⟨t, rfl⟩ := e2 v hv
    obtain ⟨t', r', e, ht⟩ := hxs _ (back _ hv)
    cases e
    obtain ⟨_, its2, r2, o, ho, hc, n, hd⟩ := I2.hok _ _ (eN _ _ ht fun ps z => by cases z)
    cases r2 with
    | cons r0 rr =>
      obtain ⟨t1, rfl⟩ := r0
      exact ⟨t, o, t1, _, n, rfl, ho, hc, hd, rfl⟩
  show wpAny _ _ (call (.builtin "sorted") [.ref a] [(Str.ofString "key", .ref f)]) _ _ s2
  refine PySem.W.sorted_key_data (β := Value) (b := false) (vs := its) (bs := its) (R := fun v b => v = b ∧ v ∈ its) (fun v => .str (k (backV v))) hl.isList ?_ ?_ ?_ (by rw [← rv.length]; exact hz) ?_ (PyProof.Rows.ksk_s1 _ _) (fun _ => PyProof.Rows.ksk_l1 _ _) (fun _ => PyProof.Rows.ksk_t1 _ _) ?_ ?_
  · have go : ∀ l : List Value, (∀ v ∈ l, v ∈ its) → PySem.W.EachIs (fun v b => v = b ∧ v ∈ its) l l := fun l => by
      induction l with
      | nil => exact fun _ => .nil
      | cons v r ih => exact fun hm => .cons ⟨rfl, hm v List.mem_cons_self⟩ (ih fun v hv => hm v (List.mem_cons_of_mem _ hv))
    exact go its fun _ h => h
  · exact PySem.W.AllAlike.of fun _ _ => by simp [PySem.W.alike]
  · exact PySem.W.Sortable.others fun _ => ⟨(by intro h; cases h), (by intro _ h; cases h)⟩
  · intro v _
    have := hr.un
    show X.A.units + 2 + PyData.depth (.str _) < cLine
    simp only [PyData.depth]
    omega
  · rintro v b ⟨rfl, hv⟩ _ h tk kp
    refine lam_first (kp _ _ hf) ⟨c', oc, vs', t', rfl, kp _ _ hoc, hdc, hvc⟩ (lim.keeps kp) ?_ hk hco hgen hcell hx (hbind _ _ _ _) ((rows v hv).keeps fun b o e _ => kp b o e) hd
    have := hr.dp
    show X.A.depth < _
    omega
  · intro out cc h' tk kp hnone hD hlen eo
    have eout : out = its.mergeSort (PySem.W.dataLe false fun v => .str (k (backV v))) := by
      have go : ∀ l m : List Value, PySem.W.EachIs (fun v b => v = b ∧ v ∈ its) l m → l = m := fun l m h => by
        induction h with
        | nil => rfl
        | cons h _ ih => rw [h.1, ih]
      exact go _ _ eo
    rw [PySem.W.dataLe_str] at eout
    have hp : out.Perm its := eout ▸ List.mergeSort_perm _ _
    have h3 : ∀ u ∈ out, ∃ a, u = Value.ref a := fun u hu => e2 u (hp.mem_iff.mp hu)
    have hb : (out.map backV).Perm xs := by
      rw [e1]
      exact hp.map backV
    have hs : Srtd (fun v u => ltX (k (backV v)) (k (backV u))) out := by
      have := List.pairwise_mergeSort (le := fun a b : Value => decide ((k (backV a)).cps.toList ≤ (k (backV b)).cps.toList)) (fun a b c h1 h2 => decide_eq_true (List.le_trans (of_decide_eq_true h1) (of_decide_eq_true h2))) (fun a b => by
        rcases List.le_total (k (backV a)).cps.toList (k (backV b)).cps.toList with h | h
        · rw [decide_eq_true h]; rfl
        · rw [decide_eq_true h, Bool.or_true]) its
      rw [← eout] at this
      exact this.imp fun {a b} h => decide_eq_false fun h2 => (of_decide_eq_true h) h2
    refine ⟨.ref (s2.heap.objs.size + 1), upd H2 (s2.heap.objs.size + 1) (.lst (out.map backV)), I2.laid (t' := tk) kp (Nat.le_succ _) ⟨?_, out, cc, vals_back h3, hD⟩, rfl, go H2 _ _ eN T2 (List.pairwise_map.mpr hs) hb (I2.hok.fresh (Nat.le_succ _))⟩
    rw [hb.length_eq]
    exact hz
end RK

namespace RK
open PySem PySem.Spec PyProof.Rows L2 L2H SX Srt SrtO
/-! ### dicts compared, their values as data -/
def eqD (ks ls : List (Key × V)) (dk dl : Key → PyData) : Bool := ks.all fun p => match valV ls p.1 with
  | some _ => PyData.eqv (dk p.1) (dl p.1)
  | none => false
theorem hitsD {A : Around} {s : Shared} {X : Cx} {pins : List (Addr × Obj)} {σ : L2.St} {H : Hp} (I : Inv X pins σ H s) (hu : A.units + 64 < cLine) {ls : List (Key × V)} {vb : List (Key × Value)} (rb : KV ls vb) {dk dl : Key → PyData} (hl : ∀ p ∈ ls, Dp X.K H p.2 (dl p.1) ∧ SeqAt.shaped (dl p.1) = true)
    {ks : List (Key × V)} {va : List (Key × Value)} (ra : KV ks va) : (∀ p ∈ ks, Dp X.K H p.2 (dk p.1) ∧ SeqAt.shaped (dk p.1) = true) → PySem.W.KeqHits A s vb va (eqD ks ls dk dl) := by
  unfold KV at ra
  induction ra with
  | nil => intro _; exact .nil
  | @cons p q ps qs h t ih =>
    intro hp
    obtain ⟨h1, h2⟩ := h
    obtain ⟨k, v⟩ := q
    have h1' : p.1 = k := h1
    have e0 : eqD (p :: ps) ls dk dl = ((match valV ls p.1 with
      | some _ => PyData.eqv (dk p.1) (dl p.1)
      | none => false) && eqD ps ls dk dl) := rfl
    rw [e0]
    have rr : RelO (valV ls p.1) (valueAt vb p.1) := rb.val p.1
    cases ev : valV ls p.1 with
    | none =>
      rw [ev] at rr
      refine .miss ?_
      rw [← h1']
      cases eb : valueAt vb p.1 with
      | none => rfl
      | some _ => rw [eb] at rr; exact rr.elim
    | some z =>
      rw [ev] at rr
      obtain ⟨y, hy, ry⟩ := rr.some_of
      rw [h1'] at hy
      have zm : (p.1, z) ∈ ls := by
        unfold valV at ev
        cases ef : ls.find? fun kv => decide (kv.1 = p.1) with
        | none => rw [ef] at ev; cases ev
        | some w =>
          rw [ef] at ev
          have e1 : w.2 = z := Option.some.inj ev
          have e2 := of_decide_eq_true (List.find?_some (p := fun kv : Key × V => decide (kv.1 = p.1)) ef)
          have e3 := List.mem_of_find?_eq_some ef
          rw [← e1, ← e2]
          exact e3
      obtain ⟨d1, d2⟩ := hp p List.mem_cons_self
      obtain ⟨d3, d4⟩ := hl _ zm
      obtain ⟨as, r1⟩ := Dp.reads I _ _ _ d1 h2
      obtain ⟨bs, r2⟩ := Dp.reads I _ _ _ d3 ry
      exact .hit hy (SeqAt.eqAt_reads _ _ A s _ _ as bs r1 r2 (SeqAt.canLay_of_shaped d2) (SeqAt.canLay_of_shaped d4) (SeqAt.room_of_shaped d2 hu)) (ih fun p' hm => hp p' (List.mem_cons_of_mem _ hm))
def mEqDic (K : PySem.W.Frag) : R2 := fun x y H Q => ∃ (a b : Addr) (ks ls : List (Key × V)) (dk dl : Key → PyData), x = .ref a ∧ y = .ref b ∧ H a = some (.dK ks) ∧ H b = some (.dK ls) ∧ (∀ p ∈ ks, Dp K H p.2 (dk p.1) ∧ SeqAt.shaped (dk p.1) = true) ∧ (∀ p ∈ ls, Dp K H p.2 (dl p.1) ∧ SeqAt.shaped (dl p.1) = true) ∧ Q (.bl (ks.length == ls.length && eqD ks ls dk dl)) H
theorem op_eqDic {X : Cx} (hu : X.A.units + 65 < cLine) : OpR X (compareOp .Eq) (mEqDic X.K) := by
  intro pins s σ H x y v u Q I rx ry h
  obtain ⟨a, b, ks, ls, dk, dl, rfl, rfl, ea, eb, hk, hl, q⟩ := h
  obtain rfl : v = Value.ref a := rx
  obtain rfl : u = Value.ref b := ry
  obtain ⟨_, ya, va, ra, da⟩ := (show ObjOk X.prog X.w H s.heap a (.dK ks) from I.hok a _ ea)
  obtain ⟨_, yb, vb, rb, db⟩ := (show ObjOk X.prog X.w H s.heap b (.dK ls) from I.hok b _ eb)
  refine PySem.W.keq_eq (knd := mixKind X.prog X.w) (r := eqD ks ls dk dl) ya yb da db (by omega) (fun _ => hitsD I (by show X.A.units + 1 + 64 < cLine; omega) rb hl ra hk) (fin_bl I q ?_)
  rw [ra.length, rb.length]
theorem ko_eqDic {X : Cx} {K : PySem.W.Frag} (hK : X.K = K) (hu : X.A.units + 65 < cLine) : OpR X (compareOp .Eq) (mEqDic K) := hK ▸ op_eqDic hu
/-! ### == by the text's own __eq__ -/
/-- what stands at the right -/
def eqOk (C : Addr) (y : V) (H : Hp) : Prop := (∃ z, y = .str z) ∨ (∃ i, y = .int i) ∨ (∃ p xs, y = .ref p ∧ H p = some (.lst xs)) ∨ ∃ p dx fs, y = .ref p ∧ H p = some (.ins C dx fs)
def mOwn (C : Addr) (sp : Sp) : R2 := fun x y H Q => (∃ a dx fs, x = .ref a ∧ H a = some (.ins C dx fs)) ∧ eqOk C y H ∧ sp [x, y] H (fun v H' => (∃ b, v = .bl b) ∧ Q v H') E0
theorem op_own {X : Cx} {CX : CXT} {n : Nat} {C f : Addr} {fd : FuncData} {ps : List Str} {sp : Sp} (F : FnOk X.prog X.w X.K X.mg X.base CX n f fd ps sp) (hr : Room n X.A)
    (me : Meth X.K C "__eq__" f) (hb : Binds X.K fd ps []) (hx : Passes CX X E0) : OpR X (compareOp .Eq) (mOwn C sp) := by
  intro pins s σ H x y v u Q I rx ry h
  obtain ⟨⟨a, dx, fs, rfl, ha⟩, hy, hs⟩ := h
  obtain rfl : v = Value.ref a := rx
  obtain ⟨mA, J, _⟩ := ins_get I.hok ha
  obtain ⟨od, J, _⟩ := J.look
  obtain ⟨m, hF⟩ := I.fr
  obtain ⟨tb, hty, hnf⟩ : ∃ tb, PySem.W.Looks (model X.prog X.w) s.heap (typeOf u) tb ∧ PySem.W.notFirst X.K C tb = true := by
    rcases hy with ⟨z, rfl⟩ | ⟨i, rfl⟩ | ⟨p, xs, rfl, hp⟩ | ⟨p, dy, gs, rfl, hp⟩
    · obtain ⟨t, rfl⟩ := ry
      exact ⟨.type "str", PySem.W.Looks.of_pure rfl, by rfl⟩
    · obtain ⟨t, rfl⟩ := ry
      exact ⟨.type "int", PySem.W.Looks.of_pure rfl, by rfl⟩
    · obtain rfl : u = Value.ref p := ry
      obtain ⟨hz, its, n, rv, hob⟩ := I.hok p _ hp
      exact ⟨.type "list", (PySem.W.Looks.ld hob).andThen .now, by rfl⟩
    · obtain rfl : u = Value.ref p := ry
      obtain ⟨mB, J', _⟩ := ins_get I.hok hp
      obtain ⟨od', J', _⟩ := J'.look
      exact ⟨.ref C, J'.type, by simp [PySem.W.notFirst]⟩
  show wpAny (model X.prog X.w) X.A (richCompare .Eq (.ref a) u) _ _ s
  refine PySem.W.cmp_K (op := .Eq) (tb := tb) hr.units0 hF I.ok.mod.kin J hty hnf me.1 me.2 ?_
  refine wpAny_mono (run_fn (dvs := []) (ds := []) F hr hb .nil hx I (vs := [.ref a, y]) (us := [.ref a, u]) (.cons (show L2.RelV (.ref a) (.ref a) from rfl) (.cons ry .nil)) (by rw [List.append_nil]; exact hs)) (fun w s' hq => ?_) fun _ _ e => e
  obtain ⟨z, H', I', rz, ⟨b, rfl⟩, q⟩ := hq
  obtain rfl : w = Value.bool b := rz
  exact ⟨.bl b, H', I', rfl, q⟩
end RK

namespace RK
open PySem PySem.Spec PyProof.Rows L2 L2H SX Srt SrtO
/-! ### code objects and their tables -/
def codeA (K : PySem.W.Frag) (f : Addr) : Value := match K.lookup f with
  | some ⟨_, _, .func u, _⟩ => u.code
  | _ => .none
def cdA (K : PySem.W.Frag) (x : Str) : Addr := match codeA K (cA K x) with
  | .ref c => c
  | _ => 0
def tabA (K : PySem.W.Frag) (c : Addr) : Addr := match K.lookup c with
  | some ⟨_, _, .fields vs, _⟩ => (match (vs[11]? : Option Value) with
    | some (.ref P) => P
    | _ => 0)
  | _ => 0
def tbA (K : PySem.W.Frag) (x : Str) : Addr := tabA K (cdA K x)
/-- Fun.ok, told of the code object -/
theorem fun_okC {P : Program} {w : World} {K : PySem.W.Frag} {mg : Str → Option Value} {base : Heap} {x qual : Str} {st : Stmt} {f : Addr} {fd : FuncData} {N ps : List Str} {k : Nat} {sp : Sp} (F : Fun K x qual st f fd) (S : FnScope N ps (defScope st)) (len : ∀ vs H Q E, sp vs H Q E → vs.length = ps.length)
    (hbody : ∀ (cdv : Value) (A : Around) (outer : List Env) (s : Shared) (H : Hp) (vs : List V) (Q : VK) (E : XK), fd.code = cdv → Room k (A.deeper (envOfC qual (defScope st) s.heap.objs.size f cdv)) → sp vs H Q E →
      ∃ t, PSs (cxOf CX0 P w K mg base N qual (defScope st) f cdv A outer s H E).nox (defBody st) t ∧ t { nx := fun _ H' => Q .non H', rt := Q } (L2.start N vs) H) : FnOk P w K mg base CX0 (k + 1) f fd ps sp := by
  obtain ⟨oc, od, kV, doc, pm, an, cdv, ct, osl, rfl, lk, hcd⟩ := F.ex
  refine fn_of lk hcd S len fun A outer s H vs Q E hr hsp => ?_
  obtain ⟨t, h, q⟩ := hbody cdv A outer s H vs Q E rfl hr hsp
  exact ⟨t, h.nox, q⟩
/-! ### isinstance(x, a class of the text) -/
structure IsiC (K : PySem.W.Frag) (C : Addr) : Prop where
  cl : Cls K C
  ha : PySem.W.findIn K (.ref C) "__class__" = some (some (.builtin "object.__class__"))
  hn : PySem.W.specialIn K (.builtin "object.__class__") "__get__" = some (some (.builtin "getset_descriptor.__get__"))
  htk : PySem.W.takesIn K (.builtin "object.__class__") = some true
  hm : PySem.W.mroIn K C (.type "object") = some true
  nS : PySem.W.kitOne K (.type "str") (.ref C) = some false
  nI : PySem.W.kitOne K (.type "int") (.ref C) = some false
  nL : PySem.W.kitOne K (.type "list") (.ref C) = some false
def mIsC (C : Addr) : List V → Hp → VK → Prop := fun vs H Q => match vs with
  | [x, c] => c = .ref C ∧ match x with
    | .int _ => Q (.bl false) H
    | .str _ => Q (.bl false) H
    | .ref p => ((∃ xs, H p = some (.lst xs)) ∧ Q (.bl false) H) ∨ ((∃ dx fs, H p = some (.ins C dx fs)) ∧ Q (.bl true) H)
    | _ => False
  | _ => False
theorem xc_isC {X : Cx} {C : Addr} (I : IsiC X.K C) : CallR X (.builtin "isinstance") (mIsC C) := calImp call_isi fun vs H Q h => by
  unfold mIsC at h
  split at h
  · rename_i x c
    obtain ⟨rfl, h⟩ := h
    split at h
    · exact ⟨_, _, .type "int", _, false, rfl, .own _, .base (.int _), I.nI, h⟩
    · exact ⟨_, _, .type "str", _, false, rfl, .own _, .base (.str _), I.nS, h⟩
    · rcases h with ⟨⟨xs, e⟩, h⟩ | ⟨⟨dx, fs, e⟩, h⟩
      · exact ⟨_, _, .type "list", _, false, rfl, .own _, .base (.lst e), I.nL, h⟩
      · exact ⟨_, _, .ref C, _, true, rfl, .own _, .base (.ins e I.cl I.ha I.hn I.htk I.hm), by unfold PySem.W.kitOne; rw [if_pos (by simp)], h⟩
    · exact h.elim
  · exact h.elim
def isiOk (K : PySem.W.Frag) (C : Addr) : Bool := He.eqO (PySem.W.findIn K (.ref C) "__class__") (some (some (.builtin "object.__class__"))) && (He.eqO (PySem.W.specialIn K (.builtin "object.__class__") "__get__") (some (some (.builtin "getset_descriptor.__get__"))) && (eqOB (PySem.W.takesIn K (.builtin "object.__class__")) (some true) && (eqOB (PySem.W.mroIn K C (.type "object")) (some true) &&
  (eqOB (PySem.W.kitOne K (.type "str") (.ref C)) (some false) && (eqOB (PySem.W.kitOne K (.type "int") (.ref C)) (some false) && eqOB (PySem.W.kitOne K (.type "list") (.ref C)) (some false))))))
theorem isi_ok {K : PySem.W.Frag} {C : Addr} (cl : Cls K C) (h : isiOk K C = true) : IsiC K C := by
  obtain ⟨h1, h⟩ := He.ba h
  obtain ⟨h2, h⟩ := He.ba h
  obtain ⟨h3, h⟩ := He.ba h
  obtain ⟨h4, h⟩ := He.ba h
  obtain ⟨h5, h⟩ := He.ba h
  obtain ⟨h6, h7⟩ := He.ba h
  exact ⟨cl, He.eqO_ok h1, He.eqO_ok h2, eqOB_ok h3, eqOB_ok h4, eqOB_ok h5, eqOB_ok h6, eqOB_ok h7⟩
/-! ### the head with tables -/
def codOk (K : PySem.W.Frag) (f c P : Addr) : Bool := eqVo (some (codeA K f)) (some (.ref c)) && (Nat.beq (tabA K c) P && PySem.W.codeHdIn K c P)
def isTab : Option Obj → Bool
  | some ⟨.none, none, .fields vs, sl⟩ => vs.isEmpty && sl.isEmpty
  | _ => false
theorem isTab_ok {o : Option Obj} (h : isTab o = true) : o = some { cls := .none, data := .fields #[] } := by
  unfold isTab at h
  split at h
  · rename_i vs sl
    obtain ⟨h1, h2⟩ := He.ba h
    rw [Array.isEmpty_iff.mp h1, Array.isEmpty_iff.mp h2]
  · cases h
def obsTG (as : List Addr) (cs : List (Addr × Addr × Addr)) (is : List Addr) (g : Addr → Option Obj) : Bool := (cs.all fun p => codOk (He.frG g as) p.1 p.2.1 p.2.2 && isTab (g p.2.2)) && is.all fun a => isiOk (He.frG g as) a
theorem frG_none {g : Addr → Option Obj} {a : Addr} : ∀ {as : List Addr}, as.contains a = false → (He.frG g as).lookup a = none
  | [], _ => rfl
  | b :: r, h => by
    rw [List.contains_cons, Bool.or_eq_false_iff] at h
    obtain ⟨h1, h2⟩ := h
    have ih := frG_none (g := g) h2
    unfold He.frG at ih ⊢
    rw [List.filterMap_cons]
    cases e : g b with
    | none => exact ih
    | some o =>
      show List.lookup a ((b, o) :: _) = none
      rw [List.lookup_cons]
      rw [h1]
      exact ih
def SaysT (fb : List Fl) (fn : List Df) (cs : List (Addr × Addr × Addr)) (is : List Addr) (K : PySem.W.Frag) : Prop := SaysL fb fn K ∧ (∀ p ∈ cs, codOk K p.1 p.2.1 p.2.2 = true ∧ K.lookup p.2.2 = none) ∧ ∀ a ∈ is, isiOk K a = true
def hookT (as : List Addr) (fb : List Fl) (fn : List Df) (cs : List (Addr × Addr × Addr)) (is : List Addr) (hn : (cs.all fun p => !as.contains p.2.2) = true) : PySem.W.Hook where
  α := AlL × Bool
  obs := fun s => (obsLG as fb fn s.heap.get?, obsTG as cs is s.heap.get?)
  val := fun _ => (valL fn, true)
  says := fun _ h => (∃ K : PySem.W.Frag, K.In h ∧ SaysT fb fn cs is K) ∧ ∀ p ∈ cs, h.get? p.2.2 = some { cls := .none, data := .fields #[] }
  of := fun _ s e => by
    obtain ⟨e1, e2⟩ := Prod.mk.inj e
    obtain ⟨e3, e4⟩ := He.ba (show ((cs.all fun p => codOk (He.frG s.heap.get? as) p.1 p.2.1 p.2.2 && isTab (s.heap.get? p.2.2)) && is.all fun a => isiOk (He.frG s.heap.get? as) a) = true from e2)
    have e3 := List.all_eq_true.mp e3
    have e4 := List.all_eq_true.mp e4
    refine ⟨⟨_, He.frG_in, e1, fun p hp => ⟨(He.ba (e3 p hp)).1, frG_none ?_⟩, e4⟩, fun p hp => isTab_ok (He.ba (e3 p hp)).2⟩
    have := List.all_eq_true.mp hn p hp
    simpa using this
  keeps := fun _ _ _ ⟨⟨K, hK, c⟩, t⟩ k => ⟨⟨K, PySem.W.Frag.In.keeps hK k, c⟩, fun p hp => k _ _ (t p hp)⟩
def obsT (as : List Addr) (fb : List Fl) (fn : List Df) (cs : List (Addr × Addr × Addr)) (is : List Addr) (g : Addr → Option Obj) : AlL × Bool := (obsLG as fb fn g, obsTG as cs is g)
theorem obsT_eq {as : List Addr} {fb : List Fl} {fn : List Df} {cs : List (Addr × Addr × Addr)} {is : List Addr} {hn : (cs.all fun p => !as.contains p.2.2) = true} {g : Addr → Option Obj} {s : Shared} (h : ∀ a, g a = s.heap.get? a) : obsT as fb fn cs is g = (hookT as fb fn cs is hn).obs s := by
  have e : g = s.heap.get? := funext h
  rw [e] <;> rfl
theorem cod_code {K : PySem.W.Frag} {f c P : Addr} (h : codOk K f c P = true) : codeA K f = .ref c := Option.some.inj (eqVo_ok (He.ba h).1)
theorem cod_tab {K : PySem.W.Frag} {f c P : Addr} (h : codOk K f c P = true) : tabA K c = P := Nat.eq_of_beq_eq_true (He.ba (He.ba h).2).1
theorem cod_hd {K : PySem.W.Frag} {h : Heap} {f c P : Addr} (X : K.In h) (e : codOk K f c P = true) : PySem.W.CodeHd h c P := PySem.W.codeHd_of_K X (He.ba (He.ba e).2).2
theorem cdA_of {K : PySem.W.Frag} {x : Str} {f c P : Addr} (e : cA K x = f) (h : codOk K f c P = true) : cdA K x = c := by
  unfold cdA
  rw [e, cod_code h]
theorem tbA_of {K : PySem.W.Frag} {x : Str} {f c P : Addr} (e : cA K x = f) (h : codOk K f c P = true) : tbA K x = P := by
  unfold tbA
  rw [cdA_of e h, cod_tab h]
theorem fun_code {K : PySem.W.Frag} {x qual : Str} {st : Stmt} {f : Addr} {fd : FuncData} (F : Fun K x qual st f fd) : fd.code = codeA K f := by
  obtain ⟨oc, od, kV, doc, pm, an, cdv, ct, osl, rfl, lk, hcd⟩ := F.ex
  unfold codeA
  rw [lk]
/-! ### two keywords in the other order -/
theorem vals_rev {vs : List V} {us : List Value} (h : Vals vs us) : Vals vs.reverse us.reverse := by
  induction h with
  | nil => exact .nil
  | cons h _ ih =>
    rw [List.reverse_cons, List.reverse_cons]
    exact ih.append (.cons h .nil)
theorem fun_kbr {K : PySem.W.Frag} {x qual : Str} {st : Stmt} {f : Addr} {fd : FuncData} {ps ks : List Str} {n : Nat} (F : Fun K x qual st f fd)
    (h : ∀ (kV doc pm : Value) (an : Option Addr) (cdv ct : Value) (us ws : List Value), us.length = n → ws.length = ks.length → bindArgs (PySem.W.fnOf x qual (defArgs st) (defBody st) (defScope st) .none kV doc pm an cdv ct) ⟨us, ks.zip ws⟩ = pure (ps.zip (us ++ ws.reverse))) :
    KBn K fd ps n ks (fun us ws => us ++ ws.reverse) (fun vs zs => vs ++ zs.reverse) := by
  obtain ⟨oc, od, kV, doc, pm, an, cdv, ct, osl, rfl, lk, hcd⟩ := F.ex
  exact ⟨fun s us ws X l1 l2 => .of_eq (h kV doc pm an cdv ct us ws l1 l2), fun r rz => r.append (vals_rev rz)⟩
end RK

namespace RK
open PySem PySem.Spec PyProof.Rows L2 L2H SX
def topS (i : Nat) : Stmt := PySem.Challenge.pw_riverkeeps_k04_rows_told_back.main.body.getD i (.Pass ⟨0, 0, 0, 0⟩)
structure Top (K : PySem.W.Frag) (mg : Str → Option Value) where
  a_check_town : Addr
  fd_check_town : FuncData
  F_check_town : Fun K "check_town" "check_town" (topS 12) a_check_town fd_check_town
  g_check_town : mg "check_town" = some (.ref a_check_town)
  b_check_town : Binds K fd_check_town ["river", "town"] []
  a_is_name : Addr
  fd_is_name : FuncData
  F_is_name : Fun K "is_name" "is_name" (topS 22) a_is_name fd_is_name
  g_is_name : mg "is_name" = some (.ref a_is_name)
  b_is_name : Binds K fd_is_name ["text"] []
  a_check_name : Addr
  fd_check_name : FuncData
  F_check_name : Fun K "check_name" "check_name" (topS 23) a_check_name fd_check_name
  g_check_name : mg "check_name" = some (.ref a_check_name)
  b_check_name : Binds K fd_check_name ["text"] []
  a_is_liking : Addr
  fd_is_liking : FuncData
  F_is_liking : Fun K "is_liking" "is_liking" (topS 24) a_is_liking fd_is_liking
  g_is_liking : mg "is_liking" = some (.ref a_is_liking)
  b_is_liking : Binds K fd_is_liking ["liking", "things"] []
  a_check_counts : Addr
  fd_check_counts : FuncData
  F_check_counts : Fun K "check_counts" "check_counts" (topS 26) a_check_counts fd_check_counts
  g_check_counts : mg "check_counts" = some (.ref a_check_counts)
  b_check_counts : Binds K fd_check_counts ["towns", "things"] []
  a_check_row_names : Addr
  fd_check_row_names : FuncData
  F_check_row_names : Fun K "check_row_names" "check_row_names" (topS 27) a_check_row_names fd_check_row_names
  g_check_row_names : mg "check_row_names" = some (.ref a_check_row_names)
  b_check_row_names : Binds K fd_check_row_names ["rows"] []
  a_check_room : Addr
  fd_check_room : FuncData
  F_check_room : Fun K "check_room" "check_room" (topS 28) a_check_room fd_check_room
  g_check_room : mg "check_room" = some (.ref a_check_room)
  b_check_room : Binds K fd_check_room ["town", "room"] []
  a_check_liking : Addr
  fd_check_liking : FuncData
  F_check_liking : Fun K "check_liking" "check_liking" (topS 29) a_check_liking fd_check_liking
  g_check_liking : mg "check_liking" = some (.ref a_check_liking)
  b_check_liking : Binds K fd_check_liking ["town", "liking", "things"] []
  a_check_town_rows : Addr
  fd_check_town_rows : FuncData
  F_check_town_rows : Fun K "check_town_rows" "check_town_rows" (topS 30) a_check_town_rows fd_check_town_rows
  g_check_town_rows : mg "check_town_rows" = some (.ref a_check_town_rows)
  b_check_town_rows : Binds K fd_check_town_rows ["towns", "things"] []
  a_check_springs : Addr
  fd_check_springs : FuncData
  F_check_springs : Fun K "check_springs" "check_springs" (topS 31) a_check_springs fd_check_springs
  g_check_springs : mg "check_springs" = some (.ref a_check_springs)
  b_check_springs : Binds K fd_check_springs ["towns", "things"] []
  a_check_rings : Addr
  fd_check_rings : FuncData
  F_check_rings : Fun K "check_rings" "check_rings" (topS 32) a_check_rings fd_check_rings
  g_check_rings : mg "check_rings" = some (.ref a_check_rings)
  b_check_rings : Binds K fd_check_rings ["towns"] []
  a_check_rows : Addr
  fd_check_rows : FuncData
  F_check_rows : Fun K "check_rows" "check_rows" (topS 33) a_check_rows fd_check_rows
  g_check_rows : mg "check_rows" = some (.ref a_check_rows)
  b_check_rows : Binds K fd_check_rows ["towns", "things"] []
  a_towns_from : Addr
  fd_towns_from : FuncData
  F_towns_from : Fun K "towns_from" "towns_from" (topS 34) a_towns_from fd_towns_from
  g_towns_from : mg "towns_from" = some (.ref a_towns_from)
  b_towns_from : Binds K fd_towns_from ["next_towns", "town"] []
  a__law_store : Addr
  fd__law_store : FuncData
  F__law_store : Fun K "_law_store" "_law_store" (topS 37) a__law_store fd__law_store
  g__law_store : mg "_law_store" = some (.ref a__law_store)
  b__law_store : Binds K fd__law_store ["script"] []
  a__law_mix : Addr
  fd__law_mix : FuncData
  F__law_mix : Fun K "_law_mix" "_law_mix" (topS 38) a__law_mix fd__law_mix
  g__law_mix : mg "_law_mix" = some (.ref a__law_mix)
  b__law_mix : Binds K fd__law_mix ["cell", "turn"] []
  a__law_take : Addr
  fd__law_take : FuncData
  F__law_take : Fun K "_law_take" "_law_take" (topS 39) a__law_take fd__law_take
  g__law_take : mg "_law_take" = some (.ref a__law_take)
  b__law_take : Binds K fd__law_take ["store", "many"] []
  a__law_yes : Addr
  fd__law_yes : FuncData
  F__law_yes : Fun K "_law_yes" "_law_yes" (topS 40) a__law_yes fd__law_yes
  g__law_yes : mg "_law_yes" = some (.ref a__law_yes)
  b__law_yes : Binds K fd__law_yes ["store", "many"] []
  a__law_pick : Addr
  fd__law_pick : FuncData
  F__law_pick : Fun K "_law_pick" "_law_pick" (topS 41) a__law_pick fd__law_pick
  g__law_pick : mg "_law_pick" = some (.ref a__law_pick)
  b__law_pick : Binds K fd__law_pick ["store", "items"] []
  a__law_same : Addr
  fd__law_same : FuncData
  F__law_same : Fun K "_law_same" "_law_same" (topS 42) a__law_same fd__law_same
  g__law_same : mg "_law_same" = some (.ref a__law_same)
  b__law_same : Binds K fd__law_same ["actual", "expected"] []
  a__law_copy : Addr
  fd__law_copy : FuncData
  F__law_copy : Fun K "_law_copy" "_law_copy" (topS 43) a__law_copy fd__law_copy
  g__law_copy : mg "_law_copy" = some (.ref a__law_copy)
  b__law_copy : Binds K fd__law_copy ["value"] []
  a__law_spoil : Addr
  fd__law_spoil : FuncData
  F__law_spoil : Fun K "_law_spoil" "_law_spoil" (topS 44) a__law_spoil fd__law_spoil
  g__law_spoil : mg "_law_spoil" = some (.ref a__law_spoil)
  b__law_spoil : Binds K fd__law_spoil ["value", "depth"] []
  a__law_either : Addr
  fd__law_either : FuncData
  F__law_either : Fun K "_law_either" "_law_either" (topS 45) a__law_either fd__law_either
  g__law_either : mg "_law_either" = some (.ref a__law_either)
  b__law_either : Binds K fd__law_either ["store", "items"] []
  a__law_is_name : Addr
  fd__law_is_name : FuncData
  F__law_is_name : Fun K "_law_is_name" "_law_is_name" (topS 46) a__law_is_name fd__law_is_name
  g__law_is_name : mg "_law_is_name" = some (.ref a__law_is_name)
  b__law_is_name : Binds K fd__law_is_name ["text"] []
  a__law_raw_name : Addr
  fd__law_raw_name : FuncData
  F__law_raw_name : Fun K "_law_raw_name" "_law_raw_name" (topS 47) a__law_raw_name fd__law_raw_name
  g__law_raw_name : mg "_law_raw_name" = some (.ref a__law_raw_name)
  b__law_raw_name : Binds K fd__law_raw_name ["store"] []
  a__law_name : Addr
  fd__law_name : FuncData
  F__law_name : Fun K "_law_name" "_law_name" (topS 48) a__law_name fd__law_name
  g__law_name : mg "_law_name" = some (.ref a__law_name)
  b__law_name : Binds K fd__law_name ["store", "taken"] []
  a__law_names : Addr
  fd__law_names : FuncData
  F__law_names : Fun K "_law_names" "_law_names" (topS 49) a__law_names fd__law_names
  g__law_names : mg "_law_names" = some (.ref a__law_names)
  b__law_names : Binds K fd__law_names ["store", "many"] []
  a__law_order : Addr
  fd__law_order : FuncData
  F__law_order : Fun K "_law_order" "_law_order" (topS 50) a__law_order fd__law_order
  g__law_order : mg "_law_order" = some (.ref a__law_order)
  b__law_order : Binds K fd__law_order ["store", "items"] []
  a__law_room : Addr
  fd__law_room : FuncData
  F__law_room : Fun K "_law_room" "_law_room" (topS 51) a__law_room fd__law_room
  g__law_room : mg "_law_room" = some (.ref a__law_room)
  b__law_room : Binds K fd__law_room ["store", "many"] []
  a__law_tree : Addr
  fd__law_tree : FuncData
  F__law_tree : Fun K "_law_tree" "_law_tree" (topS 52) a__law_tree fd__law_tree
  g__law_tree : mg "_law_tree" = some (.ref a__law_tree)
  b__law_tree : Binds K fd__law_tree ["store", "many", "lone"] []
  a__law_town_rows : Addr
  fd__law_town_rows : FuncData
  F__law_town_rows : Fun K "_law_town_rows" "_law_town_rows" (topS 53) a__law_town_rows fd__law_town_rows
  g__law_town_rows : mg "_law_town_rows" = some (.ref a__law_town_rows)
  b__law_town_rows : Binds K fd__law_town_rows ["store", "towns", "things", "lone"] []
  a__law_thing_rows : Addr
  fd__law_thing_rows : FuncData
  F__law_thing_rows : Fun K "_law_thing_rows" "_law_thing_rows" (topS 54) a__law_thing_rows fd__law_thing_rows
  g__law_thing_rows : mg "_law_thing_rows" = some (.ref a__law_thing_rows)
  b__law_thing_rows : Binds K fd__law_thing_rows ["store", "towns", "things"] []
  a__law_thing_names : Addr
  fd__law_thing_names : FuncData
  F__law_thing_names : Fun K "_law_thing_names" "_law_thing_names" (topS 55) a__law_thing_names fd__law_thing_names
  g__law_thing_names : mg "_law_thing_names" = some (.ref a__law_thing_names)
  b__law_thing_names : Binds K fd__law_thing_names ["store", "towns", "count"] []
  a__law_rows : Addr
  fd__law_rows : FuncData
  F__law_rows : Fun K "_law_rows" "_law_rows" (topS 56) a__law_rows fd__law_rows
  g__law_rows : mg "_law_rows" = some (.ref a__law_rows)
  b__law_rows : Binds K fd__law_rows ["store", "most_towns", "most_things"] []
  a__law_drawn_rows : Addr
  fd__law_drawn_rows : FuncData
  F__law_drawn_rows : Fun K "_law_drawn_rows" "_law_drawn_rows" (topS 57) a__law_drawn_rows fd__law_drawn_rows
  g__law_drawn_rows : mg "_law_drawn_rows" = some (.ref a__law_drawn_rows)
  b__law_drawn_rows : Binds K fd__law_drawn_rows ["store"] []
  a__law_changed_rows : Addr
  fd__law_changed_rows : FuncData
  F__law_changed_rows : Fun K "_law_changed_rows" "_law_changed_rows" (topS 58) a__law_changed_rows fd__law_changed_rows
  g__law_changed_rows : mg "_law_changed_rows" = some (.ref a__law_changed_rows)
  b__law_changed_rows : Binds K fd__law_changed_rows ["store", "rows"] []
  a__law_kept : Addr
  fd__law_kept : FuncData
  F__law_kept : Fun K "_law_kept" "_law_kept" (topS 59) a__law_kept fd__law_kept
  g__law_kept : mg "_law_kept" = some (.ref a__law_kept)
  b__law_kept : Binds K fd__law_kept ["rows"] []
  a__law_passed : Addr
  fd__law_passed : FuncData
  F__law_passed : Fun K "_law_passed" "_law_passed" (topS 60) a__law_passed fd__law_passed
  g__law_passed : mg "_law_passed" = some (.ref a__law_passed)
  b__law_passed : Binds K fd__law_passed ["store", "rows"] []
  a__law_is_told : Addr
  fd__law_is_told : FuncData
  F__law_is_told : Fun K "_law_is_told" "_law_is_told" (topS 61) a__law_is_told fd__law_is_told
  g__law_is_told : mg "_law_is_told" = some (.ref a__law_is_told)
  b__law_is_told : Binds K fd__law_is_told ["river", "due"] []
  a_law : Addr
  fd_law : FuncData
  F_law : Fun K "law" "law" (topS 62) a_law fd_law
  g_law : mg "law" = some (.ref a_law)
  b_law : Binds K fd_law ["script"] []
  a_River___init__ : Addr
  fd_River___init__ : FuncData
  F_River___init__ : Fun K "__init__" "River.__init__" (clsN (topS 35) 0) a_River___init__ fd_River___init__
  b_River___init__ : Binds K fd_River___init__ ["self", "towns", "things"] []
  mk_River : Mk K (cA K "River") a_River___init__
  a_River_after : Addr
  fd_River_after : FuncData
  F_River_after : Fun K "after" "River.after" (clsN (topS 35) 3) a_River_after fd_River_after
  b_River_after : Binds K fd_River_after ["self", "town"] []
  me_River_after : Meth K (cA K "River") "after" a_River_after
  a_River_room : Addr
  fd_River_room : FuncData
  F_River_room : Fun K "room" "River.room" (clsN (topS 35) 4) a_River_room fd_River_room
  b_River_room : Binds K fd_River_room ["self", "town"] []
  me_River_room : Meth K (cA K "River") "room" a_River_room
  a_River_liking : Addr
  fd_River_liking : FuncData
  F_River_liking : Fun K "liking" "River.liking" (clsN (topS 35) 5) a_River_liking fd_River_liking
  b_River_liking : Binds K fd_River_liking ["self", "town"] []
  me_River_liking : Meth K (cA K "River") "liking" a_River_liking
  a_River_town_rows : Addr
  fd_River_town_rows : FuncData
  F_River_town_rows : Fun K "town_rows" "River.town_rows" (clsN (topS 35) 11) a_River_town_rows fd_River_town_rows
  b_River_town_rows : Binds K fd_River_town_rows ["self"] []
  me_River_town_rows : Meth K (cA K "River") "town_rows" a_River_town_rows
  a_River_thing_rows : Addr
  fd_River_thing_rows : FuncData
  F_River_thing_rows : Fun K "thing_rows" "River.thing_rows" (clsN (topS 35) 12) a_River_thing_rows fd_River_thing_rows
  b_River_thing_rows : Binds K fd_River_thing_rows ["self"] []
  me_River_thing_rows : Meth K (cA K "River") "thing_rows" a_River_thing_rows
  a_River___eq__ : Addr
  fd_River___eq__ : FuncData
  F_River___eq__ : Fun K "__eq__" "River.__eq__" (clsN (topS 35) 15) a_River___eq__ fd_River___eq__
  b_River___eq__ : Binds K fd_River___eq__ ["self", "other"] []
  me_River___eq__ : Meth K (cA K "River") "__eq__" a_River___eq__
  a_River_towns : Addr
  fd_River_towns : FuncData
  F_River_towns : Fun K "towns" "River.towns" (clsN (topS 35) 1) a_River_towns fd_River_towns
  b_River_towns : Binds K fd_River_towns ["self"] []
  p_River_towns : Addr
  pr_River_towns : PropOf K (cA K "River") "towns" p_River_towns a_River_towns
  a_River_things : Addr
  fd_River_things : FuncData
  F_River_things : Fun K "things" "River.things" (clsN (topS 35) 2) a_River_things fd_River_things
  b_River_things : Binds K fd_River_things ["self"] []
  p_River_things : Addr
  pr_River_things : PropOf K (cA K "River") "things" p_River_things a_River_things
  gc_River : mg "River" = some (.ref (cA K "River"))
  in_River : Cls K (cA K "River")
  na_River__landings : NoAttr K (cA K "River") "_landings"
  na_River__likings : NoAttr K (cA K "River") "_likings"
  na_River__next_towns : NoAttr K (cA K "River") "_next_towns"
  na_River__numbers : NoAttr K (cA K "River") "_numbers"
  na_River__paths : NoAttr K (cA K "River") "_paths"
  na_River__rooms : NoAttr K (cA K "River") "_rooms"
  na_River__sources : NoAttr K (cA K "River") "_sources"
  na_River__things : NoAttr K (cA K "River") "_things"
  na_River__towns : NoAttr K (cA K "River") "_towns"
  gv_MAX_NAME : ∃ t, mg "MAX_NAME" = some (.int 8 t)
  gv_MAX_ROOM : ∃ t, mg "MAX_ROOM" = some (.int 99 t)
  gv_MAX_THINGS : ∃ t, mg "MAX_THINGS" = some (.int 10 t)
  gv_MAX_TOWNS : ∃ t, mg "MAX_TOWNS" = some (.int 8 t)
  gs_LETTERS : ∃ t, mg "LETTERS" = some (.str "abcdefghijklmnopqrstuvwxyz" t)
  gs_LETTERS_AND_DIGITS : ∃ t, mg "LETTERS_AND_DIGITS" = some (.str "abcdefghijklmnopqrstuvwxyz0123456789" t)
  gt_BARRED_WORDS : mg "BARRED_WORDS" = some (.ref (cA K "BARRED_WORDS"))
  tt_BARRED_WORDS : ∀ H : Hp, SqT K H (cA K "BARRED_WORDS") [.str "sea", .str "it"]
  n_all : mg "all" = none
  n_bool : mg "bool" = none
  n_enumerate : mg "enumerate" = none
  n_int : mg "int" = none
  n_isinstance : mg "isinstance" = none
  n_len : mg "len" = none
  n_list : mg "list" = none
  n_range : mg "range" = none
  n_sorted : mg "sorted" = none
  n_str : mg "str" = none
  n_tuple : mg "tuple" = none
  kr_River___init__ : KBn K fd_River___init__ ["self", "towns", "things"] 1 ["things", "towns"] (fun us ws => us ++ ws.reverse) (fun vs zs => vs ++ zs.reverse)
  tc__law_kept : fd__law_kept.code = .ref (cdA K "_law_kept")
  is_River : IsiC K (cA K "River")
theorem nm_len {t : Tx} (h : IsNm t) : (S t).length ≤ sizeLine := by rw [S_len, sl_big]; have := h.l1; omega
theorem sea_it {t : Tx} (h : IsNm t) : inV (.str (S t)) [.str (Str.ofString "sea"), .str (Str.ofString "it")] = false := by
  rw [lit_sea, lit_it]
  rw [show ([V.str (S [115, 101, 97]), V.str (S [105, 116])] : List V) = sv [[115, 101, 97], [105, 116]] from rfl, inV_sv]
  refine decide_eq_false fun z => ?_
  rcases List.mem_cons.mp z with e | z
  · exact h.ns e
  · exact h.ni (List.mem_singleton.mp z)
theorem not_not {p : Prop} [Decidable p] (h : p) (c : (!decide p) = true) : False := by rw [decide_eq_true h] at c; cases c
structure TRow (ts us : List Tx) (w : Row) : Prop where
  af : ∀ a, w.a = some a → a ∈ ts
  rm : w.r ≤ 99
  lk : w.l.Perm us
theorem flat_ov (a : Option Tx) : flatV (ov a) = true := by cases a <;> rfl
theorem Rv.Ok.down {R : Rv} {rk : Tx → Nat} (k : R.Ok rk) : Down R.T rk := ⟨k.tnd, k.af, k.rkn⟩
theorem Rv.Ok.fines {R : Rv} {rk : Tx → Nat} (k : R.Ok rk) : Fines R.un := fun t ht => by
  obtain ⟨u, hu, rfl⟩ := List.mem_map.mp ht
  exact (k.unm u hu).fine
/-- the towns from one on -/
def pth (ws : List Row) : Nat → Option Tx → List Tx
  | 0, _ => []
  | _ + 1, none => []
  | n + 1, some t => t :: pth ws n (nxt ws t)
theorem pth_none (ws : List Row) (n : Nat) : pth ws n none = [] := by cases n <;> rfl
def lkD (zs : List (Addr × Row)) : List (Key × V) := zs.map fun z => ((Sum.inr (S z.2.t) : Key), V.ref z.1)
def srcD (us : List (Tx × Tx)) : List (Key × V) := us.map fun u => ((Sum.inr (S u.1) : Key), V.str (S u.2))
def rmD (ws : List Row) : List (Key × V) := ws.map fun w => ((Sum.inr (S w.t) : Key), V.int (w.r : Nat))
def paD (zs : List (Addr × (Tx × Tx))) : List (Key × V) := zs.map fun z => ((Sum.inr (S z.2.1) : Key), V.ref z.1)
def Rv.path (R : Rv) (s : Tx) : List Tx := pth R.T R.T.length (some s)
def Rv.src (R : Rv) (u : Tx) : Tx := ((R.U.find? fun x => decide (x.1 = u)).map (·.2)).getD []
def Rv.lands (R : Rv) : List (Tx × Tx) := (tsort R.un).flatMap fun u => (R.path (R.src u)).map fun t => (u, t)
/-- an instance's fields, as they come -/
def fl (as : List Addr) : List (Str × V) := (["_towns", "_things", "_next_towns", "_rooms", "_likings", "_sources", "_paths", "_landings", "_numbers"] : List Str).zip (as.map V.ref)
theorem fl1 (a : Addr) : putF "_towns" (V.ref a) [] = fl [a] := rfl
theorem fl2 (a b : Addr) : putF "_things" (V.ref b) (fl [a]) = fl [a, b] := rfl
theorem fl3 (a b c : Addr) : putF "_next_towns" (V.ref c) (fl [a, b]) = fl [a, b, c] := rfl
theorem fl4 (a b c d : Addr) : putF "_rooms" (V.ref d) (fl [a, b, c]) = fl [a, b, c, d] := rfl
theorem fl5 (a b c d e : Addr) : putF "_likings" (V.ref e) (fl [a, b, c, d]) = fl [a, b, c, d, e] := rfl
theorem fl6 (a b c d e f : Addr) : putF "_sources" (V.ref f) (fl [a, b, c, d, e]) = fl [a, b, c, d, e, f] := rfl
theorem fl7 (a b c d e f g : Addr) : putF "_paths" (V.ref g) (fl [a, b, c, d, e, f]) = fl [a, b, c, d, e, f, g] := rfl
theorem fl8 (a b c d e f g i : Addr) : putF "_landings" (V.ref i) (fl [a, b, c, d, e, f, g]) = fl [a, b, c, d, e, f, g, i] := rfl
theorem fl9 (a b c d e f g i j : Addr) : putF "_numbers" (V.ref j) (fl [a, b, c, d, e, f, g, i]) = fl [a, b, c, d, e, f, g, i, j] := rfl
/-- a river: its nine parts -/
structure RivP (H : Hp) (R : Rv) (a1 a2 a3 a4 a5 a6 a7 a8 a9 : Addr) : Prop where
  h1 : H a1 = some (.lst (sv (tsort R.tn)))
  h2 : H a2 = some (.lst (sv (tsort R.un)))
  h3 : H a3 = some (.dK (nxtD R.T))
  h4 : H a4 = some (.dK (rmD R.T))
  h5 : ∃ zs : List (Addr × Row), zs.map (·.2) = R.T ∧ H a5 = some (.dK (lkD zs)) ∧ ∀ z ∈ zs, H z.1 = some (.lst (sv z.2.l))
  h6 : H a6 = some (.dK (srcD R.U))
  h7 : ∃ zs : List (Addr × (Tx × Tx)), zs.map (·.2) = R.U ∧ H a7 = some (.dK (paD zs)) ∧ ∀ z ∈ zs, H z.1 = some (.lst (sv (R.path z.2.2)))
  h8 : ∃ zs : List (Addr × (Tx × Tx)), zs.map (·.2) = R.lands ∧ H a8 = some (.lst (zs.map fun z => V.ref z.1)) ∧ ∀ z ∈ zs, ThO H z.1 z.2
  h9 : ∃ kvs, H a9 = some (.dT kvs)
def RivO (K : PySem.W.Frag) (H : Hp) (x : Addr) (R : Rv) : Prop := ∃ dx a1 a2 a3 a4 a5 a6 a7 a8 a9, H x = some (.ins (cA K "River") dx (fl [a1, a2, a3, a4, a5, a6, a7, a8, a9])) ∧ RivP H R a1 a2 a3 a4 a5 a6 a7 a8 a9
theorem lt_nex {H : Hp} {x p C dx : Addr} {fs : List (Str × V)} {xs : List V} (h : Lt H p xs) (hx : H x = some (.ins C dx fs)) : p ≠ x := fun z => by
  subst z
  rcases h with h | h | ⟨o, h⟩ <;> (rw [hx] at h; cases h)
theorem Lt.keepI {H H' : Hp} {x p C dx : Addr} {fs : List (Str × V)} {xs : List V} (h : Lt H p xs) (k : Keep x H H') (hx : H x = some (.ins C dx fs)) : Lt H' p xs := h.keep k (lt_nex h hx)
theorem rows_keepI {H H' : Hp} {x p C dx : Addr} {fs : List (Str × V)} {ws : List Row} (h : RowsO H p ws) (k : Keep x H H') (hx : H x = some (.ins C dx fs)) : RowsO H' p ws := by
  obtain ⟨zs, h1, h2, h3⟩ := h
  refine ⟨zs, h1, h2.keepI k hx, fun z hz => ?_⟩
  obtain ⟨q, e1, e2⟩ := h3 z hz
  exact ⟨q, k _ _ (fun y => by rw [y, hx] at e1; cases e1) e1, e2.keepI k hx⟩
theorem ths_keepI {H H' : Hp} {x p C dx : Addr} {fs : List (Str × V)} {ws : List (Tx × Tx)} (h : ThsO H p ws) (k : Keep x H H') (hx : H x = some (.ins C dx fs)) : ThsO H' p ws := by
  obtain ⟨zs, h1, h2, h3⟩ := h
  refine ⟨zs, h1, h2.keepI k hx, fun z hz => ?_⟩
  have e1 := h3 z hz
  exact k _ _ (fun y => by rw [y] at e1; rw [ThO, hx] at e1; cases e1) e1
/-- one field more -/
structure Stg (C x dx : Addr) (H Hn : Hp) (fs : List (Str × V)) : Prop where
  k : Keep x H Hn
  i : Hn x = some (.ins C dx fs)
theorem Stg.on {C x dx : Addr} {H Hn G : Hp} {fs fs' : List (Str × V)} (t : Stg C x dx H Hn fs) (s : Same Hn G) : Stg C x dx H (upd G x (.ins C dx fs')) fs' := ⟨t.k.trans ((Same.keep s).trans Keep.put), upd_same⟩
theorem Stg.ne {C x dx a : Addr} {H Hn : Hp} {fs : List (Str × V)} (t : Stg C x dx H Hn fs) (f : Hn a = none) : a ≠ x := fun z => by rw [z, t.i] at f; cases f
theorem car {x b : Addr} {Hn G : Hp} {o u : HO} (h : Hn b = some o) (n : b ≠ x) (s : Same Hn G) : upd G x u b = some o := (upd_ne n).trans (s _ _ h)
/-- {row[0]: list(row[3]) for row in towns} -/
theorem yDc_lk {K : PySem.W.Frag} {te0 : TE} {p : Addr} {j : Nat} {tv : TE} {vs : List Nat} {σ : L2.St} {H : Hp} {Q : VK} {ws : List Row} (h0 : ∀ R : VK, R (.ref p) H → te0 σ H R) (hp : RowsO H p ws) (nd : (ws.map (·.t)).Nodup) (few : ws.length ≤ 1000)
    (hw : ∀ x : V, wipe ((wipe σ vs).set j (some x)) vs = wipe σ vs) (hj : ∀ x : V, ((wipe σ vs).set j (some x))[j]? = some (some x))
    (hv : ∀ (a q : Addr) (r : List V) (l : List Tx) (G : Hp) (R : VK), G a = some (.tup r) → r[3]? = some (.ref q) → Lt G q (sv l) → (∀ u, G u = none → R (.ref u) (upd G u (.lst (sv l)))) → tv ((wipe σ vs).set j (some (.ref a))) G R)
    (hd : ∀ D G (zs : List (Addr × Row)), Same H G → H D = none → zs.map (·.2) = ws → G D = some (.dK (lkD zs)) → (∀ z ∈ zs, G z.1 = some (.lst (sv z.2.l)) ∧ H z.1 = none) → Q (.ref D) G) :
    yDc (.dK []) (iSeq K te0) (gName j) tYes (tOp (mIx K) (xV j) (tC (.int 0))) tv vs σ H Q := by
  obtain ⟨zr, er, hl, hz⟩ := hp
  have lr : zr.length = ws.length := by rw [← er, List.length_map]
  refine yDc_lt h0 (fun D i H' => ∃ zs : List (Addr × Row), zs.map (·.2) = ws.take i ∧ Keep D H H' ∧ H' D = some (.dK (lkD zs)) ∧ ∀ z ∈ zs, H' z.1 = some (.lst (sv z.2.l)) ∧ z.1 ≠ D ∧ H z.1 = none) hl
    (fun D hD => ⟨[], by simp, fun b o n e => (upd_ne n).trans e, upd_same, fun z m => by cases m⟩) (fun D i H' hD e => ?_) (fun D i x H' hD hx e => ?_) (fun D H' hD e => ?_)
  · obtain ⟨zs, _, k, _⟩ := e
    rcases hl with e | e | ⟨o, e⟩ <;> rw [k _ _ (ne_of_none e hD) e, e]
  · obtain ⟨zs, ez, k, dk, hzs⟩ := e
    obtain ⟨z, gz, rfl⟩ := objs_get hx
    have zm := List.mem_of_getElem? gz
    obtain ⟨q, e1, e2⟩ := hz z zm
    have e1' := k _ _ (ne_of_none e1 hD) e1
    have e2' : Lt H' q (sv z.2.l) := e2.keep k (e2.has hD)
    refine ⟨hw _, ?_⟩
    simp only [tYes, ↓reduceIte]
    have vj : ∀ R : VK, ∀ Hx, R (V.ref z.1) Hx → xV j ((wipe σ vs).set j (some (.ref z.1))) Hx R := fun R Hx r => by unfold xV; rw [hj]; exact r
    refine vj _ _ ⟨_, _, Sq.t e1', at_int (j := 0) rfl rfl, hv z.1 q _ _ _ _ e1' rfl e2' fun u hu => ?_⟩
    have uD : u ≠ D := fun y => by rw [y, dk] at hu; cases hu
    have gw : ws[i]? = some z.2 := by rw [← er, List.getElem?_map, gz]; rfl
    have out : z.2.t ∉ zs.map fun z => z.2.t := by
      intro mm
      have e4 : (ws.map (·.t)).take (i + 1) = (zs.map fun z => z.2.t) ++ [z.2.t] := by rw [← List.map_take, take_succ_get gw, List.map_append, ← ez, List.map_map]; rfl
      have nd2 : ((ws.map (·.t)).take (i + 1)).Nodup := nd.sublist (List.take_sublist _ _)
      rw [e4] at nd2
      exact (List.nodup_append.mp nd2).2.2 _ mm _ (List.mem_singleton.mpr rfl) rfl
    have dk' : upd H' u (.lst (sv z.2.l)) D = some (.dK (lkD zs)) := (upd_ne uD.symm).trans dk
    have lz : zs.length ≤ 1000 := by
      have := congrArg List.length ez
      rw [List.length_map, List.length_take] at this
      omega
    refine ⟨_, DPut.k (k := Sum.inr (S z.2.t)) dk' (by unfold lkD; rw [List.length_map, sl_big]; omega), zs ++ [(u, z.2)], by rw [List.map_append, ez, take_succ_get gw]; rfl, fun b o n e => (upd_ne n).trans ((upd_ne (ne_of_none (k _ _ n e) hu)).trans (k _ _ n e)), ?_, fun y ym => ?_⟩
    · rw [upd_same]
      congr 2
      exact put_map (k := fun z : Addr × Row => z.2.t) (v := fun z => V.ref z.1) (x := (u, z.2)) out
    · rcases List.mem_append.mp ym with ym | ym
      · obtain ⟨y1, y2, y3⟩ := hzs y ym
        exact ⟨(upd_ne y2).trans ((upd_ne (ne_of_none y1 hu)).trans y1), y2, y3⟩
      · rw [List.mem_singleton.mp ym]
        exact ⟨(upd_ne uD).trans upd_same, uD, k.free uD hu⟩
  · obtain ⟨zs, ez, k, dk, hzs⟩ := e
    rw [List.length_map, lr, List.take_length] at ez
    exact hd D H' zs (fun b o e => k b o (ne_of_none e hD) e) hD ez dk fun z m => ⟨(hzs z m).1, (hzs z m).2.2⟩
/-- {row[0]: a new list for row in rows} -/
theorem yDc_new {K : PySem.W.Frag} {te0 : TE} {p : Addr} {j : Nat} {tv : TE} {vs : List Nat} {σ : L2.St} {H : Hp} {Q : VK} {α : Type} {zr : List (Addr × α)} {key : α → Tx} {val : α → List V} (h0 : ∀ R : VK, R (.ref p) H → te0 σ H R) (hl : Lt H p (zr.map fun z => V.ref z.1))
    (hz : ∀ z ∈ zr, ∃ r : List V, H z.1 = some (.tup r) ∧ r[0]? = some (.str (S (key z.2)))) (nd : (zr.map fun z => key z.2).Nodup) (few : zr.length ≤ 1000)
    (hw : ∀ x : V, wipe ((wipe σ vs).set j (some x)) vs = wipe σ vs) (hj : ∀ x : V, ((wipe σ vs).set j (some x))[j]? = some (some x))
    (hv : ∀ z ∈ zr, ∀ (D : Addr) (G : Hp) (R : VK), H D = none → Keep D H G → (∀ u G', Same G G' → G u = none → G' u = some (.lst (val z.2)) → R (.ref u) G') → tv ((wipe σ vs).set j (some (.ref z.1))) G R)
    (hd : ∀ D G (zs : List (Addr × α)), Same H G → H D = none → zs.map (·.2) = zr.map (·.2) → G D = some (.dK (zs.map fun z => ((Sum.inr (S (key z.2)) : Key), V.ref z.1))) → (∀ z ∈ zs, G z.1 = some (.lst (val z.2)) ∧ H z.1 = none) → Q (.ref D) G) :
    yDc (.dK []) (iSeq K te0) (gName j) tYes (tOp (mIx K) (xV j) (tC (.int 0))) tv vs σ H Q := by
  refine yDc_lt h0 (fun D i H' => ∃ zs : List (Addr × α), zs.map (·.2) = (zr.take i).map (·.2) ∧ Keep D H H' ∧ H' D = some (.dK (zs.map fun z => ((Sum.inr (S (key z.2)) : Key), V.ref z.1))) ∧ ∀ z ∈ zs, H' z.1 = some (.lst (val z.2)) ∧ z.1 ≠ D ∧ H z.1 = none) hl
    (fun D hD => ⟨[], by simp, fun b o n e => (upd_ne n).trans e, upd_same, fun z m => by cases m⟩) (fun D i H' hD e => ?_) (fun D i x H' hD hx e => ?_) (fun D H' hD e => ?_)
  · obtain ⟨zs, _, k, _⟩ := e
    rcases hl with e | e | ⟨o, e⟩ <;> rw [k _ _ (ne_of_none e hD) e, e]
  · obtain ⟨zs, ez, k, dk, hzs⟩ := e
    obtain ⟨z, gz, rfl⟩ := objs_get hx
    have zm := List.mem_of_getElem? gz
    obtain ⟨r, e1, e2⟩ := hz z zm
    have e1' := k _ _ (ne_of_none e1 hD) e1
    refine ⟨hw _, ?_⟩
    simp only [tYes, ↓reduceIte]
    have vj : ∀ R : VK, ∀ Hx, R (V.ref z.1) Hx → xV j ((wipe σ vs).set j (some (.ref z.1))) Hx R := fun R Hx r => by unfold xV; rw [hj]; exact r
    refine vj _ _ ⟨_, _, Sq.t e1', at_int (j := 0) rfl e2, hv z zm D H' _ hD k fun u G' sG hu eu => ?_⟩
    have uD : u ≠ D := fun y => by rw [y, dk] at hu; cases hu
    have out : key z.2 ∉ zs.map fun z => key z.2 := by
      intro mm
      have e4 : (zr.map fun z => key z.2).take (i + 1) = (zs.map fun z => key z.2) ++ [key z.2] := by
        rw [← List.map_take, take_succ_get gz, List.map_append]
        have := congrArg (List.map key) ez
        rw [List.map_map, List.map_map] at this
        rw [show (fun z : Addr × α => key z.2) = key ∘ (fun z => z.2) from rfl, this]; rfl
      have nd2 : ((zr.map fun z => key z.2).take (i + 1)).Nodup := nd.sublist (List.take_sublist _ _)
      rw [e4] at nd2
      exact (List.nodup_append.mp nd2).2.2 _ mm _ (List.mem_singleton.mpr rfl) rfl
    have dk' := sG _ _ dk
    have lz : zs.length ≤ 1000 := by
      have := congrArg List.length ez
      rw [List.length_map, List.length_map, List.length_take] at this
      omega
    refine ⟨_, DPut.k (k := Sum.inr (S (key z.2))) dk' (by rw [List.length_map, sl_big]; omega), zs ++ [(u, z.2)], by rw [List.map_append, ez, take_succ_get gz, List.map_append]; rfl, fun b o n e => (upd_ne n).trans (sG _ _ (k _ _ n e)), ?_, fun y ym => ?_⟩
    · rw [upd_same]
      congr 2
      exact put_map (k := fun z : Addr × α => key z.2) (v := fun z => V.ref z.1) (x := (u, z.2)) out
    · rcases List.mem_append.mp ym with ym | ym
      · obtain ⟨y1, y2, y3⟩ := hzs y ym
        exact ⟨(upd_ne y2).trans (sG _ _ y1), y2, y3⟩
      · rw [List.mem_singleton.mp ym]
        exact ⟨(upd_ne uD).trans eu, uD, k.free uD hu⟩
  · obtain ⟨zs, ez, k, dk, hzs⟩ := e
    rw [List.length_map, List.take_length] at ez
    exact hd D H' zs (fun b o e => k b o (ne_of_none e hD) e) hD ez dk fun z m => ⟨(hzs z m).1, (hzs z m).2.2⟩
/-- [(a, b) for a in us for b in P(a)] -/
theorem tLc2_pairs {K : PySem.W.Frag} {te0 te1 : TE} {i j : Nat} {a : Addr} {vs : List Nat} {σ : L2.St} {H : Hp} {Q : VK} {us : List Tx} {P : Tx → List Tx} (h0 : ∀ R : VK, R (.ref a) H → te0 σ H R) (ha : H a = some (.lst (sv us)))
    (hw : ∀ x : V, wipe ((wipe σ vs).set i (some x)) vs = wipe σ vs) (hw1 : ∀ x y : V, wipe ((wipe ((wipe σ vs).set i (some x)) [j]).set j (some y)) [j] = wipe ((wipe σ vs).set i (some x)) [j])
    (hx : ∀ x y : V, ((wipe ((wipe σ vs).set i (some x)) [j]).set j (some y))[i]? = some (some x)) (hy : ∀ x y : V, ((wipe ((wipe σ vs).set i (some x)) [j]).set j (some y))[j]? = some (some y))
    (h1 : ∀ u ∈ us, ∃ b, H b = some (.lst (sv (P u))) ∧ ∀ (D : Addr) (G : Hp) (R : VK), H D = none → Keep D H G → R (.ref b) G → te1 ((wipe σ vs).set i (some (.str (S u)))) G R)
    (few : us.length ≤ 100) (fewP : ∀ u ∈ us, (P u).length ≤ 100)
    (hd : ∀ D G (zs : List (Addr × (Tx × Tx))), Same H G → H D = none → zs.map (·.2) = us.flatMap (fun u => (P u).map fun t => (u, t)) → G D = some (.lst (zs.map fun z => V.ref z.1)) → (∀ z ∈ zs, ThO G z.1 z.2 ∧ H z.1 = none) → Q (.ref D) G) :
    tLc2 (iSeq K te0) (gName i) tYes (iSeq K te1) (gName j) tYes (tTup (tCons (xV i) (tCons (xV j) tNil))) vs [j] σ H Q := by
  refine .inl (h0 _ ?_)
  refine ⟨a, rfl, ⟨_, SqL.of ha⟩, fun D hD => ?_⟩
  let Inv : List (Tx × Tx) → Hp → Prop := fun l G => ∃ zs : List (Addr × (Tx × Tx)), zs.map (·.2) = l ∧ Keep D H G ∧ G D = some (.lst (zs.map fun z => V.ref z.1)) ∧ ∀ z ∈ zs, ThO G z.1 z.2 ∧ z.1 ≠ D ∧ H z.1 = none
  have aD : a ≠ D := ne_of_none ha hD
  let L : Nat → List (Tx × Tx) := fun n => (us.take n).flatMap (fun u => (P u).map fun t => (u, t))
  have lenL : ∀ (l : List Tx), (∀ u ∈ l, u ∈ us) → (l.flatMap (fun u => (P u).map fun t => (u, t))).length ≤ 100 * l.length := by
    intro l hl
    induction l with
    | nil => simp
    | cons u r ih =>
      rw [List.flatMap_cons, List.length_append, List.length_map, List.length_cons]
      have := ih fun v hv => hl v (List.mem_cons_of_mem _ hv)
      have := fewP u (hl u List.mem_cons_self)
      omega
  refine ⟨fun n m G => m = us.length - n ∧ n ≤ us.length ∧ Inv (L n) G, ⟨_, rfl, Nat.zero_le _, [], rfl, fun b o n e => (upd_ne n).trans e, upd_same, fun z m => by cases m⟩, ?_⟩
  rintro n m G ⟨rfl, le, zs, ez, kG, dG, hzs⟩
  have sq : SqL K G a (sv us) := SqL.of (kG _ _ aD ha)
  by_cases lt : n < us.length
  · have gu : us[n]? = some us[n] := List.getElem?_eq_getElem lt
    refine .inr ⟨⟨_, _, sq, sv_get gu⟩, fun G' => n + 1 ≤ us.length ∧ Inv (L (n + 1)) G', fun G' w => ⟨_, by omega, rfl, w.1, w.2⟩, fun x G' y => ?_⟩
    obtain ⟨rfl, y⟩ := y
    have ex : x = .str (S us[n]) := Option.some.inj ((y _ sq).symm.trans (sv_get gu))
    subst ex
    refine ⟨hw _, ?_⟩
    simp only [tYes, ↓reduceIte]
    have um : us[n] ∈ us := List.mem_of_getElem? gu
    obtain ⟨b, hb, go⟩ := h1 us[n] um
    have bD : b ≠ D := ne_of_none hb hD
    refine .inl (go D _ _ hD kG ?_)
    refine ⟨b, rfl, ⟨_, SqL.of (kG _ _ bD hb)⟩, fun q m G2 => m = (P us[n]).length - q ∧ q ≤ (P us[n]).length ∧ Inv (L n ++ ((P us[n]).take q).map fun t => (us[n], t)) G2, ⟨_, rfl, Nat.zero_le _, zs, by rw [ez, List.take_zero, List.map_nil, List.append_nil], kG, dG, hzs⟩, ?_⟩
    rintro q m G2 ⟨rfl, le2, ys, ey, k2, d2, hys⟩
    have sq2 : SqL K G2 b (sv (P us[n])) := SqL.of (k2 _ _ bD hb)
    by_cases lt2 : q < (P us[n]).length
    · have gt : (P us[n])[q]? = some (P us[n])[q] := List.getElem?_eq_getElem lt2
      refine .inr ⟨⟨_, _, sq2, sv_get gt⟩, fun G3 => q + 1 ≤ (P us[n]).length ∧ Inv (L n ++ ((P us[n]).take (q + 1)).map fun t => (us[n], t)) G3, fun G3 w => ⟨_, by omega, rfl, w.1, w.2⟩, fun x2 G3 y2 => ?_⟩
      obtain ⟨rfl, y2⟩ := y2
      have ex2 : x2 = .str (S (P us[n])[q]) := Option.some.inj ((y2 _ sq2).symm.trans (sv_get gt))
      subst ex2
      refine ⟨hw1 _ _, ?_⟩
      simp only [↓reduceIte]
      have vi : ∀ R : VK, ∀ Hx, R (V.str (S us[n])) Hx → xV i ((wipe ((wipe σ vs).set i (some (.str (S us[n])))) [j]).set j (some (.str (S (P us[n])[q])))) Hx R := fun R Hx r => by unfold xV; rw [hx]; exact r
      have vj : ∀ R : VK, ∀ Hx, R (V.str (S (P us[n])[q])) Hx → xV j ((wipe ((wipe σ vs).set i (some (.str (S us[n])))) [j]).set j (some (.str (S (P us[n])[q])))) Hx R := fun R Hx r => by unfold xV; rw [hy]; exact r
      dsimp only [tTup, tCons, tNil]
      refine vi _ _ ?_
      refine vj _ _ ?_
      refine ⟨sl_of (n := 2) rfl, fun r hr => ⟨_, (upd_ne (ne_of_none d2 hr)).trans d2, ?_, lt2, ys ++ [(r, (us[n], (P us[n])[q]))], ?_, ?_, ?_, ?_⟩⟩
      · have l1 := congrArg List.length ey
        rw [List.length_append, List.length_map, List.length_map, List.length_take] at l1
        have l2 := lenL (us.take n) fun v hv => List.mem_of_mem_take hv
        have l3 := fewP _ um
        rw [List.length_take] at l2
        have l4 : (L n).length ≤ 10000 := by show (List.flatMap _ _).length ≤ _; omega
        rw [List.length_map, sl_big]
        omega
      · rw [List.map_append, ey, take_succ_get gt, List.map_append, List.append_assoc]; rfl
      · exact fun b o nb e => (upd_ne nb).trans ((upd_ne (ne_of_none (k2 _ _ nb e) hr)).trans (k2 _ _ nb e))
      · rw [upd_same, List.map_append]; rfl
      · intro z zm
        have rD : r ≠ D := fun e => by rw [e, d2] at hr; cases hr
        rcases List.mem_append.mp zm with zm | zm
        · obtain ⟨z1, z2, z3⟩ := hys z zm
          exact ⟨(upd_ne z2).trans ((upd_ne (ne_of_none z1 hr)).trans z1), z2, z3⟩
        · rw [List.mem_singleton.mp zm]
          exact ⟨(upd_ne rD).trans upd_same, rD, k2.free rD hr⟩
    · have e : q = (P us[n]).length := by omega
      subst e
      refine .inl ⟨⟨_, sq2, by rw [sv_len]; exact Nat.le_refl _⟩, lt, ?_⟩
      rw [List.take_length] at ey
      refine ⟨ys, ey.trans ?_, k2, d2, hys⟩
      show _ = (us.take (n + 1)).flatMap _
      rw [take_succ_get gu, List.flatMap_append]
      simp [L]
  · have e : n = us.length := by omega
    subst e
    refine .inl ⟨⟨_, sq, by rw [sv_len]; exact Nat.le_refl _⟩, ?_⟩
    have ez : zs.map (·.2) = us.flatMap (fun u => (P u).map fun t => (u, t)) := ez.trans (by show (us.take us.length).flatMap _ = _; rw [List.take_length])
    exact hd D G zs (fun b o e => kG b o (ne_of_none e hD) e) hD ez dG fun z m => ⟨(hzs z m).1, (hzs z m).2.2⟩
/-- {landing: number for number, landing in enumerate(landings)} -/
theorem yDc_enum {K : PySem.W.Frag} {ta : TA} {a i j : Nat} {vs : List Nat} {σ : L2.St} {H : Hp} {Q : VK} {zs : List (Addr × (Tx × Tx))} (h0 : ∀ R : List V → Hp → Prop, R [.ref a] H → ta σ H R) (ha : H a = some (.lst (zs.map fun z => V.ref z.1))) (hz : ∀ z ∈ zs, ThO H z.1 z.2) (few : zs.length ≤ 10000)
    (hw : ∀ x y : V, wipe (((wipe σ vs).set i (some x)).set j (some y)) vs = wipe σ vs) (hx : ∀ x y : V, (((wipe σ vs).set i (some x)).set j (some y))[i]? = some (some x)) (hy : ∀ x y : V, (((wipe σ vs).set i (some x)).set j (some y))[j]? = some (some y))
    (hd : ∀ D G kvs, Same H G → H D = none → G D = some (.dT kvs) → Q (.ref D) G) : yDc (.dT []) (iEnum K ta) (gTup K 2 (gCons (gName i) (gCons (gName j) gNil))) tYes (xV j) (xV i) vs σ H Q := by
  refine h0 _ ?_
  refine ⟨a, _, rfl, SqL.of ha, fun D hD => ?_⟩
  have aD : a ≠ D := ne_of_none ha hD
  refine ⟨fun n m G => m = zs.length - n ∧ n ≤ zs.length ∧ Keep D H G ∧ ∃ kvs, G D = some (.dT kvs) ∧ kvs.length ≤ n, ⟨_, rfl, Nat.zero_le _, fun b o n e => (upd_ne n).trans e, [], upd_same, Nat.le_refl _⟩, ?_⟩
  rintro n m G ⟨rfl, le, kG, kvs, dG, lk⟩
  have sq : SqL K G a (zs.map fun z => V.ref z.1) := SqL.of (kG _ _ aD ha)
  by_cases lt : n < zs.length
  · have gz : zs[n]? = some zs[n] := List.getElem?_eq_getElem lt
    have gx : (zs.map fun z => V.ref z.1)[n]? = some (V.ref zs[n].1) := by rw [List.getElem?_map, gz]; rfl
    refine .inr ⟨⟨_, _, sq, gx⟩, fun G' => n + 1 ≤ zs.length ∧ Keep D H G' ∧ ∃ kvs, G' D = some (.dT kvs) ∧ kvs.length ≤ n + 1, fun G' w => ⟨_, by omega, rfl, w⟩, fun x G' y => ?_⟩
    obtain ⟨T, x, rfl, hT, rfl, y⟩ := y
    have ex : x = V.ref zs[n].1 := Option.some.inj ((y _ sq).symm.trans gx)
    subst ex
    have zm : zs[n] ∈ zs := List.mem_of_getElem? gz
    have e1 := kG _ _ (ne_of_none (hz _ zm) hD) (hz _ zm)
    refine ⟨T, _, rfl, SqT.of upd_same, rfl, _, _, rfl, _, _, rfl, rfl, hw _ _, ?_⟩
    simp only [tYes, ↓reduceIte]
    have vi : ∀ R : VK, ∀ Hx, R (V.int (n : Nat)) Hx → xV i (((wipe σ vs).set i (some (.int (n : Nat)))).set j (some (.ref zs[n].1))) Hx R := fun R Hx r => by unfold xV; rw [hx]; exact r
    have vj : ∀ R : VK, ∀ Hx, R (V.ref zs[n].1) Hx → xV j (((wipe σ vs).set i (some (.int (n : Nat)))).set j (some (.ref zs[n].1))) Hx R := fun R Hx r => by unfold xV; rw [hy]; exact r
    have TD : T ≠ D := fun e => by rw [e, dG] at hT; cases hT
    have key : upd G T (.tup [.int (n : Nat), .ref zs[n].1]) zs[n].1 = some (.tup (([Sum.inr (S zs[n].2.1), Sum.inr (S zs[n].2.2)] : List L2.Key).map kV)) := (upd_ne (ne_of_none e1 hT)).trans e1
    have dk : upd G T (.tup [.int (n : Nat), .ref zs[n].1]) D = some (.dT kvs) := (upd_ne TD.symm).trans dG
    refine vj _ _ ?_
    refine vi _ _ ?_
    refine ⟨_, DPut.t dk key (by rw [sl_big]; omega), lt, fun b o nb e => (upd_ne nb).trans ((upd_ne (ne_of_none (kG _ _ nb e) hT)).trans (kG _ _ nb e)), _, upd_same, Nat.le_trans (length_putK _ _ _) (Nat.succ_le_succ lk)⟩
  · have e : n = zs.length := by omega
    subst e
    exact .inl ⟨⟨_, sq, by rw [List.length_map]; exact Nat.le_refl _⟩, hd D G kvs (fun b o e => kG b o (ne_of_none e hD) e) hD dG⟩
theorem Rv.src_at {R : Rv} (nd : R.un.Nodup) {u : Tx × Tx} (h : u ∈ R.U) : R.src u.1 = u.2 := by
  unfold Rv.src
  unfold Rv.un at nd
  generalize R.U = U at nd h ⊢
  induction U with
  | nil => cases h
  | cons y r ih =>
    rw [List.map_cons] at nd
    obtain ⟨n1, n2⟩ := List.nodup_cons.mp nd
    rw [List.find?_cons]
    rcases List.mem_cons.mp h with e | h
    · subst e; simp
    · have : decide (y.1 = u.1) = false := decide_eq_false fun e => n1 (e ▸ List.mem_map.mpr ⟨u, h, rfl⟩)
      rw [this]
      exact ih n2 h
theorem pth_len (ws : List Row) : ∀ (n : Nat) (a : Option Tx), (pth ws n a).length ≤ n
  | 0, _ => Nat.le_refl _
  | n + 1, none => Nat.zero_le _
  | n + 1, some t => Nat.succ_le_succ (pth_len ws n _)
/-- what the river at x holds in lists was not there in H0 -/
def RivN (H0 H : Hp) (x : Addr) : Prop := ∃ C dx a1 a2 a3 a4 a5 a6 a7 a8 a9 k5 k7, H x = some (.ins C dx (fl [a1, a2, a3, a4, a5, a6, a7, a8, a9])) ∧ H0 a1 = none ∧ H0 a2 = none ∧ H0 a8 = none ∧ H a5 = some (.dK k5) ∧ (∀ p ∈ k5, ∀ b, p.2 = .ref b → H0 b = none) ∧ H a7 = some (.dK k7) ∧ ∀ p ∈ k7, ∀ b, p.2 = .ref b → H0 b = none
theorem find_row {ws : List Row} {t : Tx} (h : t ∈ ws.map (·.t)) : ∃ w ∈ ws, w.t = t := let ⟨w, a, b⟩ := List.mem_map.mp h; ⟨w, a, b⟩
theorem src_val {R : Rv} (nd : R.un.Nodup) {u : Tx} (h : u ∈ R.un) : valV (srcD R.U) (Sum.inr (S u)) = some (.str (S (R.src u))) := by
  obtain ⟨x, hx, rfl⟩ := List.mem_map.mp h
  rw [R.src_at nd hx]
  exact val_map nd hx
theorem RivO.same {K : PySem.W.Frag} {H H' : Hp} {x : Addr} {R : Rv} (h : RivO K H x R) (s : Same H H') : RivO K H' x R := by
  obtain ⟨dx, a1, a2, a3, a4, a5, a6, a7, a8, a9, h0, h1, h2, h3, h4, ⟨zl, e5, h5, l5⟩, h6, ⟨zp, e7, h7, l7⟩, ⟨zq, e8, h8, l8⟩, ⟨kvs, h9⟩⟩ := h
  exact ⟨dx, a1, a2, a3, a4, a5, a6, a7, a8, a9, s _ _ h0, s _ _ h1, s _ _ h2, s _ _ h3, s _ _ h4, ⟨zl, e5, s _ _ h5, fun z m => s _ _ (l5 z m)⟩, s _ _ h6, ⟨zp, e7, s _ _ h7, fun z m => s _ _ (l7 z m)⟩, ⟨zq, e8, s _ _ h8, fun z m => (l8 z m).same s⟩, ⟨kvs, s _ _ h9⟩⟩
theorem scal_ov (a : Option Tx) (t : Tx) {K : PySem.W.Frag} {H : Hp} {Q : VK} (q : Q (.bl (decide (a = some t))) H) : mEq K (ov a) (.str (S t)) H Q := by
  cases a with
  | none =>
    refine ⟨rfl, ?_⟩
    rw [show decide (ov none = V.str (S t)) = decide ((none : Option Tx) = some t) from (decide_eq_false fun h => by cases h).trans (decide_eq_false fun h => by cases h).symm]
    exact q
  | some u =>
    show Q (.bl (decide (S u = S t))) H
    rw [S_dec]
    rw [show decide (u = t) = decide (some u = some t) by simp]
    exact q
/-- a row, its liking a list -/
def RowL (H : Hp) (p : Addr) (w : Row) : Prop := ∃ q, H p = some (.tup [.str (S w.t), ov w.a, .int (w.r : Nat), .ref q]) ∧ H q = some (.lst (sv w.l))
theorem RowL.same {H H' : Hp} {p : Addr} {w : Row} (h : RowL H p w) (s : Same H H') : RowL H' p w := let ⟨q, a, b⟩ := h; ⟨q, s _ _ a, s _ _ b⟩
/-- a list of such objects -/
def ObjL {α : Type} (P : Hp → Addr → α → Prop) (H : Hp) (p : Addr) (ws : List α) : Prop := ∃ zs : List (Addr × α), zs.map (·.2) = ws ∧ H p = some (.lst (zs.map fun z => V.ref z.1)) ∧ ∀ z ∈ zs, P H z.1 z.2
def Rv.row (R : Rv) (t : Tx) : Row := (R.T.find? fun w => decide (w.t = t)).getD ⟨[], none, 0, []⟩
theorem Rv.row_at {R : Rv} (nd : R.tn.Nodup) {w : Row} (h : w ∈ R.T) : R.row w.t = w := by
  unfold Rv.row
  unfold Rv.tn at nd
  generalize R.T = U at nd h ⊢
  induction U with
  | nil => cases h
  | cons y r ih =>
    rw [List.map_cons] at nd
    obtain ⟨n1, n2⟩ := List.nodup_cons.mp nd
    rw [List.find?_cons]
    rcases List.mem_cons.mp h with e | h
    · subst e; simp
    · have : decide (y.t = w.t) = false := decide_eq_false fun e => n1 (e ▸ List.mem_map.mpr ⟨w, h, rfl⟩)
      rw [this]
      exact ih n2 h
theorem len_sub {α : Type} [DecidableEq α] : ∀ {l m : List α}, l.Nodup → (∀ x ∈ l, x ∈ m) → l.length ≤ m.length
  | [], _, _, _ => Nat.zero_le _
  | a :: r, m, nd, h => by
    obtain ⟨n1, n2⟩ := List.nodup_cons.mp nd
    have am := h a List.mem_cons_self
    have := len_sub (l := r) (m := m.erase a) n2 fun x hx => (List.mem_erase_of_ne fun (e : x = a) => n1 (e ▸ hx)).mpr (h x (List.mem_cons_of_mem _ hx))
    rw [List.length_erase_of_mem am] at this
    have := List.length_pos_of_mem am
    rw [List.length_cons]
    omega
theorem max_rk (rk : Tx → Nat) : ∀ {l : List Tx}, l ≠ [] → ∃ t ∈ l, ∀ u ∈ l, rk u ≤ rk t
  | [], h => absurd rfl h
  | [a], _ => ⟨a, List.mem_cons_self, fun u hu => by rw [List.mem_singleton.mp hu]; exact Nat.le_refl _⟩
  | a :: b :: r, _ => by
    obtain ⟨t, tm, ht⟩ := max_rk rk (l := b :: r) (by simp)
    by_cases e : rk a ≤ rk t
    · exact ⟨t, List.mem_cons_of_mem _ tm, fun u hu => (List.mem_cons.mp hu).elim (fun z => z ▸ e) (ht u)⟩
    · exact ⟨a, List.mem_cons_self, fun u hu => (List.mem_cons.mp hu).elim (fun z => z ▸ Nat.le_refl _) fun z => by have := ht u z; omega⟩
def Rv.fd (R : Rv) (t : Tx) : List Tx := (tsort R.tn).filter fun n => decide (nxt R.T n = some t)
def Rv.lft (R : Rv) (o : List Tx) : List Tx := (tsort R.tn).filter fun t => decide (t ∉ o)
def Rv.ok1 (R : Rv) (o : List Tx) (t : Tx) : Bool := ((R.fd t).map fun f => decide (f ∈ o)).all id
def Rv.rdy (R : Rv) (o : List Tx) : List Tx := (R.lft o).filter (R.ok1 o)
def Rv.pick (R : Rv) (o : List Tx) : Tx := (R.rdy o).headD []
def Rv.upo (R : Rv) : Nat → List Tx
  | 0 => []
  | n + 1 => R.upo n ++ [R.pick (R.upo n)]
def Rv.order (R : Rv) : List Tx := R.upo R.T.length
theorem Rv.mem_fd {R : Rv} {t f : Tx} : f ∈ R.fd t ↔ f ∈ R.tn ∧ nxt R.T f = some t := by
  unfold Rv.fd
  rw [List.mem_filter, tsort_mem, decide_eq_true_iff]
theorem Rv.mem_lft {R : Rv} {o : List Tx} {t : Tx} : t ∈ R.lft o ↔ t ∈ R.tn ∧ t ∉ o := by
  unfold Rv.lft
  rw [List.mem_filter, tsort_mem, decide_eq_true_iff]
theorem Rv.ok1_iff {R : Rv} {o : List Tx} {t : Tx} : R.ok1 o t = true ↔ ∀ f ∈ R.fd t, f ∈ o := by
  unfold Rv.ok1
  rw [List.all_eq_true]
  constructor
  · intro h f hf
    exact of_decide_eq_true (h _ (List.mem_map.mpr ⟨f, hf, rfl⟩))
  · intro h b hb
    obtain ⟨f, hf, rfl⟩ := List.mem_map.mp hb
    exact decide_eq_true (h f hf)
structure Rv.Pt (R : Rv) (o : List Tx) : Prop where
  nd : o.Nodup
  sub : ∀ t ∈ o, t ∈ R.tn
  up : ∀ t ∈ o, ∀ f ∈ R.fd t, f ∈ o
theorem Rv.rdy_ne {R : Rv} {rk : Tx → Nat} (k : R.Ok rk) {o : List Tx} (p : R.Pt o) (lt : o.length < R.T.length) : R.rdy o ≠ [] := by
  have ne : R.lft o ≠ [] := fun e => by
    have : R.tn.length ≤ o.length := len_sub k.tnd fun x hx => Decidable.byContradiction fun n => by
      have : x ∈ R.lft o := Rv.mem_lft.mpr ⟨hx, n⟩
      rw [e] at this; cases this
    rw [show R.tn.length = R.T.length from List.length_map _] at this
    omega
  obtain ⟨t, tm, ht⟩ := max_rk rk ne
  have : t ∈ R.rdy o := List.mem_filter.mpr ⟨tm, Rv.ok1_iff.mpr fun f hf => Decidable.byContradiction fun n => by
    obtain ⟨f1, f2⟩ := Rv.mem_fd.mp hf
    have l1 := ht f (Rv.mem_lft.mpr ⟨f1, n⟩)
    have l2 := (k.down.next f1 f2).2
    omega⟩
  exact fun e => by rw [e] at this; cases this
theorem head_mem {l : List Tx} (h : l ≠ []) : l.headD [] ∈ l := by
  cases l with
  | nil => exact absurd rfl h
  | cons a r => exact List.mem_cons_self
theorem Rv.pick_at {R : Rv} {rk : Tx → Nat} (k : R.Ok rk) {o : List Tx} (p : R.Pt o) (lt : o.length < R.T.length) : R.pick o ∈ R.tn ∧ R.pick o ∉ o ∧ ∀ f ∈ R.fd (R.pick o), f ∈ o := by
  obtain ⟨h1, h2⟩ := List.mem_filter.mp (head_mem (Rv.rdy_ne k p lt))
  obtain ⟨h3, h4⟩ := Rv.mem_lft.mp h1
  exact ⟨h3, h4, Rv.ok1_iff.mp h2⟩
theorem Rv.upo_len (R : Rv) : ∀ n, (R.upo n).length = n
  | 0 => rfl
  | n + 1 => by show (R.upo n ++ [_]).length = _; rw [List.length_append, R.upo_len n]; rfl
theorem Rv.upo_pt {R : Rv} {rk : Tx → Nat} (k : R.Ok rk) : ∀ n, n ≤ R.T.length → R.Pt (R.upo n)
  | 0, _ => ⟨List.nodup_nil, fun t h => (by cases h), fun t h => (by cases h)⟩
  | n + 1, le => by
    have p := Rv.upo_pt k n (by omega)
    obtain ⟨h1, h2, h3⟩ := Rv.pick_at k p (by rw [R.upo_len]; omega)
    refine ⟨?_, fun t ht => ?_, fun t ht f hf => ?_⟩
    · show (R.upo n ++ [_]).Nodup
      rw [List.nodup_append]
      refine ⟨p.nd, by simp, fun a ha b hb e => ?_⟩
      rw [List.mem_singleton.mp hb] at e
      exact h2 (e ▸ ha)
    · rcases List.mem_append.mp ht with ht | ht
      · exact p.sub t ht
      · rw [List.mem_singleton.mp ht]; exact h1
    · refine List.mem_append.mpr (.inl ?_)
      rcases List.mem_append.mp ht with ht | ht
      · exact p.up t ht f hf
      · rw [List.mem_singleton.mp ht] at hf; exact h3 f hf
theorem Rv.order_all {R : Rv} {rk : Tx → Nat} (k : R.Ok rk) {t : Tx} (h : t ∈ R.tn) : t ∈ R.order := Decidable.byContradiction fun n => by
  have p := Rv.upo_pt k R.T.length (Nat.le_refl _)
  have := len_sub (l := t :: R.order) (m := R.tn) (List.nodup_cons.mpr ⟨n, p.nd⟩) fun x hx => (List.mem_cons.mp hx).elim (fun e => e ▸ h) (p.sub x)
  rw [List.length_cons, show R.order.length = _ from R.upo_len _, show R.tn.length = R.T.length from List.length_map _] at this
  omega
theorem Rv.lft_step (R : Rv) (n : Nat) : R.lft (R.upo (n + 1)) = (R.lft (R.upo n)).filter fun t => !decide (t = R.pick (R.upo n)) := by
  unfold Rv.lft
  rw [List.filter_filter]
  refine List.filter_congr fun t _ => ?_
  show decide (t ∉ R.upo n ++ [R.pick (R.upo n)]) = _
  rw [Bool.eq_iff_iff]
  simp [List.mem_append, and_comm]
theorem Rv.lft0 (R : Rv) : R.lft [] = tsort R.tn := List.filter_eq_self.mpr fun t _ => by simp
theorem Rv.lft_len {R : Rv} {n : Nat} : (R.lft (R.upo n)).length ≤ R.T.length := by
  refine Nat.le_trans (List.length_filter_le _ _) ?_
  rw [tsort_len]
  exact Nat.le_of_eq (List.length_map _)
theorem Rv.lft_end {R : Rv} {rk : Tx → Nat} (k : R.Ok rk) {n : Nat} (le : n ≤ R.T.length) (h : R.lft (R.upo n) = []) : n = R.T.length := by
  have : R.tn.length ≤ (R.upo n).length := len_sub k.tnd fun x hx => Decidable.byContradiction fun m => by
    have : x ∈ R.lft (R.upo n) := Rv.mem_lft.mpr ⟨hx, m⟩
    rw [h] at this; cases this
  rw [R.upo_len, show R.tn.length = R.T.length from List.length_map _] at this
  omega
/-! ### what comes, lands, stays, floats on -/
def Rv.spr (R : Rv) (t : Tx) : List Tx := (tsort R.un).filter fun u => decide (R.src u = t)
def Rv.com (R : Rv) (f : Tx → List Tx) (t : Tx) : List Tx := R.spr t ++ (R.fd t).flatMap f
def Rv.lnd (R : Rv) (f : Tx → List Tx) (t : Tx) : List Tx := (R.row t).l.filter fun u => decide (u ∈ R.com f t)
def Rv.stp (R : Rv) (f : Tx → List Tx) (t : Tx) : Tx → List Tx := fun s => if s = t then (R.lnd f t).drop (R.row t).r else f s
def Rv.flo (R : Rv) : Nat → Tx → List Tx
  | 0 => fun _ => []
  | n + 1 => R.stp (R.flo n) (R.pick (R.upo n))
/-- the things counted: kept, or out into the sea -/
def Rv.out (R : Rv) (n : Nat) : List Tx := (R.lnd (R.flo n) (R.pick (R.upo n))).take (R.row (R.pick (R.upo n))).r ++ (if nxt R.T (R.pick (R.upo n)) = none then (R.lnd (R.flo n) (R.pick (R.upo n))).drop (R.row (R.pick (R.upo n))).r else [])
def Rv.fnd (R : Rv) : Nat → List Tx
  | 0 => []
  | n + 1 => R.fnd n ++ R.out n
structure Rv.St (R : Rv) (P : List Tx) (f : Tx → List Tx) (F : List Tx) : Prop where
  nd : ∀ t ∈ P, (f t).Nodup
  sub : ∀ t ∈ P, ∀ u ∈ f t, u ∈ R.un
  fn : F.Nodup
  fs : ∀ u ∈ F, u ∈ R.un
  one : ∀ u ∈ R.un, (R.src u ∉ P ∧ u ∉ F ∧ ∀ t ∈ P, u ∉ f t) ∨
    (R.src u ∈ P ∧ u ∉ F ∧ ∃ t ∈ P, ∃ s, nxt R.T t = some s ∧ s ∉ P ∧ u ∈ f t ∧ ∀ t' ∈ P, u ∈ f t' → t' = t ∨ ∀ s, nxt R.T t' = some s → s ∈ P) ∨
    (R.src u ∈ P ∧ u ∈ F ∧ ∀ t ∈ P, u ∈ f t → ∀ s, nxt R.T t = some s → s ∈ P)
section
variable {R : Rv} {rk : Tx → Nat} {P : List Tx} {f : Tx → List Tx} {F : List Tx} {t : Tx}
theorem Rv.mem_spr {u : Tx} : u ∈ R.spr t ↔ u ∈ R.un ∧ R.src u = t := by
  unfold Rv.spr
  rw [List.mem_filter, tsort_mem, decide_eq_true_iff]
theorem Rv.mem_com {u : Tx} : u ∈ R.com f t ↔ (u ∈ R.un ∧ R.src u = t) ∨ ∃ a ∈ R.fd t, u ∈ f a := by
  unfold Rv.com
  rw [List.mem_append, Rv.mem_spr, List.mem_flatMap]
theorem Rv.com_sub (st : R.St P f F) (fin : ∀ a ∈ R.fd t, a ∈ P) : ∀ u ∈ R.com f t, u ∈ R.un := fun u hu => by
  rcases Rv.mem_com.mp hu with ⟨h, _⟩ | ⟨a, ha, hu⟩
  · exact h
  · exact st.sub a (fin a ha) u hu
theorem Rv.com_nd (k : R.Ok rk) (st : R.St P f F) (fin : ∀ a ∈ R.fd t, a ∈ P) (tP : t ∉ P) : (R.com f t).Nodup := by
  unfold Rv.com
  have fn : (R.fd t).Nodup := (tsort_nd k.tnd).sublist List.filter_sublist
  rw [List.nodup_append]
  refine ⟨(tsort_nd k.und).sublist List.filter_sublist, ?_, fun a ha b hb e => ?_⟩
  · unfold List.Nodup
    rw [List.pairwise_flatMap]
    refine ⟨fun a ha => st.nd a (fin a ha), fn.imp_of_mem fun {a b} ha hb ne x hx y hy e => ?_⟩
    subst e
    have xu := st.sub a (fin a ha) x hx
    have na := (Rv.mem_fd.mp ha).2
    have nb := (Rv.mem_fd.mp hb).2
    rcases st.one x xu with ⟨_, _, h⟩ | ⟨_, _, t0, _, s, _, _, _, h⟩ | ⟨_, _, h⟩
    · exact h a (fin a ha) hx
    · have e1 := (h a (fin a ha) hx).resolve_right fun z => tP (z t na)
      have e2 := (h b (fin b hb) hy).resolve_right fun z => tP (z t nb)
      exact ne (e1.trans e2.symm)
    · exact tP (h a (fin a ha) hx t na)
  · subst e
    obtain ⟨au, as⟩ := Rv.mem_spr.mp ha
    obtain ⟨c, hc, ac⟩ := List.mem_flatMap.mp hb
    have nc := (Rv.mem_fd.mp hc).2
    rcases st.one a au with ⟨_, _, h⟩ | ⟨h, _⟩ | ⟨h, _⟩
    · exact h c (fin c hc) ac
    · exact tP (as ▸ h)
    · exact tP (as ▸ h)
theorem Rv.lk_row (k : R.Ok rk) (h : t ∈ R.tn) : (R.row t).l.Perm R.un ∧ (R.row t).r ≤ 99 ∧ nxt R.T t = (R.row t).a := by
  obtain ⟨w, hw, rfl⟩ := find_row h
  rw [R.row_at k.tnd hw]
  exact ⟨k.lk w hw, k.rm w hw, nxt_at k.tnd hw⟩
theorem Rv.mem_lnd (k : R.Ok rk) (h : t ∈ R.tn) (st : R.St P f F) (fin : ∀ a ∈ R.fd t, a ∈ P) {u : Tx} : u ∈ R.lnd f t ↔ u ∈ R.com f t := by
  unfold Rv.lnd
  rw [List.mem_filter, decide_eq_true_iff]
  exact ⟨fun h => h.2, fun hu => ⟨(Rv.lk_row k h).1.mem_iff.mpr (Rv.com_sub st fin u hu), hu⟩⟩
theorem Rv.lnd_nd (k : R.Ok rk) (h : t ∈ R.tn) : (R.lnd f t).Nodup := ((Rv.lk_row k h).1.nodup_iff.mpr k.und).sublist List.filter_sublist
theorem split_nd {l : List Tx} (h : l.Nodup) {n : Nat} {u : Tx} (a : u ∈ l.take n) (b : u ∈ l.drop n) : False := by
  have e := h
  rw [← List.take_append_drop n l, List.nodup_append] at e
  exact e.2.2 u a u b rfl
theorem Rv.St.next (k : R.Ok rk) (p : R.Pt P) (st : R.St P f F) (tt : t ∈ R.tn) (tP : t ∉ P) (fin : ∀ a ∈ R.fd t, a ∈ P) :
    R.St (P ++ [t]) (R.stp f t) (F ++ ((R.lnd f t).take (R.row t).r ++ (if nxt R.T t = none then (R.lnd f t).drop (R.row t).r else []))) := by
  have lm := fun {u : Tx} => Rv.mem_lnd (u := u) k tt st fin
  have ln := Rv.lnd_nd (f := f) k tt
  have cs := Rv.com_sub st fin
  have old : ∀ s ∈ P, R.stp f t s = f s := fun s hs => if_neg fun (e : s = t) => tP (e ▸ hs)
  have new : R.stp f t t = (R.lnd f t).drop (R.row t).r := if_pos rfl
  have cF : ∀ u ∈ R.com f t, u ∉ F := fun u hu hF => by
    rcases st.one u (cs u hu) with ⟨_, h, _⟩ | ⟨_, h, _⟩ | ⟨h1, _, h⟩
    · exact h hF
    · exact h hF
    · rcases Rv.mem_com.mp hu with ⟨_, e⟩ | ⟨a, ha, ua⟩
      · exact tP (e ▸ h1)
      · exact tP (h a (fin a ha) ua t (Rv.mem_fd.mp ha).2)
  have oc : ∀ u ∈ (R.lnd f t).take (R.row t).r ++ (if nxt R.T t = none then (R.lnd f t).drop (R.row t).r else []), u ∈ R.com f t := fun u hu => by
    refine lm.mp ?_
    rcases List.mem_append.mp hu with hu | hu
    · exact List.mem_of_mem_take hu
    · split at hu
      · exact List.mem_of_mem_drop hu
      · cases hu
  refine ⟨fun s hs => ?_, fun s hs u hu => ?_, ?_, fun u hu => ?_, fun u hu => ?_⟩
  · rcases List.mem_append.mp hs with hs | hs
    · rw [old s hs]; exact st.nd s hs
    · rw [List.mem_singleton.mp hs, new]; exact ln.sublist (List.drop_sublist _ _)
  · rcases List.mem_append.mp hs with hs | hs
    · rw [old s hs] at hu; exact st.sub s hs u hu
    · rw [List.mem_singleton.mp hs, new] at hu; exact cs u (lm.mp (List.mem_of_mem_drop hu))
  · rw [List.nodup_append]
    refine ⟨st.fn, ?_, fun a ha b hb e => cF b (oc b hb) (e ▸ ha)⟩
    split
    · rw [List.take_append_drop]; exact ln
    · rw [List.append_nil]; exact ln.sublist (List.take_sublist _ _)
  · rcases List.mem_append.mp hu with hu | hu
    · exact st.fs u hu
    · exact cs u (oc u hu)
  · by_cases uc : u ∈ R.com f t
    · -- it lands here
      have srcP : R.src u ∈ P ++ [t] := by
        rcases Rv.mem_com.mp uc with ⟨_, e⟩ | ⟨a, ha, ua⟩
        · exact List.mem_append.mpr (.inr (List.mem_singleton.mpr e))
        · rcases st.one u hu with ⟨_, _, h⟩ | ⟨h, _⟩ | ⟨h, _⟩
          · exact absurd ua (h a (fin a ha))
          · exact List.mem_append.mpr (.inl h)
          · exact List.mem_append.mpr (.inl h)
      have oth : ∀ t' ∈ P, u ∈ f t' → ∀ s, nxt R.T t' = some s → s ∈ P ++ [t] := fun t' h' ut s es => by
        rcases st.one u hu with ⟨_, _, h⟩ | ⟨h1, _, t0, h0, s0, es0, sP, ut0, h⟩ | ⟨h1, _, h⟩
        · exact absurd ut (h t' h')
        · rcases h t' h' ut with e | e
          · subst e
            refine List.mem_append.mpr (.inr (List.mem_singleton.mpr ?_))
            rcases Rv.mem_com.mp uc with ⟨_, e⟩ | ⟨a, ha, ua⟩
            · exact absurd (e ▸ h1) tP
            · have na := (Rv.mem_fd.mp ha).2
              rcases h a (fin a ha) ua with e | e
              · subst e; exact Option.some.inj (es.symm.trans na)
              · exact absurd (e t na) tP
          · exact List.mem_append.mpr (.inl (e s es))
        · exact List.mem_append.mpr (.inl (h t' h' ut s es))
      have ul := lm.mpr uc
      rw [← List.take_append_drop (R.row t).r (R.lnd f t)] at ul
      rcases List.mem_append.mp ul with ul | ul
      · refine .inr (.inr ⟨srcP, List.mem_append.mpr (.inr (List.mem_append.mpr (.inl ul))), fun s hs us => ?_⟩)
        rcases List.mem_append.mp hs with hs | hs
        · rw [old s hs] at us; exact oth s hs us
        · rw [List.mem_singleton.mp hs, new] at us
          exact (split_nd ln ul us).elim
      · cases e : nxt R.T t with
        | none =>
          refine .inr (.inr ⟨srcP, List.mem_append.mpr (.inr (List.mem_append.mpr (.inr (by rw [if_pos rfl]; exact ul)))), fun s hs us => ?_⟩)
          rcases List.mem_append.mp hs with hs | hs
          · rw [old s hs] at us; exact oth s hs us
          · rw [List.mem_singleton.mp hs, e]; exact fun s z => by cases z
        | some v =>
          have vt : v ∉ P ++ [t] := fun m => by
            have nv := k.down.next tt e
            rcases List.mem_append.mp m with m | m
            · exact tP (p.up v m t (Rv.mem_fd.mpr ⟨tt, e⟩))
            · rw [List.mem_singleton.mp m] at nv; exact Nat.lt_irrefl _ nv.2
          refine .inr (.inl ⟨srcP, fun m => ?_, t, List.mem_append.mpr (.inr List.mem_cons_self), v, e, vt, by rw [new]; exact ul, fun s hs us => ?_⟩)
          · rcases List.mem_append.mp m with m | m
            · exact cF u uc m
            · rw [if_neg (by simp), List.append_nil] at m
              exact split_nd ln m ul
          · rcases List.mem_append.mp hs with hs | hs
            · rw [old s hs] at us; exact .inr (oth s hs us)
            · exact .inl (List.mem_singleton.mp hs)
    · -- it does not
      have un : u ∉ R.stp f t t := by rw [new]; exact fun m => uc (lm.mp (List.mem_of_mem_drop m))
      have uo := fun m => uc (oc u m)
      have cF2 : ∀ {x : Prop}, u ∉ F → u ∉ F ++ ((R.lnd f t).take (R.row t).r ++ (if nxt R.T t = none then (R.lnd f t).drop (R.row t).r else [])) := fun h m => (List.mem_append.mp m).elim h uo
      rcases st.one u hu with ⟨h1, h2, h3⟩ | ⟨h1, h2, t0, h3, s, h4, h5, h6, h7⟩ | ⟨h1, h2, h3⟩
      · refine .inl ⟨fun m => ?_, cF2 (x := True) h2, fun s hs => ?_⟩
        · rcases List.mem_append.mp m with m | m
          · exact h1 m
          · exact uc (Rv.mem_com.mpr (.inl ⟨hu, List.mem_singleton.mp m⟩))
        · rcases List.mem_append.mp hs with hs | hs
          · rw [old s hs]; exact h3 s hs
          · rw [List.mem_singleton.mp hs]; exact un
      · refine .inr (.inl ⟨List.mem_append.mpr (.inl h1), cF2 (x := True) h2, t0, List.mem_append.mpr (.inl h3), s, h4, fun m => ?_, by rw [old t0 h3]; exact h6, fun t' ht ut => ?_⟩)
        · rcases List.mem_append.mp m with m | m
          · exact h5 m
          · exact uc (Rv.mem_com.mpr (.inr ⟨t0, Rv.mem_fd.mpr ⟨p.sub t0 h3, by rw [h4, List.mem_singleton.mp m]⟩, h6⟩))
        · rcases List.mem_append.mp ht with ht | ht
          · rw [old t' ht] at ut
            exact (h7 t' ht ut).imp id fun z s es => List.mem_append.mpr (.inl (z s es))
          · rw [List.mem_singleton.mp ht] at ut; exact absurd ut un
      · refine .inr (.inr ⟨List.mem_append.mpr (.inl h1), List.mem_append.mpr (.inl h2), fun s hs us => ?_⟩)
        rcases List.mem_append.mp hs with hs | hs
        · rw [old s hs] at us
          exact fun v ev => List.mem_append.mpr (.inl (h3 s hs us v ev))
        · rw [List.mem_singleton.mp hs] at us; exact absurd us un
end
theorem Rv.st_at {R : Rv} {rk : Tx → Nat} (k : R.Ok rk) : ∀ n, n ≤ R.T.length → R.St (R.upo n) (R.flo n) (R.fnd n)
  | 0, _ => ⟨fun t h => (by cases h), fun t h => (by cases h), List.nodup_nil, fun u h => (by cases h), fun u _ => .inl ⟨fun h => (by cases h), fun h => (by cases h), fun t h => (by cases h)⟩⟩
  | n + 1, le => by
    have p := Rv.upo_pt k n (by omega)
    obtain ⟨h1, h2, h3⟩ := Rv.pick_at k p (by rw [R.upo_len]; omega)
    exact Rv.St.next k p (Rv.st_at k n (by omega)) h1 h2 h3
theorem Rv.fnd_all {R : Rv} {rk : Tx → Nat} (k : R.Ok rk) : (R.fnd R.T.length).Perm R.un := by
  have st := Rv.st_at k R.T.length (Nat.le_refl _)
  refine (List.perm_ext_iff_of_nodup st.fn k.und).mpr fun u => ⟨st.fs u, fun hu => ?_⟩
  have su : R.src u ∈ R.tn := by
    obtain ⟨x, hx, rfl⟩ := List.mem_map.mp hu
    rw [R.src_at k.und hx]
    exact k.sp x hx
  rcases st.one u hu with ⟨h, _⟩ | ⟨_, _, t, ht, s, es, sP, _⟩ | ⟨_, h, _⟩
  · exact absurd (Rv.order_all k su) h
  · exact absurd (Rv.order_all k (k.down.next ((Rv.upo_pt k _ (Nat.le_refl _)).sub t ht) es).1) sP
  · exact h
abbrev Rr := Tx × List Tx × List Tx × List Tx
def Rv.rr (R : Rv) (n : Nat) : Rr := (R.pick (R.upo n), R.lnd (R.flo n) (R.pick (R.upo n)), (R.lnd (R.flo n) (R.pick (R.upo n))).take (R.row (R.pick (R.upo n))).r, (R.lnd (R.flo n) (R.pick (R.upo n))).drop (R.row (R.pick (R.upo n))).r)
def Rv.rrs (R : Rv) (n : Nat) : List Rr := (List.range n).map R.rr
theorem Rv.rrs_step (R : Rv) (n : Nat) : R.rrs (n + 1) = R.rrs n ++ [R.rr n] := by unfold Rv.rrs; rw [List.range_succ, List.map_append]; rfl
theorem Rv.rrs_names (R : Rv) : ∀ n, (R.rrs n).map (·.1) = R.upo n
  | 0 => rfl
  | n + 1 => by rw [R.rrs_step, List.map_append, R.rrs_names n]; rfl
theorem Rv.upo_get (R : Rv) : ∀ {n m : Nat}, m < n → (R.upo n)[m]? = some (R.pick (R.upo m))
  | 0, m, h => by omega
  | n + 1, m, h => by
    show (R.upo n ++ [_])[m]? = _
    by_cases e : m < n
    · rw [List.getElem?_append_left (by rw [R.upo_len]; exact e)]
      exact R.upo_get e
    · have : m = n := by omega
      subst this
      rw [List.getElem?_append_right (by rw [R.upo_len]; exact Nat.le_refl _), R.upo_len, Nat.sub_self]
      rfl
theorem Rv.flo_at {R : Rv} {rk : Tx → Nat} (k : R.Ok rk) : ∀ {n m : Nat}, m < n → n ≤ R.T.length → R.flo n (R.pick (R.upo m)) = (R.rr m).2.2.2
  | 0, m, h, _ => by omega
  | n + 1, m, h, le => by
    show R.stp (R.flo n) (R.pick (R.upo n)) (R.pick (R.upo m)) = _
    unfold Rv.stp
    by_cases e : m = n
    · subst e; rw [if_pos rfl]; rfl
    · have lt : m < n := by omega
      have ne : R.pick (R.upo m) ≠ R.pick (R.upo n) := fun z => by
        refine (Rv.pick_at k (Rv.upo_pt k n (by omega)) (by rw [R.upo_len]; omega)).2.1 ?_
        rw [← z]
        exact List.mem_of_getElem? (R.upo_get lt)
      rw [if_neg ne]
      exact Rv.flo_at k lt (by omega)
/-- a row of the answer, with its three lists -/
structure Tr where
  a : Addr
  p : Addr
  q : Addr
  s : Addr
  d : Rr
def Tr.ls (z : Tr) : List Addr := [z.p, z.q, z.s]
def TrO (H : Hp) (z : Tr) : Prop := H z.a = some (.tup [.str (S z.d.1), .ref z.p, .ref z.q, .ref z.s]) ∧ H z.p = some (.lst (sv z.d.2.1)) ∧ H z.q = some (.lst (sv z.d.2.2.1)) ∧ H z.s = some (.lst (sv z.d.2.2.2))
theorem TrO.same {H H' : Hp} {z : Tr} (h : TrO H z) (s : Same H H') : TrO H' z := ⟨s _ _ h.1, s _ _ h.2.1, s _ _ h.2.2.1, s _ _ h.2.2.2⟩
/-- the answer in whole: fresh, no list twice -/
structure Told (H0 H : Hp) (r : Addr) (zs : List Tr) : Prop where
  l : H r = some (.lst (zs.map fun z => V.ref z.a))
  o : ∀ z ∈ zs, TrO H z
  nd : (r :: zs.flatMap Tr.ls).Nodup
  fr : ∀ a ∈ zs.flatMap Tr.ls, H0 a = none
theorem mid_wd {st : List Nat} {a r c : Nat} (all : ∀ x ∈ st, lowD x = true) (hs : st = [] ∨ word st = true) (hr : 1 ≤ r) (hc : low c = true) : word (st.take a ++ rep r [c] ++ st.drop a) = true := by
  have w1 : word (rep r [c] ++ st.drop a) = true := by
    rw [rep_cons hr]
    show (low c && ((c :: (rep (r - 1) [c] ++ st.drop a)).all lowD)) = true
    rw [hc, Bool.true_and, List.all_eq_true]
    intro x hx
    rcases List.mem_cons.mp hx with e | hx
    · rw [e]; exact low_lowD hc
    rcases List.mem_append.mp hx with hx | hx
    · rw [rep_mem hx]; exact low_lowD hc
    · exact all x (List.mem_of_mem_drop hx)
  rw [List.append_assoc]
  by_cases ha : (st.take a) = []
  · rw [ha]; exact w1
  · rcases hs with rfl | w
    · simp at ha
    · refine word_app (word_take w ?_) (word_all w1)
      cases a with
      | zero => simp at ha
      | succ a => omega
def stems : List (List Nat) := [[], [], [113], [116, 111, 119, 110], [107, 101, 112, 116], [120, 48, 121, 49], [101, 97, 99, 104]]
theorem lit_q : Str.ofString "q" = S [113] := by decide +kernel
theorem lit_town : Str.ofString "town" = S [116, 111, 119, 110] := by decide +kernel
theorem lit_kept : Str.ofString "kept" = S [107, 101, 112, 116] := by decide +kernel
theorem lit_x0y1 : Str.ofString "x0y1" = S [120, 48, 121, 49] := by decide +kernel
theorem lit_each : Str.ofString "each" = S [101, 97, 99, 104] := by decide +kernel
theorem stem_len {st : List Nat} (h : st ∈ stems) : st.length ≤ 4 := by
  unfold stems at h
  simp only [List.mem_cons, List.not_mem_nil, or_false] at h
  rcases h with rfl | rfl | rfl | rfl | rfl | rfl | rfl <;> decide
theorem stem_nm {st : List Nat} (h : st ∈ stems) {a r c : Nat} (hr : 1 ≤ r) (h3 : r ≤ 3) (hc : low c = true) : IsNm (st.take a ++ rep r [c] ++ st.drop a) := by
  have ln : (st.take a ++ rep r [c] ++ st.drop a).length = st.length + r := by
    rw [List.length_append, List.length_append, rep_len, List.length_take, List.length_drop]
    simp
    omega
  have l4 := stem_len h
  have hw : (∀ x ∈ st, lowD x = true) ∧ (st = [] ∨ word st = true) ∧ (st = [] ∨ 113 ∈ st ∨ st.length = 4) := by
    unfold stems at h
    simp only [List.mem_cons, List.not_mem_nil, or_false] at h
    rcases h with rfl | rfl | rfl | rfl | rfl | rfl | rfl <;> decide
  obtain ⟨w1, w2, w3⟩ := hw
  refine ⟨mid_wd w1 w2 hr hc, by omega, fun e => ?_, fun e => ?_⟩
  · rcases w3 with rfl | w3 | w3
    · simp at e
      have h1 : (115 : Nat) = c := rep_mem (r := r) (by rw [e]; simp)
      have h2 : (101 : Nat) = c := rep_mem (r := r) (by rw [e]; simp)
      omega
    · have : (113 : Nat) ∈ (st.take a ++ rep r [c] ++ st.drop a) := by
        rw [← List.take_append_drop a st] at w3
        rcases List.mem_append.mp w3 with w3 | w3
        · exact List.mem_append.mpr (.inl (List.mem_append.mpr (.inl w3)))
        · exact List.mem_append.mpr (.inr w3)
      rw [e] at this
      simp at this
    · have := congrArg List.length e
      rw [ln] at this
      simp at this
      omega
  · rcases w3 with rfl | w3 | w3
    · simp at e
      have h1 : (105 : Nat) = c := rep_mem (r := r) (by rw [e]; simp)
      have h2 : (116 : Nat) = c := rep_mem (r := r) (by rw [e]; simp)
      omega
    · have : (113 : Nat) ∈ (st.take a ++ rep r [c] ++ st.drop a) := by
        rw [← List.take_append_drop a st] at w3
        rcases List.mem_append.mp w3 with w3 | w3
        · exact List.mem_append.mpr (.inl (List.mem_append.mpr (.inl w3)))
        · exact List.mem_append.mpr (.inr w3)
      rw [e] at this
      simp at this
    · have := congrArg List.length e
      rw [ln] at this
      simp at this
      omega
theorem perm_lift {α β : Type} {f : α → β} {l ys : List β} (h : l.Perm ys) : ∀ zs : List α, l = zs.map f → ∃ zs' : List α, zs'.Perm zs ∧ ys = zs'.map f := by
  induction h with
  | nil => exact fun zs e => ⟨zs, List.Perm.refl _, e⟩
  | cons x p ih =>
    intro zs e
    cases zs with
    | nil => cases e
    | cons z r =>
      rw [List.map_cons] at e
      injection e with e1 e2
      obtain ⟨r', p', e'⟩ := ih r e2
      exact ⟨z :: r', p'.cons z, by rw [List.map_cons, e1, e']⟩
  | swap x y l =>
    intro zs e
    cases zs with
    | nil => cases e
    | cons z r =>
      cases r with
      | nil => rw [List.map_cons] at e; injection e with e1 e2; cases e2
      | cons z2 r =>
        rw [List.map_cons, List.map_cons] at e
        injection e with e1 e2
        injection e2 with e2 e3
        exact ⟨z2 :: z :: r, List.Perm.swap z z2 r, by rw [List.map_cons, List.map_cons, e1, e2, e3]⟩
  | trans _ _ ih1 ih2 =>
    intro zs e
    obtain ⟨z1, p1, e1⟩ := ih1 zs e
    obtain ⟨z2, p2, e2⟩ := ih2 z1 e1
    exact ⟨z2, p2.trans p1, e2⟩
theorem at_last {α : Type} {xs : List α} {v : α} (h : xs[xs.length - 1]? = some v) : atI xs (-1) = some v := by
  have l := (List.getElem?_eq_some_iff.mp h).1
  unfold atI ixN
  rw [if_neg (by omega), if_pos (by omega), show ((-1 : Int) + (xs.length : Nat)).toNat = xs.length - 1 by omega]
  exact h
theorem ix_at {ts : List Tx} (nd : ts.Nodup) : ∀ {j : Nat} {t : Tx}, ts[j]? = some t → ts.idxOf t = j := by
  induction ts with
  | nil => intro j t h; simp at h
  | cons a r ih =>
    intro j t h
    obtain ⟨n1, n2⟩ := List.nodup_cons.mp nd
    rw [List.idxOf_cons]
    cases j with
    | zero =>
      have : a = t := Option.some.inj h
      rw [this]; simp
    | succ j =>
      have h : r[j]? = some t := h
      have : (a == t) = false := by simp; exact fun e => n1 (e ▸ List.mem_of_getElem? h)
      rw [this]
      simp only [cond_false, ih n2 h]
/-- rows, as they are made -/
structure Made (ts us : List Tx) (zs : List Row) : Prop where
  t : zs.map (·.t) = ts.take zs.length
  a : ∀ (k : Nat) (w : Row), zs[k]? = some w → ∀ u, w.a = some u → ∃ j, j < k ∧ ts[j]? = some u
  r : ∀ w ∈ zs, w.r ≤ 99
  l : ∀ w ∈ zs, w.l.Perm us
theorem Made.step {ts us : List Tx} {zs : List Row} {w : Row} (m : Made ts us zs) (lt : ts[zs.length]? = some w.t) (ha : ∀ u, w.a = some u → ∃ j, j < zs.length ∧ ts[j]? = some u) (hr : w.r ≤ 99) (hl : w.l.Perm us) : Made ts us (zs ++ [w]) := by
  refine ⟨?_, fun k v hk u e => ?_, fun v hv => ?_, fun v hv => ?_⟩
  · rw [List.map_append, m.t, List.length_append, show zs.length + [w].length = zs.length + 1 from rfl, take_succ_get lt]; rfl
  · by_cases lk : k < zs.length
    · rw [List.getElem?_append_left lk] at hk
      exact m.a k v hk u e
    · have hk2 := (List.getElem?_eq_some_iff.mp hk).1
      rw [List.length_append] at hk2
      have : k = zs.length := by have : [w].length = 1 := rfl; omega
      subst this
      rw [List.getElem?_append_right (Nat.le_refl _), Nat.sub_self] at hk
      have : w = v := Option.some.inj hk
      subst this
      exact ha u e
  · rcases List.mem_append.mp hv with hv | hv
    · exact m.r v hv
    · rw [List.mem_singleton.mp hv]; exact hr
  · rcases List.mem_append.mp hv with hv | hv
    · exact m.l v hv
    · rw [List.mem_singleton.mp hv]; exact hl
theorem Made.ok {ts us : List Tx} {zs T : List Row} {U : List (Tx × Tx)} (m : Made ts us zs) (len : zs.length = ts.length) (t0 : 1 ≤ ts.length) (t8 : ts.length ≤ 8) (u10 : us.length ≤ 10) (tn : ∀ t ∈ ts, IsNm t) (un : ∀ u ∈ us, IsNm u) (td : ts.Nodup) (ud : us.Nodup)
    (pT : T.Perm zs) (pU : (U.map (·.1)).Perm us) (sp : ∀ u ∈ U, u.2 ∈ ts) : (⟨T, U⟩ : Rv).Ok (fun t => ts.idxOf t) := by
  have ez : zs.map (·.t) = ts := by rw [m.t, len, List.take_length]
  have ptn : (T.map (·.t)).Perm ts := (pT.map _).trans (by rw [ez])
  have mt : ∀ {t}, t ∈ T.map (·.t) ↔ t ∈ ts := ptn.mem_iff
  have lT : T.length = ts.length := by rw [← List.length_map (·.t), ptn.length_eq]
  have lU : U.length = us.length := by rw [← List.length_map (·.1), pU.length_eq]
  have at_ : ∀ w ∈ T, ∃ k, zs[k]? = some w ∧ ts[k]? = some w.t := fun w hw => by
    obtain ⟨k, hk, e⟩ := List.mem_iff_getElem.mp (pT.mem_iff.mp hw)
    refine ⟨k, by rw [List.getElem?_eq_getElem hk, e], ?_⟩
    rw [← ez, List.getElem?_map, List.getElem?_eq_getElem hk, e]; rfl
  refine ⟨by show 1 ≤ T.length; omega, by show T.length ≤ 8; omega, by show U.length ≤ 10; omega, fun w hw => tn _ (mt.mp (List.mem_map.mpr ⟨w, hw, rfl⟩)), ptn.nodup_iff.mpr td, fun u hu => un _ (pU.mem_iff.mp (List.mem_map.mpr ⟨u, hu, rfl⟩)), pU.nodup_iff.mpr ud, fun w hw a ea => ?_, fun w hw => ?_, fun w hw => m.r w (pT.mem_iff.mp hw), fun w hw => (m.l w (pT.mem_iff.mp hw)).trans pU.symm, fun u hu => mt.mpr (sp u hu)⟩
  · obtain ⟨k, k1, k2⟩ := at_ w hw
    obtain ⟨j, j1, j2⟩ := m.a k w k1 a ea
    refine ⟨mt.mpr (List.mem_of_getElem? j2), ?_⟩
    show ts.idxOf a < ts.idxOf w.t
    rw [ix_at td j2, ix_at td k2]
    exact j1
  · obtain ⟨k, k1, k2⟩ := at_ w hw
    show ts.idxOf w.t < T.length
    rw [ix_at td k2, lT]
    exact (List.getElem?_eq_some_iff.mp k2).1
theorem nd_take {l : List Tx} (h : l.Nodup) (n : Nat) : (l.take n).Nodup := h.sublist (List.take_sublist _ _)
/-- [an item made of each] -/
theorem tLc_items {K : PySem.W.Frag} {te0 te : TE} {p : Addr} {j : Nat} {vs : List Nat} {σ : L2.St} {H : Hp} {Q : VK} {xs : List V} (P : Addr → Hp → V → V → Prop) (h0 : ∀ R : VK, R (.ref p) H → te0 σ H R) (hp : Lt H p xs) (big : xs.length ≤ 1000000) (hw : ∀ x : V, wipe ((wipe σ vs).set j (some x)) vs = wipe σ vs)
    (mono : ∀ D G G' x y, H D = none → Keep D G G' → P D G x y → P D G' x y)
    (he : ∀ (D : Addr) (G : Hp) (x : V), H D = none → Same H G → (∃ acc, G D = some (.lst acc)) → x ∈ xs → ∀ Q' : VK, (∀ y G', Same G G' → P D G' x y → Q' y G') → te ((wipe σ vs).set j (some x)) G Q')
    (hd : ∀ D G (ys : List V), Same H G → H D = none → xs.length = ys.length → G D = some (.lst ys) → (∀ (k : Nat) x y, xs[k]? = some x → ys[k]? = some y → P D G x y) → Q (.ref D) G) : tLc (iSeq K te0) (gName j) tYes te vs σ H Q := by
  refine tLc_lt h0 (fun D i G => ∃ ys : List V, ys.length = i ∧ Keep D H G ∧ G D = some (.lst ys) ∧ ∀ (k : Nat) x y, xs[k]? = some x → ys[k]? = some y → P D G x y) hp (fun D hD => ⟨[], rfl, fun b o n e => (upd_ne n).trans e, upd_same, fun k x y _ h => (by simp at h)⟩) (fun D i G hD e => ?_) (fun D i x G hD hx e => ?_) (fun D G hD e => ?_)
  · obtain ⟨ys, _, k, _⟩ := e
    rcases hp with e | e | ⟨o, e⟩ <;> rw [k _ _ (ne_of_none e hD) e, e]
  · obtain ⟨ys, ly, k, dG, hy⟩ := e
    have hil := (List.getElem?_eq_some_iff.mp hx).1
    refine ⟨hw _, ?_⟩
    simp only [tYes, ↓reduceIte]
    refine he D G x hD (fun b o e => k b o (ne_of_none e hD) e) ⟨_, dG⟩ (List.mem_of_getElem? hx) _ fun y G' s py => ⟨_, s _ _ dG, by rw [sl_big]; omega, ys ++ [y], by rw [List.length_append, ly]; rfl, fun b o n e => (upd_ne n).trans (s _ _ (k _ _ n e)), upd_same, fun m x' y' hm hm' => ?_⟩
    have kk : Keep D G' (upd G' D (.lst (ys ++ [y]))) := fun b o n e => (upd_ne n).trans e
    by_cases lm : m < ys.length
    · rw [List.getElem?_append_left lm] at hm'
      exact mono _ _ _ _ _ hD kk (mono _ _ _ _ _ hD (Same.keep s) (hy m x' y' hm hm'))
    · have hm2 := (List.getElem?_eq_some_iff.mp hm').1
      rw [List.length_append] at hm2
      have : m = ys.length := by have : [y].length = 1 := rfl; omega
      subst this
      rw [List.getElem?_append_right (Nat.le_refl _), Nat.sub_self] at hm'
      have e1 : y = y' := Option.some.inj hm'
      have e2 : x = x' := Option.some.inj (hx.symm.trans (ly ▸ hm))
      subst e1 e2
      exact mono _ _ _ _ _ hD kk py
  · obtain ⟨ys, ly, k, dG, hy⟩ := e
    exact hd D G ys (fun b o e => k b o (ne_of_none e hD) e) hD ly.symm dG hy
def plainV : V → Prop
  | .non => True
  | .int _ => True
  | .str _ => True
  | _ => False
/-- lists and tuples of such, down to a depth -/
def Tree (H : Hp) : Nat → V → Prop
  | n + 1, .ref a => (∃ xs, H a = some (.lst xs) ∧ xs.length ≤ 1000000 ∧ ∀ x ∈ xs, Tree H n x) ∨ ∃ xs, H a = some (.tup xs) ∧ xs.length ≤ 1000000 ∧ ∀ x ∈ xs, Tree H n x
  | 0, .ref _ => False
  | _, x => plainV x
theorem Tree.same {H G : Hp} (s : Same H G) : ∀ (n : Nat) (x : V), Tree H n x → Tree G n x := by
  intro n
  induction n with
  | zero => intro x h; cases x <;> exact h
  | succ n ih =>
    intro x h
    cases x with
    | ref a =>
      rcases h with ⟨xs, h1, h2, h3⟩ | ⟨xs, h1, h2, h3⟩
      · exact .inl ⟨xs, s _ _ h1, h2, fun x hx => ih x (h3 x hx)⟩
      · exact .inr ⟨xs, s _ _ h1, h2, fun x hx => ih x (h3 x hx)⟩
    | _ => exact h
/-- a copy: the same data, its objects of a kind -/
def Cp (F : Addr → Prop) (H G : Hp) : Nat → V → V → Prop
  | n + 1, .ref a, .ref b => F b ∧ ((∃ xs ys, H a = some (.lst xs) ∧ G b = some (.lst ys) ∧ xs.length = ys.length ∧ ∀ (k : Nat) x y, xs[k]? = some x → ys[k]? = some y → Cp F H G n x y) ∨
      ∃ xs ys, H a = some (.tup xs) ∧ G b = some (.tup ys) ∧ xs.length = ys.length ∧ ∀ (k : Nat) x y, xs[k]? = some x → ys[k]? = some y → Cp F H G n x y)
  | _, .ref _, _ => False
  | _, x, y => x = y
theorem Cp.conv {F : Addr → Prop} {H G G' : Hp} (s : Same H G) (f : ∀ b, G b = none → F b) : ∀ (n : Nat) (x y : V), Tree H n x → Cp (fun b => G b = none) G G' n x y → Cp F H G' n x y := by
  intro n
  induction n with
  | zero => intro x y t h; cases x <;> cases y <;> exact h
  | succ n ih =>
    intro x y t h
    cases x with
    | ref a =>
      cases y with
      | ref b =>
        refine ⟨f _ h.1, ?_⟩
        rcases h.2 with ⟨xs, ys, h1, h2, h3, h4⟩ | ⟨xs, ys, h1, h2, h3, h4⟩
        · rcases t with ⟨zs, t1, _, t3⟩ | ⟨zs, t1, _, t3⟩
          · have e := (s _ _ t1).symm.trans h1
            cases e
            exact .inl ⟨xs, ys, t1, h2, h3, fun k x y p q => ih x y (t3 x (List.mem_of_getElem? p)) (h4 k x y p q)⟩
          · have e := (s _ _ t1).symm.trans h1
            cases e
        · rcases t with ⟨zs, t1, _, t3⟩ | ⟨zs, t1, _, t3⟩
          · have e := (s _ _ t1).symm.trans h1
            cases e
          · have e := (s _ _ t1).symm.trans h1
            cases e
            exact .inr ⟨xs, ys, t1, h2, h3, fun k x y p q => ih x y (t3 x (List.mem_of_getElem? p)) (h4 k x y p q)⟩
      | _ => exact h.elim
    | _ => cases y <;> exact h
theorem Cp.keep {F : Addr → Prop} {H G G' : Hp} {D : Addr} (k : Keep D G G') (f : ∀ b, F b → b ≠ D) : ∀ (n : Nat) (x y : V), Cp F H G n x y → Cp F H G' n x y := by
  intro n
  induction n with
  | zero => intro x y h; cases x <;> cases y <;> exact h
  | succ n ih =>
    intro x y h
    cases x with
    | ref a =>
      cases y with
      | ref b =>
        refine ⟨h.1, ?_⟩
        rcases h.2 with ⟨xs, ys, h1, h2, h3, h4⟩ | ⟨xs, ys, h1, h2, h3, h4⟩
        · exact .inl ⟨xs, ys, h1, k _ _ (f _ h.1) h2, h3, fun k x y p q => ih x y (h4 k x y p q)⟩
        · exact .inr ⟨xs, ys, h1, k _ _ (f _ h.1) h2, h3, fun k x y p q => ih x y (h4 k x y p q)⟩
      | _ => exact h.elim
    | _ => cases y <;> exact h
theorem Cp.weak {F F' : Addr → Prop} {H G : Hp} (f : ∀ b, F b → F' b) : ∀ (n : Nat) (x y : V), Cp F H G n x y → Cp F' H G n x y := by
  intro n
  induction n with
  | zero => intro x y h; cases x <;> cases y <;> exact h
  | succ n ih =>
    intro x y h
    cases x with
    | ref a =>
      cases y with
      | ref b =>
        refine ⟨f _ h.1, ?_⟩
        rcases h.2 with ⟨xs, ys, h1, h2, h3, h4⟩ | ⟨xs, ys, h1, h2, h3, h4⟩
        · exact .inl ⟨xs, ys, h1, h2, h3, fun k x y p q => ih x y (h4 k x y p q)⟩
        · exact .inr ⟨xs, ys, h1, h2, h3, fun k x y p q => ih x y (h4 k x y p q)⟩
      | _ => exact h.elim
    | _ => cases y <;> exact h
theorem Cp.same {F : Addr → Prop} {H G G' : Hp} (s : Same G G') (n : Nat) (x y : V) (h : Cp F H G n x y) : Cp F H G' n x y := by
  induction n generalizing x y with
  | zero => cases x <;> cases y <;> exact h
  | succ n ih =>
    cases x with
    | ref a =>
      cases y with
      | ref b =>
        refine ⟨h.1, ?_⟩
        rcases h.2 with ⟨xs, ys, h1, h2, h3, h4⟩ | ⟨xs, ys, h1, h2, h3, h4⟩
        · exact .inl ⟨xs, ys, h1, s _ _ h2, h3, fun k x y p q => ih x y (h4 k x y p q)⟩
        · exact .inr ⟨xs, ys, h1, s _ _ h2, h3, fun k x y p q => ih x y (h4 k x y p q)⟩
      | _ => exact h.elim
    | _ => cases y <;> exact h
theorem rep_same {H G : Hp} (s : Same H G) : ∀ (n : Nat) (x y : V), Rep H n x y → Rep G n x y := by
  intro n
  induction n with
  | zero => intro x y h; cases x <;> cases y <;> exact h
  | succ n ih =>
    intro x y h
    cases x with
    | ref a =>
      cases y with
      | ref b =>
        rcases h with ⟨xs, ys, h1, h2, h3, h4, h5⟩ | ⟨xs, ys, h1, h2, h3, h4, h5⟩
        · exact .inl ⟨xs, ys, s _ _ h1, s _ _ h2, h3, h4, fun k x y p q => ih x y (h5 k x y p q)⟩
        · exact .inr ⟨xs, ys, s _ _ h1, s _ _ h2, h3, h4, fun k x y p q => ih x y (h5 k x y p q)⟩
      | _ => exact h.elim
    | _ => cases y <;> exact h
/-- all but some places stay -/
def KB (B : List Addr) (G G' : Hp) : Prop := ∀ b o, b ∉ B → G b = some o → G' b = some o
theorem KB.refl {B : List Addr} {G : Hp} : KB B G G := fun _ _ _ e => e
theorem KB.trans {B : List Addr} {G G' G'' : Hp} (a : KB B G G') (b : KB B G' G'') : KB B G G'' := fun x o n e => b x o n (a x o n e)
theorem KB.of {B : List Addr} {G G' : Hp} (s : Same G G') : KB B G G' := fun x o _ e => s x o e
theorem KB.put {B : List Addr} {G : Hp} {a : Addr} {o : HO} (h : a ∈ B) : KB B G (upd G a o) := fun x u n e => (upd_ne fun (z : x = a) => n (z ▸ h)).trans e
/-- the model of the rows -/
structure ModP (G : Hp) (R : Rv) (a1 a2 b1 b2 b3 b4 : Addr) : Prop where
  h1 : G a1 = some (.lst (sv (tsort R.tn)))
  h2 : G a2 = some (.lst (sv (tsort R.un)))
  h3 : G b1 = some (.dK (nxtD R.T))
  h4 : G b2 = some (.dK (rmD R.T))
  h5 : ∃ zs : List (Addr × Row), zs.map (·.2) = R.T ∧ G b3 = some (.dK (lkD zs)) ∧ ∀ z ∈ zs, G z.1 = some (.lst (sv z.2.l))
  h6 : G b4 = some (.dK (srcD R.U))
def ModO (G : Hp) (r : Addr) (R : Rv) : Prop := ∃ kvs a1 a2 b1 b2 b3 b4, G r = some (.dK kvs) ∧ valV kvs (Sum.inr (Str.ofString "towns")) = some (.ref a1) ∧ valV kvs (Sum.inr (Str.ofString "things")) = some (.ref a2) ∧ valV kvs (Sum.inr (Str.ofString "behind")) = some (.ref b1) ∧
  valV kvs (Sum.inr (Str.ofString "room")) = some (.ref b2) ∧ valV kvs (Sum.inr (Str.ofString "liking")) = some (.ref b3) ∧ valV kvs (Sum.inr (Str.ofString "spring")) = some (.ref b4) ∧ ModP G R a1 a2 b1 b2 b3 b4
theorem ModO.same {G G' : Hp} {r : Addr} {R : Rv} (h : ModO G r R) (s : Same G G') : ModO G' r R := by
  obtain ⟨kvs, a1, a2, b1, b2, b3, b4, e, v1, v2, v3, v4, v5, v6, ⟨h1, h2, h3, h4, ⟨zs, ez, h5, l5⟩, h6⟩⟩ := h
  exact ⟨kvs, a1, a2, b1, b2, b3, b4, s _ _ e, v1, v2, v3, v4, v5, v6, ⟨s _ _ h1, s _ _ h2, s _ _ h3, s _ _ h4, ⟨zs, ez, s _ _ h5, fun z m => s _ _ (l5 z m)⟩, s _ _ h6⟩⟩
theorem val_at {kvs : List (Key × V)} (nd : (kvs.map (·.1)).Nodup) {k : Key} {v : V} (h : (k, v) ∈ kvs) : valV kvs k = some v := by
  induction kvs with
  | nil => cases h
  | cons y r ih =>
    rw [List.map_cons] at nd
    obtain ⟨n1, n2⟩ := List.nodup_cons.mp nd
    unfold valV
    rw [List.find?_cons]
    rcases List.mem_cons.mp h with h | h
    · subst h; simp
    · have : decide (y.1 = k) = false := decide_eq_false fun z => n1 (z ▸ List.mem_map.mpr ⟨_, h, rfl⟩)
      rw [this]
      exact ih n2 h
theorem merge_all {kvs : List (Key × V)} : ∀ {acc : List (Key × V)}, ((acc ++ kvs).map (·.1)).Nodup → mergeK acc kvs = acc ++ kvs := by
  unfold mergeK
  induction kvs with
  | nil => intro acc _; simp
  | cons y r ih =>
    intro acc nd
    have nd2 : ((acc ++ [y] ++ r).map (·.1)).Nodup := by rw [List.append_assoc]; exact nd
    have no : valV acc y.1 = none := by
      unfold valV
      rw [Option.map_eq_none_iff, List.find?_eq_none]
      intro x hx z
      have z := of_decide_eq_true z
      rw [List.map_append, List.nodup_append] at nd
      exact nd.2.2 _ (List.mem_map.mpr ⟨x, hx, rfl⟩) _ (List.mem_map.mpr ⟨y, List.mem_cons_self, rfl⟩) z
    rw [List.foldl_cons, putK_new _ no, ih nd2, List.append_assoc]
    rfl
def mKeys : List Key := [Sum.inr (Str.ofString "towns"), Sum.inr (Str.ofString "things"), Sum.inr (Str.ofString "behind"), Sum.inr (Str.ofString "room"), Sum.inr (Str.ofString "liking"), Sum.inr (Str.ofString "spring"), Sum.inr (Str.ofString "path"), Sum.inr (Str.ofString "landings"), Sum.inr (Str.ofString "number")]
theorem mKeys_nd : mKeys.Nodup := by decide +kernel
theorem row_tup3 {H : Hp} {zs : List (Addr × Row)} (hz : ∀ z ∈ zs, RowO H z.1 z.2) : ∀ z ∈ zs, ∃ q, H z.1 = some (.tup [.str (S z.2.t), ov z.2.a, .int (z.2.r : Nat), .ref q]) ∧ Lt H q (sv z.2.l) := fun z m => hz z m
theorem inV_ov (t : Tx) (as : List (Option Tx)) : inV (.str (S t)) (as.map ov) = decide (some t ∈ as) := by
  unfold inV
  rw [List.any_map, Bool.eq_iff_iff, decide_eq_true_iff, List.any_eq_true]
  constructor
  · rintro ⟨a, h1, h2⟩
    cases a with
    | none => exact absurd (show (eqV .non (.str (S t))) = true from h2) (by simp [eqV])
    | some u =>
      have h2 : (eqV (.str (S u)) (.str (S t))) = true := h2
      have : S u = S t := by simpa [eqV] using h2
      rw [← S_inj this]; exact h1
  · intro h
    refine ⟨some t, h, ?_⟩
    show (eqV (.str (S t)) (.str (S t))) = true
    simp [eqV]
theorem ov_flat (as : List (Option Tx)) : (as.map ov).all L2.flatV = true := List.all_eq_true.mpr fun x hx => by
  obtain ⟨a, _, rfl⟩ := List.mem_map.mp hx
  cases a <;> rfl
theorem Rv.rdy_ff {R : Rv} {rk : Tx → Nat} (k : R.Ok rk) (o : List Tx) : (R.lft o).filter (fun t => !decide (some t ∈ (R.lft o).map (nxt R.T))) = R.rdy o := by
  unfold Rv.rdy
  refine List.filter_congr fun t ht => ?_
  rw [Bool.eq_iff_iff, Rv.ok1_iff]
  simp only [Bool.not_eq_true', decide_eq_false_iff_not, List.mem_map, not_exists, not_and]
  constructor
  · intro h f hf
    obtain ⟨f1, f2⟩ := Rv.mem_fd.mp hf
    exact Decidable.byContradiction fun n => h f (Rv.mem_lft.mpr ⟨f1, n⟩) f2
  · intro h f hf e
    obtain ⟨f1, f2⟩ := Rv.mem_lft.mp hf
    exact f2 (h f (Rv.mem_fd.mpr ⟨f1, e⟩))
theorem rep_sv {H : Hp} {n : Nat} {a b : Addr} {ts : List Tx} (ha : H a = some (.lst (sv ts))) (hb : H b = some (.lst (sv ts))) (few : ts.length ≤ 1000000) : Rep H (n + 1) (.ref a) (.ref b) :=
  .inl ⟨sv ts, sv ts, ha, hb, rfl, by rw [sv_len]; exact few, fun k x y p q => by
    have e := Option.some.inj (p.symm.trans q)
    subst e
    obtain ⟨t, _, rfl⟩ := sv_mem (List.mem_of_getElem? p)
    cases n <;> exact rfl⟩
theorem rep_tr {H : Hp} {z : Tr} {b p q s : Addr} (h : TrO H z) (hb : H b = some (.tup [.str (S z.d.1), .ref p, .ref q, .ref s])) (hp : H p = some (.lst (sv z.d.2.1))) (hq : H q = some (.lst (sv z.d.2.2.1))) (hs : H s = some (.lst (sv z.d.2.2.2)))
    (f1 : z.d.2.1.length ≤ 1000000) (f2 : z.d.2.2.1.length ≤ 1000000) (f3 : z.d.2.2.2.length ≤ 1000000) : Rep H 7 (.ref z.a) (.ref b) :=
  .inr ⟨_, _, h.1, hb, rfl, by show (4 : Nat) ≤ 1000000; decide, fun k x y gx gy => by
    match k with
    | 0 => cases gx; cases gy; exact rfl
    | 1 => cases gx; cases gy; exact rep_sv h.2.1 hp f1
    | 2 => cases gx; cases gy; exact rep_sv h.2.2.1 hq f2
    | 3 => cases gx; cases gy; exact rep_sv h.2.2.2 hs f3
    | k + 4 => cases gx⟩
/-- [a value of each] -/
theorem tLc_map {K : PySem.W.Frag} {te0 te : TE} {p : Addr} {j : Nat} {vs : List Nat} {σ : L2.St} {H : Hp} {Q : VK} {xs : List V} (f : V → V) (h0 : ∀ R : VK, R (.ref p) H → te0 σ H R) (hp : Lt H p xs) (big : xs.length ≤ 1000000) (hw : ∀ x : V, wipe ((wipe σ vs).set j (some x)) vs = wipe σ vs)
    (he : ∀ (D : Addr) (G : Hp) (x : V), H D = none → Same H G → x ∈ xs → ∀ Q' : VK, (∀ G', Same G G' → Q' (f x) G') → te ((wipe σ vs).set j (some x)) G Q')
    (hd : ∀ D G, Same H G → H D = none → G D = some (.lst (xs.map f)) → Q (.ref D) G) : tLc (iSeq K te0) (gName j) tYes te vs σ H Q := by
  refine tLc_items (xs := xs) (fun _ _ x y => y = f x) h0 hp big hw (fun _ _ _ _ _ _ _ h => h) (fun D G x hD s _ hx Q' go => he D G x hD s hx Q' fun G' s' => go _ G' s' rfl) (fun D G ys s hD ly dG hy => ?_)
  have ey : ys = xs.map f := by
    refine List.ext_getElem? fun j => ?_
    by_cases lj : j < xs.length
    · have lj' : j < ys.length := by omega
      rw [List.getElem?_map, List.getElem?_eq_getElem lj, List.getElem?_eq_getElem lj']
      exact congrArg some (hy j _ _ (List.getElem?_eq_getElem lj) (List.getElem?_eq_getElem lj'))
    · rw [List.getElem?_eq_none (by omega), List.getElem?_eq_none (by rw [List.length_map]; omega)]
  rw [ey] at dG
  exact hd D G s hD dG
def dI (is : List Int) : List PyData := is.map PyData.int
theorem dp_ints {K : PySem.W.Frag} {H : Hp} : ∀ is : List Int, DpAll K H (is.map V.int) (dI is)
  | [] => .nil
  | i :: r => .cons (.int _) (dp_ints r)
theorem shaped_dI (is : List Int) : SeqAt.shaped (.list (dI is)) = true := by
  have go : ∀ l : List Int, PyData.canLayAll0 (l.map PyData.int) = true ∧ PyData.depthAll (l.map PyData.int) ≤ 1 := by
    intro l
    induction l with
    | nil => exact ⟨by simp [PyData.canLayAll0], by simp [PyData.depthAll]⟩
    | cons t r ih =>
      refine ⟨?_, ?_⟩
      · rw [List.map_cons, PyData.canLayAll0, ih.1]
        simp [PyData.canLay0]
      · have := ih.2
        simp only [List.map_cons, PyData.depthAll, PyData.depth]
        omega
  unfold SeqAt.shaped dI
  have h := go is
  rw [Bool.and_eq_true, PyData.canLay0]
  refine ⟨h.1, decide_eq_true ?_⟩
  simp only [PyData.depth]
  omega
theorem eqv_dI (is : List Int) : PyData.eqv (.list (dI is)) (.list (dI is)) = true := by
  rw [PyData.eqv]
  induction is with
  | nil => simp [dI, PyData.eqvAll]
  | cons x r ih =>
    unfold dI at ih ⊢
    rw [List.map_cons, PyData.eqvAll, ih, PyData.eqv]
    simp
/-- how many items the list at a place has -/
def lenF (G : Hp) : V → V := fun v => match v with | .ref a => (match G a with | some (.lst xs) => .int (xs.length : Nat) | _ => .non) | _ => .non
theorem lenF_at {G : Hp} {a : Addr} {xs : List V} (h : G a = some (.lst xs)) : lenF G (.ref a) = .int (xs.length : Nat) := by
  unfold lenF
  dsimp only
  rw [h]
def Tr.ps (z : Tr) : List (Addr × List V) := [(z.p, sv z.d.2.1), (z.q, sv z.d.2.2.1), (z.s, sv z.d.2.2.2)]
theorem ps_ls (zs : List Tr) : (zs.flatMap Tr.ps).map (·.1) = zs.flatMap Tr.ls := by
  induction zs with
  | nil => rfl
  | cons z r ih => rw [List.flatMap_cons, List.map_append, ih, List.flatMap_cons]; rfl
theorem ps_len (l : List Tr) : (l.flatMap Tr.ps).length = 3 * l.length := by
  induction l with
  | nil => rfl
  | cons z r ih => rw [List.flatMap_cons, List.length_append, ih]; show 3 + _ = 3 * (r.length + 1); omega
theorem Rv.rr_len {R : Rv} {rk : Tx → Nat} (k : R.Ok rk) {n : Nat} (h : n < R.T.length) : (R.rr n).2.1.length ≤ 10 ∧ (R.rr n).2.2.1.length ≤ 10 ∧ (R.rr n).2.2.2.length ≤ 10 := by
  obtain ⟨h1, _⟩ := Rv.pick_at k (Rv.upo_pt k n (by omega)) (by rw [R.upo_len]; exact h)
  obtain ⟨w, hw, ew⟩ := find_row h1
  have erow : R.row (R.pick (R.upo n)) = w := by rw [← ew]; exact R.row_at k.tnd hw
  have lw : (R.row (R.pick (R.upo n))).l.length ≤ 10 := by rw [erow, (k.lk w hw).length_eq, show R.un.length = R.U.length from List.length_map _]; exact k.u10
  have ll : (R.lnd (R.flo n) (R.pick (R.upo n))).length ≤ 10 := Nat.le_trans (List.length_filter_le _ _) lw
  refine ⟨ll, ?_, ?_⟩
  · show ((R.lnd _ _).take _).length ≤ 10
    rw [List.length_take]; omega
  · show ((R.lnd _ _).drop _).length ≤ 10
    rw [List.length_drop]; omega
theorem objs_of {α : Type} {P : Addr → α → Prop} : ∀ {ys : List V} {ws : List α}, ys.length = ws.length → (∀ (k : Nat) y w, ys[k]? = some y → ws[k]? = some w → ∃ p, y = .ref p ∧ P p w) → ∃ zs : List (Addr × α), zs.map (·.2) = ws ∧ ys = zs.map (fun z => V.ref z.1) ∧ ∀ z ∈ zs, P z.1 z.2
  | [], [], _, _ => ⟨[], rfl, rfl, fun z h => (by cases h)⟩
  | [], _ :: _, h, _ => by simp at h
  | _ :: _, [], h, _ => by simp at h
  | y :: ys, w :: ws, h, e => by
    obtain ⟨p, ep, pw⟩ := e 0 y w rfl rfl
    obtain ⟨zs, e1, e2, e3⟩ := objs_of (ys := ys) (ws := ws) (by simpa using h) fun k y' w' hy hw => e (k + 1) y' w' hy hw
    exact ⟨(p, w) :: zs, by rw [List.map_cons, e1], by rw [List.map_cons, ← e2, ep], fun z hz => (List.mem_cons.mp hz).elim (fun z' => z' ▸ pw) (e3 z)⟩
theorem rowl_inj {H : Hp} {p : Addr} {w w' : Row} (h : RowL H p w) (h' : RowL H p w') : w = w' := by
  obtain ⟨q, e1, e2⟩ := h
  obtain ⟨q', e1', e2'⟩ := h'
  have e := Option.some.inj (e1.symm.trans e1')
  injection e with e
  injection e with a b
  injection b with b c
  injection c with c d
  injection d with d _
  have eq : q = q' := V.ref.inj d
  subst eq
  have e2 := Option.some.inj (e2.symm.trans e2')
  injection e2 with e2
  have el : w.l = w'.l := by
    have := congrArg (List.map (fun v => match v with | .str z => z.cps.toList | _ => ([] : List Nat))) e2
    unfold sv at this
    rw [List.map_map, List.map_map] at this
    have id1 : ∀ l : List Tx, l.map ((fun v => match v with | .str z => z.cps.toList | _ => ([] : List Nat)) ∘ fun t => V.str (S t)) = l := fun l => by
      induction l with
      | nil => rfl
      | cons x r ih => rw [List.map_cons, ih]; rfl
    rw [id1, id1] at this
    exact this
  have et : w.t = w'.t := S_inj (V.str.inj a)
  have ea : w.a = w'.a := ov_inj b
  have er : w.r = w'.r := by have := V.int.inj c; omega
  cases w; cases w'
  simp only at et ea er el
  subst et ea er el
  rfl
theorem RowL.row {H : Hp} {p : Addr} {w : Row} (h : RowL H p w) : RowO H p w := let ⟨q, a, b⟩ := h; ⟨q, a, Lt.l b⟩
theorem objl_rows {H : Hp} {a : Addr} {ws : List Row} (h : ObjL RowL H a ws) : RowsO H a ws := let ⟨zs, e1, e2, e3⟩ := h; ⟨zs, e1, Lt.l e2, fun z hz => (e3 z hz).row⟩
theorem objl_ths {H : Hp} {a : Addr} {ws : List (Tx × Tx)} (h : ObjL ThO H a ws) : ThsO H a ws := let ⟨zs, e1, e2, e3⟩ := h; ⟨zs, e1, Lt.l e2, e3⟩
theorem objl_same {α : Type} {P : Hp → Addr → α → Prop} {H H' : Hp} {a : Addr} {ws : List α} (m : ∀ p w, P H p w → P H' p w) (h : ObjL P H a ws) (s : Same H H') : ObjL P H' a ws := let ⟨zs, e1, e2, e3⟩ := h; ⟨zs, e1, s _ _ e2, fun z hz => m _ _ (e3 z hz)⟩
theorem tree_sv {H : Hp} {n : Nat} {q : Addr} {l : List Tx} (h : H q = some (.lst (sv l))) (few : l.length ≤ 1000000) : Tree H (n + 1) (.ref q) :=
  .inl ⟨sv l, h, by rw [sv_len]; exact few, fun x hx => by
    obtain ⟨t, _, rfl⟩ := sv_mem hx
    cases n <;> exact trivial⟩
theorem tree_rows {H : Hp} {a : Addr} {ws : List Row} (h : ObjL RowL H a ws) (few : ws.length ≤ 1000000) (fl : ∀ w ∈ ws, w.l.length ≤ 1000000) : Tree H 7 (.ref a) := by
  obtain ⟨zs, e1, e2, e3⟩ := h
  refine .inl ⟨_, e2, by rw [List.length_map, ← List.length_map (·.2), e1]; exact few, fun x hx => ?_⟩
  obtain ⟨z, zm, rfl⟩ := List.mem_map.mp hx
  obtain ⟨q, h1, h2⟩ := e3 z zm
  refine .inr ⟨_, h1, by show (4 : Nat) ≤ _; decide, fun y hy => ?_⟩
  simp only [List.mem_cons, List.not_mem_nil, or_false] at hy
  rcases hy with rfl | rfl | rfl | rfl
  · exact trivial
  · cases z.2.a <;> exact trivial
  · exact trivial
  · exact tree_sv h2 (fl _ (e1 ▸ List.mem_map.mpr ⟨z, zm, rfl⟩))
theorem tree_ths {H : Hp} {a : Addr} {ws : List (Tx × Tx)} (h : ObjL ThO H a ws) (few : ws.length ≤ 1000000) : Tree H 7 (.ref a) := by
  obtain ⟨zs, e1, e2, e3⟩ := h
  refine .inl ⟨_, e2, by rw [List.length_map, ← List.length_map (·.2), e1]; exact few, fun x hx => ?_⟩
  obtain ⟨z, zm, rfl⟩ := List.mem_map.mp hx
  refine .inr ⟨_, e3 z zm, by show (2 : Nat) ≤ _; decide, fun y hy => ?_⟩
  simp only [List.mem_cons, List.not_mem_nil, or_false] at hy
  rcases hy with rfl | rfl <;> exact trivial
theorem cp_str {F : Addr → Prop} {H G : Hp} {n : Nat} {z : Str} {y : V} (h : Cp F H G n (.str z) y) : y = .str z := by cases n <;> cases y <;> first | exact h.symm | cases h
theorem cp_int {F : Addr → Prop} {H G : Hp} {n : Nat} {z : Int} {y : V} (h : Cp F H G n (.int z) y) : y = .int z := by cases n <;> cases y <;> first | exact h.symm | cases h
theorem cp_ov {F : Addr → Prop} {H G : Hp} {n : Nat} {a : Option Tx} {y : V} (h : Cp F H G n (ov a) y) : y = ov a := by
  cases a with
  | none => cases n <;> cases y <;> first | exact h.symm | cases h
  | some t => exact cp_str h
theorem cp_sv {F : Addr → Prop} {H G : Hp} {n : Nat} {q : Addr} {l : List Tx} {y : V} (e : H q = some (.lst (sv l))) (h : Cp F H G (n + 1) (.ref q) y) : ∃ p, y = .ref p ∧ G p = some (.lst (sv l)) := by
  cases y with
  | ref p =>
    rcases h.2 with ⟨xs, ys, h1, h2, h3, h4⟩ | ⟨xs, ys, h1, h2, h3, h4⟩
    · have := Option.some.inj (e.symm.trans h1)
      injection this with this
      subst this
      refine ⟨p, rfl, ?_⟩
      have ey : ys = sv l := by
        refine List.ext_getElem? fun j => ?_
        by_cases lj : j < (sv l).length
        · have g := List.getElem?_eq_getElem lj
          have g' : ys[j]? = some ys[j] := List.getElem?_eq_getElem (by omega)
          have c := h4 j _ _ g g'
          obtain ⟨t, _, et⟩ := sv_mem (List.getElem_mem lj)
          rw [et] at c
          rw [g, g', et, cp_str c]
        · rw [List.getElem?_eq_none (by omega), List.getElem?_eq_none (by omega)]
      rw [← ey]
      exact h2
    · rw [e] at h1; cases h1
  | _ => exact h.elim
theorem cp_rows {F : Addr → Prop} {H G : Hp} {a : Addr} {ws : List Row} {y : V} (h : ObjL RowL H a ws) (c : Cp F H G 7 (.ref a) y) : ∃ p, y = .ref p ∧ ObjL RowL G p ws := by
  obtain ⟨zs, e1, e2, e3⟩ := h
  cases y with
  | ref p =>
    rcases c.2 with ⟨xs, ys, h1, h2, h3, h4⟩ | ⟨xs, ys, h1, h2, h3, h4⟩
    · have := Option.some.inj (e2.symm.trans h1)
      injection this with this
      subst this
      rw [List.length_map, ← List.length_map (·.2), e1] at h3
      obtain ⟨zs', f1, f2, f3⟩ := objs_of (P := RowL G) h3.symm fun k v w hv hw => by
        rw [← e1, List.getElem?_map] at hw
        cases ez : zs[k]? with
        | none => rw [ez] at hw; cases hw
        | some z =>
          rw [ez] at hw
          have ew : z.2 = w := Option.some.inj hw
          subst ew
          have cc := h4 k _ v (by rw [List.getElem?_map, ez]; rfl) hv
          obtain ⟨q, g1, g2⟩ := e3 z (List.mem_of_getElem? ez)
          cases v with
          | ref p' =>
            rcases cc.2 with ⟨us, vs, i1, i2, i3, i4⟩ | ⟨us, vs, i1, i2, i3, i4⟩
            · rw [g1] at i1; cases i1
            · have := Option.some.inj (g1.symm.trans i1)
              injection this with this
              subst this
              match vs, i3 with
              | [v0, v1, v2, v3], _ =>
                have c0 := cp_str (i4 0 _ v0 rfl rfl)
                have c1 := cp_ov (i4 1 _ v1 rfl rfl)
                have c2 := cp_int (i4 2 _ v2 rfl rfl)
                obtain ⟨q', c3, c4⟩ := cp_sv g2 (i4 3 _ v3 rfl rfl)
                subst c0 c1 c2 c3
                exact ⟨p', rfl, q', i2, c4⟩
          | _ => exact cc.elim
      exact ⟨p, rfl, zs', f1, f2 ▸ h2, f3⟩
    · rw [e2] at h1; cases h1
  | _ => exact c.elim
theorem cp_ths {F : Addr → Prop} {H G : Hp} {a : Addr} {ws : List (Tx × Tx)} {y : V} (h : ObjL ThO H a ws) (c : Cp F H G 7 (.ref a) y) : ∃ p, y = .ref p ∧ ObjL ThO G p ws := by
  obtain ⟨zs, e1, e2, e3⟩ := h
  cases y with
  | ref p =>
    rcases c.2 with ⟨xs, ys, h1, h2, h3, h4⟩ | ⟨xs, ys, h1, h2, h3, h4⟩
    · have := Option.some.inj (e2.symm.trans h1)
      injection this with this
      subst this
      rw [List.length_map, ← List.length_map (·.2), e1] at h3
      obtain ⟨zs', f1, f2, f3⟩ := objs_of (P := ThO G) h3.symm fun k v w hv hw => by
        rw [← e1, List.getElem?_map] at hw
        cases ez : zs[k]? with
        | none => rw [ez] at hw; cases hw
        | some z =>
          rw [ez] at hw
          have ew : z.2 = w := Option.some.inj hw
          subst ew
          have cc := h4 k _ v (by rw [List.getElem?_map, ez]; rfl) hv
          have g1 := e3 z (List.mem_of_getElem? ez)
          cases v with
          | ref p' =>
            rcases cc.2 with ⟨us, vs, i1, i2, i3, i4⟩ | ⟨us, vs, i1, i2, i3, i4⟩
            · rw [ThO, i1] at g1; cases g1
            · have := Option.some.inj ((show H z.1 = _ from g1).symm.trans i1)
              injection this with this
              subst this
              match vs, i3 with
              | [v0, v1], _ =>
                have c0 := cp_str (i4 0 _ v0 rfl rfl)
                have c1 := cp_str (i4 1 _ v1 rfl rfl)
                subst c0 c1
                exact ⟨p', rfl, i2⟩
          | _ => exact cc.elim
      exact ⟨p, rfl, zs', f1, f2 ▸ h2, f3⟩
    · rw [e2] at h1; cases h1
  | _ => exact c.elim
/-- the twin -/
def Rv.twin (R : Rv) : Rv := ⟨R.T.map fun w => ⟨w.t, w.a, (w.r + 1) / 2, w.l.reverse⟩, R.U⟩
theorem Rv.twin_tn (R : Rv) : R.twin.tn = R.tn := by unfold Rv.tn Rv.twin; rw [List.map_map]; rfl
theorem Rv.Ok.twin {R : Rv} {rk : Tx → Nat} (k : R.Ok rk) : R.twin.Ok rk := by
  have lt : R.twin.T.length = R.T.length := List.length_map _
  have mem : ∀ w ∈ R.twin.T, ∃ v ∈ R.T, w = ⟨v.t, v.a, (v.r + 1) / 2, v.l.reverse⟩ := fun w hw => let ⟨v, hv, e⟩ := List.mem_map.mp hw; ⟨v, hv, e.symm⟩
  refine ⟨lt ▸ k.t0, lt ▸ k.t8, k.u10, fun w hw => ?_, R.twin_tn ▸ k.tnd, k.unm, k.und, fun w hw a ea => ?_, fun w hw => ?_, fun w hw => ?_, fun w hw => ?_, fun u hu => R.twin_tn ▸ k.sp u hu⟩
  · obtain ⟨v, hv, rfl⟩ := mem w hw; exact k.tnm v hv
  · obtain ⟨v, hv, rfl⟩ := mem w hw; exact R.twin_tn ▸ k.af v hv a ea
  · obtain ⟨v, hv, rfl⟩ := mem w hw; rw [lt]; exact k.rkn v hv
  · obtain ⟨v, hv, rfl⟩ := mem w hw
    have := k.rm v hv
    show (v.r + 1) / 2 ≤ 99
    omega
  · obtain ⟨v, hv, rfl⟩ := mem w hw; exact (List.reverse_perm _).trans (k.lk v hv)
theorem srow_refs {α : Type} {c : Addr} {a d : Nat} {b e : Int} {zs : List (Addr × α)} : sRow c a d b e ≠ .lst (zs.map fun z => V.ref z.1) := fun h => by
  unfold sRow at h
  injection h with h
  match zs with
  | [] => cases h
  | [z] => cases h
  | z :: y :: r =>
    injection h with _ h
    injection h with h _
    cases h
theorem srow_sv {c : Addr} {a d : Nat} {b e : Int} {l : List Tx} : sRow c a d b e ≠ .lst (sv l) := fun h => by
  unfold sRow at h
  injection h with h
  match l with
  | [] => cases h
  | t :: r =>
    injection h with h _
    cases h
theorem objl_keepR {H H' : Hp} {s cl : Addr} {n : Nat} {a : Addr} {ws : List Row} (h : ObjL RowL H a ws) (S0 : Sto s cl n H) (k : Keep s H H') : ObjL RowL H' a ws := by
  obtain ⟨zs, e1, e2, e3⟩ := h
  obtain ⟨ns, x1, x2, x3, x4, e, _⟩ := S0.ex
  refine ⟨zs, e1, k _ _ (fun z => ?_) e2, fun z hz => ?_⟩
  · rw [z, e] at e2; exact srow_refs (Option.some.inj e2)
  · obtain ⟨q, g1, g2⟩ := e3 z hz
    refine ⟨q, k _ _ (fun y => ?_) g1, k _ _ (fun y => ?_) g2⟩
    · rw [y, e] at g1; cases g1
    · rw [y, e] at g2; exact srow_sv (Option.some.inj g2)
theorem objl_keepT {H H' : Hp} {s cl : Addr} {n : Nat} {a : Addr} {ws : List (Tx × Tx)} (h : ObjL ThO H a ws) (S0 : Sto s cl n H) (k : Keep s H H') : ObjL ThO H' a ws := by
  obtain ⟨zs, e1, e2, e3⟩ := h
  obtain ⟨ns, x1, x2, x3, x4, e, _⟩ := S0.ex
  refine ⟨zs, e1, k _ _ (fun z => ?_) e2, fun z hz => ?_⟩
  · rw [z, e] at e2; exact srow_refs (Option.some.inj e2)
  · have g := e3 z hz
    exact k _ _ (fun y => by rw [ThO, y, e] at g; cases g) g
theorem inj_nd {α β : Type} {f : α → β} {l : List α} (nd : (l.map f).Nodup) {x y : α} (hx : x ∈ l) (hy : y ∈ l) (e : f x = f y) : x = y := by
  induction l with
  | nil => cases hx
  | cons a r ih =>
    rw [List.map_cons] at nd
    obtain ⟨n1, n2⟩ := List.nodup_cons.mp nd
    rcases List.mem_cons.mp hx with ex | hx
    · rcases List.mem_cons.mp hy with ey | hy
      · rw [ex, ey]
      · exact absurd (List.mem_map.mpr ⟨y, hy, by rw [← e, ex]⟩) n1
    · rcases List.mem_cons.mp hy with ey | hy
      · exact absurd (List.mem_map.mpr ⟨x, hx, by rw [e, ey]⟩) n1
      · exact ih n2 hx hy
theorem rep_ov {H : Hp} {n : Nat} (a : Option Tx) : Rep H n (ov a) (ov a) := by cases n <;> cases a <;> first | exact trivial | exact rfl
theorem rep_rows {H : Hp} {n : Nat} {a b : Addr} {ws : List Row} (ha : ObjL RowL H a ws) (hb : ObjL RowL H b ws) (few : ws.length ≤ 1000000) (fl : ∀ w ∈ ws, w.l.length ≤ 1000000) : Rep H (n + 3) (.ref a) (.ref b) := by
  obtain ⟨zs, e1, e2, e3⟩ := ha
  obtain ⟨ys, f1, f2, f3⟩ := hb
  have l1 : zs.length = ws.length := by rw [← e1, List.length_map]
  have l2 : ys.length = ws.length := by rw [← f1, List.length_map]
  refine .inl ⟨_, _, e2, f2, by rw [List.length_map, List.length_map, l1, l2], by rw [List.length_map, l2]; exact few, fun k x y gx gy => ?_⟩
  obtain ⟨z, gz, rfl⟩ := objs_get gx
  obtain ⟨u, gu, rfl⟩ := objs_get gy
  have w1 : ws[k]? = some z.2 := by rw [← e1, List.getElem?_map, gz]; rfl
  have w2 : ws[k]? = some u.2 := by rw [← f1, List.getElem?_map, gu]; rfl
  have ew : z.2 = u.2 := Option.some.inj (w1.symm.trans w2)
  obtain ⟨q, g1, g2⟩ := e3 z (List.mem_of_getElem? gz)
  obtain ⟨p, h1, h2⟩ := f3 u (List.mem_of_getElem? gu)
  rw [← ew] at h1 h2
  have fw := fl _ (List.mem_of_getElem? w1)
  refine .inr ⟨_, _, g1, h1, rfl, by show (4 : Nat) ≤ 1000000; decide, fun j v v' gv gv' => ?_⟩
  match j with
  | 0 => cases gv; cases gv'; exact rfl
  | 1 => cases gv; cases gv'; exact rep_ov _
  | 2 => cases gv; cases gv'; exact rfl
  | 3 => cases gv; cases gv'; exact rep_sv g2 h2 fw
  | j + 4 => cases gv
theorem rep_ths {H : Hp} {n : Nat} {a b : Addr} {ws : List (Tx × Tx)} (ha : ObjL ThO H a ws) (hb : ObjL ThO H b ws) (few : ws.length ≤ 1000000) : Rep H (n + 3) (.ref a) (.ref b) := by
  obtain ⟨zs, e1, e2, e3⟩ := ha
  obtain ⟨ys, f1, f2, f3⟩ := hb
  have l1 : zs.length = ws.length := by rw [← e1, List.length_map]
  have l2 : ys.length = ws.length := by rw [← f1, List.length_map]
  refine .inl ⟨_, _, e2, f2, by rw [List.length_map, List.length_map, l1, l2], by rw [List.length_map, l2]; exact few, fun k x y gx gy => ?_⟩
  obtain ⟨z, gz, rfl⟩ := objs_get gx
  obtain ⟨u, gu, rfl⟩ := objs_get gy
  have w1 : ws[k]? = some z.2 := by rw [← e1, List.getElem?_map, gz]; rfl
  have w2 : ws[k]? = some u.2 := by rw [← f1, List.getElem?_map, gu]; rfl
  have ew : z.2 = u.2 := Option.some.inj (w1.symm.trans w2)
  have g1 := e3 z (List.mem_of_getElem? gz)
  have h1 := f3 u (List.mem_of_getElem? gu)
  rw [← ew] at h1
  refine .inr ⟨_, _, g1, h1, rfl, by show (2 : Nat) ≤ 1000000; decide, fun j v v' gv gv' => ?_⟩
  match j with
  | 0 => cases gv; cases gv'; exact rfl
  | 1 => cases gv; cases gv'; exact rfl
  | j + 2 => cases gv
/-- the name of a row at a place -/
def kN (G : Hp) : V → Str := fun v => match v with | .ref a => (match G a with | some (.tup (.str k :: _)) => k | _ => S []) | _ => S []
theorem kN_at {G : Hp} {a : Addr} {k : Str} {r : List V} (h : G a = some (.tup (.str k :: r))) : kN G (.ref a) = k := by
  unfold kN
  dsimp only
  rw [h]
/-- sorted(rows) -/
theorem sort_rows {α : Type} {K : PySem.W.Frag} {P : Hp → Addr → α → Prop} {nm : α → Tx} {H : Hp} {a : Addr} {ws : List α} {Q : VK} (h : ObjL P H a ws) (hn : ∀ z w, P H z w → ∃ r, H z = some (.tup (.str (S (nm w)) :: r))) (nd : (ws.map nm).Nodup)
    (q : ∀ (p : Addr) (zs' : List (Addr × α)), H p = none → zs'.map (fun z : Addr × α => nm z.2) = tsort (ws.map nm) → (∀ z ∈ zs', z.2 ∈ ws ∧ P H z.1 z.2) → Q (.ref p) (upd H p (.lst (zs'.map fun z => V.ref z.1)))) : mSortR K [.ref a] H Q := by
  obtain ⟨zs, e1, e2, e3⟩ := h
  have hk : ∀ z ∈ zs, kN H (.ref z.1) = S (nm z.2) := fun z hz => let ⟨r, e⟩ := hn _ _ (e3 z hz); kN_at e
  have nz : (zs.map fun z => nm z.2).Nodup := by rw [← e1, List.map_map] at nd; exact nd
  refine ⟨zs.map fun z => V.ref z.1, kN H, SqL.of e2, fun x hx => ?_, fun x hx y hy e => ?_, fun ys p srt pm hp => ?_⟩
  · obtain ⟨z, hz, rfl⟩ := List.mem_map.mp hx
    obtain ⟨r, e⟩ := hn _ _ (e3 z hz)
    exact ⟨z.1, r, rfl, by rw [hk z hz]; exact e⟩
  · obtain ⟨z, hz, rfl⟩ := List.mem_map.mp hx
    obtain ⟨u, hu, rfl⟩ := List.mem_map.mp hy
    rw [hk z hz, hk u hu] at e
    rw [inj_nd nz hz hu (S_inj e)]
  · obtain ⟨zs', pz, rfl⟩ := perm_lift pm.symm zs rfl
    have m' : ∀ z ∈ zs', z ∈ zs := fun z hz => pz.mem_iff.mp hz
    refine q p zs' hp ?_ fun z hz => ⟨e1 ▸ List.mem_map.mpr ⟨z, m' z hz, rfl⟩, e3 z (m' z hz)⟩
    have pn : (zs'.map fun z => nm z.2).Perm (ws.map nm) := by
      rw [← e1, List.map_map]
      exact pz.map _
    refine (pn.trans (tsort_perm _).symm).eq_of_pairwise (fun x y _ _ h1 h2 => List.le_antisymm h1 h2) ?_ (tsort_up _)
    rw [List.pairwise_map]
    unfold SrtO.Srtd at srt
    rw [List.pairwise_map] at srt
    refine srt.imp_of_mem fun {x y} hx hy h => ?_
    have h : ltX (kN H (.ref y.1)) (kN H (.ref x.1)) = false := h
    rw [hk x (m' x hx), hk y (m' y hy)] at h
    exact of_decide_eq_false h
def oi : Option Nat → V
  | none => .non
  | some j => .int (j : Nat)
/-- rows of towns, as they are made -/
structure MadeT (ts us : List Tx) (T : List Row) (zs : List Row) : Prop where
  m : Made ts us zs
  len : zs.length = ts.length
  p : T.Perm zs
/-- [e for x in a list that is there] -/
theorem lc_itemsL {K : PySem.W.Frag} {te : TE} {p : Addr} {j : Nat} {vs : List Nat} {σ : L2.St} {H : Hp} {Q : VK} {xs : List V} (P : Addr → Hp → V → V → Prop) (hp : H p = some (.lst xs)) (big : xs.length ≤ 1000000) (hw : ∀ x : V, wipe ((wipe σ vs).set j (some x)) vs = wipe σ vs)
    (mono : ∀ D G G' x y, H D = none → Keep D G G' → P D G x y → P D G' x y)
    (he : ∀ (D : Addr) (G : Hp) (x : V), H D = none → Same H G → (∃ acc, G D = some (.lst acc)) → x ∈ xs → ∀ Q' : VK, (∀ y G', Same G G' → P D G' x y → Q' y G') → te ((wipe σ vs).set j (some x)) G Q')
    (hd : ∀ D G (ys : List V), Same H G → H D = none → xs.length = ys.length → G D = some (.lst ys) → (∀ (k : Nat) x y, xs[k]? = some x → ys[k]? = some y → P D G x y) → Q (.ref D) G) :
    (fun (x : V) (H1 : Hp) => ∃ a, x = .ref a ∧ (∃ xs, SqL K H1 a xs) ∧ ∀ D, H1 D = none → ∃ W : Nat → Nat → Hp → Prop, (∃ m, W 0 m (upd H1 D (.lst []))) ∧ ∀ i m H, W i m H →
      ((Itl K a).stop i H ∧ Q (.ref D) H) ∨ ((Itl K a).go i H ∧ ∃ Nx : Hp → Prop, (∀ H', Nx H' → ∃ m', m' < m ∧ W (i + 1) m' H') ∧ ∀ x H', (Itl K a).yld i H x H' → gName j x (wipe σ vs) H' fun σ2 H2 => wipe σ2 vs = wipe σ vs ∧ tYes σ2 H2 fun b H3 =>
        if b = true then te σ2 H3 fun y H4 => ∃ acc, H4 D = some (.lst acc) ∧ acc.length < sizeLine ∧ Nx (upd H4 D (.lst (acc ++ [y]))) else Nx H3)) (.ref p) H := by
  refine ⟨p, rfl, ⟨_, SqL.of hp⟩, fun D hD => lc_list (xs := xs) (fun i G => ∃ ys : List V, ys.length = i ∧ Keep D H G ∧ G D = some (.lst ys) ∧ ∀ (k : Nat) x y, xs[k]? = some x → ys[k]? = some y → P D G x y) ⟨[], rfl, fun b o n e => (upd_ne n).trans e, upd_same, fun k x y _ h => (by simp at h)⟩ (fun i G _ e => ?_) (fun i x G hx e => ?_) (fun G e => ?_)⟩
  · obtain ⟨ys, _, k, _⟩ := e
    exact SqL.of (k _ _ (ne_of_none hp hD) hp)
  · obtain ⟨ys, ly, k, dG, hy⟩ := e
    have hil := (List.getElem?_eq_some_iff.mp hx).1
    refine ⟨hw _, ?_⟩
    simp only [tYes, ↓reduceIte]
    refine he D G x hD (fun b o e => k b o (ne_of_none e hD) e) ⟨_, dG⟩ (List.mem_of_getElem? hx) _ fun y G' s py => ⟨_, s _ _ dG, by rw [sl_big]; omega, ys ++ [y], by rw [List.length_append, ly]; rfl, fun b o n e => (upd_ne n).trans (s _ _ (k _ _ n e)), upd_same, fun m x' y' hm hm' => ?_⟩
    have kk : Keep D G' (upd G' D (.lst (ys ++ [y]))) := fun b o n e => (upd_ne n).trans e
    by_cases lm : m < ys.length
    · rw [List.getElem?_append_left lm] at hm'
      exact mono _ _ _ _ _ hD kk (mono _ _ _ _ _ hD (Same.keep s) (hy m x' y' hm hm'))
    · have hm2 := (List.getElem?_eq_some_iff.mp hm').1
      rw [List.length_append] at hm2
      have : m = ys.length := by have : [y].length = 1 := rfl; omega
      subst this
      rw [List.getElem?_append_right (Nat.le_refl _), Nat.sub_self] at hm'
      have e1 : y = y' := Option.some.inj hm'
      have e2 : x = x' := Option.some.inj (hx.symm.trans (ly ▸ hm))
      subst e1 e2
      exact mono _ _ _ _ _ hD kk py
  · obtain ⟨ys, ly, k, dG, hy⟩ := e
    exact hd D G ys (fun b o e => k b o (ne_of_none e hD) e) hD ly.symm dG hy
/-- [e for x in [..]] -/
theorem tLc_lit {K : PySem.W.Frag} {te0 te : TE} {j : Nat} {vs : List Nat} {σ : L2.St} {H : Hp} {Q : VK} {xs : List V} (P : Addr → Hp → V → V → Prop) (h0 : ∀ R : VK, (∀ x, H x = none → R (.ref x) (upd H x (.lst xs))) → te0 σ H R) (big : xs.length ≤ 1000000) (hw : ∀ x : V, wipe ((wipe σ vs).set j (some x)) vs = wipe σ vs)
    (mono : ∀ D G G' x y, H D = none → Keep D G G' → P D G x y → P D G' x y)
    (he : ∀ (D : Addr) (G : Hp) (x : V), H D = none → Same H G → (∃ acc, G D = some (.lst acc)) → x ∈ xs → ∀ Q' : VK, (∀ y G', Same G G' → P D G' x y → Q' y G') → te ((wipe σ vs).set j (some x)) G Q')
    (hd : ∀ D G (ys : List V), Same H G → H D = none → xs.length = ys.length → G D = some (.lst ys) → (∀ (k : Nat) x y, xs[k]? = some x → ys[k]? = some y → P D G x y) → Q (.ref D) G) : tLc (iSeq K te0) (gName j) tYes te vs σ H Q := by
  refine .inl (h0 _ fun x nx => ?_)
  have sx := same_new (o := .lst xs) nx
  exact lc_itemsL (K := K) (te := te) (p := x) (j := j) (vs := vs) (σ := σ) (H := upd H x (.lst xs)) (Q := Q) (xs := xs) P upd_same big hw (fun D G G' x y hD => mono D G G' x y (sx.free hD)) (fun D G x hD s => he D G x (sx.free hD) (sx.trans s)) fun D G ys s hD => hd D G ys (sx.trans s) (sx.free hD)
theorem RivO.keepS {K : PySem.W.Frag} {H H' : Hp} {s cl x : Addr} {n : Nat} {R : Rv} (h : RivO K H x R) (S0 : Sto s cl n H) (k : Keep s H H') : RivO K H' x R := by
  obtain ⟨dx, a1, a2, a3, a4, a5, a6, a7, a8, a9, h0, h1, h2, h3, h4, ⟨zl, e5, h5, l5⟩, h6, ⟨zp, e7, h7, l7⟩, ⟨zq, e8, h8, l8⟩, ⟨kvs, h9⟩⟩ := h
  obtain ⟨ns, x1, x2, x3, x4, e, _⟩ := S0.ex
  have go : ∀ {a o}, H a = some o → sRow cl x1 x2 x3 x4 ≠ o → H' a = some o := fun {a o} g n => k _ _ (fun z => by rw [z, e] at g; exact n (Option.some.inj g)) g
  exact ⟨dx, a1, a2, a3, a4, a5, a6, a7, a8, a9, go h0 (fun z => by cases z), go h1 srow_sv, go h2 srow_sv, go h3 (fun z => by cases z), go h4 (fun z => by cases z), ⟨zl, e5, go h5 (fun z => by cases z), fun z m => go (l5 z m) srow_sv⟩, go h6 (fun z => by cases z), ⟨zp, e7, go h7 (fun z => by cases z), fun z m => go (l7 z m) srow_sv⟩, ⟨zq, e8, go h8 srow_refs, fun z m => go (l8 z m) (fun z => by cases z)⟩, ⟨kvs, go h9 (fun z => by cases z)⟩⟩
/-- [row[0] for row in a list just made] -/
theorem tLc_fst {K : PySem.W.Frag} {te0 : TE} {j : Nat} {vs : List Nat} {σ : L2.St} {H : Hp} {Q : VK} {zs : List (Addr × Tx)} (hz : ∀ z ∈ zs, NmO H z.1 z.2) (h0 : ∀ R : VK, (∀ x G, Same H G → H x = none → G x = some (.lst (zs.map fun z => V.ref z.1)) → R (.ref x) G) → te0 σ H R) (big : zs.length ≤ 1000000) (hw : ∀ x : V, wipe ((wipe σ vs).set j (some x)) vs = wipe σ vs)
    (hj : ∀ x : V, ((wipe σ vs).set j (some x))[j]? = some (some x))
    (hd : ∀ D G, Same H G → H D = none → G D = some (.lst (sv (zs.map (·.2)))) → Q (.ref D) G) : tLc (iSeq K te0) (gName j) tYes (tOp (mIx K) (xV j) (tC (.int 0))) vs σ H Q := by
  refine .inl (h0 _ fun x G0 s0 nx ex => ?_)
  refine lc_itemsL (K := K) (te := tOp (mIx K) (xV j) (tC (.int 0))) (p := x) (j := j) (vs := vs) (σ := σ) (H := G0) (Q := Q) (xs := zs.map fun z => V.ref z.1) (fun D G v y => ∃ z ∈ zs, v = .ref z.1 ∧ y = .str (S z.2)) ex (by rw [List.length_map]; exact big) hw (fun D G G' x y hD _ h => h) (fun D G v hD sG _ hv Q' go => ?_) (fun D G ys sG hD ly dG hy => ?_)
  · obtain ⟨z, zm, rfl⟩ := List.mem_map.mp hv
    obtain ⟨r, e⟩ := hz z zm
    dsimp only [tOp, tC]
    unfold xV
    rw [hj]
    exact ⟨_, _, Sq.t (sG _ _ (s0 _ _ e)), at_int (j := 0) rfl rfl, go _ _ (Same.refl _) ⟨z, zm, rfl, rfl⟩⟩
  · have ey : ys = sv (zs.map (·.2)) := by
      refine List.ext_getElem? fun i => ?_
      rw [List.length_map] at ly
      by_cases li : i < zs.length
      · have gz : zs[i]? = some zs[i] := List.getElem?_eq_getElem li
        have gy : ys[i]? = some ys[i] := List.getElem?_eq_getElem (by omega)
        obtain ⟨z, zm, e1, e2⟩ := hy i _ _ (by rw [List.getElem?_map, gz]; rfl) gy
        have ea : zs[i].1 = z.1 := V.ref.inj e1
        obtain ⟨r, f1⟩ := hz _ (List.mem_of_getElem? gz)
        obtain ⟨r', f2⟩ := hz z zm
        rw [ea, f2] at f1
        have f1 := Option.some.inj f1
        injection f1 with f1
        injection f1 with f1 _
        have et : z.2 = zs[i].2 := S_inj (V.str.inj f1)
        rw [gy, e2, et]
        exact (sv_get (by rw [List.getElem?_map, gz]; rfl)).symm
      · rw [List.getElem?_eq_none (by omega), List.getElem?_eq_none (by rw [sv_len, List.length_map]; omega)]
    subst ey
    exact hd D G (s0.trans sG) (s0.free hD) dG
theorem objl_nms {H : Hp} {a : Addr} {ws : List Row} (h : ObjL RowL H a ws) : ∃ zs : List (Addr × Tx), zs.map (·.2) = ws.map (·.t) ∧ H a = some (.lst (zs.map fun z => V.ref z.1)) ∧ ∀ z ∈ zs, NmO H z.1 z.2 := by
  obtain ⟨zs, e1, e2, e3⟩ := h
  refine ⟨zs.map fun z => (z.1, z.2.t), by rw [← e1, List.map_map, List.map_map]; rfl, by rw [List.map_map]; exact e2, fun z hz => ?_⟩
  obtain ⟨y, hy, rfl⟩ := List.mem_map.mp hz
  obtain ⟨q, g, _⟩ := e3 y hy
  exact ⟨_, g⟩
theorem objl_nmsT {H : Hp} {a : Addr} {ws : List (Tx × Tx)} (h : ObjL ThO H a ws) : ∃ zs : List (Addr × Tx), zs.map (·.2) = ws.map (·.1) ∧ H a = some (.lst (zs.map fun z => V.ref z.1)) ∧ ∀ z ∈ zs, NmO H z.1 z.2 := by
  obtain ⟨zs, e1, e2, e3⟩ := h
  refine ⟨zs.map fun z => (z.1, z.2.1), by rw [← e1, List.map_map, List.map_map]; rfl, by rw [List.map_map]; exact e2, fun z hz => ?_⟩
  obtain ⟨y, hy, rfl⟩ := List.mem_map.mp hz
  exact ⟨_, e3 y hy⟩
def flatS (x : V) : Prop := (∃ z, x = .str z) ∨ (∃ i, x = .int i) ∨ (∃ b, x = .bl b) ∨ x = .non
theorem flat_ref {p : Addr} (h : flatS (.ref p)) : False := by rcases h with ⟨_, e⟩ | ⟨_, e⟩ | ⟨_, e⟩ | e <;> cases e
theorem flatS_lit (z : Str) : flatS (.str z) := .inl ⟨_, rfl⟩
def isRef : V → Bool
  | .ref _ => true
  | _ => false
def nf (xs : List V) : Nat := (xs.filter isRef).length
def okV (C : Addr → Prop) (x : V) : Prop := flatS x ∨ ∃ a, x = .ref a ∧ C a
/-- each of C a list or a tuple of flat values and of such -/
def Wf (C : Addr → Prop) (c M : Nat) (H : Hp) : Prop := ∀ a, C a → (∃ xs, H a = some (.lst xs) ∧ xs.length ≤ M ∧ nf xs ≤ c ∧ ∀ x ∈ xs, okV C x) ∨ ∃ xs, H a = some (.tup xs) ∧ nf xs ≤ c ∧ ∀ x ∈ xs, okV C x
/-- at most the lists of C change -/
structure KC (C : Addr → Prop) (H H' : Hp) : Prop where
  k : ∀ b o, H b = some o → (∀ xs, o = .lst xs → ¬ C b) → H' b = some o
  l : ∀ b xs, H b = some (.lst xs) → ∃ ys, H' b = some (.lst ys)
theorem KC.refl {C : Addr → Prop} {H : Hp} : KC C H H := ⟨fun _ _ e _ => e, fun _ _ e => ⟨_, e⟩⟩
theorem KC.trans {C : Addr → Prop} {H G K : Hp} (a : KC C H G) (b : KC C G K) : KC C H K := ⟨fun x o e n => b.k x o (a.k x o e n) n, fun x xs e => let ⟨ys, e'⟩ := a.l x xs e; b.l x ys e'⟩
theorem KC.same {C : Addr → Prop} {H G : Hp} (s : Same H G) : KC C H G := ⟨fun b o e _ => s b o e, fun b xs e => ⟨xs, s _ _ e⟩⟩
theorem KC.tup {C : Addr → Prop} {H G : Hp} (a : KC C H G) {b : Addr} {xs : List V} (e : H b = some (.tup xs)) : G b = some (.tup xs) := a.k b _ e fun _ z => by cases z
theorem Wf.mono {C : Addr → Prop} {c M N : Nat} {H : Hp} (h : Wf C c M H) (l : M ≤ N) : Wf C c N H := fun a ha => (h a ha).imp (fun ⟨xs, a, b, c⟩ => ⟨xs, a, Nat.le_trans b l, c⟩) id
theorem Wf.up {C : Addr → Prop} {c e M : Nat} {H : Hp} (h : Wf C c M H) (l : c ≤ e) : Wf C e M H := fun a ha => (h a ha).imp (fun ⟨xs, a, b, c, d⟩ => ⟨xs, a, b, Nat.le_trans c l, d⟩) fun ⟨xs, a, b, c⟩ => ⟨xs, a, Nat.le_trans b l, c⟩
theorem Wf.same {C : Addr → Prop} {c M : Nat} {H G : Hp} (h : Wf C c M H) (s : Same H G) : Wf C c M G := fun a ha => (h a ha).imp (fun ⟨xs, a, b⟩ => ⟨xs, s _ _ a, b⟩) fun ⟨xs, a, b⟩ => ⟨xs, s _ _ a, b⟩
theorem Wf.some {C : Addr → Prop} {c M : Nat} {H : Hp} (h : Wf C c M H) {a : Addr} (n : H a = none) : ¬ C a := fun ha => by
  rcases h a ha with ⟨xs, e, _⟩ | ⟨xs, e, _⟩ <;> rw [n] at e <;> cases e
def vis (c : Nat) : Nat → Nat
  | 0 => 0
  | n + 1 => c * vis c n + 1
theorem vis_mono {c d : Nat} (h : c ≤ d) : ∀ n, vis c n ≤ vis d n
  | 0 => Nat.le_refl _
  | n + 1 => Nat.succ_le_succ (Nat.mul_le_mul h (vis_mono h n))
theorem vis_up {c : Nat} (n : Nat) : vis c n ≤ vis c (n + 1) ∨ c = 0 := by
  rcases Nat.eq_zero_or_pos c with h | h
  · exact .inr h
  · refine .inl ?_
    show vis c n ≤ c * vis c n + 1
    have := Nat.mul_le_mul_right (vis c n) h
    omega
theorem vis7 {c : Nat} (h : c ≤ 12) : vis c 7 ≤ 4000000 := Nat.le_trans (vis_mono h 7) (by decide)
theorem vis12 : vis 12 7 ≤ 3500000 := by decide
theorem nf_app (xs ys : List V) : nf (xs ++ ys) = nf xs + nf ys := by unfold nf; rw [List.filter_append, List.length_append]
theorem nf_rev (xs : List V) : nf xs.reverse = nf xs := by unfold nf; rw [List.filter_reverse, List.length_reverse]
theorem nf_take (xs : List V) (i : Nat) : nf (xs.take i) ≤ nf xs := (((List.take_sublist i xs).filter isRef)).length_le
theorem nf_step {xs : List V} {i : Nat} {y : V} (h : xs[i]? = some y) : nf (xs.take (i + 1)) = nf (xs.take i) + nf [y] := by rw [take_succ_get h, nf_app]
theorem nf_flat {y : V} (h : flatS y) : nf [y] = 0 := by rcases h with ⟨_, rfl⟩ | ⟨_, rfl⟩ | ⟨_, rfl⟩ | rfl <;> rfl
/-! ### rivers compared -/
def dkOf {α : Type} (k : α → Tx) (f : α → PyData) (T : List α) (y : Key) : PyData := match T.find? (fun w => decide ((Sum.inr (S (k w)) : Key) = y)) with
  | some w => f w
  | none => .none
theorem inr_S {a b : Tx} (h : (Sum.inr (S a) : Key) = Sum.inr (S b)) : a = b := S_inj (Sum.inr.inj h)
theorem dkOf_at {α : Type} {k : α → Tx} {f : α → PyData} : ∀ {T : List α}, (T.map k).Nodup → ∀ {w : α}, w ∈ T → dkOf k f T (Sum.inr (S (k w))) = f w
  | [], _, _, h => (by cases h)
  | x :: r, nd, w, h => by
    rw [List.map_cons] at nd
    obtain ⟨n1, n2⟩ := List.nodup_cons.mp nd
    unfold dkOf
    rw [List.find?_cons]
    rcases List.mem_cons.mp h with rfl | h
    · rw [decide_eq_true rfl]
    · have ne : (Sum.inr (S (k x)) : Key) ≠ Sum.inr (S (k w)) := fun e => n1 (List.mem_map.mpr ⟨w, h, (inr_S e).symm⟩)
      rw [decide_eq_false ne]
      exact dkOf_at (f := f) n2 h
theorem val_no {α : Type} {xs : List α} {k : α → Tx} {v : α → V} {t : Tx} (h : t ∉ xs.map k) : valV (xs.map fun x => ((Sum.inr (S (k x)) : Key), v x)) (Sum.inr (S t)) = none := by
  unfold valV
  rw [List.find?_eq_none.mpr]
  · rfl
  · intro p hp e
    obtain ⟨x, hx, rfl⟩ := List.mem_map.mp hp
    exact h (List.mem_map.mpr ⟨x, hx, inr_S (of_decide_eq_true e)⟩)
theorem eqD_map {α β : Type} {T : List α} {T2 : List β} {k : α → Tx} {k2 : β → Tx} {v : α → V} {v2 : β → V} {f : α → PyData} {f2 : β → PyData} (nd : (T.map k).Nodup) (nd2 : (T2.map k2).Nodup) :
    eqD (T.map fun w => ((Sum.inr (S (k w)) : Key), v w)) (T2.map fun w => ((Sum.inr (S (k2 w)) : Key), v2 w)) (dkOf k f T) (dkOf k2 f2 T2) = true ↔ ∀ w ∈ T, ∃ u ∈ T2, k2 u = k w ∧ PyData.eqv (f w) (f2 u) = true := by
  unfold eqD
  rw [List.all_eq_true]
  constructor
  · intro h w hw
    have := h _ (List.mem_map.mpr ⟨w, hw, rfl⟩)
    dsimp only at this
    by_cases m : k w ∈ T2.map k2
    · obtain ⟨u, hu, e⟩ := List.mem_map.mp m
      rw [← e, val_map nd2 hu, dkOf_at nd2 hu, e, dkOf_at nd hw] at this
      exact ⟨u, hu, e, this⟩
    · rw [val_no m] at this
      cases this
  · intro h p hp
    obtain ⟨w, hw, rfl⟩ := List.mem_map.mp hp
    obtain ⟨u, hu, e, q⟩ := h w hw
    dsimp only
    rw [← e, val_map nd2 hu, dkOf_at nd2 hu, e, dkOf_at nd hw]
    exact q
def ovD : Option Tx → PyData
  | none => .none
  | some t => .str (S t)
theorem dp_ov {K : PySem.W.Frag} {H : Hp} {a : Option Tx} : Dp K H (ov a) (ovD a) := by cases a with
  | none => exact .non
  | some t => exact .str _
theorem eqv_ovD {a b : Option Tx} : PyData.eqv (ovD a) (ovD b) = true ↔ a = b := by
  cases a <;> cases b <;> simp [ovD, PyData.eqv]
theorem shaped_str {t : Tx} (h : Fine t) : SeqAt.shaped (.str (S t)) = true := by
  have := shaped_dS (ts := [t]) (fun x hx => by rw [List.mem_singleton.mp hx]; exact h)
  unfold SeqAt.shaped at this ⊢
  simp [dS, PyData.canLay0, PyData.canLayAll0, PyData.depth, PyData.depthAll] at this ⊢
  exact this
theorem shaped_ov {a : Option Tx} (h : ∀ t, a = some t → Fine t) : SeqAt.shaped (ovD a) = true := by
  cases a with
  | none => rfl
  | some t => exact shaped_str (h t rfl)
theorem dkOf_all {α : Type} {K : PySem.W.Frag} {H : Hp} {T : List α} {k : α → Tx} {v : α → V} {f : α → PyData} (nd : (T.map k).Nodup) (h : ∀ w ∈ T, Dp K H (v w) (f w) ∧ SeqAt.shaped (f w) = true) :
    ∀ p ∈ T.map (fun w => ((Sum.inr (S (k w)) : Key), v w)), Dp K H p.2 (dkOf k f T p.1) ∧ SeqAt.shaped (dkOf k f T p.1) = true := fun p hp => by
  obtain ⟨w, hw, rfl⟩ := List.mem_map.mp hp
  dsimp only
  rw [dkOf_at nd hw]
  exact h w hw
theorem cmp_iff {α β : Type} {T : List α} {T2 : List β} {k : α → Tx} {k2 : β → Tx} {v : α → V} {v2 : β → V} {f : α → PyData} {f2 : β → PyData} (nd : (T.map k).Nodup) (nd2 : (T2.map k2).Nodup) :
    ((T.map fun w => ((Sum.inr (S (k w)) : Key), v w)).length == (T2.map fun w => ((Sum.inr (S (k2 w)) : Key), v2 w)).length && eqD (T.map fun w => ((Sum.inr (S (k w)) : Key), v w)) (T2.map fun w => ((Sum.inr (S (k2 w)) : Key), v2 w)) (dkOf k f T) (dkOf k2 f2 T2)) = true ↔ T.length = T2.length ∧ ∀ w ∈ T, ∃ u ∈ T2, k2 u = k w ∧ PyData.eqv (f w) (f2 u) = true := by
  rw [Bool.and_eq_true, eqD_map nd nd2, List.length_map, List.length_map, beq_iff_eq]
/-- the same river, in any order -/
def eqRv (R R2 : Rv) : Prop := R.T.length = R2.T.length ∧ (∀ w ∈ R.T, w ∈ R2.T) ∧ R.U.length = R2.U.length ∧ ∀ u ∈ R.U, u ∈ R2.U
/-- not a list in H -/
def NL (H : Hp) (a : Addr) : Prop := ∀ xs, H a ≠ some (.lst xs)
theorem NL.of {H : Hp} {a : Addr} (h : H a = none) : NL H a := fun xs e => by rw [h] at e; cases e
theorem NL.back {H H' : Hp} {a : Addr} (h : NL H' a) (s : LamX.ExtN H H') : NL H a := fun xs e => h xs (s _ _ e fun ps z => by cases z)
/-- a row, its liking a list that was not there in H0 -/
def RowF (H0 H : Hp) (p : Addr) (w : Row) : Prop := ∃ q, H p = some (.tup [.str (S w.t), ov w.a, .int (w.r : Nat), .ref q]) ∧ H q = some (.lst (sv w.l)) ∧ NL H0 q
theorem RowF.l {H0 H : Hp} {p : Addr} {w : Row} (h : RowF H0 H p w) : RowL H p w := let ⟨q, a, b, _⟩ := h; ⟨q, a, b⟩
theorem RowF.same {H0 H H' : Hp} {p : Addr} {w : Row} (h : RowF H0 H p w) (s : Same H H') : RowF H0 H' p w := let ⟨q, a, b, c⟩ := h; ⟨q, s _ _ a, s _ _ b, c⟩
theorem objl_imp {α : Type} {P P' : Hp → Addr → α → Prop} {H : Hp} {p : Addr} {ws : List α} (h : ObjL P H p ws) (i : ∀ a w, P H a w → P' H a w) : ObjL P' H p ws := let ⟨zs, a, b, c⟩ := h; ⟨zs, a, b, fun z m => i _ _ (c z m)⟩
def rowsT (R : Rv) : List Row := (tsort R.tn).map R.row
def rowsU (R : Rv) : List (Tx × Tx) := (tsort R.un).map fun u => (u, R.src u)
/-- what is reached from a value -/
def Rch (G : Hp) : Nat → V → Addr → Prop
  | n + 1, .ref a, b => b = a ∨ ∃ xs, (G a = some (.lst xs) ∨ G a = some (.tup xs)) ∧ ∃ x ∈ xs, Rch G n x b
  | _, _, _ => False
/-- a nested value, its lists not there in H0 -/
def TN (H0 G : Hp) (c M : Nat) : Nat → V → Prop
  | n + 1, .ref a => (∃ xs, G a = some (.lst xs) ∧ NL H0 a ∧ xs.length ≤ M ∧ nf xs ≤ c ∧ ∀ x ∈ xs, TN H0 G c M n x) ∨ ∃ xs, G a = some (.tup xs) ∧ nf xs ≤ c ∧ ∀ x ∈ xs, TN H0 G c M n x
  | 0, .ref _ => False
  | _, x => flatS x
theorem TN.flat {H0 G : Hp} {c M n : Nat} {x : V} (h : flatS x) : TN H0 G c M n x := by
  rcases h with ⟨z, rfl⟩ | ⟨z, rfl⟩ | ⟨z, rfl⟩ | rfl <;> cases n <;> first | exact .inl ⟨_, rfl⟩ | exact .inr (.inl ⟨_, rfl⟩) | exact .inr (.inr (.inl ⟨_, rfl⟩)) | exact .inr (.inr (.inr rfl))
theorem TN.ok {H0 G : Hp} {c M : Nat} : ∀ {n : Nat} {x : V}, TN H0 G c M n x → okV (Rch G n x) x := fun {n x} h => by
  cases x with
  | ref a =>
    cases n with
    | zero => exact h.elim
    | succ n => exact .inr ⟨a, rfl, .inl rfl⟩
  | _ => cases n <;> exact .inl h
theorem rch_up {G : Hp} {n : Nat} {a : Addr} {xs : List V} (e : G a = some (.lst xs) ∨ G a = some (.tup xs)) {x : V} (hx : x ∈ xs) {b : Addr} (h : Rch G n x b) : Rch G (n + 1) (.ref a) b := .inr ⟨xs, e, x, hx, h⟩
theorem okV_imp {C C' : Addr → Prop} (i : ∀ b, C b → C' b) {x : V} (h : okV C x) : okV C' x := h.imp id fun ⟨a, e, c⟩ => ⟨a, e, i a c⟩
theorem TN.all {H0 G : Hp} {c M : Nat} : ∀ {n : Nat} {x : V}, TN H0 G c M n x → ∀ b, Rch G n x b → ((∃ xs, G b = some (.lst xs) ∧ xs.length ≤ M ∧ nf xs ≤ c ∧ ∀ y ∈ xs, okV (Rch G n x) y) ∧ NL H0 b) ∨ ∃ xs, G b = some (.tup xs) ∧ nf xs ≤ c ∧ ∀ y ∈ xs, okV (Rch G n x) y := by
  intro n
  induction n with
  | zero => intro x h b hb; cases x <;> first | exact h.elim | exact hb.elim
  | succ n ih =>
    intro x h b hb
    cases x with
    | ref a =>
      rcases hb with rfl | ⟨xs, e, x, hx, hb⟩
      · rcases h with ⟨xs, e, f, l, c, i⟩ | ⟨xs, e, c, i⟩
        · exact .inl ⟨⟨xs, e, l, c, fun y hy => okV_imp (fun b hb => rch_up (.inl e) hy hb) (i y hy).ok⟩, f⟩
        · exact .inr ⟨xs, e, c, fun y hy => okV_imp (fun b hb => rch_up (.inr e) hy hb) (i y hy).ok⟩
      · have hx' : TN H0 G c M n x := by
          rcases h with ⟨ys, e', _, _, _, i⟩ | ⟨ys, e', _, i⟩
          · rcases e with e | e <;> rw [e'] at e <;> cases e
            exact i x hx
          · rcases e with e | e <;> rw [e'] at e <;> cases e
            exact i x hx
        exact (ih hx' b hb).imp (fun ⟨⟨zs, a1, a2, a3, a4⟩, f⟩ => ⟨⟨zs, a1, a2, a3, fun y hy => okV_imp (fun b hb => rch_up e hx hb) (a4 y hy)⟩, f⟩) fun ⟨zs, a1, a2, a3⟩ => ⟨zs, a1, a2, fun y hy => okV_imp (fun b hb => rch_up e hx hb) (a3 y hy)⟩
    | _ => exact hb.elim
theorem TN.wf {H0 G : Hp} {c M n : Nat} {x : V} (h : TN H0 G c M n x) : Wf (Rch G n x) c M G := fun b hb => (h.all b hb).imp (fun z => z.1) id
theorem TN.fr {H0 G : Hp} {c M n : Nat} {x : V} (h : TN H0 G c M n x) {b : Addr} {xs : List V} (hb : Rch G n x b) (e : G b = some (.lst xs)) : NL H0 b := by
  rcases h.all b hb with z | ⟨ys, e', _⟩
  · exact z.2
  · rw [e] at e'; cases e'
theorem TN.lst {H0 G : Hp} {c M n : Nat} {a : Addr} {xs : List V} (e : G a = some (.lst xs)) (f : NL H0 a) (l : xs.length ≤ M) (k : nf xs ≤ c) (h : ∀ x ∈ xs, TN H0 G c M n x) : TN H0 G c M (n + 1) (.ref a) := .inl ⟨xs, e, f, l, k, h⟩
theorem TN.tup {H0 G : Hp} {c M n : Nat} {a : Addr} {xs : List V} (e : G a = some (.tup xs)) (k : nf xs ≤ c) (h : ∀ x ∈ xs, TN H0 G c M n x) : TN H0 G c M (n + 1) (.ref a) := .inr ⟨xs, e, k, h⟩
theorem nf_len (xs : List V) : nf xs ≤ xs.length := List.length_filter_le _ _
theorem nf_sv (ts : List Tx) : nf (sv ts) = 0 := by
  unfold nf sv
  rw [List.filter_eq_nil_iff.mpr]
  · rfl
  · intro x hx
    obtain ⟨t, _, rfl⟩ := List.mem_map.mp hx
    exact Bool.false_ne_true
theorem flat_sv {ts : List Tx} {x : V} (h : x ∈ sv ts) : flatS x := by obtain ⟨t, _, rfl⟩ := List.mem_map.mp h; exact .inl ⟨_, rfl⟩
theorem flatS_ov {a : Option Tx} : flatS (ov a) := by cases a with
  | none => exact .inr (.inr (.inr rfl))
  | some t => exact .inl ⟨_, rfl⟩
theorem TN.sv {H0 G : Hp} {c M n : Nat} {a : Addr} {ts : List Tx} (e : G a = some (.lst (sv ts))) (f : NL H0 a) (l : ts.length ≤ M) : TN H0 G c M (n + 1) (.ref a) := .lst e f (by rw [sv_len]; exact l) (by rw [nf_sv]; exact Nat.zero_le _) fun x hx => .flat (flat_sv hx)
theorem TN.th {H0 G : Hp} {c M n : Nat} {p : Addr} {u : Tx × Tx} (h : ThO G p u) : TN H0 G c M (n + 1) (.ref p) := .tup (xs := RK.sv [u.1, u.2]) h (by rw [nf_sv]; exact Nat.zero_le _) fun x hx => .flat (flat_sv hx)
theorem TN.row {H0 G : Hp} {c M n : Nat} {p : Addr} {w : Row} (h : RowF H0 G p w) (c1 : 1 ≤ c) (l : w.l.length ≤ M) : TN H0 G c M (n + 2) (.ref p) := by
  obtain ⟨q, a, b, f⟩ := h
  refine .tup a (Nat.le_trans (by cases w.a <;> exact Nat.le_refl 1) c1) fun x hx => ?_
  simp only [List.mem_cons, List.not_mem_nil, or_false] at hx
  rcases hx with rfl | rfl | rfl | rfl
  · exact .flat (.inl ⟨_, rfl⟩)
  · exact .flat flatS_ov
  · exact .flat (.inr (.inl ⟨_, rfl⟩))
  · exact .sv b f l
theorem TN.objs {α : Type} {P : Hp → Addr → α → Prop} {H0 G : Hp} {c M n : Nat} {p : Addr} {ws : List α} (h : ObjL P G p ws) (f : NL H0 p) (l : ws.length ≤ M) (k : ws.length ≤ c) (i : ∀ a w, w ∈ ws → P G a w → TN H0 G c M n (.ref a)) : TN H0 G c M (n + 1) (.ref p) := by
  obtain ⟨zs, e1, e2, e3⟩ := h
  have lz : zs.length = ws.length := by rw [← e1, List.length_map]
  refine .lst e2 f (by rw [List.length_map]; omega) (Nat.le_trans (nf_len _) (by rw [List.length_map]; omega)) fun x hx => ?_
  obtain ⟨z, zm, rfl⟩ := List.mem_map.mp hx
  exact i _ _ (e1 ▸ List.mem_map.mpr ⟨z, zm, rfl⟩) (e3 z zm)
/-- what was there stays -/
theorem KC.old {C : Addr → Prop} {H0 G G' : Hp} (k : KC C G G') (s : Same H0 G) (f : ∀ b xs, C b → G b = some (.lst xs) → NL H0 b) : Same H0 G' := fun b o e => k.k b o (s _ _ e) fun xs z hb => f b xs hb (by rw [← z]; exact s _ _ e) xs (by rw [← z]; exact e)
theorem Same.extN {H H' : Hp} (s : Same H H') : LamX.ExtN H H' := fun b o e _ => s b o e
theorem objl_nmsO {H : Hp} {a : Addr} {ws : List Row} (h : ObjL RowL H a ws) : NmsO H a (ws.map (·.t)) := by
  obtain ⟨zs, e1, e2, e3⟩ := objl_nms h
  exact ⟨zs, e1, Lt.l e2, e3⟩
theorem objl_nmsOT {H : Hp} {a : Addr} {ws : List (Tx × Tx)} (h : ObjL ThO H a ws) : NmsO H a (ws.map (·.1)) := by
  obtain ⟨zs, e1, e2, e3⟩ := objl_nmsT h
  exact ⟨zs, e1, Lt.l e2, e3⟩
theorem rep_svL {H : Hp} {a b : Addr} {ls : List (List Nat)} {n : Nat} (ha : H a = some (.lst (sv ls))) (hb : H b = some (.lst (sv ls))) (hz : ls.length ≤ 1000000) : Rep H (n + 1) (.ref a) (.ref b) := .inl ⟨_, _, ha, hb, rfl, by rw [sv_len]; exact hz, fun k x y hx hy => by
  rw [hx] at hy
  cases hy
  obtain ⟨t, _, rfl⟩ := List.mem_map.mp (List.mem_of_getElem? hx)
  cases n <;> exact rfl⟩
theorem rowsT_t {R : Rv} (nd : R.tn.Nodup) : (rowsT R).map (·.t) = tsort R.tn := by
  unfold rowsT
  rw [List.map_map]
  refine (List.map_congr_left fun t ht => ?_).trans (List.map_id _)
  obtain ⟨w, hw, ew⟩ := find_row (tsort_mem.mp ht)
  show (R.row t).t = t
  rw [← ew, R.row_at nd hw]
theorem rowsU_u {R : Rv} : (rowsU R).map (·.1) = tsort R.un := by
  unfold rowsU
  rw [List.map_map]
  exact (List.map_congr_left fun t ht => rfl).trans (List.map_id _)
theorem rowsT_len {R : Rv} : (rowsT R).length = R.T.length := by unfold rowsT; rw [List.length_map, tsort_len]; exact List.length_map _
theorem rowsU_len {R : Rv} : (rowsU R).length = R.U.length := by unfold rowsU; rw [List.length_map, tsort_len]; exact List.length_map _
theorem rowsT_l {R : Rv} {rk : Tx → Nat} (k : R.Ok rk) {w : Row} (h : w ∈ rowsT R) : w.l.length ≤ 10 := by
  obtain ⟨t, ht, rfl⟩ := List.mem_map.mp h
  obtain ⟨v, hv, ev⟩ := find_row (tsort_mem.mp ht)
  rw [← ev, R.row_at k.tnd hv, (k.lk v hv).length_eq, show R.un.length = R.U.length from List.length_map _]
  exact k.u10
theorem xv_at {σ : L2.St} {i : Nat} {v : V} {H : Hp} {Q : VK} (e : σ[i]? = some (some v)) (q : Q v H) : xV i σ H Q := by
  unfold xV
  rw [e]
  exact q
abbrev qL : Str := ("_law_kept" ++ ".<locals>.") ++ "<lambda>"
theorem sort_lam {α : Type} {K : PySem.W.Frag} {P : Hp → Addr → α → Prop} {nm : α → Tx} {H : Hp} {a : Addr} {ws : List α} (h : ObjL P H a ws) (hn : ∀ z w, P H z w → ∃ r, H z = some (.tup (.str (S (nm w)) :: r))) (nd : (ws.map nm).Nodup) :
    ∃ (xs : List V) (k : V → Str), SqL K H a xs ∧ (∀ x ∈ xs, ∃ t r, x = .ref t ∧ H t = some (.tup (.str (k x) :: r))) ∧ ∀ ys, SrtO.Srtd (fun x y => ltX (k x) (k y)) ys → ys.Perm xs → ∃ zs' : List (Addr × α), ys = zs'.map (fun z => V.ref z.1) ∧ zs'.map (fun z : Addr × α => nm z.2) = tsort (ws.map nm) ∧ ∀ z ∈ zs', z.2 ∈ ws ∧ P H z.1 z.2 := by
  obtain ⟨zs, e1, e2, e3⟩ := h
  have hk : ∀ z ∈ zs, kN H (.ref z.1) = S (nm z.2) := fun z hz => let ⟨r, e⟩ := hn _ _ (e3 z hz); kN_at e
  refine ⟨zs.map fun z => V.ref z.1, kN H, SqL.of e2, fun x hx => ?_, fun ys srt pm => ?_⟩
  · obtain ⟨z, hz, rfl⟩ := List.mem_map.mp hx
    obtain ⟨r, e⟩ := hn _ _ (e3 z hz)
    exact ⟨z.1, r, rfl, by rw [hk z hz]; exact e⟩
  · obtain ⟨zs', pz, rfl⟩ := perm_lift pm.symm zs rfl
    have m' : ∀ z ∈ zs', z ∈ zs := fun z hz => pz.mem_iff.mp hz
    refine ⟨zs', rfl, ?_, fun z hz => ⟨e1 ▸ List.mem_map.mpr ⟨z, m' z hz, rfl⟩, e3 z (m' z hz)⟩⟩
    have pn : (zs'.map fun z => nm z.2).Perm (ws.map nm) := by
      rw [← e1, List.map_map]
      exact pz.map _
    refine (pn.trans (tsort_perm _).symm).eq_of_pairwise (fun x y _ _ h1 h2 => List.le_antisymm h1 h2) ?_ (tsort_up _)
    rw [List.pairwise_map]
    unfold SrtO.Srtd at srt
    rw [List.pairwise_map] at srt
    refine srt.imp_of_mem fun {x y} hx hy h => ?_
    have h : ltX (kN H (.ref y.1)) (kN H (.ref x.1)) = false := h
    rw [hk x (m' x hx), hk y (m' y hy)] at h
    exact of_decide_eq_false h
theorem ext_l {H H' : Hp} (e : LamX.ExtN H H') {b : Addr} {xs : List V} (h : H b = some (.lst xs)) : H' b = some (.lst xs) := e _ _ h fun ps z => by cases z
theorem ext_t {H H' : Hp} (e : LamX.ExtN H H') {b : Addr} {xs : List V} (h : H b = some (.tup xs)) : H' b = some (.tup xs) := e _ _ h fun ps z => by cases z
theorem tabO_same {P : Addr} {q : Str} {H H' : Hp} (t : TabO P q H) (s : Same H H') : TabO P q H' := t.ext s
theorem tabO_keep {P f : Addr} {q : Str} {H H' : Hp} {xs : List V} (t : TabO P q H) (k : Keep f H H') (hf : H f = some (.lst xs)) : TabO P q H' := fun p hp => by
  obtain ⟨ps, h1, h2, h3⟩ := t p hp
  refine ⟨ps, k _ _ (fun e => by rw [e, hf] at h1; cases h1) h1, h2, fun pos cv hc => ?_⟩
  obtain ⟨c, e1, e2⟩ := h3 pos cv hc
  exact ⟨c, e1, k _ _ (fun e => by rw [e, hf] at e2; cases e2) e2⟩
theorem objl_th_ext {H H' : Hp} {p : Addr} {ws : List (Tx × Tx)} (h : ObjL ThO H p ws) (e : LamX.ExtN H H') : ObjL ThO H' p ws := let ⟨zs, a, b, c⟩ := h; ⟨zs, a, ext_l e b, fun z m => ext_t e (c z m)⟩
theorem objl_row_ext {H H' : Hp} {p : Addr} {ws : List Row} (h : ObjL RowL H p ws) (e : LamX.ExtN H H') : ObjL RowL H' p ws := let ⟨zs, a, b, c⟩ := h; ⟨zs, a, ext_l e b, fun z m => let ⟨q, x, y⟩ := c z m; ⟨q, ext_t e x, ext_l e y⟩⟩
theorem objl_rowF_ext {H0 H H' : Hp} {p : Addr} {ws : List Row} (h : ObjL (RowF H0) H p ws) (e : LamX.ExtN H H') : ObjL (RowF H0) H' p ws := let ⟨zs, a, b, c⟩ := h; ⟨zs, a, ext_l e b, fun z m => let ⟨q, x, y, n⟩ := c z m; ⟨q, ext_t e x, ext_l e y, n⟩⟩
/-- [an object made of each] -/
theorem tLc_objMap {α β : Type} {K : PySem.W.Frag} {te0 te : TE} {p : Addr} {j : Nat} {vs : List Nat} {σ : L2.St} {H : Hp} {Q : VK} {zs : List (Addr × α)} {g : α → β} {P' : Addr → Hp → Addr → β → Prop} {Rel : Addr → Hp → Hp → Prop} (I : Addr → Nat → Hp → Prop) (h0 : ∀ R : VK, R (.ref p) H → te0 σ H R) (hp : Lt H p (zs.map fun z => V.ref z.1)) (few : zs.length ≤ 1000)
    (hw : ∀ x : V, wipe ((wipe σ vs).set j (some x)) vs = wipe σ vs) (mono : ∀ D G G' a b, Rel D G G' → P' D G a b → P' D G' a b) (I0 : ∀ D, H D = none → I D 0 (upd H D (.lst []))) (Ik : ∀ D i G, H D = none → I D i G → G p = H p)
    (he : ∀ D i (z : Addr × α) G acc, H D = none → zs[i]? = some z → I D i G → G D = some (.lst acc) → ∀ Q' : VK, (∀ a G', G' D = some (.lst acc) → (∀ acc', Rel D G (upd G' D (.lst acc')) ∧ I D (i + 1) (upd G' D (.lst acc')) ∧ P' D (upd G' D (.lst acc')) a (g z.2)) → Q' (.ref a) G') → te ((wipe σ vs).set j (some (.ref z.1))) G Q')
    (hd : ∀ D G (ys : List (Addr × β)), H D = none → I D zs.length G → ys.map (·.2) = zs.map (fun z => g z.2) → G D = some (.lst (ys.map fun y => V.ref y.1)) → (∀ y ∈ ys, P' D G y.1 y.2) → Q (.ref D) G) : tLc (iSeq K te0) (gName j) tYes te vs σ H Q := by
  refine tLc_lt h0 (fun D i G => I D i G ∧ ∃ ys : List (Addr × β), ys.map (·.2) = (zs.take i).map (fun z => g z.2) ∧ G D = some (.lst (ys.map fun y => V.ref y.1)) ∧ ∀ y ∈ ys, P' D G y.1 y.2) hp (fun D hD => ⟨I0 D hD, [], rfl, upd_same, fun y h => (by cases h)⟩) (fun D i G hD e => Ik D i G hD e.1) (fun D i x G hD hx e => ?_) (fun D G hD e => ?_)
  · obtain ⟨iG, ys, ey, dG, hy⟩ := e
    obtain ⟨z, gz, rfl⟩ := objs_get hx
    have il := (List.getElem?_eq_some_iff.mp gz).1
    refine ⟨hw _, ?_⟩
    simp only [tYes, ↓reduceIte]
    refine he D i z G _ hD gz iG dG _ fun a G' dG' k => ?_
    obtain ⟨r, i', pa⟩ := k (ys.map (fun y => V.ref y.1) ++ [.ref a])
    have ly : ys.length = i := by
      have := congrArg List.length ey
      rw [List.length_map, List.length_map, List.length_take] at this
      omega
    refine ⟨_, dG', by rw [List.length_map, sl_big]; omega, i', ys ++ [(a, g z.2)], ?_, by rw [upd_same, List.map_append]; rfl, fun y hy' => ?_⟩
    · rw [take_succ_get gz, List.map_append, List.map_append, ey]; rfl
    · rcases List.mem_append.mp hy' with h | h
      · exact mono _ _ _ _ _ r (hy y h)
      · rw [List.mem_singleton.mp h]; exact pa
  · obtain ⟨iG, ys, ey, dG, hy⟩ := e
    rw [List.length_map] at iG ey
    rw [List.take_length] at ey
    exact hd D G ys hD iG ey dG hy
theorem Sto.nesv {s cl a : Addr} {n : Nat} {H : Hp} {ts : List Tx} (S0 : Sto s cl n H) (e : H a = some (.lst (sv ts))) : a ≠ s := fun z => by
  obtain ⟨ns, x1, x2, x3, x4, es, _⟩ := S0.ex
  rw [z, es] at e
  exact srow_sv (Option.some.inj e)
theorem Sto.nerf {s cl a : Addr} {n : Nat} {H : Hp} {α : Type} {zs : List (Addr × α)} (S0 : Sto s cl n H) (e : H a = some (.lst (zs.map fun z => V.ref z.1))) : a ≠ s := fun z => by
  obtain ⟨ns, x1, x2, x3, x4, es, _⟩ := S0.ex
  rw [z, es] at e
  exact srow_refs (Option.some.inj e)
theorem Sto.netp {s cl a : Addr} {n : Nat} {H : Hp} {xs : List V} (S0 : Sto s cl n H) (e : H a = some (.tup xs)) : a ≠ s := fun z => by
  obtain ⟨ns, x1, x2, x3, x4, es, _⟩ := S0.ex
  rw [z, es] at e
  cases e
/-- a list or a tuple -/
def LT (H : Hp) (p : Addr) (xs : List V) : Prop := H p = some (.lst xs) ∨ H p = some (.tup xs)
theorem LT.ext {H H' : Hp} {p : Addr} {xs : List V} (h : LT H p xs) (e : LamX.ExtN H H') : LT H' p xs := h.imp (ext_l e) (ext_t e)
theorem LT.lt {H : Hp} {p : Addr} {xs : List V} (h : LT H p xs) : Lt H p xs := h.elim Lt.l Lt.t
/-- a row with its liking as a list or a tuple -/
def RowX (H0 H : Hp) (p : Addr) (w : Row) : Prop := ∃ q, H p = some (.tup [.str (S w.t), ov w.a, .int (w.r : Nat), .ref q]) ∧ LT H q (sv w.l) ∧ NL H0 q
/-- rows handed over: lists and tuples, the lists not there in H0 -/
structure Paper (H0 H : Hp) (p f t : Addr) (T : List Row) (U : List (Tx × Tx)) : Prop where
  top : H p = some (.tup [.ref f, .ref t])
  fst : ∃ zs : List (Addr × Row), zs.map (·.2) = T ∧ LT H f (zs.map fun z => V.ref z.1) ∧ ∀ z ∈ zs, RowX H0 H z.1 z.2
  snd : ∃ ys : List (Addr × (Tx × Tx)), ys.map (·.2) = U ∧ LT H t (ys.map fun z => V.ref z.1) ∧ ∀ y ∈ ys, ThO H y.1 y.2
  nf : NL H0 f
  nt : NL H0 t
theorem Paper.ext {H0 H H' : Hp} {p f t : Addr} {T : List Row} {U : List (Tx × Tx)} (h : Paper H0 H p f t T U) (e : LamX.ExtN H H') : Paper H0 H' p f t T U :=
  ⟨ext_t e h.top, let ⟨zs, a, b, c⟩ := h.fst; ⟨zs, a, b.ext e, fun z m => let ⟨q, x, y, n⟩ := c z m; ⟨q, ext_t e x, y.ext e, n⟩⟩, let ⟨zs, a, b, c⟩ := h.snd; ⟨zs, a, b.ext e, fun z m => ext_t e (c z m)⟩, h.nf, h.nt⟩
theorem set_get {α : Type} {l : List α} {i : Nat} {w w' : α} (h : l[i]? = some w) : ∀ v ∈ l.set i w', v = w' ∨ v ∈ l := fun v hv => by
  obtain ⟨j, hj⟩ := List.getElem?_of_mem hv
  rw [List.getElem?_set] at hj
  split at hj
  · split at hj
    · exact .inl (Option.some.inj hj).symm
    · cases hj
  · exact .inr (List.mem_of_getElem? hj)
theorem map_set_same {α β : Type} {f : α → β} {l : List α} {i : Nat} {w w' : α} (h : l[i]? = some w) (e : f w' = f w) : (l.set i w').map f = l.map f := by
  refine List.ext_getElem? fun j => ?_
  rw [List.getElem?_map, List.getElem?_map, List.getElem?_set]
  by_cases c : i = j
  · subst c
    have il := (List.getElem?_eq_some_iff.mp h).1
    rw [if_pos rfl, if_pos il, h]
    exact congrArg some e
  · rw [if_neg c]
theorem ok_setT {R : Rv} {rk : Tx → Nat} (k : R.Ok rk) {i : Nat} {w w' : Row} (h : R.T[i]? = some w) (et : w'.t = w.t) (ea : w'.a = w.a ∨ w'.a = none) (er : w'.r ≤ 99) (el : w'.l.Perm w.l) : (⟨R.T.set i w', R.U⟩ : Rv).Ok rk := by
  have wm := List.mem_of_getElem? h
  have tn : (⟨R.T.set i w', R.U⟩ : Rv).tn = R.tn := map_set_same (f := fun w : Row => w.t) h et
  have sub := set_get (w' := w') h
  refine ⟨by show 1 ≤ (R.T.set i w').length; rw [List.length_set]; exact k.t0, by show (R.T.set i w').length ≤ 8; rw [List.length_set]; exact k.t8, k.u10, fun v hv => ?_, by rw [tn]; exact k.tnd, k.unm, k.und, fun v hv a e => ?_, fun v hv => ?_, fun v hv => ?_, fun v hv => ?_, fun u hu => by rw [tn]; exact k.sp u hu⟩
  · rcases sub v hv with rfl | h
    · rw [et]; exact k.tnm w wm
    · exact k.tnm v h
  · rw [tn]
    rcases sub v hv with rfl | h
    · rcases ea with ea | ea
      · rw [ea] at e
        rw [et]
        exact k.af w wm a e
      · rw [ea] at e; cases e
    · exact k.af v h a e
  · show rk v.t < (R.T.set i w').length
    rw [List.length_set]
    rcases sub v hv with rfl | h
    · rw [et]; exact k.rkn w wm
    · exact k.rkn v h
  · rcases sub v hv with rfl | h
    · exact er
    · exact k.rm v h
  · rcases sub v hv with rfl | h
    · exact el.trans (k.lk w wm)
    · exact k.lk v h
theorem ok_setU {R : Rv} {rk : Tx → Nat} (k : R.Ok rk) {i : Nat} {u u' : Tx × Tx} (h : R.U[i]? = some u) (et : u'.1 = u.1) (ea : u'.2 ∈ R.tn) : (⟨R.T, R.U.set i u'⟩ : Rv).Ok rk := by
  have wm := List.mem_of_getElem? h
  have un : (⟨R.T, R.U.set i u'⟩ : Rv).un = R.un := map_set_same (f := fun u : Tx × Tx => u.1) h et
  have sub := set_get (w' := u') h
  refine ⟨k.t0, k.t8, by show (R.U.set i u').length ≤ 10; rw [List.length_set]; exact k.u10, k.tnm, k.tnd, fun v hv => ?_, by rw [un]; exact k.und, k.af, k.rkn, k.rm, fun v hv => by rw [un]; exact k.lk v hv, fun v hv => ?_⟩
  · rcases sub v hv with rfl | h
    · rw [et]; exact k.unm u wm
    · exact k.unm v h
  · rcases sub v hv with rfl | h
    · exact ea
    · exact k.sp v h
theorem objs_set {α : Type} {P : Hp → Addr → α → Prop} {G' : Hp} {f : Addr} {zs : List (Addr × α)} {i : Nat} {a : Addr} {w' : α} (e : G' f = some (.lst ((zs.map fun z => V.ref z.1).set i (.ref a)))) (h : ∀ z ∈ zs, P G' z.1 z.2) (hw : P G' a w') : ObjL P G' f ((zs.map (·.2)).set i w') := by
  refine ⟨zs.set i (a, w'), by rw [List.map_set], by rw [e, List.map_set], fun z hz => ?_⟩
  rcases List.mem_or_eq_of_mem_set hz with h' | rfl
  · exact h z h'
  · exact hw
theorem rv_extN {K : PySem.W.Frag} {H H' : Hp} {x : Addr} {R : Rv} (h : RivO K H x R) (e : LamX.ExtN H H') : RivO K H' x R := by
  obtain ⟨dx, a1, a2, a3, a4, a5, a6, a7, a8, a9, h0, h1, h2, h3, h4, ⟨zl, e5, h5, l5⟩, h6, ⟨zp, e7, h7, l7⟩, ⟨zq, e8, h8, l8⟩, ⟨kvs, h9⟩⟩ := h
  have go : ∀ {a o}, H a = some o → (∀ ps, o ≠ .tbl ps) → H' a = some o := fun {a o} g n => e _ _ g n
  exact ⟨dx, a1, a2, a3, a4, a5, a6, a7, a8, a9, go h0 (fun _ z => by cases z), ext_l e h1, ext_l e h2, go h3 (fun _ z => by cases z), go h4 (fun _ z => by cases z), ⟨zl, e5, go h5 (fun _ z => by cases z), fun z m => ext_l e (l5 z m)⟩, go h6 (fun _ z => by cases z), ⟨zp, e7, go h7 (fun _ z => by cases z), fun z m => ext_l e (l7 z m)⟩, ⟨zq, e8, ext_l e h8, fun z m => ext_t e (l8 z m)⟩, ⟨kvs, go h9 (fun _ z => by cases z)⟩⟩
theorem rivN_extN {H0 H H' : Hp} {x : Addr} (h : RivN H0 H x) (e : LamX.ExtN H H') : RivN H0 H' x := by
  obtain ⟨C, dx, a1, a2, a3, a4, a5, a6, a7, a8, a9, k5, k7, h0, f1, f2, f8, h5, g5, h7, g7⟩ := h
  exact ⟨C, dx, a1, a2, a3, a4, a5, a6, a7, a8, a9, k5, k7, e _ _ h0 (fun _ z => by cases z), f1, f2, f8, e _ _ h5 (fun _ z => by cases z), g5, e _ _ h7 (fun _ z => by cases z), g7⟩
theorem sto_extN {s cl : Addr} {n : Nat} {H H' : Hp} (S0 : Sto s cl n H) (e : LamX.ExtN H H') : Sto s cl n H' := by
  obtain ⟨ns, a, d, b, c, h1, h2, h3⟩ := S0.ex
  exact ⟨ns, a, d, b, c, e _ _ h1 (fun _ z => by cases z), ext_l e h2, h3⟩
/-- a copy holds the same data -/
theorem rep_cp {F : Addr → Prop} {H G K : Hp} (eH : LamX.ExtN H K) (eG : LamX.ExtN G K) : ∀ (n : Nat) (x y : V), Tree H n x → Cp F H G n x y → Rep K n x y := by
  intro n
  induction n with
  | zero => intro x y t c; cases x <;> cases y <;> first | exact t.elim | exact c.elim | (cases c; exact rfl) | (cases c; exact trivial) | cases c
  | succ n ih =>
    intro x y t c
    cases x with
    | ref a =>
      cases y with
      | ref b =>
        rcases c.2 with ⟨xs, ys, h1, h2, h3, h4⟩ | ⟨xs, ys, h1, h2, h3, h4⟩
        · rcases t with ⟨zs, t1, t2, t3⟩ | ⟨zs, t1, t2, t3⟩
          · rw [h1] at t1; cases t1
            exact .inl ⟨xs, ys, ext_l eH h1, ext_l eG h2, h3, by omega, fun k x y p q => ih x y (t3 x (List.mem_of_getElem? p)) (h4 k x y p q)⟩
          · rw [h1] at t1; cases t1
        · rcases t with ⟨zs, t1, t2, t3⟩ | ⟨zs, t1, t2, t3⟩
          · rw [h1] at t1; cases t1
          · rw [h1] at t1; cases t1
            exact .inr ⟨xs, ys, ext_t eH h1, ext_t eG h2, h3, by omega, fun k x y p q => ih x y (t3 x (List.mem_of_getElem? p)) (h4 k x y p q)⟩
      | _ => exact c.elim
    | _ => cases y <;> first | exact t.elim | exact c.elim | (cases c; exact rfl) | (cases c; exact trivial) | cases c
theorem plain_ov {a : Option Tx} : plainV (ov a) := by cases a <;> exact trivial
theorem tree_pl {H : Hp} {n : Nat} {x : V} (h : plainV x) : Tree H n x := by cases x <;> first | exact h.elim | (cases n <;> exact h)
theorem tree_LT {H : Hp} {n : Nat} {p : Addr} {xs : List V} (h : LT H p xs) (l : xs.length ≤ 1000000) (i : ∀ x ∈ xs, Tree H n x) : Tree H (n + 1) (.ref p) := h.elim (fun h => .inl ⟨xs, h, l, i⟩) fun h => .inr ⟨xs, h, l, i⟩
theorem tree_paper {H0 H : Hp} {p f t : Addr} {T : List Row} {U : List (Tx × Tx)} (h : Paper H0 H p f t T U) (lT : T.length ≤ 60) (lU : U.length ≤ 60) (ll : ∀ w ∈ T, w.l.length ≤ 60) : Tree H 6 (.ref p) := by
  obtain ⟨zs, e1, e2, e3⟩ := h.fst
  obtain ⟨ys, g1, g2, g3⟩ := h.snd
  refine .inr ⟨_, h.top, (by show 2 ≤ 1000000; decide), fun x hx => ?_⟩
  simp only [List.mem_cons, List.not_mem_nil, or_false] at hx
  rcases hx with rfl | rfl
  · refine tree_LT e2 (by rw [List.length_map, ← List.length_map (·.2), e1]; omega) fun x hx => ?_
    obtain ⟨z, zm, rfl⟩ := List.mem_map.mp hx
    obtain ⟨q, h1, h2, _⟩ := e3 z zm
    refine .inr ⟨_, h1, (by show 4 ≤ 1000000; decide), fun x hx => ?_⟩
    simp only [List.mem_cons, List.not_mem_nil, or_false] at hx
    rcases hx with rfl | rfl | rfl | rfl
    · exact trivial
    · exact tree_pl plain_ov
    · exact trivial
    · refine tree_LT h2 (by rw [sv_len]; have := ll z.2 (e1 ▸ List.mem_map.mpr ⟨z, zm, rfl⟩); omega) fun x hx => ?_
      obtain ⟨u, _, rfl⟩ := List.mem_map.mp hx
      exact trivial
  · refine tree_LT g2 (by rw [List.length_map, ← List.length_map (·.2), g1]; omega) fun x hx => ?_
    obtain ⟨y, ym, rfl⟩ := List.mem_map.mp hx
    refine .inr ⟨_, g3 y ym, (by show 2 ≤ 1000000; decide), fun x hx => ?_⟩
    simp only [List.mem_cons, List.not_mem_nil, or_false] at hx
    rcases hx with rfl | rfl <;> exact trivial
theorem tn_LT {H0 G : Hp} {c M n : Nat} {p : Addr} {xs : List V} (h : LT G p xs) (f : NL H0 p) (l : xs.length ≤ M) (k : nf xs ≤ c) (i : ∀ x ∈ xs, TN H0 G c M n x) : TN H0 G c M (n + 1) (.ref p) := h.elim (fun h => .lst h f l k i) fun h => .tup h k i
theorem tn_paper {H0 H : Hp} {p f t : Addr} {T : List Row} {U : List (Tx × Tx)} (h : Paper H0 H p f t T U) (lT : T.length ≤ 12) (lU : U.length ≤ 12) (ll : ∀ w ∈ T, w.l.length ≤ 60) : TN H0 H 12 1000 6 (.ref p) := by
  obtain ⟨zs, e1, e2, e3⟩ := h.fst
  obtain ⟨ys, g1, g2, g3⟩ := h.snd
  have lz : zs.length = T.length := by rw [← e1, List.length_map]
  have ly : ys.length = U.length := by rw [← g1, List.length_map]
  refine .tup h.top (Nat.le_trans (nf_len _) (by show 2 ≤ 12; decide)) fun x hx => ?_
  simp only [List.mem_cons, List.not_mem_nil, or_false] at hx
  rcases hx with rfl | rfl
  · refine tn_LT e2 h.nf (by rw [List.length_map]; omega) (Nat.le_trans (nf_len _) (by rw [List.length_map]; omega)) fun x hx => ?_
    obtain ⟨z, zm, rfl⟩ := List.mem_map.mp hx
    obtain ⟨q, h1, h2, h3⟩ := e3 z zm
    refine .tup h1 (Nat.le_trans (nf_len _) (by show 4 ≤ 12; decide)) fun x hx => ?_
    simp only [List.mem_cons, List.not_mem_nil, or_false] at hx
    rcases hx with rfl | rfl | rfl | rfl
    · exact .flat (.inl ⟨_, rfl⟩)
    · exact .flat flatS_ov
    · exact .flat (.inr (.inl ⟨_, rfl⟩))
    · exact tn_LT h2 h3 (by rw [sv_len]; have := ll z.2 (e1 ▸ List.mem_map.mpr ⟨z, zm, rfl⟩); omega) (by rw [nf_sv]; exact Nat.zero_le _) fun x hx => .flat (flat_sv hx)
  · refine tn_LT g2 h.nt (by rw [List.length_map]; omega) (Nat.le_trans (nf_len _) (by rw [List.length_map]; omega)) fun x hx => ?_
    obtain ⟨y, ym, rfl⟩ := List.mem_map.mp hx
    exact .th (g3 y ym)
theorem Paper.rows {H0 H : Hp} {p f t : Addr} {T : List Row} {U : List (Tx × Tx)} (h : Paper H0 H p f t T U) : RowsO H f T := let ⟨zs, a, b, c⟩ := h.fst; ⟨zs, a, b.lt, fun z m => let ⟨q, x, y, _⟩ := c z m; ⟨q, x, y.lt⟩⟩
theorem Paper.ths {H0 H : Hp} {p f t : Addr} {T : List Row} {U : List (Tx × Tx)} (h : Paper H0 H p f t T U) : ThsO H t U := let ⟨zs, a, b, c⟩ := h.snd; ⟨zs, a, b.lt, c⟩
theorem Paper.keepS {H0 H H' : Hp} {s cl p f t : Addr} {n : Nat} {T : List Row} {U : List (Tx × Tx)} (h : Paper H0 H p f t T U) (S0 : Sto s cl n H) (k : Keep s H H') : Paper H0 H' p f t T U := by
  have LTs : ∀ {q : Addr} {ts : List Tx}, LT H q (sv ts) → LT H' q (sv ts) := fun l => l.elim (fun e => .inl (k _ _ (S0.nesv e) e)) fun e => .inr (k _ _ (S0.netp e) e)
  obtain ⟨zs, e1, e2, e3⟩ := h.fst
  obtain ⟨ys, g1, g2, g3⟩ := h.snd
  exact ⟨k _ _ (S0.netp h.top) h.top, ⟨zs, e1, e2.elim (fun e => .inl (k _ _ (S0.nerf e) e)) (fun e => .inr (k _ _ (S0.netp e) e)), fun z m => let ⟨q, x, y, n⟩ := e3 z m; ⟨q, k _ _ (S0.netp x) x, LTs y, n⟩⟩, ⟨ys, g1, g2.elim (fun e => .inl (k _ _ (S0.nerf e) e)) (fun e => .inr (k _ _ (S0.netp e) e)), fun y m => k _ _ (S0.netp (g3 y m)) (g3 y m)⟩, h.nf, h.nt⟩
theorem Paper.old {H0 H1 H : Hp} {s cl p f t : Addr} {n : Nat} {T : List Row} {U : List (Tx × Tx)} (h : Paper H0 H p f t T U) (S0 : Sto s cl n H) (k : Keep s H1 H0) (fs : f ≠ s) (ts : t ≠ s) : Paper H1 H p f t T U := by
  have nb : ∀ {x : Addr}, x ≠ s → NL H0 x → NL H1 x := fun ns n xs e => n xs (k _ _ ns e)
  obtain ⟨zs, e1, e2, e3⟩ := h.fst
  exact ⟨h.top, ⟨zs, e1, e2, fun z m => let ⟨q, x, y, n⟩ := e3 z m; ⟨q, x, y, nb (y.elim (fun e => S0.nesv e) fun e => S0.netp e) n⟩⟩, h.snd, nb fs h.nf, nb ts h.nt⟩
theorem wf_or {C D : Addr → Prop} {c M : Nat} {H : Hp} (h : Wf C c M H) (g : Wf D c M H) : Wf (fun b => C b ∨ D b) c M H := fun a ha => by
  rcases ha with ha | ha
  · exact (h a ha).imp (fun ⟨xs, e, l, k, i⟩ => ⟨xs, e, l, k, fun x hx => okV_imp (fun b hb => .inl hb) (i x hx)⟩) fun ⟨xs, e, k, i⟩ => ⟨xs, e, k, fun x hx => okV_imp (fun b hb => .inl hb) (i x hx)⟩
  · exact (g a ha).imp (fun ⟨xs, e, l, k, i⟩ => ⟨xs, e, l, k, fun x hx => okV_imp (fun b hb => .inr hb) (i x hx)⟩) fun ⟨xs, e, k, i⟩ => ⟨xs, e, k, fun x hx => okV_imp (fun b hb => .inr hb) (i x hx)⟩
theorem wf_ext {C : Addr → Prop} {c M : Nat} {H H' : Hp} (h : Wf C c M H) (e : LamX.ExtN H H') : Wf C c M H' := fun a ha => (h a ha).imp (fun ⟨xs, x, r⟩ => ⟨xs, ext_l e x, r⟩) fun ⟨xs, x, r⟩ => ⟨xs, ext_t e x, r⟩
/-! ### the rows in order tell the river -/
theorem rowsT_mem {R : Rv} (nd : R.tn.Nodup) {w : Row} : w ∈ rowsT R ↔ w ∈ R.T := by
  unfold rowsT
  rw [List.mem_map]
  constructor
  · rintro ⟨t, ht, rfl⟩
    obtain ⟨v, hv, ev⟩ := find_row (tsort_mem.mp ht)
    rw [← ev, R.row_at nd hv]
    exact hv
  · exact fun h => ⟨w.t, tsort_mem.mpr (List.mem_map.mpr ⟨w, h, rfl⟩), R.row_at nd h⟩
theorem rowsU_mem {R : Rv} (nd : R.un.Nodup) {u : Tx × Tx} : u ∈ rowsU R ↔ u ∈ R.U := by
  unfold rowsU
  rw [List.mem_map]
  constructor
  · rintro ⟨t, ht, rfl⟩
    obtain ⟨v, hv, rfl⟩ := List.mem_map.mp (tsort_mem.mp ht)
    rw [R.src_at nd hv]
    exact hv
  · exact fun h => ⟨u.1, tsort_mem.mpr (List.mem_map.mpr ⟨u, h, rfl⟩), Prod.ext rfl (R.src_at nd h)⟩
theorem sub_permT : ∀ {l m : List Tx}, l.Nodup → (∀ x ∈ l, x ∈ m) → l.length = m.length → l.Perm m
  | [], m, _, _, e => by
    have : m = [] := List.eq_nil_of_length_eq_zero e.symm
    rw [this]
  | x :: r, m, nd, h, e => by
    obtain ⟨n1, n2⟩ := List.nodup_cons.mp nd
    have hx := h x List.mem_cons_self
    have p := List.perm_cons_erase hx
    have ih := sub_permT (l := r) (m := m.erase x) n2 (fun y hy => (List.mem_erase_of_ne fun (e : y = x) => n1 (e ▸ hy)).mpr (h y (List.mem_cons_of_mem _ hy))) (by rw [List.length_erase_of_mem hx, ← e]; rfl)
    exact (List.Perm.cons x ih).trans p.symm
theorem tsort_eq2 {l m : List Tx} (h : l.Perm m) : tsort l = tsort m := ((tsort_perm l).trans (h.trans (tsort_perm m).symm)).eq_of_pairwise (fun x y _ _ h1 h2 => List.le_antisymm h1 h2) (tsort_up _) (tsort_up _)
theorem eqRv_iff {R R2 : Rv} (nd : R.tn.Nodup) (nd2 : R2.tn.Nodup) (und : R.un.Nodup) (und2 : R2.un.Nodup) : eqRv R R2 ↔ rowsT R = rowsT R2 ∧ rowsU R = rowsU R2 := by
  constructor
  · rintro ⟨l1, s1, l2, s2⟩
    have e1 : tsort R.tn = tsort R2.tn := tsort_eq2 (sub_permT nd (fun t ht => by obtain ⟨w, hw, rfl⟩ := List.mem_map.mp ht; exact List.mem_map.mpr ⟨w, s1 w hw, rfl⟩) (by unfold Rv.tn; rw [List.length_map, List.length_map]; exact l1))
    have e2 : tsort R.un = tsort R2.un := tsort_eq2 (sub_permT und (fun t ht => by obtain ⟨w, hw, rfl⟩ := List.mem_map.mp ht; exact List.mem_map.mpr ⟨w, s2 w hw, rfl⟩) (by unfold Rv.un; rw [List.length_map, List.length_map]; exact l2))
    refine ⟨?_, ?_⟩
    · unfold rowsT
      rw [← e1]
      refine List.map_congr_left fun t ht => ?_
      obtain ⟨v, hv, ev⟩ := find_row (tsort_mem.mp ht)
      rw [← ev, R.row_at nd hv, R2.row_at nd2 (s1 v hv)]
    · unfold rowsU
      rw [← e2]
      refine List.map_congr_left fun t ht => ?_
      obtain ⟨v, hv, rfl⟩ := List.mem_map.mp (tsort_mem.mp ht)
      rw [R.src_at und hv, R2.src_at und2 (s2 v hv)]
  · rintro ⟨e1, e2⟩
    refine ⟨by rw [← rowsT_len, e1, rowsT_len], fun w hw => (rowsT_mem nd2).mp (e1 ▸ (rowsT_mem nd).mpr hw), by rw [← rowsU_len, e2, rowsU_len], fun u hu => (rowsU_mem und2).mp (e2 ▸ (rowsU_mem und).mpr hu)⟩
theorem ok_perm {R : Rv} {rk : Tx → Nat} (k : R.Ok rk) {T : List Row} {U : List (Tx × Tx)} (pT : T.Perm R.T) (pU : U.Perm R.U) : (⟨T, U⟩ : Rv).Ok rk := by
  have pt : (⟨T, U⟩ : Rv).tn.Perm R.tn := pT.map _
  have pu : (⟨T, U⟩ : Rv).un.Perm R.un := pU.map _
  have lT := pT.length_eq
  have lU := pU.length_eq
  exact ⟨by show 1 ≤ T.length; rw [lT]; exact k.t0, by show T.length ≤ 8; rw [lT]; exact k.t8, by show U.length ≤ 10; rw [lU]; exact k.u10, fun w h => k.tnm w (pT.subset h), pt.nodup_iff.mpr k.tnd, fun u h => k.unm u (pU.subset h), pu.nodup_iff.mpr k.und, fun w h a e => let ⟨x, y⟩ := k.af w (pT.subset h) a e; ⟨pt.symm.subset x, y⟩, fun w h => by show rk w.t < T.length; rw [lT]; exact k.rkn w (pT.subset h), fun w h => k.rm w (pT.subset h), fun w h => (k.lk w (pT.subset h)).trans pu.symm, fun u h => pt.symm.subset (k.sp u (pU.subset h))⟩
theorem eqRv_perm {R : Rv} {T : List Row} {U : List (Tx × Tx)} (pT : T.Perm R.T) (pU : U.Perm R.U) : eqRv R ⟨T, U⟩ := ⟨pT.length_eq.symm, fun w h => pT.symm.subset h, pU.length_eq.symm, fun u h => pU.symm.subset h⟩
theorem rv_KC {K : PySem.W.Frag} {C : Addr → Prop} {H0 G G2 : Hp} {x : Addr} {R : Rv} (h : RivO K G x R) (n : RivN H0 G x) (c : ∀ b xs, C b → G b = some (.lst xs) → ∃ ys, H0 b = some (.lst ys)) (k : KC C G G2) : RivO K G2 x R ∧ RivN H0 G2 x := by
  obtain ⟨dx, a1, a2, a3, a4, a5, a6, a7, a8, a9, h0, h1, h2, h3, h4, ⟨zl, e5, h5, l5⟩, h6, ⟨zp, e7, h7, l7⟩, ⟨zq, e8, h8, l8⟩, ⟨kvs, h9⟩⟩ := h
  obtain ⟨C', dx', c1, c2, c3, c4, c5, c6, c7, c8, c9, k5, k7, m0, f1, f2, f8, m5, g5, m7, g7⟩ := n
  have e := Option.some.inj (h0.symm.trans m0)
  injection e with e1 e2 e3
  have q1 := congrArg (fun l => (l[0]?).map (·.2)) e3
  have q2 := congrArg (fun l => (l[1]?).map (·.2)) e3
  have q5 := congrArg (fun l => (l[4]?).map (·.2)) e3
  have q7 := congrArg (fun l => (l[6]?).map (·.2)) e3
  have q8 := congrArg (fun l => (l[7]?).map (·.2)) e3
  obtain rfl : a1 = c1 := V.ref.inj (Option.some.inj q1)
  obtain rfl : a2 = c2 := V.ref.inj (Option.some.inj q2)
  obtain rfl : a5 = c5 := V.ref.inj (Option.some.inj q5)
  obtain rfl : a7 = c7 := V.ref.inj (Option.some.inj q7)
  obtain rfl : a8 = c8 := V.ref.inj (Option.some.inj q8)
  rw [h5] at m5
  rw [h7] at m7
  obtain rfl : lkD zl = k5 := by have := Option.some.inj m5; injection this
  obtain rfl : paD zp = k7 := by have := Option.some.inj m7; injection this
  have nl : ∀ {b : Addr} {xs : List V}, G b = some (.lst xs) → H0 b = none → G2 b = some (.lst xs) := fun {b xs} e f => k.k _ _ e fun ys z hb => by
    obtain ⟨vs, e'⟩ := c b xs hb e
    rw [f] at e'; cases e'
  have no : ∀ {b : Addr} {o : HO}, G b = some o → (∀ xs, o ≠ .lst xs) → G2 b = some o := fun e f => k.k _ _ e fun xs z => (f xs z).elim
  have G0 := no h0 fun _ z => by cases z
  have G5 := no h5 fun _ z => by cases z
  have G7 := no h7 fun _ z => by cases z
  have l5' : ∀ z ∈ zl, G2 z.1 = some (.lst (sv z.2.l)) := fun z m => nl (l5 z m) (g5 _ (List.mem_map.mpr ⟨z, m, rfl⟩) _ rfl)
  have l7' : ∀ z ∈ zp, G2 z.1 = some (.lst (sv (R.path z.2.2))) := fun z m => nl (l7 z m) (g7 _ (List.mem_map.mpr ⟨z, m, rfl⟩) _ rfl)
  exact ⟨⟨dx, a1, a2, a3, a4, a5, a6, a7, a8, a9, G0, nl h1 f1, nl h2 f2, no h3 (fun _ z => by cases z), no h4 (fun _ z => by cases z), ⟨zl, e5, G5, l5'⟩, no h6 (fun _ z => by cases z), ⟨zp, e7, G7, l7'⟩, ⟨zq, e8, nl h8 f8, fun z m => k.tup (l8 z m)⟩, ⟨kvs, no h9 (fun _ z => by cases z)⟩⟩, ⟨_, dx, a1, a2, a3, a4, a5, a6, a7, a8, a9, _, _, G0, f1, f2, f8, G5, g5, G7, g7⟩⟩
theorem objl_rowF_KC {C : Addr → Prop} {H0 G G2 : Hp} {a : Addr} {ws : List Row} (h : ObjL (RowF H0) G a ws) (n : NL H0 a) (c : ∀ b xs, C b → G b = some (.lst xs) → ∃ ys, H0 b = some (.lst ys)) (k : KC C G G2) : ObjL (RowF H0) G2 a ws := by
  obtain ⟨zs, e1, e2, e3⟩ := h
  have nl : ∀ {b : Addr} {xs : List V}, G b = some (.lst xs) → NL H0 b → G2 b = some (.lst xs) := fun {b xs} e f => k.k _ _ e fun ys z hb => by
    obtain ⟨vs, e'⟩ := c b xs hb e
    exact f vs e'
  exact ⟨zs, e1, nl e2 n, fun z m => let ⟨q, x, y, f⟩ := e3 z m; ⟨q, k.tup x, nl y f, f⟩⟩
theorem objl_th_KC {C : Addr → Prop} {H0 G G2 : Hp} {a : Addr} {ws : List (Tx × Tx)} (h : ObjL ThO G a ws) (n : NL H0 a) (c : ∀ b xs, C b → G b = some (.lst xs) → ∃ ys, H0 b = some (.lst ys)) (k : KC C G G2) : ObjL ThO G2 a ws := by
  obtain ⟨zs, e1, e2, e3⟩ := h
  refine ⟨zs, e1, k.k _ _ e2 fun ys z hb => ?_, fun z m => k.tup (e3 z m)⟩
  obtain ⟨vs, e'⟩ := c a _ hb e2
  exact n vs e'
/-! ### what is told as data -/
def pairD (u : Tx × Tx) : PyData := .tuple [.str (S u.1), .str (S u.2)]
def rowD (w : Row) : PyData := .tuple [.str (S w.t), ovD w.a, .int (w.r : Nat), .list (dS w.l)]
def dueD (T : List Row) (U : List (Tx × Tx)) : PyData := .tuple [.list (T.map rowD), .list (U.map pairD)]
theorem eqvAll_map {α : Type} {f : α → PyData} (hf : ∀ a b, PyData.eqv (f a) (f b) = true ↔ a = b) : ∀ l m : List α, PyData.eqvAll (l.map f) (m.map f) = true ↔ l = m
  | [], [] => by simp [PyData.eqvAll]
  | [], b :: m => by simp [PyData.eqvAll]
  | a :: l, [] => by simp [PyData.eqvAll]
  | a :: l, b :: m => by
    rw [List.map_cons, List.map_cons, PyData.eqvAll, Bool.and_eq_true, hf, eqvAll_map hf l m]
    simp
theorem eqv_pairD (a b : Tx × Tx) : PyData.eqv (pairD a) (pairD b) = true ↔ a = b := by
  unfold pairD
  simp only [PyData.eqv, PyData.eqvAll, Bool.and_eq_true, beq_iff_eq, decide_eq_true_eq]
  constructor
  · rintro ⟨h1, h2, _⟩
    exact Prod.ext (S_inj (by simpa using h1)) (S_inj (by simpa using h2))
  · rintro rfl
    simp
theorem eqv_rowD (a b : Row) : PyData.eqv (rowD a) (rowD b) = true ↔ a = b := by
  unfold rowD
  rw [PyData.eqv, PyData.eqvAll, PyData.eqvAll, PyData.eqvAll, PyData.eqvAll, eqv_dS, Bool.and_eq_true, Bool.and_eq_true, Bool.and_eq_true, Bool.and_eq_true, eqv_ovD, decide_eq_true_iff]
  constructor
  · rintro ⟨h1, h2, h3, h4, _⟩
    obtain ⟨t, x, r, l⟩ := a
    obtain ⟨t', x', r', l'⟩ := b
    dsimp only at h1 h2 h3 h4
    have e1 : t = t' := S_inj (by simpa [PyData.eqv] using h1)
    have e3 : r = r' := by
      have : ((r : Nat) : Int) = (r' : Nat) := by simpa [PyData.eqv] using h3
      omega
    subst e1 h2 e3 h4
    rfl
  · rintro rfl
    exact ⟨by simp [PyData.eqv], rfl, by simp [PyData.eqv], rfl, by simp [PyData.eqvAll]⟩
theorem eqv_dueD {T T2 : List Row} {U U2 : List (Tx × Tx)} : PyData.eqv (dueD T U) (dueD T2 U2) = true ↔ T = T2 ∧ U = U2 := by
  unfold dueD
  rw [PyData.eqv, PyData.eqvAll, PyData.eqvAll, PyData.eqvAll, PyData.eqv, PyData.eqv, Bool.and_eq_true, Bool.and_eq_true, eqvAll_map eqv_rowD, eqvAll_map eqv_pairD]
  simp
theorem lay_map {α : Type} {f : α → PyData} {d : Nat} : ∀ {l : List α}, (∀ a ∈ l, (f a).canLay0 = true ∧ (f a).depth ≤ d) → PyData.canLayAll0 (l.map f) = true ∧ PyData.depthAll (l.map f) ≤ d + 1
  | [], _ => ⟨by simp [PyData.canLayAll0], by simp [PyData.depthAll]⟩
  | a :: r, h => by
    obtain ⟨h1, h2⟩ := h a List.mem_cons_self
    obtain ⟨i1, i2⟩ := lay_map (l := r) fun b hb => h b (List.mem_cons_of_mem _ hb)
    refine ⟨by rw [List.map_cons, PyData.canLayAll0, h1, i1]; rfl, ?_⟩
    simp only [List.map_cons, PyData.depthAll]
    omega
theorem lay_str {t : Tx} (h : Fine t) : (PyData.str (S t)).canLay0 = true := by
  have := shaped_str h
  unfold SeqAt.shaped at this
  rw [Bool.and_eq_true] at this
  exact this.1
theorem lay_dS {ts : List Tx} (h : ∀ t ∈ ts, Fine t) : PyData.canLayAll0 (dS ts) = true ∧ PyData.depthAll (dS ts) ≤ 1 := lay_map (f := fun t => PyData.str (S t)) (d := 0) fun t ht => ⟨lay_str (h t ht), by simp [PyData.depth]⟩
theorem lay_row {w : Row} (ht : Fine w.t) (ha : ∀ t, w.a = some t → Fine t) (hl : ∀ t ∈ w.l, Fine t) : (rowD w).canLay0 = true ∧ (rowD w).depth ≤ 5 := by
  have h1 := lay_str ht
  have h2 : (ovD w.a).canLay0 = true ∧ (ovD w.a).depth = 0 := by
    cases e : w.a with
    | none => exact ⟨rfl, rfl⟩
    | some t => exact ⟨lay_str (ha t e), by simp [ovD, PyData.depth]⟩
  have h3 := lay_dS hl
  unfold rowD
  refine ⟨by simp only [PyData.canLay0, PyData.canLayAll0, Bool.and_eq_true] at h1 h2 ⊢; exact ⟨h1, h2.1, trivial, h3.1, trivial⟩, ?_⟩
  simp only [PyData.depth, PyData.depthAll, h2.2]
  omega
theorem lay_pair {u : Tx × Tx} (h1 : Fine u.1) (h2 : Fine u.2) : (pairD u).canLay0 = true ∧ (pairD u).depth ≤ 5 := by
  have h1 := lay_str h1
  have h2 := lay_str h2
  unfold pairD
  refine ⟨by simp only [PyData.canLay0, PyData.canLayAll0, Bool.and_eq_true] at h1 h2 ⊢; exact ⟨h1, h2, trivial⟩, ?_⟩
  simp only [PyData.depth, PyData.depthAll]
  omega
theorem shaped_due {T : List Row} {U : List (Tx × Tx)} (hT : ∀ w ∈ T, Fine w.t ∧ (∀ t, w.a = some t → Fine t) ∧ ∀ t ∈ w.l, Fine t) (hU : ∀ u ∈ U, Fine u.1 ∧ Fine u.2) : SeqAt.shaped (dueD T U) = true := by
  have h1 := lay_map (f := rowD) (d := 5) (l := T) fun w hw => let ⟨a, b, c⟩ := hT w hw; lay_row a b c
  have h2 := lay_map (f := pairD) (d := 5) (l := U) fun u hu => let ⟨a, b⟩ := hU u hu; lay_pair a b
  unfold SeqAt.shaped dueD
  rw [Bool.and_eq_true]
  refine ⟨by simp only [PyData.canLay0, PyData.canLayAll0, Bool.and_eq_true]; exact ⟨h1.1, h2.1, trivial⟩, decide_eq_true ?_⟩
  simp only [PyData.depth, PyData.depthAll]
  omega
theorem dp_rows {K : PySem.W.Frag} {H : Hp} : ∀ {zs : List (Addr × Row)}, (∀ z ∈ zs, RowL H z.1 z.2) → DpAll K H (zs.map fun z => V.ref z.1) (zs.map fun z => rowD z.2)
  | [], _ => .nil
  | z :: r, h => by
    obtain ⟨q, h1, h2⟩ := h z List.mem_cons_self
    exact .cons (.tup (SqT.of h1) (.cons (.str _) (.cons dp_ov (.cons (.int _) (.cons (.lst (SqL.of h2) (dp_sv _)) .nil))))) (dp_rows fun y hy => h y (List.mem_cons_of_mem _ hy))
theorem dp_pairsL {K : PySem.W.Frag} {H : Hp} : ∀ {zs : List (Addr × (Tx × Tx))}, (∀ z ∈ zs, ThO H z.1 z.2) → DpAll K H (zs.map fun z => V.ref z.1) (zs.map fun z => pairD z.2)
  | [], _ => .nil
  | z :: r, h => .cons (.tup (SqT.of (h z List.mem_cons_self)) (.cons (.str _) (.cons (.str _) .nil))) (dp_pairsL fun y hy => h y (List.mem_cons_of_mem _ hy))
theorem dp_due {K : PySem.W.Frag} {H : Hp} {r a b : Addr} {T : List Row} {U : List (Tx × Tx)} (h : H r = some (.tup [.ref a, .ref b])) (ha : ObjL RowL H a T) (hb : ObjL ThO H b U) : Dp K H (.ref r) (dueD T U) := by
  obtain ⟨zs, e1, e2, e3⟩ := ha
  obtain ⟨ys, g1, g2, g3⟩ := hb
  have r1 := dp_rows (K := K) e3
  have r2 := dp_pairsL (K := K) g3
  unfold dueD
  rw [← e1, ← g1, List.map_map, List.map_map]
  exact .tup (SqT.of h) (.cons (.lst (SqL.of e2) r1) (.cons (.lst (SqL.of g2) r2) .nil))
theorem ok_fine {R : Rv} {rk : Tx → Nat} (k : R.Ok rk) : SeqAt.shaped (dueD (rowsT R) (rowsU R)) = true := by
  have ft : ∀ t ∈ R.tn, Fine t := fun t ht => by obtain ⟨w, hw, rfl⟩ := List.mem_map.mp ht; exact (k.tnm w hw).fine
  have fu : ∀ t ∈ R.un, Fine t := fun t ht => by obtain ⟨w, hw, rfl⟩ := List.mem_map.mp ht; exact (k.unm w hw).fine
  refine shaped_due (fun w hw => ?_) fun u hu => ?_
  · have hw := (rowsT_mem k.tnd).mp hw
    exact ⟨(k.tnm w hw).fine, fun t e => ft t (k.af w hw t e).1, fun t ht => fu t ((k.lk w hw).subset ht)⟩
  · have hu := (rowsU_mem k.und).mp hu
    exact ⟨(k.unm u hu).fine, ft _ (k.sp u hu)⟩
theorem rivN_base {H' H0 H : Hp} {x : Addr} (h : RivN H0 H x) (s : Same H' H0) : RivN H' H x := by
  obtain ⟨C, dx, a1, a2, a3, a4, a5, a6, a7, a8, a9, k5, k7, h0, f1, f2, f8, h5, g5, h7, g7⟩ := h
  exact ⟨C, dx, a1, a2, a3, a4, a5, a6, a7, a8, a9, k5, k7, h0, s.free f1, s.free f2, s.free f8, h5, fun p hp b e => s.free (g5 p hp b e), h7, fun p hp b e => s.free (g7 p hp b e)⟩
theorem tabO_keepS {P s cl : Addr} {n : Nat} {q : Str} {H H' : Hp} (t : TabO P q H) (S0 : Sto s cl n H) (k : Keep s H H') : TabO P q H' := by
  obtain ⟨ns, x1, x2, x3, x4, es, _⟩ := S0.ex
  unfold sRow at es
  exact tabO_keep t k es
def sp_River_towns (K : PySem.W.Frag) : Sp := fun vs H Q _ => ∃ (x : Addr) (R : Rv), vs = [.ref x] ∧ RivO K H x R ∧ ∀ r H', Same H H' → H r = none → H' r = some (.lst (sv (tsort R.tn))) → Q (.ref r) H'
theorem sc_River_towns : FnScope ["self"] ["self"] (defScope (clsN (topS 35) 1)) := ⟨rfl, rfl, rfl, by decide +kernel, rfl, by decide +kernel, by decide +kernel⟩
theorem ok_River_towns {P : Program} {w : World} {K : PySem.W.Frag} {mg : Str → Option Value} {base : Heap} (T : Top K mg) : FnOk P w K mg base CX0 1 T.a_River_towns T.fd_River_towns ["self"] (sp_River_towns K) := by
  refine T.F_River_towns.ok (k := 0) sc_River_towns (fun vs H Q E h => ?_) (fun cdv A outer s0 H vs Q E hr h => ?_)
  · obtain ⟨x, R, rfl, _⟩ := h; rfl
  · have sc := sc_River_towns
    refine ⟨_, (pss_one (ps_ret (pe_callTy (kc_list (K := K) rfl rfl) (by rfl) T.n_list (by decide +kernel) (pa_cons (kfld (K := K) rfl 0) pa_nil)))), ?_⟩
    obtain ⟨x, R, rfl, ⟨dx, a1, a2, a3, a4, a5, a6, a7, a8, a9, h0, hh⟩, q⟩ := h
    exact ⟨_, dx, _, _, h0, T.in_River, T.na_River__towns, rfl, _, Sq.l hh.h1, fun r hr => q r _ (same_new hr) hr upd_same⟩
def sp_River_thing_rows (K : PySem.W.Frag) : Sp := fun vs H Q _ => ∃ (x : Addr) (R : Rv), vs = [.ref x] ∧ RivO K H x R ∧ R.un.Nodup ∧ R.U.length ≤ 1000 ∧ ∀ r H', Same H H' → H r = none → ObjL ThO H' r ((tsort R.un).map fun u => (u, R.src u)) → Q (.ref r) H'
theorem sc_River_thing_rows : FnScope ["self", "thing"] ["self"] (defScope (clsN (topS 35) 12)) := ⟨rfl, rfl, rfl, by decide +kernel, rfl, by decide +kernel, by decide +kernel⟩
theorem ok_River_thing_rows {P : Program} {w : World} {K : PySem.W.Frag} {mg : Str → Option Value} {base : Heap} (T : Top K mg) : FnOk P w K mg base CX0 1 T.a_River_thing_rows T.fd_River_thing_rows ["self"] (sp_River_thing_rows K) := by
  refine T.F_River_thing_rows.ok (k := 0) sc_River_thing_rows (fun vs H Q E h => ?_) (fun cdv A outer s0 H vs Q E hr h => ?_)
  · obtain ⟨x, R, rfl, _⟩ := h; rfl
  · have sc := sc_River_thing_rows
    refine ⟨_, (pss_one (ps_ret (pe_lc (own := [("thing", 1)]) rfl sc.nd (ki_seq (K := K) rfl (kfld (K := K) rfl 0)) (blkOk_by (N := ["self", "thing"]) (sc := defScope (clsN (topS 35) 12)) (by decide +kernel)) (fun _ _ _ _ _ => (pg_name (i := 1) sc.nd rfl (by first | exact Or.inl rfl | exact Or.inr rfl))) (fun _ _ _ _ _ => pts_nil) (fun _ _ _ _ _ => (pe_tup (pa_cons (xv 1) (pa_cons (pe_dget (hu_of hr) (kfld (K := K) rfl 0) (xv 1) (fun _ _ => rfl)) pa_nil))))))), ?_⟩
    obtain ⟨x, R, rfl, hx, nd, few, q⟩ := h
    obtain ⟨dx, a1, a2, a3, a4, a5, a6, a7, a8, a9, h0, hh⟩ := hx
    have fl' : (tsort R.un).length ≤ 1000 := by rw [tsort_len]; unfold Rv.un; rw [List.length_map]; exact few
    refine tLc_objs (ts := tsort R.un) (P := fun D G a u => a ≠ D ∧ G a = some (.tup [.str (S u), .str (S (R.src u))])) ?_ hh.h2 fl' ?_ ?_ ?_ ?_ <;> try (first | exact fun _ => rfl)
    · exact fun R' h => ⟨_, dx, _, _, h0, T.in_River, T.na_River__things, rfl, h⟩
    · exact fun D G G' a t k h => ⟨h.1, k _ _ h.1 h.2⟩
    · intro D G u acc hD kD dG um Q' go
      have g := DGet.k (k := Sum.inr (S u)) (kD _ _ (ne_of_none hh.h6 hD) hh.h6)
      rw [src_val nd (tsort_mem.mp um)] at g
      refine ⟨_, dx, _, _, kD _ _ (ne_of_none h0 hD) h0, T.in_River, T.na_River__sources, rfl, a6, _, rfl, g, sl_of (n := 2) rfl, fun r hr => go r _ (same_new hr) ⟨fun e => (by rw [e, dG] at hr; cases hr), upd_same⟩⟩
    · intro D G zs s f ez e hz
      refine q D G s f ⟨zs.map fun z => (z.1, (z.2, R.src z.2)), ?_, by rw [List.map_map]; exact e, fun z zm => ?_⟩
      · rw [List.map_map, ← ez, List.map_map]; rfl
      · obtain ⟨y, ym, rfl⟩ := List.mem_map.mp zm
        exact (hz y ym).2
def sp_River___eq__ (K : PySem.W.Frag) : Sp := fun vs H Q _ => ∃ (x : Addr) (y : V) (R : Rv) (rk : Tx → Nat), vs = [.ref x, y] ∧ RivO K H x R ∧ R.Ok rk ∧
  ((((∃ z, y = .str z) ∨ (∃ i, y = .int i) ∨ ∃ p xs, y = .ref p ∧ H p = some (.lst xs)) ∧ Q (.bl false) H) ∨
    ∃ x2 R2 rk2, y = .ref x2 ∧ RivO K H x2 R2 ∧ R2.Ok rk2 ∧ ∀ b : Bool, (b = true ↔ eqRv R R2) → Q (.bl b) H)
theorem sc_River___eq__ : FnScope ["self", "other"] ["self", "other"] (defScope (clsN (topS 35) 15)) := ⟨rfl, rfl, rfl, by decide +kernel, rfl, by decide +kernel, by decide +kernel⟩
theorem ok_River___eq__ {P : Program} {w : World} {K : PySem.W.Frag} {mg : Str → Option Value} {base : Heap} (T : Top K mg) : FnOk P w K mg base CX0 1 T.a_River___eq__ T.fd_River___eq__ ["self", "other"] (sp_River___eq__ K) := by
  refine T.F_River___eq__.ok (k := 0) sc_River___eq__ (fun vs H Q E h => ?_) (fun cdv A outer s0 H vs Q E hr h => ?_)
  · obtain ⟨x, y, R, rk, rfl, _⟩ := h; rfl
  · have sc := sc_River___eq__
    refine ⟨_, (pss_one (ps_ret (xe_and (pe_callB (xc_isC T.is_River) (by rfl) T.n_isinstance (by decide +kernel) (pa_cons (xv 1) (pa_cons (pe_glob (v := .ref (cA K "River")) (u := .ref (cA K "River")) (by rfl) T.gc_River rfl) pa_nil))) (xe_and (pe_cmpR (ko_eqDic (K := K) rfl (units65 hr)) (kfld (K := K) rfl 0) (kfld (K := K) rfl 1) (nomark _)) (xe_and (pe_cmpR (ko_eqDic (K := K) rfl (units65 hr)) (kfld (K := K) rfl 0) (kfld (K := K) rfl 1) (nomark _)) (xe_and (pe_cmpR (ko_eqDic (K := K) rfl (units65 hr)) (kfld (K := K) rfl 0) (kfld (K := K) rfl 1) (nomark _)) (pe_one (pe_cmpR (ko_eqDic (K := K) rfl (units65 hr)) (kfld (K := K) rfl 0) (kfld (K := K) rfl 1) (nomark _))))))))), ?_⟩
    obtain ⟨x, y, R, rk, rfl, hx, k, h⟩ := h
    rcases h with ⟨hy, q⟩ | ⟨x2, R2, rk2, rfl, hx2, k2, q⟩
    · rcases hy with ⟨z, rfl⟩ | ⟨i, rfl⟩ | ⟨p, xs, rfl, hp⟩
      · exact ⟨rfl, fun c => (by cases c), fun _ => q⟩
      · exact ⟨rfl, fun c => (by cases c), fun _ => q⟩
      · exact ⟨rfl, .inl ⟨⟨_, hp⟩, fun c => (by cases c), fun _ => q⟩⟩
    have hx0 := hx
    have hy0 := hx2
    obtain ⟨dx, a1, a2, a3, a4, a5, a6, a7, a8, a9, h0, hh⟩ := hx0
    obtain ⟨dy, b1, b2, b3, b4, b5, b6, b7, b8, b9, g0, gg⟩ := hy0
    refine ⟨rfl, .inr ⟨⟨_, _, g0⟩, fun _ => ?_, fun c => (by cases c)⟩⟩
    have nd := k.tnd
    have nd2 := k2.tnd
    have C1 := cmp_iff (T := R.T) (T2 := R2.T) (k := fun w : Row => w.t) (k2 := fun w : Row => w.t) (v := fun w : Row => ov w.a) (v2 := fun w : Row => ov w.a) (f := fun w : Row => ovD w.a) (f2 := fun w : Row => ovD w.a) nd nd2
    have C2 := cmp_iff (T := R.T) (T2 := R2.T) (k := fun w : Row => w.t) (k2 := fun w : Row => w.t) (v := fun w : Row => .int (w.r : Nat)) (v2 := fun w : Row => .int (w.r : Nat)) (f := fun w : Row => PyData.int (w.r : Nat)) (f2 := fun w : Row => PyData.int (w.r : Nat)) nd nd2
    have C4 := cmp_iff (T := R.U) (T2 := R2.U) (k := fun u : Tx × Tx => u.1) (k2 := fun u : Tx × Tx => u.1) (v := fun u : Tx × Tx => .str (S u.2)) (v2 := fun u : Tx × Tx => .str (S u.2)) (f := fun u : Tx × Tx => .str (S u.2)) (f2 := fun u : Tx × Tx => .str (S u.2)) k.und k2.und
    have fT : ∀ w ∈ R.T, Fine w.t := fun w hw => (k.tnm w hw).fine
    have fT2 : ∀ w ∈ R2.T, Fine w.t := fun w hw => (k2.tnm w hw).fine
    have fU : ∀ t ∈ R.un, Fine t := fun t ht => by obtain ⟨u, hu, rfl⟩ := List.mem_map.mp ht; exact (k.unm u hu).fine
    have fU2 : ∀ t ∈ R2.un, Fine t := fun t ht => by obtain ⟨u, hu, rfl⟩ := List.mem_map.mp ht; exact (k2.unm u hu).fine
    have fA : ∀ t ∈ R.tn, Fine t := fun t ht => by obtain ⟨u, hu, rfl⟩ := List.mem_map.mp ht; exact fT u hu
    have fA2 : ∀ t ∈ R2.tn, Fine t := fun t ht => by obtain ⟨u, hu, rfl⟩ := List.mem_map.mp ht; exact fT2 u hu
    refine ⟨_, dx, _, _, h0, T.in_River, T.na_River__next_towns, rfl, _, dy, _, _, g0, T.in_River, T.na_River__next_towns, rfl, ?_⟩
    refine ⟨_, _, _, _, dkOf (fun w : Row => w.t) (fun w : Row => ovD w.a) R.T, dkOf (fun w : Row => w.t) (fun w : Row => ovD w.a) R2.T, rfl, rfl, hh.h3, gg.h3, dkOf_all (v := fun w : Row => ov w.a) nd fun w hw => ⟨dp_ov, shaped_ov fun t e => fA t (k.af w hw t e).1⟩, dkOf_all (v := fun w : Row => ov w.a) nd2 fun w hw => ⟨dp_ov, shaped_ov fun t e => fA2 t (k2.af w hw t e).1⟩, fun c1 => ?_, fun c1 => ?_⟩
    case' refine_2 => exact q false ⟨fun h => (by cases h), fun P => (Bool.false_ne_true (Eq.trans (Eq.symm c1) (C1.mpr ⟨P.1, fun w hw => ⟨w, P.2.1 w hw, rfl, eqv_ovD.mpr rfl⟩⟩))).elim⟩
    obtain ⟨l1, e1⟩ := C1.mp c1
    refine ⟨_, dx, _, _, h0, T.in_River, T.na_River__rooms, rfl, _, dy, _, _, g0, T.in_River, T.na_River__rooms, rfl, ?_⟩
    refine ⟨_, _, _, _, dkOf (fun w : Row => w.t) (fun w : Row => PyData.int (w.r : Nat)) R.T, dkOf (fun w : Row => w.t) (fun w : Row => PyData.int (w.r : Nat)) R2.T, rfl, rfl, hh.h4, gg.h4, dkOf_all (v := fun w : Row => .int (w.r : Nat)) nd fun w hw => ⟨.int _, rfl⟩, dkOf_all (v := fun w : Row => .int (w.r : Nat)) nd2 fun w hw => ⟨.int _, rfl⟩, fun c2 => ?_, fun c2 => ?_⟩
    case' refine_2 => exact q false ⟨fun h => (by cases h), fun P => (Bool.false_ne_true (Eq.trans (Eq.symm c2) (C2.mpr ⟨P.1, fun w hw => ⟨w, P.2.1 w hw, rfl, by simp [PyData.eqv]⟩⟩))).elim⟩
    obtain ⟨_, e2⟩ := C2.mp c2
    obtain ⟨zs, ez, h5, l5⟩ := hh.h5
    obtain ⟨ys, ey, g5, m5⟩ := gg.h5
    have ndz : (zs.map fun z => z.2.t).Nodup := by
      have : zs.map (fun z => z.2.t) = R.tn := by rw [show R.tn = R.T.map (·.t) from rfl, ← ez, List.map_map]; rfl
      rw [this]; exact nd
    have ndy : (ys.map fun z => z.2.t).Nodup := by
      have : ys.map (fun z => z.2.t) = R2.tn := by rw [show R2.tn = R2.T.map (·.t) from rfl, ← ey, List.map_map]; rfl
      rw [this]; exact nd2
    have C3 := cmp_iff (T := zs) (T2 := ys) (k := fun z : Addr × Row => z.2.t) (k2 := fun z : Addr × Row => z.2.t) (v := fun z : Addr × Row => .ref z.1) (v2 := fun z : Addr × Row => .ref z.1) (f := fun z : Addr × Row => .list (dS z.2.l)) (f2 := fun z : Addr × Row => .list (dS z.2.l)) ndz ndy
    have zT : ∀ z ∈ zs, z.2 ∈ R.T := fun z zm => ez ▸ List.mem_map.mpr ⟨z, zm, rfl⟩
    have yT : ∀ z ∈ ys, z.2 ∈ R2.T := fun z zm => ey ▸ List.mem_map.mpr ⟨z, zm, rfl⟩
    refine ⟨_, dx, _, _, h0, T.in_River, T.na_River__likings, rfl, _, dy, _, _, g0, T.in_River, T.na_River__likings, rfl, ?_⟩
    refine ⟨_, _, _, _, dkOf (fun z : Addr × Row => z.2.t) (fun z : Addr × Row => PyData.list (dS z.2.l)) zs, dkOf (fun z : Addr × Row => z.2.t) (fun z : Addr × Row => PyData.list (dS z.2.l)) ys, rfl, rfl, h5, g5, dkOf_all (v := fun z : Addr × Row => .ref z.1) ndz fun z zm => ⟨.lst (SqL.of (l5 z zm)) (dp_sv _), shaped_dS fun t ht => fU t ((k.lk _ (zT z zm)).subset ht)⟩, dkOf_all (v := fun z : Addr × Row => .ref z.1) ndy fun z zm => ⟨.lst (SqL.of (m5 z zm)) (dp_sv _), shaped_dS fun t ht => fU2 t ((k2.lk _ (yT z zm)).subset ht)⟩, fun c3 => ?_, fun c3 => ?_⟩
    case' refine_2 =>
      refine q false ⟨fun h => (by cases h), fun P => (Bool.false_ne_true (Eq.trans (Eq.symm c3) (C3.mpr ⟨?_, fun z zm => ?_⟩))).elim⟩
      · rw [← List.length_map (·.2), ez, P.1, ← ey, List.length_map]
      · obtain ⟨y, ym, e⟩ := List.mem_map.mp (show z.2 ∈ ys.map (·.2) from ey ▸ P.2.1 _ (zT z zm))
        exact ⟨y, ym, congrArg Row.t e, by rw [eqv_dS, e]; exact decide_eq_true rfl⟩
    obtain ⟨_, e3⟩ := C3.mp c3
    refine ⟨_, dx, _, _, h0, T.in_River, T.na_River__sources, rfl, _, dy, _, _, g0, T.in_River, T.na_River__sources, rfl, ?_⟩
    refine ⟨_, _, _, _, dkOf (fun u : Tx × Tx => u.1) (fun u : Tx × Tx => PyData.str (S u.2)) R.U, dkOf (fun u : Tx × Tx => u.1) (fun u : Tx × Tx => PyData.str (S u.2)) R2.U, rfl, rfl, hh.h6, gg.h6, dkOf_all (v := fun u : Tx × Tx => .str (S u.2)) k.und fun u hu => ⟨.str _, shaped_str (fA _ (k.sp u hu))⟩, dkOf_all (v := fun u : Tx × Tx => .str (S u.2)) k2.und fun u hu => ⟨.str _, shaped_str (fA2 _ (k2.sp u hu))⟩, ?_⟩
    refine q _ ⟨fun c4 => ?_, fun P => ?_⟩
    · obtain ⟨l4, e4⟩ := C4.mp c4
      refine ⟨l1, fun w hw => ?_, l4, fun u hu => ?_⟩
      · obtain ⟨u1, m1, t1, q1⟩ := e1 w hw
        obtain ⟨u2, m2, t2, q2⟩ := e2 w hw
        obtain ⟨z, zm, rfl⟩ := List.mem_map.mp (show w ∈ zs.map (·.2) from ez ▸ hw)
        obtain ⟨y, ym, t3, q3⟩ := e3 z zm
        have s1 := R2.row_at nd2 m1
        have s2 := R2.row_at nd2 m2
        have s3 := R2.row_at nd2 (yT y ym)
        rw [t1] at s1
        rw [t2] at s2
        rw [t3] at s3
        have e12 : u2 = u1 := s2.symm.trans s1
        have e13 : y.2 = u1 := s3.symm.trans s1
        rw [e12] at q2
        rw [e13, eqv_dS] at q3
        have h1 := eqv_ovD.mp q1
        have h3 := of_decide_eq_true q3
        simp [PyData.eqv] at q2
        have : u1 = z.2 := by
          obtain ⟨t, a, r, l⟩ := u1
          generalize z.2 = w at *
          obtain ⟨t', a', r', l'⟩ := w
          dsimp only at t1 h1 q2 h3
          subst t1 h1 h3
          have : r' = r := by omega
          rw [this]
        rw [← this]
        exact m1
      · obtain ⟨v, vm, t1, q1⟩ := e4 u hu
        simp [PyData.eqv] at q1
        have : v = u := Prod.ext t1 q1.symm
        rw [← this]; exact vm
    · exact C4.mpr ⟨P.2.2.1, fun u hu => ⟨u, P.2.2.2 u hu, rfl, by simp [PyData.eqv]⟩⟩
def sp_River_things (K : PySem.W.Frag) : Sp := fun vs H Q _ => ∃ (x : Addr) (R : Rv), vs = [.ref x] ∧ RivO K H x R ∧ ∀ r H', Same H H' → H r = none → H' r = some (.lst (sv (tsort R.un))) → Q (.ref r) H'
theorem sc_River_things : FnScope ["self"] ["self"] (defScope (clsN (topS 35) 2)) := ⟨rfl, rfl, rfl, by decide +kernel, rfl, by decide +kernel, by decide +kernel⟩
theorem ok_River_things {P : Program} {w : World} {K : PySem.W.Frag} {mg : Str → Option Value} {base : Heap} (T : Top K mg) : FnOk P w K mg base CX0 1 T.a_River_things T.fd_River_things ["self"] (sp_River_things K) := by
  refine T.F_River_things.ok (k := 0) sc_River_things (fun vs H Q E h => ?_) (fun cdv A outer s0 H vs Q E hr h => ?_)
  · obtain ⟨x, R, rfl, _⟩ := h; rfl
  · have sc := sc_River_things
    refine ⟨_, (pss_one (ps_ret (pe_callTy (kc_list (K := K) rfl rfl) (by rfl) T.n_list (by decide +kernel) (pa_cons (kfld (K := K) rfl 0) pa_nil)))), ?_⟩
    obtain ⟨x, R, rfl, ⟨dx, a1, a2, a3, a4, a5, a6, a7, a8, a9, h0, hh⟩, q⟩ := h
    exact ⟨_, dx, _, _, h0, T.in_River, T.na_River__things, rfl, _, Sq.l hh.h2, fun r hr => q r _ (same_new hr) hr upd_same⟩
def sp_is_name (K : PySem.W.Frag) : Sp := fun vs H Q _ => ∃ t : Tx, vs = [.str (S t)] ∧ IsNm t ∧ ∀ H', Same H H' → Q (.bl true) H'
theorem sc_is_name : FnScope ["text", "char"] ["text"] (defScope (topS 22)) := ⟨rfl, rfl, rfl, by decide +kernel, rfl, by decide +kernel, by decide +kernel⟩
theorem ok_is_name {P : Program} {w : World} {K : PySem.W.Frag} {mg : Str → Option Value} {base : Heap} (T : Top K mg) : FnOk P w K mg base CX0 1 T.a_is_name T.fd_is_name ["text"] (sp_is_name K) := by
  refine T.F_is_name.ok (k := 0) sc_is_name (fun vs H Q E h => ?_) (fun cdv A outer s0 H vs Q E hr h => ?_)
  · obtain ⟨t, rfl, _⟩ := h; rfl
  · have sc := sc_is_name
    refine ⟨_, (pss_cons (xs_if (PW.pt (xw_or (pt_not (pt_chain xo_le xo_le pe_int (pe_callB (kc_len (K := K) rfl) (by rfl) T.n_len (by decide +kernel) (pa_cons (xv 0) pa_nil)) (pe_gint (by rfl) T.gv_MAX_NAME))) (pw_or1 (xtc (ko_in (K := K) rfl) (xv 0) (pe_glob (v := .ref (cA K "BARRED_WORDS")) (u := .ref (cA K "BARRED_WORDS")) (by rfl) T.gt_BARRED_WORDS rfl) (by rfl))))) (pss_one (ps_ret pe_bl)) pss_nil)
      (pss_one (ps_ret (xe_and (pe_cmpR (ko_in (K := K) rfl) (pe_ix (kix (K := K) rfl) (xv 0) pe_int (fun _ _ => rfl)) (pe_gstr (by rfl) T.gs_LETTERS) (by rfl)) (pe_one (pe_callB (kc_all (K := K) rfl rfl) (by rfl) T.n_all (by decide +kernel) (pa_cons (pe_lc (own := [("char", 1)]) rfl sc.nd (pi_str (xv 0)) (blkOk_by (N := ["text", "char"]) (sc := defScope (topS 22)) (by decide +kernel)) (fun _ _ _ _ _ => (pg_name (i := 1) sc.nd rfl (by first | exact Or.inl rfl | exact Or.inr rfl))) (fun _ _ _ _ _ => pts_nil) (fun _ _ _ _ _ => (pe_cmpR (ko_in (K := K) rfl) (xv 1) (pe_gstr (by rfl) T.gs_LETTERS_AND_DIGITS) (by rfl)))) pa_nil))))))), ?_⟩
    obtain ⟨t, rfl, nm, q⟩ := h
    have z := nm_len nm
    have l1 : (1 : Int) ≤ ((S t).length : Nat) := by rw [S_len]; have := List.length_pos_iff.mpr nm.ne; omega
    have l8 : ((S t).length : Int) ≤ 8 := by rw [S_len]; have := nm.l1; omega
    refine ⟨z, _, rfl, ite_t (decide_eq_true l1) ⟨_, rfl, fun c => (not_not l8 c).elim, fun _ => ?_⟩⟩
    refine ⟨_, .inr (T.tt_BARRED_WORDS _), rfl, rfl, fun c => ?_, fun _ => ?_⟩
    · have c' : inV (.str (S t)) [.str (Str.ofString "sea"), .str (Str.ofString "it")] = true := c
      rw [sea_it nm] at c'; cases c'
    obtain ⟨a, r, rfl⟩ : ∃ a r, t = a :: r := by
      cases t with
      | nil => exact absurd rfl nm.ne
      | cons a r => exact ⟨a, r, rfl⟩
    refine ⟨z, a, atI_nat (j := 0) rfl, ?_⟩
    rw [lit_az]
    have ca : a ∈ aZ := by
      have := nm.w
      unfold word at this
      exact mem_az.mpr (Bool.and_eq_true _ _ ▸ this).1
    refine ⟨a, rfl, fun _ => ?_, fun c => absurd ca (by simpa using c)⟩
    refine ⟨_, rfl, fun D hD => ?_⟩
    refine lc_str (l := a :: r) (fun x => .bl (decide (x ∈ aZ9))) (fun _ => true) (by rw [sl_big]; have := nm.l1; omega) (fun _ => rfl) (fun x acc Q' _ q' => q') (fun x acc Q' _ q' => ?_) ?_
    · rw [lit_az9]
      exact ⟨x, rfl, q'⟩
    have e : (((a :: r).filter fun _ => true).map fun x => V.bl (decide (x ∈ aZ9))) = (((a :: r).map fun x => decide (x ∈ aZ9)).map V.bl) := by
      rw [List.filter_eq_self.mpr fun _ _ => rfl, List.map_map]; rfl
    rw [e]
    refine ⟨_, SqL.of upd_same, ?_⟩
    have e2 : (((a :: r).map fun x => decide (x ∈ aZ9)).all id) = true := by
      rw [List.all_map, List.all_eq_true]
      exact fun x hx => decide_eq_true (mem_az9.mpr (word_all nm.w x hx))
    rw [e2]
    exact q _ (same_new hD)
def sp_is_liking (K : PySem.W.Frag) : Sp := fun vs H Q _ => ∃ (p o : Addr) (ls ts : List Tx), vs = [.ref p, .ref o] ∧ Lt H p (sv ls) ∧ Lt H o (sv ts) ∧ ls.Perm ts ∧ ts.length < 64 ∧ Fines ts ∧ ∀ H', Same H H' → Q (.bl true) H'
theorem sc_is_liking : FnScope ["liking", "things"] ["liking", "things"] (defScope (topS 24)) := ⟨rfl, rfl, rfl, by decide +kernel, rfl, by decide +kernel, by decide +kernel⟩
theorem ok_is_liking {P : Program} {w : World} {K : PySem.W.Frag} {mg : Str → Option Value} {base : Heap} (T : Top K mg) : FnOk P w K mg base CX0 1 T.a_is_liking T.fd_is_liking ["liking", "things"] (sp_is_liking K) := by
  refine T.F_is_liking.ok (k := 0) sc_is_liking (fun vs H Q E h => ?_) (fun cdv A outer s0 H vs Q E hr h => ?_)
  · obtain ⟨p, o, ls, ts, rfl, _⟩ := h; rfl
  · have sc := sc_is_liking
    refine ⟨_, (pss_one (ps_ret (pe_cmpR (ko_eq (K := K) rfl hr.units) (pe_callB (kc_sort (K := K) rfl) (by rfl) T.n_sorted (by decide +kernel) (pa_cons (xv 0) pa_nil)) (pe_callB (kc_sort (K := K) rfl) (by rfl) T.n_sorted (by decide +kernel) (pa_cons (xv 1) pa_nil)) (nomark _)))), ?_⟩
    obtain ⟨p, o, ls, ts, rfl, hp, ho, pm, few, fine, q⟩ := h
    have few2 : ls.length < 64 := by rw [pm.length_eq]; exact few
    refine ⟨ls.map S, by rw [← sv_strs]; exact hp.sq, by rw [List.length_map]; exact few2, fun ys a pa sa ha => ?_⟩
    have ey := tsort_is pa sa
    subst ey
    rw [← sv_strs]
    have s1 := same_new (o := .lst (sv (tsort ls))) ha
    refine ⟨ts.map S, by rw [← sv_strs]; exact (ho.same s1).sq, by rw [List.length_map]; exact few, fun zs b pb sb hb => ?_⟩
    have ez := tsort_is pb sb
    subst ez
    rw [← sv_strs, tsort_eq pm]
    have s2 := same_new (o := .lst (sv (tsort ts))) hb
    rw [tsort_eq pm] at s1 hb s2
    have fs : Fines (tsort ts) := fun t ht => fine t (tsort_mem.mp ht)
    refine ⟨_, _, .lst (SqL.of (s2 _ _ upd_same)) (dp_sv _), .lst (SqL.of upd_same) (dp_sv _), shaped_dS fs, shaped_dS fs, ?_⟩
    rw [eqv_self]
    exact q _ (s1.trans s2)
def sp_check_counts (K : PySem.W.Frag) : Sp := fun vs H Q _ => ∃ (p o : Addr) (xs zs : List V), vs = [.ref p, .ref o] ∧ Lt H p xs ∧ Lt H o zs ∧ 1 ≤ xs.length ∧ xs.length ≤ 8 ∧ zs.length ≤ 10 ∧ Q .non H
theorem sc_check_counts : FnScope ["towns", "things"] ["towns", "things"] (defScope (topS 26)) := ⟨rfl, rfl, rfl, by decide +kernel, rfl, by decide +kernel, by decide +kernel⟩
theorem ok_check_counts {P : Program} {w : World} {K : PySem.W.Frag} {mg : Str → Option Value} {base : Heap} (T : Top K mg) : FnOk P w K mg base CX0 1 T.a_check_counts T.fd_check_counts ["towns", "things"] (sp_check_counts K) := by
  refine T.F_check_counts.ok (k := 0) sc_check_counts (fun vs H Q E h => ?_) (fun cdv A outer s0 H vs Q E hr h => ?_)
  · obtain ⟨p, o, xs, zs, rfl, _⟩ := h; rfl
  · have sc := sc_check_counts
    refine ⟨_, (pss_cons (xs_if (pt_not (pt_chain xo_le xo_le pe_int (pe_callB (kc_len (K := K) rfl) (by rfl) T.n_len (by decide +kernel) (pa_cons (xv 0) pa_nil)) (pe_gint (by rfl) T.gv_MAX_TOWNS))) (pss_one ps_never) pss_nil)
      (pss_one (xs_if (xtc xo_gt (pe_callB (kc_len (K := K) rfl) (by rfl) T.n_len (by decide +kernel) (pa_cons (xv 1) pa_nil)) (pe_gint (by rfl) T.gv_MAX_THINGS) (nomark _)) (pss_one ps_never) pss_nil))), ?_⟩
    obtain ⟨p, o, xs, zs, rfl, hp, ho, l1, l8, l10, q⟩ := h
    have i1 : (1 : Int) ≤ (xs.length : Nat) := by omega
    have i8 : ((xs.length : Nat) : Int) ≤ 8 := by omega
    refine ⟨_, hp.sq, _, rfl, ite_t (decide_eq_true i1) ⟨_, rfl, fun c => (not_not i8 c).elim, fun _ => ?_⟩⟩
    refine ⟨_, ho.sq, fun c => ?_, fun _ => q⟩
    have := of_decide_eq_true c
    omega
def sp_check_room (K : PySem.W.Frag) : Sp := fun vs H Q _ => ∃ (t : V) (r : Nat), vs = [t, .int (r : Nat)] ∧ r ≤ 99 ∧ Q .non H
theorem sc_check_room : FnScope ["town", "room"] ["town", "room"] (defScope (topS 28)) := ⟨rfl, rfl, rfl, by decide +kernel, rfl, by decide +kernel, by decide +kernel⟩
theorem ok_check_room {P : Program} {w : World} {K : PySem.W.Frag} {mg : Str → Option Value} {base : Heap} (T : Top K mg) : FnOk P w K mg base CX0 1 T.a_check_room T.fd_check_room ["town", "room"] (sp_check_room K) := by
  refine T.F_check_room.ok (k := 0) sc_check_room (fun vs H Q E h => ?_) (fun cdv A outer s0 H vs Q E hr h => ?_)
  · obtain ⟨t, r, rfl, _⟩ := h; rfl
  · have sc := sc_check_room
    refine ⟨_, (pss_one (xs_if (PW.pt (xw_or (xt (pe_callB (xc_isi .bool) (by rfl) T.n_isinstance (by decide +kernel) (pa_cons (xv 1) (pa_cons (pe_bltn (v := .ty "bool") (by rfl) T.n_bool (by decide +kernel) rfl) pa_nil)))) (pw_or1 (pt_not (pt_chain xo_le xo_le pe_int (xv 1) (pe_gint (by rfl) T.gv_MAX_ROOM)))))) (pss_one ps_never) pss_nil)), ?_⟩
    obtain ⟨t, r, rfl, l, q⟩ := h
    have i0 : (0 : Int) ≤ (r : Nat) := by omega
    have i9 : ((r : Nat) : Int) ≤ 99 := by omega
    exact ⟨rfl, no_ft, fun _ => ⟨_, rfl, ite_t (decide_eq_true i0) ⟨_, rfl, fun c => (not_not i9 c).elim, fun _ => q⟩⟩⟩
def sp_check_springs (K : PySem.W.Frag) : Sp := fun vs H Q _ => ∃ (p o : Addr) (ts : List Tx) (us : List (Tx × Tx)), vs = [.ref p, .ref o] ∧ NmsO H p ts ∧ ThsO H o us ∧ (∀ u ∈ us, u.2 ∈ ts) ∧ ts.length ≤ 1000 ∧ ∀ H', Same H H' → Q .non H'
theorem sc_check_springs : FnScope ["towns", "things", "town_names", "row", "_", "spring"] ["towns", "things"] (defScope (topS 31)) := ⟨rfl, rfl, rfl, by decide +kernel, rfl, by decide +kernel, by decide +kernel⟩
theorem ok_check_springs {P : Program} {w : World} {K : PySem.W.Frag} {mg : Str → Option Value} {base : Heap} (T : Top K mg) : FnOk P w K mg base CX0 1 T.a_check_springs T.fd_check_springs ["towns", "things"] (sp_check_springs K) := by
  refine T.F_check_springs.ok (k := 0) sc_check_springs (fun vs H Q E h => ?_) (fun cdv A outer s0 H vs Q E hr h => ?_)
  · obtain ⟨p, o, ts, us, rfl, _⟩ := h; rfl
  · have sc := sc_check_springs
    refine ⟨_, (pss_cons (ps_setLc (i := 2) (own := [("row", 3)]) rfl sc.nd rfl rfl (sw_true rfl rfl rfl (by decide +kernel)) (ki_seq (K := K) rfl (xv 0)) (blkOk_by (N := ["towns", "things", "town_names", "row", "_", "spring"]) (sc := defScope (topS 31)) (by decide +kernel)) (fun _ _ _ _ _ => (pg_name (i := 3) sc.nd rfl (by first | exact Or.inl rfl | exact Or.inr rfl))) (fun _ _ _ _ _ => pts_nil) (fun _ _ _ _ _ => (pe_ix (kix (K := K) rfl) (xv 3) pe_int (fun _ _ => rfl))))
      (pss_one (ps_for PassesOwn.never rfl (ki_seq (K := K) rfl (xv 1)) (kg_tup (K := K) (n := 2) rfl rfl (pgs_cons (pg_name (i := 4) sc.nd rfl (by first | exact Or.inl rfl | exact Or.inr rfl)) (pgs_cons (pg_name (i := 5) sc.nd rfl (by first | exact Or.inl rfl | exact Or.inr rfl)) pgs_nil))) (pss_one (xs_if (xtc (ko_notin (K := K) rfl) (xv 5) (xv 2) (by rfl)) (pss_one ps_never) pss_nil))))), ?_⟩
    obtain ⟨p, o, ts, us, rfl, hp, ho, ok, few, q⟩ := h
    dsimp only [tSeq, tAsg, gName, L2.start]
    refine tLc_names ?_ hp few ?_ ?_ ?_ <;> try (first | exact fun R h => h | exact fun _ => rfl)
    intro D hD
    have sD := same_new (o := .lst (sv ts)) hD
    obtain ⟨zs, ez, hl, hz⟩ := ths_same ho sD
    refine for_seq (xs := zs.map fun z => V.ref z.1) (p := o) (fun i σ H1 => (∃ y1 y2 y3, σ = [some (.ref p), some (.ref o), some (.ref D), y1, y2, y3]) ∧ Same (upd H D (.lst (sv ts))) H1) hl ⟨⟨none, none, none, rfl⟩, Same.refl _⟩ (fun i σ H1 hW => ?_) (fun i x σ H1 hi hW => ?_) (fun σ H1 hW => ?_)
    · rcases hl with e | e | ⟨o, e⟩ <;> rw [hW.2 _ _ e, e]
    · obtain ⟨⟨y1, y2, y3, rfl⟩, s3⟩ := hW
      obtain ⟨z, gz, rfl⟩ := objs_get hi
      have zm := List.mem_of_getElem? gz
      have e2 := (hz z zm).same s3
      have w := ok z.2 (by rw [← ez]; exact List.mem_map.mpr ⟨z, zm, rfl⟩)
      refine ⟨z.1, _, rfl, SqT.of e2, rfl, _, _, rfl, _, _, rfl, rfl, ?_⟩
      refine ⟨_, Sq.l (s3 _ _ upd_same), rfl, sv_flat _, fun c => ?_, fun _ => ⟨⟨_, _, _, rfl⟩, s3⟩⟩
      have c' : (!inV (.str (S z.2.2)) (sv ts)) = true := c
      rw [inV_sv] at c'
      exact (not_not w c').elim
    · exact q _ (sD.trans hW.2)
def sp_check_rings (K : PySem.W.Frag) : Sp := fun vs H Q _ => ∃ (p : Addr) (ws : List Row) (rk : Tx → Nat), vs = [.ref p] ∧ RowsO H p ws ∧ Down ws rk ∧ ws.length ≤ 63 ∧ ∀ H', Same H H' → Q .non H'
theorem sc_check_rings : FnScope ["towns", "next_towns", "row", "name", "town", "_"] ["towns"] (defScope (topS 32)) := ⟨rfl, rfl, rfl, by decide +kernel, rfl, by decide +kernel, by decide +kernel⟩
theorem ok_check_rings {P : Program} {w : World} {K : PySem.W.Frag} {mg : Str → Option Value} {base : Heap} (T : Top K mg) : FnOk P w K mg base CX0 1 T.a_check_rings T.fd_check_rings ["towns"] (sp_check_rings K) := by
  refine T.F_check_rings.ok (k := 0) sc_check_rings (fun vs H Q E h => ?_) (fun cdv A outer s0 H vs Q E hr h => ?_)
  · obtain ⟨p, ws, rk, rfl, _⟩ := h; rfl
  · have sc := sc_check_rings
    refine ⟨_, (pss_cons (ps_setDcP (i := 1) rfl rfl (sw_dict rfl rfl rfl (by decide +kernel)) (e0 := .dK []) (own := [("row", 2)]) (.inl rfl) (hu0_of hr) rfl sc.nd (ki_seq (K := K) rfl (xv 0)) (blkOk_by (N := ["towns", "next_towns", "row", "name", "town", "_"]) (sc := defScope (topS 32)) (by decide +kernel)) (fun _ _ _ _ _ => (pg_name (i := 2) sc.nd rfl (by first | exact Or.inl rfl | exact Or.inr rfl))) (fun _ _ _ _ _ => pts_nil) (fun _ _ _ _ _ => (pe_ix (kix (K := K) rfl) (xv 2) pe_int (fun _ _ => rfl))) (fun _ _ _ _ _ => (pe_ix (kix (K := K) rfl) (xv 2) pe_int (fun _ _ => rfl))))
      (pss_one (ps_for PassesOwn.never rfl (ki_seq (K := K) rfl (pe_callB (kc_sort (K := K) rfl) (by rfl) T.n_sorted (by decide +kernel) (pa_cons (pe_lc (own := [("row", 2)]) rfl sc.nd (ki_seq (K := K) rfl (xv 0)) (blkOk_by (N := ["towns", "next_towns", "row", "name", "town", "_"]) (sc := defScope (topS 32)) (by decide +kernel)) (fun _ _ _ _ _ => (pg_name (i := 2) sc.nd rfl (by first | exact Or.inl rfl | exact Or.inr rfl))) (fun _ _ _ _ _ => pts_nil) (fun _ _ _ _ _ => (pe_ix (kix (K := K) rfl) (xv 2) pe_int (fun _ _ => rfl)))) pa_nil))) (pg_name (i := 3) sc.nd rfl (by first | exact Or.inl rfl | exact Or.inr rfl)) (pss_cons (ps_set (i := 4) sc.nd rfl (by first | exact Or.inl rfl | exact Or.inr rfl) (xv 3))
      (pss_cons (ps_for PassesOwn.never rfl (pi_range1 (by rfl) T.n_range (pa_cons (pe_callB (kc_len (K := K) rfl) (by rfl) T.n_len (by decide +kernel) (pa_cons (xv 0) pa_nil)) pa_nil)) (pg_name (i := 5) sc.nd rfl (by first | exact Or.inl rfl | exact Or.inr rfl)) (pss_one (xs_if (xtc xo_isnot (xv 4) pe_non (nomark _)) (pss_one (ps_set (i := 4) sc.nd rfl (by first | exact Or.inl rfl | exact Or.inr rfl) (pe_dget (hu_of hr) (xv 1) (xv 4) (fun _ _ => rfl)))) pss_nil)))
      (pss_one (xs_if (xtc xo_isnot (xv 4) pe_non (nomark _)) (pss_one ps_never) pss_nil))))))), ?_⟩
    obtain ⟨p, ws, rk, rfl, hp, dn, few, q⟩ := h
    dsimp only [tSeq, tAsg, gName, L2.start]
    obtain ⟨zs, ez, hl, hz⟩ := hp
    have lz : zs.length = ws.length := by rw [← ez, List.length_map]
    have ndz : (zs.map fun z => z.2.t).Nodup := by have := dn.nd; rw [← ez, List.map_map] at this; exact this
    have fewz : zs.length ≤ 1000 := by omega
    refine yDc_rows (m := 1) (k := fun w : Row => w.t) (v := fun w => ov w.a) ?_ hl (row_tup hz) ndz fewz ?_ ?_ ?_ <;> try (first | exact fun R h => h | exact fun _ => rfl)
    intro D hD
    have eD : (zs.map fun z => ((Sum.inr (S z.2.t) : Key), ov z.2.a)) = nxtD ws := by unfold nxtD; rw [← ez, List.map_map]; rfl
    rw [eD]
    have sD := same_new (o := .dK (nxtD ws)) hD
    have hp1 : RowsO H p ws := ⟨zs, ez, hl, hz⟩
    have lw : (ws.map (·.t)).length < 64 := by rw [List.length_map]; omega
    refine .inl ?_
    dsimp only [iList]
    refine sorted_names ?_ (nms_same (rows_nms hp1) sD) lw ?_ ?_ ?_ <;> try (first | exact fun R h => h | exact fun _ => rfl)
    intro L H2 s2 fL hL
    have sL := sD.trans s2
    obtain ⟨zr, er, hr2, hzr⟩ := rows_same hp1 sL
    refine ⟨L, rfl, ⟨_, SqL.of hL⟩, for_list (D := { nx := fun _ H' => Q .non H', rt := Q }) (xs := sv (tsort (ws.map (·.t)))) (fun i σ H1 => H1 = H2 ∧ ∃ y1 y2 y3 y4, σ = [some (.ref p), some (.ref D), y1, y2, y3, y4]) ⟨rfl, _, _, _, _, rfl⟩ (fun i σ H1 _ e => by rw [e.1]; exact SqL.of hL) (fun i x σ H1 hi e => ?_) (fun σ H1 e => by rw [e.1]; exact q _ sL)⟩
    obtain ⟨rfl, y1, y2, y3, y4, rfl⟩ := e
    obtain ⟨t, tm, rfl⟩ := sv_mem (List.mem_of_getElem? hi)
    have tw : t ∈ ws.map (·.t) := tsort_mem.mp tm
    have dict : H1 D = some (.dK (nxtD ws)) := s2 _ _ upd_same
    refine ⟨_, hr2.sq, ?_⟩
    rw [List.length_map]
    have lr : zr.length = ws.length := by rw [← er, List.length_map]
    refine ⟨_, rfl, by omega, by omega, for_range (lo := 0) (n := zr.length) (fun i σ H' => H' = H1 ∧ ∃ (a : Option Tx) (y : Option V), σ = [some (.ref p), some (.ref D), y1, some (.str (S t)), some (ov a), y] ∧ ∀ u, a = some u → u ∈ ws.map (·.t) ∧ rk u + i < ws.length) ⟨rfl, some t, y4, rfl, fun u e => by cases e; exact ⟨tw, dn.low tw⟩⟩ (fun i σ H' hi e => ?_) (fun σ H' e => ?_)⟩
    · obtain ⟨rfl, a, y, rfl, ha⟩ := e
      cases a with
      | none => exact ⟨fun c => (by cases c), fun _ => ⟨rfl, none, _, rfl, fun u e => by cases e⟩⟩
      | some u =>
        obtain ⟨um, ul⟩ := ha u rfl
        refine ⟨fun _ => ⟨D, ov (nxt ws u), rfl, ?_, ?_⟩, fun c => (by cases c)⟩
        · have g := DGet.k (k := Sum.inr (S u)) dict
          rw [nxtD_at dn.nd um] at g
          exact g
        · exact ⟨rfl, nxt ws u, _, rfl, fun v e => ⟨(dn.next um e).1, by have := (dn.next um e).2; omega⟩⟩
    · obtain ⟨rfl, a, y, rfl, ha⟩ := e
      cases a with
      | none => exact ⟨fun c => (by cases c), fun _ => ⟨rfl, _, _, _, _, rfl⟩⟩
      | some u => have := (ha u rfl).2; omega
def sp_towns_from (K : PySem.W.Frag) : Sp := fun vs H Q _ => ∃ (d : Addr) (a : Option Tx) (ws : List Row) (rk : Tx → Nat), vs = [.ref d, ov a] ∧ H d = some (.dK (nxtD ws)) ∧ Down ws rk ∧ ws.length ≤ 63 ∧ (∀ u, a = some u → u ∈ ws.map (·.t)) ∧
  ∀ r H', Same H H' → H r = none → H' r = some (.lst (sv (pth ws ws.length a))) → Q (.ref r) H'
theorem sc_towns_from : FnScope ["next_towns", "town", "towns"] ["next_towns", "town"] (defScope (topS 34)) := ⟨rfl, rfl, rfl, by decide +kernel, rfl, by decide +kernel, by decide +kernel⟩
theorem ok_towns_from {P : Program} {w : World} {K : PySem.W.Frag} {mg : Str → Option Value} {base : Heap} (T : Top K mg) : FnOk P w K mg base CX0 1 T.a_towns_from T.fd_towns_from ["next_towns", "town"] (sp_towns_from K) := by
  refine T.F_towns_from.ok (k := 0) sc_towns_from (fun vs H Q E h => ?_) (fun cdv A outer s0 H vs Q E hr h => ?_)
  · obtain ⟨d, a, ws, rk, rfl, _⟩ := h; rfl
  · have sc := sc_towns_from
    refine ⟨_, (pss_cons (ps_set (i := 2) sc.nd rfl (by first | exact Or.inl rfl | exact Or.inr rfl) (pe_lst pa_nil))
      (pss_cons (ps_while PassesOwn.never (xtc xo_isnot (xv 1) pe_non (nomark _)) (pss_cons (ps_expr (ke_bm (K := K) rfl PySem.F.plainAttrs_list PySem.F.slot_list_append PySem.F.type_list_append xm_append (xv 2) (pa_cons (xv 1) pa_nil)))
      (pss_one (ps_set (i := 1) sc.nd rfl (by first | exact Or.inl rfl | exact Or.inr rfl) (pe_dget (hu_of hr) (xv 0) (xv 1) (fun _ _ => rfl))))))
      (pss_one (ps_ret (xv 2))))), ?_⟩
    obtain ⟨d, a, ws, rk, rfl, hd, dn, few, ha, q⟩ := h
    refine ⟨sl_of (n := 0) rfl, fun r hr => ?_⟩
    refine ⟨fun m σ H' => ∃ (acc : List Tx) (b : Option Tx), σ = [some (.ref d), some (ov b), some (.ref r)] ∧ H' = upd H r (.lst (sv acc)) ∧ m + acc.length = ws.length ∧ pth ws ws.length a = acc ++ pth ws m b ∧ ∀ u, b = some u → u ∈ ws.map (·.t) ∧ rk u < m, ⟨ws.length, [], a, rfl, rfl, by simp, rfl, fun u e => ⟨ha u e, dn.low (ha u e)⟩⟩, ?_⟩
    rintro m σ H' ⟨acc, b, rfl, rfl, len, eq, hb⟩
    have at_ : (upd H r (.lst (sv acc))) r = some (.lst (sv acc)) := upd_same
    cases b with
    | none =>
      rw [pth_none, List.append_nil] at eq
      rw [← eq] at at_ ⊢
      exact q r _ (same_new hr) hr at_
    | some u =>
      obtain ⟨um, ul⟩ := hb u rfl
      obtain ⟨m', rfl⟩ : ∃ m', m = m' + 1 := ⟨m - 1, by omega⟩
      refine ⟨fun σ' H' => ∃ (acc : List Tx) (b : Option Tx), σ' = [some (.ref d), some (ov b), some (.ref r)] ∧ H' = upd H r (.lst (sv acc)) ∧ m' + acc.length = ws.length ∧ pth ws ws.length a = acc ++ pth ws m' b ∧ ∀ u, b = some u → u ∈ ws.map (·.t) ∧ rk u < m', fun σ' H' w => ⟨m', Nat.lt_succ_self _, w⟩, ?_⟩
      refine ⟨tyL at_, _, at_, by rw [sv_len, sl_big]; omega, ?_⟩
      rw [upd_upd]
      have g := DGet.k (H := upd H r (.lst (sv acc ++ [.str (S u)]))) (k := Sum.inr (S u)) ((upd_ne (ne_of_none hd hr)).trans hd)
      rw [nxtD_at dn.nd um] at g
      refine ⟨d, ov (nxt ws u), rfl, g, acc ++ [u], nxt ws u, rfl, by rw [sv_app]; rfl, by rw [List.length_append]; show m' + (acc.length + 1) = _; omega, ?_, fun v e => ⟨(dn.next um e).1, by have := (dn.next um e).2; omega⟩⟩
      rw [eq, List.append_assoc]
      rfl
def sp__law_store (K : PySem.W.Frag) : Sp := fun vs H Q _ => ∃ (a : Addr) (ns : List Int), vs = [.ref a] ∧ SqL K H a (ns.map V.int) ∧ ns.length ≤ 63 ∧ ∀ s cl H', Same H H' → H s = none → Sto s cl 0 H' → Q (.ref s) H'
theorem sc__law_store : FnScope ["script", "cells", "cell", "base"] ["script"] (defScope (topS 37)) := ⟨rfl, rfl, rfl, by decide +kernel, rfl, by decide +kernel, by decide +kernel⟩
theorem ok__law_store {P : Program} {w : World} {K : PySem.W.Frag} {mg : Str → Option Value} {base : Heap} (T : Top K mg) : FnOk P w K mg base CX0 1 T.a__law_store T.fd__law_store ["script"] (sp__law_store K) := by
  refine T.F__law_store.ok (k := 0) sc__law_store (fun vs H Q E h => ?_) (fun cdv A outer s0 H vs Q E hr h => ?_)
  · obtain ⟨a, ns, rfl, _⟩ := h; rfl
  · have sc := sc__law_store
    refine ⟨_, (pss_cons (ps_setLc (i := 1) (own := [("cell", 2)]) rfl sc.nd rfl rfl (sw_true rfl rfl rfl (by decide +kernel)) (ki_seq (K := K) rfl (xv 0)) (blkOk_by (N := ["script", "cells", "cell", "base"]) (sc := defScope (topS 37)) (by decide +kernel)) (fun _ _ _ _ _ => (pg_name (i := 2) sc.nd rfl (by first | exact Or.inl rfl | exact Or.inr rfl))) (fun _ _ _ _ _ => pts_nil) (fun _ _ _ _ _ => (pe_callTy xc_int (by rfl) T.n_int (by decide +kernel) (pa_cons (xv 2) pa_nil))))
      (pss_cons (ps_set (i := 3) sc.nd rfl (by first | exact Or.inl rfl | exact Or.inr rfl) pe_int)
      (pss_cons (ps_for PassesOwn.never rfl (ki_seq (K := K) rfl (xv 1)) (pg_name (i := 2) sc.nd rfl (by first | exact Or.inl rfl | exact Or.inr rfl)) (pss_one (ps_set (i := 3) sc.nd rfl (by first | exact Or.inl rfl | exact Or.inr rfl) (pe_op xo_mod (pe_callTy xc_int (by rfl) T.n_int (by decide +kernel) (pa_cons (pe_op (ko_add (K := K) rfl) (pe_op (ko_add (K := K) rfl) (pe_op xo_mul (xv 3) pe_int) (pe_op xo_mod (pe_callTy xc_int (by rfl) T.n_int (by decide +kernel) (pa_cons (xv 2) pa_nil)) pe_int)) pe_int) pa_nil)) pe_int))))
      (pss_one (ps_ret (pe_lst (pa_cons (xv 1) (pa_cons pe_int (pa_cons pe_int (pa_cons pe_int (pa_cons (xv 3) pa_nil))))))))))), ?_⟩
    obtain ⟨a, ns, rfl, hS, hl, q⟩ := h
    have hz : (ns.map V.int).length ≤ sizeLine := by rw [List.length_map, sl_big]; omega
    refine .inl ⟨a, rfl, ⟨_, hS⟩, fun D hD => ?_⟩
    refine lc_f (xs := ns.map V.int) id hS hD hz (fun _ => rfl) (fun x acc Q hx q => ?_) ?_
    · obtain ⟨i, _, rfl⟩ := List.mem_map.mp hx
      exact q
    rw [List.map_id]
    refine .inl ⟨D, rfl, ⟨_, SqL.of upd_same⟩, for_list (xs := ns.map V.int) (fun _ σ H1 => H1 = upd H D (.lst (ns.map V.int)) ∧ ∃ b y, σ = [some (.ref a), some (.ref D), y, some (.int b)]) ⟨rfl, 1, none, rfl⟩ (fun i σ H1 _ e => by rw [e.1]; exact SqL.of upd_same) (fun i x σ H1 hi e => ?_) (fun σ H1 e => ?_)⟩
    · obtain ⟨rfl, b, y, rfl⟩ := e
      obtain ⟨j, _, rfl⟩ := List.mem_map.mp (List.mem_of_getElem? hi)
      refine ⟨.inr ⟨by decide, by decide⟩, by decide, by decide, rfl, _, _, rfl⟩
    · obtain ⟨rfl, b, y, rfl⟩ := e
      refine ⟨sl_of (n := 5) rfl, fun s hs => q s D _ ?_ ?_ ⟨ns, 0, 0, 0, b, upd_same, ?_, ?_, Nat.zero_le _, hl, by decide, by decide⟩⟩
      · exact (same_new hD).trans (same_new hs)
      · exact (same_new hD).free hs
      · rw [upd_ne (ne_of_none upd_same hs)]; exact upd_same
      · exact ne_of_none upd_same hs
def sp__law_mix (K : PySem.W.Frag) : Sp := fun vs H Q _ => ∃ (c t : Int), vs = [.int c, .int t] ∧ 0 ≤ t ∧ t ≤ 1000000000005 ∧ ∀ (r : Int), 0 ≤ r → Q (.int r) H
theorem sc__law_mix : FnScope ["cell", "turn", "one"] ["cell", "turn"] (defScope (topS 38)) := ⟨rfl, rfl, rfl, by decide +kernel, rfl, by decide +kernel, by decide +kernel⟩
theorem ok__law_mix {P : Program} {w : World} {K : PySem.W.Frag} {mg : Str → Option Value} {base : Heap} (T : Top K mg) : FnOk P w K mg base CX0 1 T.a__law_mix T.fd__law_mix ["cell", "turn"] (sp__law_mix K) := by
  refine T.F__law_mix.ok (k := 0) sc__law_mix (fun vs H Q E h => ?_) (fun cdv A outer s0 H vs Q E hr h => ?_)
  · obtain ⟨c, t, rfl, _⟩ := h; rfl
  · have sc := sc__law_mix
    refine ⟨_, (pss_cons (ps_set (i := 2) sc.nd rfl (by first | exact Or.inl rfl | exact Or.inr rfl) (pe_op (ko_add (K := K) rfl) (pe_op (ko_add (K := K) rfl) (pe_op xo_mod (pe_callTy xc_int (by rfl) T.n_int (by decide +kernel) (pa_cons (xv 0) pa_nil)) pe_int) (pe_op xo_mul pe_int (xv 1))) pe_int))
      (pss_cons (ps_set (i := 2) sc.nd rfl (by first | exact Or.inl rfl | exact Or.inr rfl) (pe_op xo_mod (pe_callTy xc_int (by rfl) T.n_int (by decide +kernel) (pa_cons (pe_op (ko_add (K := K) rfl) (pe_op xo_mul (xv 2) (xv 2)) (xv 1)) pa_nil)) pe_int))
      (pss_one (ps_ret (pe_op xo_mod (pe_callTy xc_int (by rfl) T.n_int (by decide +kernel) (pa_cons (pe_op (ko_add (K := K) rfl) (pe_op xo_mul (xv 2) (pe_op (ko_add (K := K) rfl) (xv 2) pe_int)) (pe_op xo_mul pe_int (xv 1))) pa_nil)) pe_int))))), ?_⟩
    obtain ⟨c, t, rfl, h0, h1, q⟩ := h
    have e0 : 0 ≤ c.fmod 99989 := Int.fmod_nonneg_of_pos _ (by decide)
    have e1 : c.fmod 99989 < 99989 := Int.fmod_lt_of_pos _ (by decide)
    refine ⟨by decide, .inl ⟨by decide, by decide⟩, .inl ⟨by omega, by omega⟩, by decide, ?_⟩
    have f0 : 0 ≤ ((c.fmod 99989 + 331 * t + 17) * (c.fmod 99989 + 331 * t + 17) + t).fmod 99989 := Int.fmod_nonneg_of_pos _ (by decide)
    have f1 : ((c.fmod 99989 + 331 * t + 17) * (c.fmod 99989 + 331 * t + 17) + t).fmod 99989 < 99989 := Int.fmod_lt_of_pos _ (by decide)
    refine ⟨.inl ⟨by omega, by omega⟩, .inl ⟨by decide, by decide⟩, by decide, ?_⟩
    exact q _ (Int.fmod_nonneg_of_pos _ (by decide))
def sp__law_is_name (K : PySem.W.Frag) : Sp := fun vs H Q _ => ∃ (l : List Nat), vs = [.str (S l)] ∧ l.length ≤ sizeLine ∧ ∀ H', Same H H' → Q (.bl (nameL l)) H'
theorem sc__law_is_name : FnScope ["text", "sign"] ["text"] (defScope (topS 46)) := ⟨rfl, rfl, rfl, by decide +kernel, rfl, by decide +kernel, by decide +kernel⟩
theorem ok__law_is_name {P : Program} {w : World} {K : PySem.W.Frag} {mg : Str → Option Value} {base : Heap} (T : Top K mg) : FnOk P w K mg base CX0 1 T.a__law_is_name T.fd__law_is_name ["text"] (sp__law_is_name K) := by
  refine T.F__law_is_name.ok (k := 0) sc__law_is_name (fun vs H Q E h => ?_) (fun cdv A outer s0 H vs Q E hr h => ?_)
  · obtain ⟨l, rfl, _⟩ := h; rfl
  · have sc := sc__law_is_name
    refine ⟨_, (pss_cons (xs_if (PW.pt (xw_or (xtc (ko_eq (K := K) rfl hr.units) (xv 0) pe_str (nomark _)) (xw_or (xtc (ko_eq (K := K) rfl hr.units) (xv 0) pe_str (nomark _)) (xw_or (xtc xo_lt (pe_callB (kc_len (K := K) rfl) (by rfl) T.n_len (by decide +kernel) (pa_cons (xv 0) pa_nil)) pe_int (nomark _)) (pw_or1 (xtc xo_gt (pe_callB (kc_len (K := K) rfl) (by rfl) T.n_len (by decide +kernel) (pa_cons (xv 0) pa_nil)) pe_int (nomark _))))))) (pss_one (ps_ret pe_bl)) pss_nil)
      (pss_cons (xs_if (xtc (ko_notin (K := K) rfl) (pe_ix (kix (K := K) rfl) (xv 0) pe_int (fun _ _ => rfl)) pe_str (by rfl)) (pss_one (ps_ret pe_bl)) pss_nil)
      (pss_one (ps_ret (pe_cmpR (ko_eq (K := K) rfl hr.units) (pe_callB (kc_len (K := K) rfl) (by rfl) T.n_len (by decide +kernel) (pa_cons (pe_lc (own := [("sign", 1)]) rfl sc.nd (pi_str (xv 0)) (blkOk_by (N := ["text", "sign"]) (sc := defScope (topS 46)) (by decide +kernel)) (fun _ _ _ _ _ => (pg_name (i := 1) sc.nd rfl (by first | exact Or.inl rfl | exact Or.inr rfl))) (fun _ _ _ _ _ => (pts_one (xtc (ko_notin (K := K) rfl) (xv 1) pe_str (by rfl)))) (fun _ _ _ _ _ => (xv 1))) pa_nil)) pe_int (nomark _)))))), ?_⟩
    obtain ⟨l, rfl, hl, q⟩ := h
    have hz : (S l).length ≤ sizeLine := by rw [S_len]; exact hl
    have no : nameL l = false → Q (.bl false) H := fun e => by have := q H (Same.refl H); rwa [e] at this
    have bad : ¬ IsNm l → nameL l = false := fun h => by
      cases e : nameL l with
      | false => rfl
      | true => exact absurd (nameL_iff.mp e) h
    refine ⟨fun c => ⟨fun _ => ?_, no_tf⟩, fun c1 => ⟨fun c => ⟨fun _ => ?_, no_tf⟩, fun c2 => ⟨hz, fun c => ⟨fun _ => ?_, no_tf⟩, fun c3 => ⟨hz, fun c => ?_, fun c4 => ?_⟩⟩⟩⟩
    · rw [dec_S lit_sea] at c
      exact no (bad fun h => h.ns (of_decide_eq_true c))
    · rw [dec_S lit_it] at c
      exact no (bad fun h => h.ni (of_decide_eq_true c))
    · rw [S_len] at c
      have := of_decide_eq_true c
      exact no (bad fun h => by have := List.length_pos_iff.mpr h.ne; omega)
    · rw [S_len] at c
      have := of_decide_eq_true c
      exact no (bad fun h => by have := h.l1; omega)
    rw [dec_S lit_sea] at c1
    rw [dec_S lit_it] at c2
    rw [S_len] at c3 c4
    have d1 := of_decide_eq_false c1
    have d2 := of_decide_eq_false c2
    have d3 := of_decide_eq_false c3
    have d4 := of_decide_eq_false c4
    obtain ⟨a, t, rfl⟩ : ∃ a t, l = a :: t := by
      cases l with
      | nil => exact absurd (by decide) d3
      | cons a t => exact ⟨a, t, rfl⟩
    refine ⟨hz, a, atI_nat (j := 0) rfl, ?_⟩
    rw [lit_az]
    refine ⟨a, rfl, fun c => ?_, fun c => ?_⟩
    · have c' : ¬ a ∈ aZ := by simpa using c
      refine no (bad fun h => c' (mem_az.mpr ?_))
      have := h.w
      unfold word at this
      exact (Bool.and_eq_true _ _ ▸ this).1
    have ca : low a = true := mem_az.mp (by simpa using c)
    refine ⟨_, rfl, fun D hD => ?_⟩
    refine lc_str (l := a :: t) (fun x => .str (S [x])) (fun x => !decide (x ∈ aZ9)) hl (fun _ => rfl) (fun x acc Q' _ q' => ?_) (fun x acc Q' _ q' => q') ?_
    · rw [lit_az9]
      exact ⟨x, rfl, q'⟩
    refine ⟨_, Sq.l upd_same, ?_⟩
    rw [List.length_map]
    have e : decide (((((a :: t).filter fun x => !decide (x ∈ aZ9)).length : Nat) : Int) = 0) = nameL (a :: t) := by
      rw [Bool.eq_iff_iff, decide_eq_true_iff, nameL_iff]
      have e1 : (((((a :: t).filter fun x => !decide (x ∈ aZ9)).length : Nat) : Int) = 0) ↔ ((a :: t).filter fun x => !decide (x ∈ aZ9)).length = 0 := by omega
      rw [e1, filter_nil_iff]
      constructor
      · intro h
        refine ⟨?_, by omega, d1, d2⟩
        unfold word
        rw [Bool.and_eq_true]
        exact ⟨ca, List.all_eq_true.mpr fun x hx => mem_az9.mp (by simpa using h x hx)⟩
      · intro h x hx
        simpa using mem_az9.mpr (word_all h.w x hx)
    have z := fun o : HO => q _ (same_new (o := o) hD)
    rw [← e] at z
    exact z _
def sp_check_name (K : PySem.W.Frag) : Sp := fun vs H Q _ => ∃ t : Tx, vs = [.str (S t)] ∧ IsNm t ∧ ∀ H', Same H H' → Q (.str (S t)) H'
theorem sc_check_name : FnScope ["text"] ["text"] (defScope (topS 23)) := ⟨rfl, rfl, rfl, by decide +kernel, rfl, by decide +kernel, by decide +kernel⟩
theorem ok_check_name {P : Program} {w : World} {K : PySem.W.Frag} {mg : Str → Option Value} {base : Heap} (T : Top K mg) : FnOk P w K mg base CX0 2 T.a_check_name T.fd_check_name ["text"] (sp_check_name K) := by
  refine T.F_check_name.ok (k := 1) sc_check_name (fun vs H Q E h => ?_) (fun cdv A outer s0 H vs Q E hr h => ?_)
  · obtain ⟨t, rfl, _⟩ := h; rfl
  · have sc := sc_check_name
    refine ⟨_, (pss_cons (xs_if (pt_not (xt (pe_call (ok_is_name T) (hr.mono (by decide)) (by rfl) T.g_is_name T.F_is_name.kp T.b_is_name .nil pass0 (pa_cons (xv 0) pa_nil)))) (pss_one ps_never) pss_nil)
      (pss_one (ps_ret (xv 0)))), ?_⟩
    obtain ⟨t, rfl, nm, q⟩ := h
    exact ⟨t, rfl, nm, fun H' s => ⟨no_nt, fun _ => q H' s⟩⟩
def sp_check_liking (K : PySem.W.Frag) : Sp := fun vs H Q _ => ∃ (t : V) (p o : Addr) (ls ts : List Tx), vs = [t, .ref p, .ref o] ∧ Lt H p (sv ls) ∧ Lt H o (sv ts) ∧ ls.Perm ts ∧ ts.length < 64 ∧ Fines ts ∧ ∀ H', Same H H' → Q .non H'
theorem sc_check_liking : FnScope ["town", "liking", "things"] ["town", "liking", "things"] (defScope (topS 29)) := ⟨rfl, rfl, rfl, by decide +kernel, rfl, by decide +kernel, by decide +kernel⟩
theorem ok_check_liking {P : Program} {w : World} {K : PySem.W.Frag} {mg : Str → Option Value} {base : Heap} (T : Top K mg) : FnOk P w K mg base CX0 2 T.a_check_liking T.fd_check_liking ["town", "liking", "things"] (sp_check_liking K) := by
  refine T.F_check_liking.ok (k := 1) sc_check_liking (fun vs H Q E h => ?_) (fun cdv A outer s0 H vs Q E hr h => ?_)
  · obtain ⟨t, p, o, ls, ts, rfl, _⟩ := h; rfl
  · have sc := sc_check_liking
    refine ⟨_, (pss_one (xs_if (pt_not (xt (pe_call (ok_is_liking T) (hr.mono (by decide)) (by rfl) T.g_is_liking T.F_is_liking.kp T.b_is_liking .nil pass0 (pa_cons (xv 1) (pa_cons (xv 2) pa_nil))))) (pss_one ps_never) pss_nil)), ?_⟩
    obtain ⟨t, p, o, ls, ts, rfl, hp, ho, pm, few, fine, q⟩ := h
    exact ⟨p, o, ls, ts, rfl, hp, ho, pm, few, fine, fun H' s => ⟨no_nt, fun _ => q H' s⟩⟩
def sp__law_take (K : PySem.W.Frag) : Sp := fun vs H Q _ => ∃ (s cl : Addr) (n : Nat) (m : Int), vs = [.ref s, .int m] ∧ Sto s cl n H ∧ n < 1000000000000 ∧ m < 536870912 ∧
  ∀ (r : Nat) H', ((r : Int) < m ∨ r = 0) → Keep s H H' → Sto s cl (n + 1) H' → Q (.int (r : Nat)) H'
theorem sc__law_take : FnScope ["store", "many", "rest", "cell"] ["store", "many"] (defScope (topS 39)) := ⟨rfl, rfl, rfl, by decide +kernel, rfl, by decide +kernel, by decide +kernel⟩
theorem ok__law_take {P : Program} {w : World} {K : PySem.W.Frag} {mg : Str → Option Value} {base : Heap} (T : Top K mg) : FnOk P w K mg base CX0 2 T.a__law_take T.fd__law_take ["store", "many"] (sp__law_take K) := by
  refine T.F__law_take.ok (k := 1) sc__law_take (fun vs H Q E h => ?_) (fun cdv A outer s0 H vs Q E hr h => ?_)
  · obtain ⟨s, cl, n, m, rfl, _⟩ := h; rfl
  · have sc := sc__law_take
    refine ⟨_, (pss_cons (xs_if (xtc xo_lt (xv 1) pe_int (nomark _)) (pss_one (ps_ret pe_int)) pss_nil)
      (pss_cons (ps_asg (pe_op (ko_add (K := K) rfl) (pe_ix (kix (K := K) rfl) (xv 0) pe_int (fun _ _ => rfl)) pe_int) (pg_sub (xv 0) pe_int xset))
      (xss_cut (xs_if (PW.pt (xw_and (xtc (ko_eq (K := K) rfl hr.units) (pe_ix (kix (K := K) rfl) (xv 0) pe_int (fun _ _ => rfl)) pe_int (nomark _)) (xw_and (xtc xo_lt (pe_ix (kix (K := K) rfl) (xv 0) pe_int (fun _ _ => rfl)) (pe_callB (kc_len (K := K) rfl) (by rfl) T.n_len (by decide +kernel) (pa_cons (pe_ix (kix (K := K) rfl) (xv 0) pe_int (fun _ _ => rfl)) pa_nil)) (nomark _)) (pw_and1 (xtc xo_ge (pe_ix (kix (K := K) rfl) (pe_ix (kix (K := K) rfl) (xv 0) pe_int (fun _ _ => rfl)) (pe_ix (kix (K := K) rfl) (xv 0) pe_int (fun _ _ => rfl)) (fun _ _ => rfl)) (pe_op xo_pow pe_int pe_int) (nomark _)))))) (pss_cons (ps_asg (pe_ix (kix (K := K) rfl) (pe_ix (kix (K := K) rfl) (xv 0) pe_int (fun _ _ => rfl)) (pe_ix (kix (K := K) rfl) (xv 0) pe_int (fun _ _ => rfl)) (fun _ _ => rfl)) (pg_sub (xv 0) pe_int xset))
      (pss_one (ps_asg (pe_op (ko_add (K := K) rfl) (pe_ix (kix (K := K) rfl) (xv 0) pe_int (fun _ _ => rfl)) pe_int) (pg_sub (xv 0) pe_int xset)))) pss_nil)
      (pss_cons (xs_if (xtc xo_gt (pe_ix (kix (K := K) rfl) (xv 0) pe_int (fun _ _ => rfl)) pe_int (nomark _)) (pss_cons (ps_set (i := 2) sc.nd rfl (by first | exact Or.inl rfl | exact Or.inr rfl) (pe_ix (kix (K := K) rfl) (xv 0) pe_int (fun _ _ => rfl)))
      (pss_cons (ps_asg (pe_op xo_div (xv 2) (xv 1)) (pg_sub (xv 0) pe_int xset))
      (pss_one (ps_ret (pe_op xo_mod (pe_callTy xc_int (by rfl) T.n_int (by decide +kernel) (pa_cons (xv 2) pa_nil)) (xv 1)))))) pss_nil)
      (pss_cons (ps_set (i := 3) sc.nd rfl (by first | exact Or.inl rfl | exact Or.inr rfl) (pe_ix (kix (K := K) rfl) (xv 0) pe_int (fun _ _ => rfl)))
      (xss_cut (xs_if (xtc xo_lt (pe_ix (kix (K := K) rfl) (xv 0) pe_int (fun _ _ => rfl)) (pe_callB (kc_len (K := K) rfl) (by rfl) T.n_len (by decide +kernel) (pa_cons (pe_ix (kix (K := K) rfl) (xv 0) pe_int (fun _ _ => rfl)) pa_nil)) (nomark _)) (pss_cons (ps_set (i := 3) sc.nd rfl (by first | exact Or.inl rfl | exact Or.inr rfl) (pe_ix (kix (K := K) rfl) (pe_ix (kix (K := K) rfl) (xv 0) pe_int (fun _ _ => rfl)) (pe_ix (kix (K := K) rfl) (xv 0) pe_int (fun _ _ => rfl)) (fun _ _ => rfl)))
      (pss_one (ps_asg (pe_op (ko_add (K := K) rfl) (pe_ix (kix (K := K) rfl) (xv 0) pe_int (fun _ _ => rfl)) pe_int) (pg_sub (xv 0) pe_int xset)))) pss_nil)
      (pss_one (ps_ret (pe_op xo_mod (pe_callTy xc_int (by rfl) T.n_int (by decide +kernel) (pa_cons (pe_call (ok__law_mix T) (hr.mono (by decide)) (by rfl) T.g__law_mix T.F__law_mix.kp T.b__law_mix .nil pass0 (pa_cons (xv 3) (pa_cons (pe_ix (kix (K := K) rfl) (xv 0) pe_int (fun _ _ => rfl)) pa_nil))) pa_nil)) (xv 1)))))))))), ?_⟩
    obtain ⟨s, cl, n, m, rfl, S, hn, hm, q⟩ := h
    refine ⟨fun c => ?_, fun c => ?_⟩
    · exact q 0 H (.inr rfl) Keep.refl (S.mono (by omega))
    have c2 : ¬ m < 2 := of_decide_eq_false c
    obtain ⟨ns, i, d, b, e, h1, h2, h3, h4, h5, h6, h7⟩ := S.ex
    have hc : (ns.map V.int).length ≤ sizeLine := by rw [List.length_map, sl_big]; omega
    -- store[3] = store[3] + 1
    refine ⟨_, _, Sq.l h1, rfl, _, 3, h1, rfl, ?_⟩
    have k2 : ∀ H', Keep s (upd H s (sRow cl i (d + 1) b e)) H' → Keep s H H' := fun H' k => Keep.put.trans k
    -- the state of the row
    have row : ∀ {H' : Hp} {i' : Nat} {b' : Int}, Keep s H H' → H' s = some (sRow cl i' (d + 1) b' e) → i' ≤ ns.length → 0 ≤ b' → Sto s cl (n + 1) H' := fun {H' i' b'} k e1 e2 e3 => ⟨ns, i', d + 1, b', e, e1, k _ _ h3 h2, h3, e2, h5, e3, by omega⟩
    refine ⟨fun σ' H' => σ' = [some (.ref s), some (.int m), none, none] ∧ Keep s H H' ∧ ∃ (i' : Nat) (b' : Int), H' s = some (sRow cl i' (d + 1) b' e) ∧ i' ≤ ns.length ∧ 0 ≤ b', ?_, ?_⟩
    · have H1s : (upd H s (.lst [.ref cl, .int i, .int b, .int (d + 1), .int e])) s = some (.lst [.ref cl, .int i, .int b, .int (d + 1), .int e]) := upd_same
      have H1a : (upd H s (.lst [.ref cl, .int i, .int b, .int (d + 1), .int e])  ) cl = some (.lst (ns.map V.int)) := by rw [upd_ne h3]; exact h2
      have stay : (fun σ' H' => σ' = [some (V.ref s), some (V.int m), none, none] ∧ Keep s H H' ∧ ∃ (i' : Nat) (b' : Int), H' s = some (sRow cl i' (d + 1) b' e) ∧ i' ≤ ns.length ∧ 0 ≤ b') [some (V.ref s), some (V.int m), none, none] (upd H s (.lst [.ref cl, .int i, .int b, .int (d + 1), .int e])) :=
        ⟨rfl, Keep.put, i, b, upd_same, h4, h6⟩
      refine ⟨_, _, Sq.l H1s, rfl, fun c => ?_, fun c => ⟨no_ft, fun _ => stay⟩⟩
      refine ⟨_, _, Sq.l H1s, rfl, ?_⟩
      refine ⟨_, _, Sq.l H1s, rfl, _, Sq.l H1a, fun c => ?_, fun c => ⟨no_ft, fun _ => stay⟩⟩
      have ci : (i : Int) < ((ns.map V.int).length : Nat) := of_decide_eq_true c
      rw [List.length_map] at ci
      have hi : i < ns.length := by omega
      have g : (ns.map V.int)[i]? = some (.int ns[i]) := by rw [List.getElem?_map, List.getElem?_eq_getElem hi]; rfl
      refine ⟨_, _, Sq.l H1s, rfl, _, _, Sq.l H1s, rfl, _, _, Sq.l H1a, atI_nat g, ⟨by decide, by decide, by decide⟩, fun c => ?_, fun _ => stay⟩
      have cb := of_decide_eq_true c
      have cb0 : 0 ≤ ns[i] := Int.le_trans (by decide) cb
      refine ⟨_, _, Sq.l H1s, rfl, _, _, Sq.l H1s, rfl, _, _, Sq.l H1a, atI_nat g, _, 2, H1s, rfl, ?_⟩
      have H2s : ∀ o, (upd (upd H s (.lst [.ref cl, .int i, .int b, .int (d + 1), .int e])) s o) s = some o := fun o => upd_same
      refine ⟨_, _, Sq.l upd_same, rfl, _, 1, upd_same, rfl, ?_⟩
      exact ⟨rfl, Keep.put.trans (Keep.put.trans Keep.put), i + 1, ns[i], upd_same, hi, cb0⟩
    rintro σ' H1 ⟨rfl, kp, i', b', r1, r2, r3⟩
    have H1a : H1 cl = some (.lst (ns.map V.int)) := kp _ _ h3 h2
    refine ⟨_, _, Sq.l r1, rfl, fun c => ?_, fun c => ?_⟩
    · -- store[2] > 0
      have cb := of_decide_eq_true c
      refine ⟨_, _, Sq.l r1, rfl, ⟨by omega, by omega⟩, _, 2, r1, rfl, by omega, ?_⟩
      have z0 : 0 ≤ b'.fmod m := Int.fmod_nonneg_of_pos _ (by omega)
      have z1 : b'.fmod m < m := Int.fmod_lt_of_pos _ (by omega)
      have z2 : 0 ≤ b'.fdiv m := Int.fdiv_nonneg r3 (by omega)
      have z3 := q (b'.fmod m).toNat (upd H1 s (sRow cl i' (d + 1) (b'.fdiv m) e)) (.inl (by omega)) (kp.trans Keep.put) (row (kp.trans Keep.put) upd_same r2 z2)
      rw [Int.toNat_of_nonneg z0] at z3
      exact z3
    · have fin : ∀ (H2 : Hp) (x : Int) (i2 : Nat), Keep s H H2 → H2 s = some (sRow cl i2 (d + 1) b' e) → i2 ≤ ns.length → ∀ (g : ∀ r : Int, 0 ≤ r → Q (.int (r.fmod m)) H2), True := fun _ _ _ _ _ _ _ => trivial
      refine ⟨_, _, Sq.l r1, rfl, ?_⟩
      have out : ∀ (H2 : Hp) (i2 : Nat) (r : Int), Keep s H H2 → H2 s = some (sRow cl i2 (d + 1) b' e) → i2 ≤ ns.length → 0 ≤ r → Q (.int (r.fmod m)) H2 := fun H2 i2 r k1 k3 k4 hr => by
        have z0 : 0 ≤ r.fmod m := Int.fmod_nonneg_of_pos _ (by omega)
        have z1 : r.fmod m < m := Int.fmod_lt_of_pos _ (by omega)
        have z3 := q (r.fmod m).toNat H2 (.inl (by omega)) k1 (row k1 k3 k4 r3)
        rw [Int.toNat_of_nonneg z0] at z3
        exact z3
      refine ⟨fun σ' H' => (∃ x : Int, σ' = [some (.ref s), some (.int m), none, some (.int x)]) ∧ Keep s H H' ∧ ∃ (i' : Nat), H' s = some (sRow cl i' (d + 1) b' e) ∧ i' ≤ ns.length, ?_, ?_⟩
      · refine ⟨_, _, Sq.l r1, rfl, _, _, Sq.l r1, rfl, _, Sq.l H1a, fun c => ?_, fun c => ⟨⟨_, rfl⟩, kp, i', r1, r2⟩⟩
        have ci : (i' : Int) < ((ns.map V.int).length : Nat) := of_decide_eq_true c
        rw [List.length_map] at ci
        have hi : i' < ns.length := by omega
        have g : (ns.map V.int)[i']? = some (.int ns[i']) := by rw [List.getElem?_map, List.getElem?_eq_getElem hi]; rfl
        refine ⟨_, _, Sq.l r1, rfl, _, _, Sq.l r1, rfl, _, _, Sq.l H1a, atI_nat g, _, _, Sq.l r1, rfl, _, 1, r1, rfl, ?_⟩
        exact ⟨⟨_, rfl⟩, kp.trans Keep.put, i' + 1, upd_same, hi⟩
      rintro σ' H2 ⟨⟨x, rfl⟩, k1, i2, k3, k4⟩
      refine ⟨_, _, Sq.l k3, rfl, x, ((d + 1 : Nat) : Int), rfl, by omega, by omega, fun r hr => ⟨by omega, ?_⟩⟩
      exact out H2 i2 r k1 k3 k4 hr
def sp_check_town (K : PySem.W.Frag) : Sp := fun vs H Q _ => ∃ (x : Addr) (R : Rv) (t : Tx), vs = [.ref x, .str (S t)] ∧ RivO K H x R ∧ t ∈ R.tn ∧ ∀ H', Same H H' → Q .non H'
theorem sc_check_town : FnScope ["river", "town"] ["river", "town"] (defScope (topS 12)) := ⟨rfl, rfl, rfl, by decide +kernel, rfl, by decide +kernel, by decide +kernel⟩
theorem ok_check_town {P : Program} {w : World} {K : PySem.W.Frag} {mg : Str → Option Value} {base : Heap} (T : Top K mg) : FnOk P w K mg base CX0 3 T.a_check_town T.fd_check_town ["river", "town"] (sp_check_town K) := by
  refine T.F_check_town.ok (k := 2) sc_check_town (fun vs H Q E h => ?_) (fun cdv A outer s0 H vs Q E hr h => ?_)
  · obtain ⟨x, R, t, rfl, _⟩ := h; rfl
  · have sc := sc_check_town
    refine ⟨_, (pss_one (xs_if (xtc (ko_notin (K := K) rfl) (xv 1) (pe_prop (f := "towns") (xv 0) T.in_River T.pr_River_towns (ok_River_towns T) (hr.mono (by decide)) T.b_River_towns .nil pass0 rfl) (by rfl)) (pss_one ps_never) pss_nil)), ?_⟩
    obtain ⟨x, R, t, rfl, hx, ht, q⟩ := h
    have hx0 := hx
    obtain ⟨dx, a1, a2, a3, a4, a5, a6, a7, a8, a9, h0, hh⟩ := hx0
    refine ⟨x, dx, _, rfl, h0, x, R, rfl, hx, fun r H' s fr er => ⟨_, Sq.l er, rfl, sv_flat _, fun c => ?_, fun _ => q H' s⟩⟩
    have c' : (!inV (.str (S t)) (sv (tsort R.tn))) = true := c
    rw [inV_sv] at c'
    exact (not_not (tsort_mem.mpr ht) c').elim
def sp_check_row_names (K : PySem.W.Frag) : Sp := fun vs H Q _ => ∃ (p : Addr) (ts : List Tx), vs = [.ref p] ∧ NmsO H p ts ∧ ts.Nodup ∧ (∀ t ∈ ts, IsNm t) ∧ ts.length ≤ 1000 ∧ ∀ H', Same H H' → Q .non H'
theorem sc_check_row_names : FnScope ["rows", "seen", "row", "name"] ["rows"] (defScope (topS 27)) := ⟨rfl, rfl, rfl, by decide +kernel, rfl, by decide +kernel, by decide +kernel⟩
theorem ok_check_row_names {P : Program} {w : World} {K : PySem.W.Frag} {mg : Str → Option Value} {base : Heap} (T : Top K mg) : FnOk P w K mg base CX0 3 T.a_check_row_names T.fd_check_row_names ["rows"] (sp_check_row_names K) := by
  refine T.F_check_row_names.ok (k := 2) sc_check_row_names (fun vs H Q E h => ?_) (fun cdv A outer s0 H vs Q E hr h => ?_)
  · obtain ⟨p, ts, rfl, _⟩ := h; rfl
  · have sc := sc_check_row_names
    refine ⟨_, (pss_cons (ps_set (i := 1) sc.nd rfl (by first | exact Or.inl rfl | exact Or.inr rfl) pe_dnewK)
      (pss_one (ps_for PassesOwn.never rfl (ki_seq (K := K) rfl (xv 0)) (pg_name (i := 2) sc.nd rfl (by first | exact Or.inl rfl | exact Or.inr rfl)) (pss_cons (ps_set (i := 3) sc.nd rfl (by first | exact Or.inl rfl | exact Or.inr rfl) (pe_call (ok_check_name T) (hr.mono (by decide)) (by rfl) T.g_check_name T.F_check_name.kp T.b_check_name .nil pass0 (pa_cons (pe_ix (kix (K := K) rfl) (xv 2) pe_int (fun _ _ => rfl)) pa_nil)))
      (pss_cons (xs_if (xtp (pc_din (hu_of hr) (xv 3) (xv 1))) (pss_one ps_never) pss_nil)
      (pss_one (ps_dput (hu_of hr) (xv 1) (xv 3) pe_bl rfl))))))), ?_⟩
    obtain ⟨p, ts, rfl, ⟨zs, rfl, hl, hz⟩, nd, nm, few, q⟩ := h
    rw [List.length_map] at few
    intro d hd
    have sd : ∀ u, Same H (upd H d u) := fun u => same_new hd
    refine for_seq (xs := zs.map fun z => V.ref z.1) (p := p) (fun i σ H1 => (∃ y1 y2, σ = [some (.ref p), some (.ref d), y1, y2]) ∧ ∃ G, Same H G ∧ G d = none ∧ H1 = upd G d (.dK ((zs.take i).map fun z => ((Sum.inr (S z.2) : Key), V.bl true)))) (hl.same (sd _)) ⟨⟨none, none, rfl⟩, H, Same.refl _, hd, rfl⟩ (fun i σ H1 hW => ?_) (fun i x σ H1 hi hW => ?_) (fun σ H1 hW => ?_)
    · obtain ⟨_, G, sg, gd, rfl⟩ := hW
      rw [upd_ne (hl.has hd), upd_ne (hl.has hd)]
      rcases hl with e | e | ⟨o, e⟩ <;> rw [sg _ _ e, e]
    · obtain ⟨⟨y1, y2, rfl⟩, G, sg, gd, rfl⟩ := hW
      obtain ⟨z, gz, rfl⟩ := objs_get hi
      have il := (List.getElem?_eq_some_iff.mp gz).1
      have zm := List.mem_of_getElem? gz
      obtain ⟨r, ez⟩ := hz z zm
      have ez1 : ∀ u, upd G d u z.1 = some (.tup (.str (S z.2) :: r)) := fun u => (upd_ne (ne_of_none (sg _ _ ez) gd)).trans (sg _ _ ez)
      refine ⟨_, _, Sq.t (ez1 _), at_int (j := 0) rfl rfl, z.2, rfl, nm _ (List.mem_map.mpr ⟨z, zm, rfl⟩), fun H2 s2 => ?_⟩
      have d2 : H2 d = _ := s2 _ _ upd_same
      have out : z.2 ∉ (zs.take i).map (·.2) := by
        intro m
        have e : (zs.map (·.2)).take (i + 1) = ((zs.take i).map (·.2)) ++ [z.2] := by rw [← List.map_take, take_succ_get gz, List.map_append]; rfl
        have nd2 : ((zs.map (·.2)).take (i + 1)).Nodup := nd.sublist (List.take_sublist _ _)
        rw [e] at nd2
        exact (List.nodup_append.mp nd2).2.2 _ m _ (List.mem_singleton.mpr rfl) rfl
      refine ⟨_, _, rfl, DGet.k (k := Sum.inr (S z.2)) d2, ?_⟩
      rw [val_none (k := fun z : Addr × Tx => z.2) (v := fun _ => .bl true) out]
      refine ⟨no_ft, fun _ => ⟨_, _, rfl, DPut.k (k := Sum.inr (S z.2)) d2 (by rw [List.length_map, List.length_take, sl_big]; omega), ?_⟩⟩
      have e := put_map (k := fun z : Addr × Tx => z.2) (v := fun _ => V.bl true) (x := z) out
      rw [e, ← take_succ_get gz]
      have far : ∀ b o, H b = some o → H2 b = some o := fun b o eb => s2 _ _ ((upd_ne (ne_of_none (sg _ _ eb) gd)).trans (sg _ _ eb))
      refine ⟨⟨_, _, rfl⟩, fun b => if b = d then none else H2 b, fun b o eb => ?_, if_pos rfl, ?_⟩
      · show (if b = d then none else H2 b) = some o
        rw [if_neg (ne_of_none eb hd)]
        exact far b o eb
      · funext b
        by_cases eb : b = d
        · subst eb; rw [upd_same, upd_same]
        · rw [upd_ne eb, upd_ne eb, if_neg eb]
    · obtain ⟨_, G, sg, gd, rfl⟩ := hW
      exact q _ fun b o eb => (upd_ne (ne_of_none (sg _ _ eb) gd)).trans (sg _ _ eb)
def sp_check_town_rows (K : PySem.W.Frag) : Sp := fun vs H Q _ => ∃ (p o : Addr) (ws : List Row) (us : List Tx), vs = [.ref p, .ref o] ∧ RowsO H p ws ∧ NmsO H o us ∧ (∀ w ∈ ws, TRow (ws.map (·.t)) us w) ∧ ws.length ≤ 1000 ∧ us.length < 64 ∧ Fines us ∧ ∀ H', Same H H' → Q .non H'
theorem sc_check_town_rows : FnScope ["towns", "things", "town_names", "row", "thing_names", "name", "after", "room", "liking"] ["towns", "things"] (defScope (topS 30)) := ⟨rfl, rfl, rfl, by decide +kernel, rfl, by decide +kernel, by decide +kernel⟩
theorem ok_check_town_rows {P : Program} {w : World} {K : PySem.W.Frag} {mg : Str → Option Value} {base : Heap} (T : Top K mg) : FnOk P w K mg base CX0 3 T.a_check_town_rows T.fd_check_town_rows ["towns", "things"] (sp_check_town_rows K) := by
  refine T.F_check_town_rows.ok (k := 2) sc_check_town_rows (fun vs H Q E h => ?_) (fun cdv A outer s0 H vs Q E hr h => ?_)
  · obtain ⟨p, o, ws, us, rfl, _⟩ := h; rfl
  · have sc := sc_check_town_rows
    refine ⟨_, (pss_cons (ps_setLc (i := 2) (own := [("row", 3)]) rfl sc.nd rfl rfl (sw_true rfl rfl rfl (by decide +kernel)) (ki_seq (K := K) rfl (xv 0)) (blkOk_by (N := ["towns", "things", "town_names", "row", "thing_names", "name", "after", "room", "liking"]) (sc := defScope (topS 30)) (by decide +kernel)) (fun _ _ _ _ _ => (pg_name (i := 3) sc.nd rfl (by first | exact Or.inl rfl | exact Or.inr rfl))) (fun _ _ _ _ _ => pts_nil) (fun _ _ _ _ _ => (pe_ix (kix (K := K) rfl) (xv 3) pe_int (fun _ _ => rfl))))
      (pss_cons (ps_setLc (i := 4) (own := [("row", 3)]) rfl sc.nd rfl rfl (sw_true rfl rfl rfl (by decide +kernel)) (ki_seq (K := K) rfl (xv 1)) (blkOk_by (N := ["towns", "things", "town_names", "row", "thing_names", "name", "after", "room", "liking"]) (sc := defScope (topS 30)) (by decide +kernel)) (fun _ _ _ _ _ => (pg_name (i := 3) sc.nd rfl (by first | exact Or.inl rfl | exact Or.inr rfl))) (fun _ _ _ _ _ => pts_nil) (fun _ _ _ _ _ => (pe_ix (kix (K := K) rfl) (xv 3) pe_int (fun _ _ => rfl))))
      (pss_one (ps_for PassesOwn.never rfl (ki_seq (K := K) rfl (xv 0)) (kg_tup (K := K) (n := 4) rfl rfl (pgs_cons (pg_name (i := 5) sc.nd rfl (by first | exact Or.inl rfl | exact Or.inr rfl)) (pgs_cons (pg_name (i := 6) sc.nd rfl (by first | exact Or.inl rfl | exact Or.inr rfl)) (pgs_cons (pg_name (i := 7) sc.nd rfl (by first | exact Or.inl rfl | exact Or.inr rfl)) (pgs_cons (pg_name (i := 8) sc.nd rfl (by first | exact Or.inl rfl | exact Or.inr rfl)) pgs_nil))))) (xss_cut (xs_if (PW.pt (xw_and (xtc xo_isnot (xv 6) pe_non (nomark _)) (pw_and1 (xtc (ko_notin (K := K) rfl) (xv 6) (xv 2) (by rfl))))) (pss_one ps_never) pss_nil)
      (pss_cons (ps_expr (pe_call (ok_check_room T) (hr.mono (by decide)) (by rfl) T.g_check_room T.F_check_room.kp T.b_check_room .nil pass0 (pa_cons (xv 5) (pa_cons (xv 7) pa_nil))))
      (pss_one (ps_expr (pe_call (ok_check_liking T) (hr.mono (by decide)) (by rfl) T.g_check_liking T.F_check_liking.kp T.b_check_liking .nil pass0 (pa_cons (xv 5) (pa_cons (xv 8) (pa_cons (xv 4) pa_nil)))))))))))), ?_⟩
    obtain ⟨p, o, ws, us, rfl, hp, ho, ok, few, fewu, fine, q⟩ := h
    have lw : (ws.map (·.t)).length ≤ 1000 := by rw [List.length_map]; exact few
    dsimp only [tSeq, tAsg, gName, L2.start]
    refine tLc_names ?_ (rows_nms hp) lw ?_ ?_ ?_ <;> try (first | exact fun R h => h | exact fun _ => rfl)
    intro D hD
    have sD := same_new (o := .lst (sv (ws.map (·.t)))) hD
    have lu : us.length ≤ 1000 := by omega
    refine tLc_names ?_ (nms_same ho sD) lu ?_ ?_ ?_ <;> try (first | exact fun R h => h | exact fun _ => rfl)
    intro D2 hD2
    have sD2 := same_new (o := .lst (sv us)) hD2
    have s2 := sD.trans sD2
    obtain ⟨zr, er, hr2, hzr⟩ := rows_same hp s2
    refine for_seq (xs := zr.map fun z => V.ref z.1) (p := p) (fun i σ H1 => (∃ y1 y2 y3 y4 y5, σ = [some (.ref p), some (.ref o), some (.ref D), y1, some (.ref D2), y2, y3, y4, y5]) ∧ Same (upd (upd H D (.lst (sv (ws.map (·.t))))) D2 (.lst (sv us))) H1) hr2 ⟨⟨none, none, none, none, none, rfl⟩, Same.refl _⟩ (fun i σ H1 hW => ?_) (fun i x σ H1 hi hW => ?_) (fun σ H1 hW => ?_)
    · rcases hr2 with e | e | ⟨o, e⟩ <;> rw [hW.2 _ _ e, e]
    · obtain ⟨⟨y1, y2, y3, y4, y5, rfl⟩, s3⟩ := hW
      obtain ⟨z, gz, rfl⟩ := objs_get hi
      have zm := List.mem_of_getElem? gz
      obtain ⟨l, ez2, el⟩ := (hzr z zm).same s3
      have w := ok z.2 (by rw [← er]; exact List.mem_map.mpr ⟨z, zm, rfl⟩)
      have d1 : H1 D = some (.lst (sv (ws.map (·.t)))) := s3 _ _ (sD2 _ _ upd_same)
      have d2 : H1 D2 = some (.lst (sv us)) := s3 _ _ upd_same
      refine ⟨z.1, _, rfl, SqT.of ez2, rfl, _, _, rfl, _, _, rfl, _, _, rfl, _, _, rfl, rfl, ?_⟩
      have row : Q .non H → Q .non H := id
      refine ⟨fun σ' H' => σ' = [some (.ref p), some (.ref o), some (.ref D), y1, some (.ref D2), some (.str (S z.2.t)), some (ov z.2.a), some (.int (z.2.r : Nat)), some (.ref l)] ∧ H' = H1, ?_, ?_⟩
      · cases ea : z.2.a with
        | none => exact ⟨fun c => (by cases c), fun _ => ⟨no_ft, fun _ => ⟨rfl, rfl⟩⟩⟩
        | some t =>
          refine ⟨fun _ => ⟨_, Sq.l d1, rfl, sv_flat _, fun c => ?_, fun _ => ⟨rfl, rfl⟩⟩, fun _ => ⟨no_ft, fun _ => ⟨rfl, rfl⟩⟩⟩
          have c' : (!inV (.str (S t)) (sv (ws.map (·.t)))) = true := c
          rw [inV_sv] at c'
          exact (not_not (w.af t ea) c').elim
      rintro σ' H' ⟨rfl, rfl⟩
      refine ⟨_, _, rfl, w.rm, _, l, D2, z.2.l, us, rfl, el, .inl d2, w.lk, fewu, fine, fun H2 s4 => ?_⟩
      exact ⟨⟨_, _, _, _, _, rfl⟩, s3.trans s4⟩
    · exact q _ (s2.trans hW.2)
def sp__law_yes (K : PySem.W.Frag) : Sp := fun vs H Q _ => ∃ (s cl : Addr) (n : Nat) (m : Int), vs = [.ref s, .int m] ∧ Sto s cl n H ∧ n < 1000000000000 ∧ m < 536870912 ∧
  ∀ (b : Bool) H', Keep s H H' → Sto s cl (n + 1) H' → Q (.bl b) H'
theorem sc__law_yes : FnScope ["store", "many"] ["store", "many"] (defScope (topS 40)) := ⟨rfl, rfl, rfl, by decide +kernel, rfl, by decide +kernel, by decide +kernel⟩
theorem ok__law_yes {P : Program} {w : World} {K : PySem.W.Frag} {mg : Str → Option Value} {base : Heap} (T : Top K mg) : FnOk P w K mg base CX0 3 T.a__law_yes T.fd__law_yes ["store", "many"] (sp__law_yes K) := by
  refine T.F__law_yes.ok (k := 2) sc__law_yes (fun vs H Q E h => ?_) (fun cdv A outer s0 H vs Q E hr h => ?_)
  · obtain ⟨s, cl, n, m, rfl, _⟩ := h; rfl
  · have sc := sc__law_yes
    refine ⟨_, (pss_one (ps_ret (pe_cmpR (ko_eq (K := K) rfl hr.units) (pe_call (ok__law_take T) (hr.mono (by decide)) (by rfl) T.g__law_take T.F__law_take.kp T.b__law_take .nil pass0 (pa_cons (xv 0) (pa_cons (xv 1) pa_nil))) pe_int (nomark _)))), ?_⟩
    obtain ⟨s, cl, n, m, rfl, S, hn, hm, q⟩ := h
    refine ⟨s, cl, n, m, rfl, S, hn, hm, fun r H1 _ k S1 => ?_⟩
    exact q _ _ k S1
def sp__law_pick (K : PySem.W.Frag) : Sp := fun vs H Q _ => ∃ (s cl : Addr) (n : Nat), Sto s cl n H ∧ n < 1000000000000 ∧
  ((∃ l : List Nat, vs = [.ref s, .str (S l)] ∧ l ≠ [] ∧ l.length ≤ 1000 ∧ ∀ c H', c ∈ l → Keep s H H' → Sto s cl (n + 1) H' → Q (.str (S [c])) H') ∨
   (∃ p xs, vs = [.ref s, .ref p] ∧ H p = some (.lst xs) ∧ p ≠ s ∧ xs ≠ [] ∧ xs.length ≤ 1000 ∧ ∀ v H', v ∈ xs → Keep s H H' → Sto s cl (n + 1) H' → Q v H'))
theorem sc__law_pick : FnScope ["store", "items"] ["store", "items"] (defScope (topS 41)) := ⟨rfl, rfl, rfl, by decide +kernel, rfl, by decide +kernel, by decide +kernel⟩
theorem ok__law_pick {P : Program} {w : World} {K : PySem.W.Frag} {mg : Str → Option Value} {base : Heap} (T : Top K mg) : FnOk P w K mg base CX0 3 T.a__law_pick T.fd__law_pick ["store", "items"] (sp__law_pick K) := by
  refine T.F__law_pick.ok (k := 2) sc__law_pick (fun vs H Q E h => ?_) (fun cdv A outer s0 H vs Q E hr h => ?_)
  · obtain ⟨s, cl, n, S, hn, ⟨l, rfl, _⟩ | ⟨p, xs, rfl, _⟩⟩ := h <;> rfl
  · have sc := sc__law_pick
    refine ⟨_, (pss_one (ps_ret (pe_ix (kix (K := K) rfl) (xv 1) (pe_call (ok__law_take T) (hr.mono (by decide)) (by rfl) T.g__law_take T.F__law_take.kp T.b__law_take .nil pass0 (pa_cons (xv 0) (pa_cons (pe_callB (kc_len (K := K) rfl) (by rfl) T.n_len (by decide +kernel) (pa_cons (xv 1) pa_nil)) pa_nil))) (fun _ _ => rfl)))), ?_⟩
    obtain ⟨s, cl, n, St, hn, ⟨l, rfl, h0, hl, q⟩ | ⟨p, xs, rfl, hp, ps, h0, hl, q⟩⟩ := h
    · have hz : (S l).length ≤ sizeLine := by rw [S_len, sl_big]; omega
      have h1 := List.length_pos_iff.mpr h0
      refine ⟨hz, s, cl, n, _, rfl, St, hn, by rw [S_len]; omega, fun r H1 hr k S1 => ?_⟩
      rw [S_len] at hr
      have hr' : r < l.length := by omega
      refine ⟨hz, l[r], atI_nat (List.getElem?_eq_getElem hr'), ?_⟩
      exact q _ _ (List.getElem_mem hr') k S1
    · have h1 := List.length_pos_iff.mpr h0
      refine ⟨xs, Sq.l hp, s, cl, n, _, rfl, St, hn, by omega, fun r H1 hr k S1 => ?_⟩
      have hr' : r < xs.length := by omega
      refine ⟨xs, xs[r], Sq.l (k _ _ ps hp), atI_nat (List.getElem?_eq_getElem hr'), ?_⟩
      exact q _ _ (List.getElem_mem hr') k S1
def sp__law_order (K : PySem.W.Frag) : Sp := fun vs H Q _ => ∃ (s cl : Addr) (n : Nat) (p : Addr) (xs : List V), vs = [.ref s, .ref p] ∧ Sto s cl n H ∧ n + 1002 < 1000000000000 ∧ H p = some (.lst xs) ∧ p ≠ s ∧ xs.length ≤ 1000 ∧
  ∀ (r : Addr) (ys : List V) H', ys.Perm xs → H r = none → H' r = some (.lst ys) → Keep s H H' → Sto s cl (n + 1002) H' → Q (.ref r) H'
theorem sc__law_order : FnScope ["store", "items", "style", "rest", "order", "k"] ["store", "items"] (defScope (topS 50)) := ⟨rfl, rfl, rfl, by decide +kernel, rfl, by decide +kernel, by decide +kernel⟩
theorem ok__law_order {P : Program} {w : World} {K : PySem.W.Frag} {mg : Str → Option Value} {base : Heap} (T : Top K mg) : FnOk P w K mg base CX0 3 T.a__law_order T.fd__law_order ["store", "items"] (sp__law_order K) := by
  refine T.F__law_order.ok (k := 2) sc__law_order (fun vs H Q E h => ?_) (fun cdv A outer s0 H vs Q E hr h => ?_)
  · obtain ⟨s, cl, n, p, xs, rfl, _⟩ := h; rfl
  · have sc := sc__law_order
    refine ⟨_, (pss_cons (ps_set (i := 2) sc.nd rfl (by first | exact Or.inl rfl | exact Or.inr rfl) (pe_call (ok__law_take T) (hr.mono (by decide)) (by rfl) T.g__law_take T.F__law_take.kp T.b__law_take .nil pass0 (pa_cons (xv 0) (pa_cons pe_int pa_nil))))
      (pss_cons (xs_if (xtc (ko_eq (K := K) rfl hr.units) (xv 2) pe_int (nomark _)) (pss_one (ps_ret (pe_callTy (kc_list (K := K) rfl rfl) (by rfl) T.n_list (by decide +kernel) (pa_cons (xv 1) pa_nil)))) pss_nil)
      (pss_cons (xs_if (xtc (ko_eq (K := K) rfl hr.units) (xv 2) pe_int (nomark _)) (pss_one (ps_ret (ke_rev (K := K) rfl (pe_callTy (kc_list (K := K) rfl rfl) (by rfl) T.n_list (by decide +kernel) (pa_cons (xv 1) pa_nil))))) pss_nil)
      (pss_cons (ps_set (i := 3) sc.nd rfl (by first | exact Or.inl rfl | exact Or.inr rfl) (pe_callTy (kc_list (K := K) rfl rfl) (by rfl) T.n_list (by decide +kernel) (pa_cons (xv 1) pa_nil)))
      (pss_cons (ps_set (i := 4) sc.nd rfl (by first | exact Or.inl rfl | exact Or.inr rfl) (pe_lst pa_nil))
      (pss_cons (ps_for PassesOwn.never rfl (pi_range1 (by rfl) T.n_range (pa_cons (pe_callB (kc_len (K := K) rfl) (by rfl) T.n_len (by decide +kernel) (pa_cons (xv 1) pa_nil)) pa_nil)) (pg_name (i := 5) sc.nd rfl (by first | exact Or.inl rfl | exact Or.inr rfl)) (pss_one (ps_expr (ke_bm (K := K) rfl PySem.F.plainAttrs_list PySem.F.slot_list_append PySem.F.type_list_append xm_append (xv 4) (pa_cons (ke_bm (K := K) rfl PySem.F.plainAttrs_list PySem.F.slot_list_pop PySem.F.type_list_pop xm_pop (xv 3) (pa_cons (pe_call (ok__law_take T) (hr.mono (by decide)) (by rfl) T.g__law_take T.F__law_take.kp T.b__law_take .nil pass0 (pa_cons (xv 0) (pa_cons (pe_callB (kc_len (K := K) rfl) (by rfl) T.n_len (by decide +kernel) (pa_cons (xv 3) pa_nil)) pa_nil))) pa_nil)) pa_nil)))))
      (pss_one (ps_ret (xv 4))))))))), ?_⟩
    obtain ⟨s, cl, n, p, xs, rfl, St, hn, hp, ps, hl, q⟩ := h
    refine ⟨s, cl, n, _, rfl, St, by omega, by decide, fun sty H1 _ k1 S1 => ?_⟩
    have hp1 := k1 _ _ ps hp
    refine ⟨fun c => ?_, fun c1 => ⟨fun c => ?_, fun c2 => ?_⟩⟩
    · refine ⟨xs, Sq.l hp1, fun r hr => ?_⟩
      exact q r xs _ (List.Perm.refl _) (k1.free (S1.ne hr) hr) upd_same (k1.trans (Keep.new hr)) ((S1.new hr).mono (by omega))
    · refine ⟨xs, Sq.l hp1, fun r hr => ⟨xs, SqL.of upd_same, fun r2 hr2 => ?_⟩⟩
      have S2 := S1.new (o := .lst xs) hr
      exact q r2 xs.reverse _ (List.reverse_perm xs) (k1.free (S2.ne hr2) ((same_new hr).free hr2)) upd_same (k1.trans ((Keep.new hr).trans (Keep.new hr2))) ((S2.new hr2).mono (by omega))
    refine ⟨xs, Sq.l hp1, fun ra hra => ⟨sl_of (n := 0) rfl, fun oa hoa => ?_⟩⟩
    have S2 : Sto s cl (n + 1) (upd (upd H1 ra (.lst xs)) oa (.lst [])) := (S1.new hra).new hoa
    have k2 : Keep s H (upd (upd H1 ra (.lst xs)) oa (.lst [])) := k1.trans ((Keep.new hra).trans (Keep.new hoa))
    have ras := S1.ne hra
    have rac := S1.nec hra
    have oas := (S1.new (o := .lst xs) hra).ne hoa
    have oac := (S1.new (o := .lst xs) hra).nec hoa
    have rao : ra ≠ oa := ne_of_none upd_same hoa
    have hoa0 : H oa = none := k1.free oas ((same_new hra).free hoa)
    have hra0 : H ra = none := k1.free ras hra
    have kput : ∀ {H' : Hp} {o : HO}, Keep s H H' → Keep s H (upd H' oa o) := fun {H' o} k b u ne e => (upd_ne (ne_of_none e hoa0)).trans (k b u ne e)
    have kputr : ∀ {H' : Hp} {o : HO}, Keep s H H' → Keep s H (upd H' ra o) := fun {H' o} k b u ne e => (upd_ne (ne_of_none e hra0)).trans (k b u ne e)
    refine ⟨_, Sq.l (k2 _ _ ps hp), ?_⟩
    refine ⟨_, rfl, by omega, by omega, ?_⟩
    rw [Int.toNat_natCast]
    refine for_range (lo := 0) (n := xs.length) (fun i σ H4 => ∃ (y : Option V) (rs os : List V), σ = [some (.ref s), some (.ref p), some (.int (sty : Nat)), some (.ref ra), some (.ref oa), y] ∧ rs.length = xs.length - i ∧ os.length = i ∧ (os ++ rs).Perm xs ∧
      H4 ra = some (.lst rs) ∧ H4 oa = some (.lst os) ∧ Keep s H H4 ∧ Sto s cl (n + 1 + i) H4) ⟨none, xs, [], rfl, rfl, rfl, List.Perm.refl _, (upd_ne rao).trans upd_same, upd_same, k2, S2⟩ (fun i σ H4 hi hW => ?_) (fun σ H4 hW => ?_)
    · obtain ⟨y, rs, os, rfl, l1, l2, pm, hra4, hoa4, k4, S4⟩ := hW
      refine ⟨tyL hoa4, tyL hra4, _, Sq.l hra4, s, cl, n + 1 + i, _, rfl, S4, by omega, by omega, fun r H5 hr k5 S5 => ?_⟩
      have hr' : r < rs.length := by omega
      refine ⟨rs, r, rs[r], k5 _ _ ras hra4, rfl, by omega, List.getElem?_eq_getElem hr', ?_⟩
      refine ⟨os, (upd_ne (Ne.symm rao)).trans (k5 _ _ oas hoa4), by rw [sl_big]; omega, ?_⟩
      refine ⟨_, rs.eraseIdx r, os ++ [rs[r]], rfl, by rw [List.length_eraseIdx_of_lt hr']; omega, by rw [List.length_append, l2]; rfl, ?_, (upd_ne rao).trans upd_same, upd_same, kput (kputr (k4.trans k5)), ((S5.put ras rac).put oas oac)⟩
      refine List.Perm.trans ?_ pm
      rw [List.append_assoc]
      exact List.Perm.append_left os (perm_pick (List.getElem?_eq_getElem hr'))
    · obtain ⟨y, rs, os, rfl, l1, l2, pm, hra4, hoa4, k4, S4⟩ := hW
      have : rs = [] := List.length_eq_zero_iff.mp (by omega)
      subst this
      rw [List.append_nil] at pm
      exact q oa os H4 pm hoa0 hoa4 k4 (S4.mono (by omega))
def sp__law_room (K : PySem.W.Frag) : Sp := fun vs H Q _ => ∃ (s cl : Addr) (n m : Nat), vs = [.ref s, .int (m : Nat)] ∧ Sto s cl n H ∧ n + 2 < 1000000000000 ∧ m ≤ 10 ∧
  ∀ (r : Nat) H', r ≤ 99 → Keep s H H' → Sto s cl (n + 2) H' → Q (.int (r : Nat)) H'
theorem sc__law_room : FnScope ["store", "many", "style"] ["store", "many"] (defScope (topS 51)) := ⟨rfl, rfl, rfl, by decide +kernel, rfl, by decide +kernel, by decide +kernel⟩
theorem ok__law_room {P : Program} {w : World} {K : PySem.W.Frag} {mg : Str → Option Value} {base : Heap} (T : Top K mg) : FnOk P w K mg base CX0 3 T.a__law_room T.fd__law_room ["store", "many"] (sp__law_room K) := by
  refine T.F__law_room.ok (k := 2) sc__law_room (fun vs H Q E h => ?_) (fun cdv A outer s0 H vs Q E hr h => ?_)
  · obtain ⟨s, cl, n, m, rfl, _⟩ := h; rfl
  · have sc := sc__law_room
    refine ⟨_, (pss_cons (ps_set (i := 2) sc.nd rfl (by first | exact Or.inl rfl | exact Or.inr rfl) (pe_call (ok__law_take T) (hr.mono (by decide)) (by rfl) T.g__law_take T.F__law_take.kp T.b__law_take .nil pass0 (pa_cons (xv 0) (pa_cons pe_int pa_nil))))
      (pss_cons (xs_if (xtc xo_lt (xv 2) pe_int (nomark _)) (pss_one (ps_ret (pe_ix (kix (K := K) rfl) (pe_lst (pa_cons pe_int (pa_cons pe_int (pa_cons pe_int (pa_cons pe_int (pa_cons pe_int (pa_cons pe_int pa_nil))))))) (xv 2) (fun _ _ => rfl)))) pss_nil)
      (pss_cons (xs_if (xtc xo_lt (xv 2) pe_int (nomark _)) (pss_one (ps_ret (pe_call (ok__law_take T) (hr.mono (by decide)) (by rfl) T.g__law_take T.F__law_take.kp T.b__law_take .nil pass0 (pa_cons (xv 0) (pa_cons (pe_op (ko_add (K := K) rfl) (xv 1) pe_int) pa_nil))))) pss_nil)
      (pss_cons (xs_if (xtc (ko_eq (K := K) rfl hr.units) (xv 2) pe_int (nomark _)) (pss_one (ps_ret pe_int)) pss_nil)
      (pss_one (ps_ret (pe_call (ok__law_take T) (hr.mono (by decide)) (by rfl) T.g__law_take T.F__law_take.kp T.b__law_take .nil pass0 (pa_cons (xv 0) (pa_cons pe_int pa_nil))))))))), ?_⟩
    obtain ⟨s, cl, n, m, rfl, St, hn, hm, q⟩ := h
    refine ⟨s, cl, n, _, rfl, St, by omega, by decide, fun sty H1 hs k1 S1 => ⟨fun c => ?_, fun c1 => ⟨fun c => ?_, fun c2 => ⟨fun c => ?_, fun c3 => ?_⟩⟩⟩⟩
    · have c6 : (sty : Int) < 6 := of_decide_eq_true c
      refine ⟨sl_of (n := 6) rfl, fun p hp => ?_⟩
      have S2 := S1.new (o := .lst [.int 0, .int 1, .int 1, .int 1, .int 2, .int 2]) hp
      have k2 := k1.trans (Keep.new (o := .lst [.int 0, .int 1, .int 1, .int 1, .int 2, .int 2]) hp)
      have go : ∀ (j : Nat) (v : Nat), sty = j → v ≤ 99 → ([.int 0, .int 1, .int 1, .int 1, .int 2, .int 2] : List V)[j]? = some (.int (v : Nat)) → ∃ xs w, Sq K (upd H1 p (.lst [.int 0, .int 1, .int 1, .int 1, .int 2, .int 2])) p xs ∧ atI xs ((sty : Nat) : Int) = some w ∧ Q w (upd H1 p (.lst [.int 0, .int 1, .int 1, .int 1, .int 2, .int 2])) := fun j v e h g =>
        ⟨_, _, Sq.l upd_same, by rw [e]; exact atI_nat g, q v _ h k2 (S2.mono (by omega))⟩
      have : sty = 0 ∨ sty = 1 ∨ sty = 2 ∨ sty = 3 ∨ sty = 4 ∨ sty = 5 := by omega
      rcases this with e | e | e | e | e | e
      · exact go 0 0 e (by omega) rfl
      · exact go 1 1 e (by omega) rfl
      · exact go 2 1 e (by omega) rfl
      · exact go 3 1 e (by omega) rfl
      · exact go 4 2 e (by omega) rfl
      · exact go 5 2 e (by omega) rfl
    · exact ⟨s, cl, n + 1, _, rfl, S1, by omega, by omega, fun r H2 hr k2 S2 => q r H2 (by omega) (k1.trans k2) S2⟩
    · exact q 99 H1 (by omega) k1 (S1.mono (by omega))
    · exact ⟨s, cl, n + 1, _, rfl, S1, by omega, by decide, fun r H2 hr k2 S2 => q r H2 (by omega) (k1.trans k2) S2⟩
def sp__law_tree (K : PySem.W.Frag) : Sp := fun vs H Q _ => ∃ (s cl : Addr) (n m : Nat), vs = [.ref s, .int (m : Nat), .bl false] ∧ Sto s cl n H ∧ n + 10 < 1000000000000 ∧ 1 ≤ m ∧ m ≤ 8 ∧
  ∀ (r : Addr) (bs : List (Option Nat)) H', bs.length = m → (∀ k j : Nat, bs[k]? = some (some j) → j < k) → H r = none → H' r = some (.lst (bs.map oi)) → Keep s H H' → Sto s cl (n + 10) H' → Q (.ref r) H'
theorem sc__law_tree : FnScope ["store", "many", "lone", "style", "behind", "k", "place"] ["store", "many", "lone"] (defScope (topS 52)) := ⟨rfl, rfl, rfl, by decide +kernel, rfl, by decide +kernel, by decide +kernel⟩
theorem ok__law_tree {P : Program} {w : World} {K : PySem.W.Frag} {mg : Str → Option Value} {base : Heap} (T : Top K mg) : FnOk P w K mg base CX0 3 T.a__law_tree T.fd__law_tree ["store", "many", "lone"] (sp__law_tree K) := by
  refine T.F__law_tree.ok (k := 2) sc__law_tree (fun vs H Q E h => ?_) (fun cdv A outer s0 H vs Q E hr h => ?_)
  · obtain ⟨s, cl, n, m, rfl, _⟩ := h; rfl
  · have sc := sc__law_tree
    refine ⟨_, (pss_cons (ps_set (i := 3) sc.nd rfl (by first | exact Or.inl rfl | exact Or.inr rfl) (pe_call (ok__law_take T) (hr.mono (by decide)) (by rfl) T.g__law_take T.F__law_take.kp T.b__law_take .nil pass0 (pa_cons (xv 0) (pa_cons pe_int pa_nil))))
      (pss_cons (ps_set (i := 4) sc.nd rfl (by first | exact Or.inl rfl | exact Or.inr rfl) (pe_lst (pa_cons pe_non pa_nil)))
      (pss_cons (ps_for PassesOwn.never rfl (pi_range2 (by rfl) T.n_range (pa_cons pe_int (pa_cons (xv 1) pa_nil))) (pg_name (i := 5) sc.nd rfl (by first | exact Or.inl rfl | exact Or.inr rfl)) (pss_one (xs_if (xtc xo_lt (xv 3) pe_int (nomark _)) (pss_one (ps_expr (ke_bm (K := K) rfl PySem.F.plainAttrs_list PySem.F.slot_list_append PySem.F.type_list_append xm_append (xv 4) (pa_cons (pe_op xo_sub (xv 5) pe_int) pa_nil)))) (pss_one (xs_if (xtc (ko_eq (K := K) rfl hr.units) (xv 3) pe_int (nomark _)) (pss_one (ps_expr (ke_bm (K := K) rfl PySem.F.plainAttrs_list PySem.F.slot_list_append PySem.F.type_list_append xm_append (xv 4) (pa_cons pe_int pa_nil)))) (pss_one (xs_if (xt (xv 2)) (pss_one (ps_expr (ke_bm (K := K) rfl PySem.F.plainAttrs_list PySem.F.slot_list_append PySem.F.type_list_append xm_append (xv 4) (pa_cons (pe_call (ok__law_take T) (hr.mono (by decide)) (by rfl) T.g__law_take T.F__law_take.kp T.b__law_take .nil pass0 (pa_cons (xv 0) (pa_cons (xv 5) pa_nil))) pa_nil)))) (pss_cons (ps_set (i := 6) sc.nd rfl (by first | exact Or.inl rfl | exact Or.inr rfl) (pe_call (ok__law_take T) (hr.mono (by decide)) (by rfl) T.g__law_take T.F__law_take.kp T.b__law_take .nil pass0 (pa_cons (xv 0) (pa_cons (pe_op (ko_add (K := K) rfl) (xv 5) pe_int) pa_nil))))
      (pss_one (ps_expr (ke_bm (K := K) rfl PySem.F.plainAttrs_list PySem.F.slot_list_append PySem.F.type_list_append xm_append (xv 4) (pa_cons (xe_if (xtc (ko_eq (K := K) rfl hr.units) (xv 6) pe_int (nomark _)) pe_non (pe_op xo_sub (xv 6) pe_int)) pa_nil))))))))))))
      (pss_one (ps_ret (xv 4)))))), ?_⟩
    obtain ⟨s, cl, n, m, rfl, St, hn, m1, m8, q⟩ := h
    refine ⟨s, cl, n, _, rfl, St, by omega, by decide, fun sty H1 hs k1 S1 => ?_⟩
    refine ⟨sl_of (n := 1) rfl, fun b hb => ?_⟩
    have hb0 : H b = none := k1.free (S1.ne hb) hb
    have bs_ := S1.ne hb
    have bc_ := S1.nec hb
    have kput : ∀ {H' : Hp} {o : HO}, Keep s H H' → Keep s H (upd H' b o) := fun {H' o} k c u ne e => (upd_ne (ne_of_none e hb0)).trans (k c u ne e)
    refine ⟨1, (m : Nat), rfl, ⟨by decide, by decide, by omega, by omega⟩, ?_⟩
    have em : (((m : Nat) : Int) - 1).toNat = m - 1 := by omega
    rw [em]
    refine for_range (lo := 1) (n := m - 1) (fun i σ G => ∃ (y5 y6 : Option V) (bs : List (Option Nat)), σ = [some (.ref s), some (.int (m : Nat)), some (.bl false), some (.int (sty : Nat)), some (.ref b), y5, y6] ∧ bs.length = i + 1 ∧ (∀ k j : Nat, bs[k]? = some (some j) → j < k) ∧ G b = some (.lst (bs.map oi)) ∧ Keep s H G ∧ Sto s cl (n + 1 + i) G)
      ⟨_, _, [none], rfl, rfl, fun k j h => ?_, upd_same, k1.trans (Keep.new hb), S1.new hb⟩ (fun i σ G hi e => ?_) (fun σ G e => ?_)
    · cases k with
      | zero => cases h
      | succ k => simp at h
    · obtain ⟨y5, y6, bs, rfl, lb, hb2, eb, kG, SG⟩ := e
      have step : ∀ (G' : Hp) (o : Option Nat) (y : Option V), (∀ j, o = some j → j < i + 1) → G' b = some (.lst (bs.map oi)) → Keep s H G' → Sto s cl (n + 1 + (i + 1)) G' →
          ∃ (y5 y6 : Option V) (bs2 : List (Option Nat)), [some (V.ref s), some (.int (m : Nat)), some (.bl false), some (.int (sty : Nat)), some (.ref b), some (.int (1 + (i : Nat))), y] = [some (.ref s), some (.int (m : Nat)), some (.bl false), some (.int (sty : Nat)), some (.ref b), y5, y6] ∧ bs2.length = i + 1 + 1 ∧ (∀ k j : Nat, bs2[k]? = some (some j) → j < k) ∧ (upd G' b (.lst (bs.map oi ++ [oi o]))) b = some (.lst (bs2.map oi)) ∧ Keep s H (upd G' b (.lst (bs.map oi ++ [oi o]))) ∧ Sto s cl (n + 1 + (i + 1)) (upd G' b (.lst (bs.map oi ++ [oi o]))) := fun G' o y ho e k S => by
        refine ⟨_, _, bs ++ [o], rfl, by rw [List.length_append, lb]; rfl, fun k j h => ?_, by rw [upd_same, List.map_append]; rfl, kput k, S.put bs_ bc_⟩
        by_cases lk : k < bs.length
        · rw [List.getElem?_append_left lk] at h
          exact hb2 k j h
        · have l2 := (List.getElem?_eq_some_iff.mp h).1
          rw [List.length_append] at l2
          have : k = bs.length := by have : [o].length = 1 := rfl; omega
          subst this
          rw [List.getElem?_append_right (Nat.le_refl _), Nat.sub_self] at h
          have := ho j (Option.some.inj h)
          omega
      have sz : (bs.map oi).length < sizeLine := by rw [List.length_map, sl_big]; omega
      refine ⟨fun c => ?_, fun c1 => ⟨fun c => ?_, fun c2 => ⟨no_ft, fun _ => ?_⟩⟩⟩
      · refine ⟨tyL eb, _, eb, sz, ?_⟩
        have e1 : (1 : Int) + (i : Nat) - 1 = (i : Nat) := by omega
        rw [e1]
        exact step G (some i) _ (fun j e => by cases e; exact Nat.lt_succ_self _) eb kG (SG.mono (by omega))
      · refine ⟨tyL eb, _, eb, sz, ?_⟩
        exact step G (some 0) _ (fun j e => by cases e; exact Nat.succ_pos _) eb kG (SG.mono (by omega))
      · refine ⟨s, cl, _, _, rfl, SG, by omega, by omega, fun r G2 hr k2 S2 => ?_⟩
        have eb2 := k2 _ _ bs_ eb
        refine ⟨tyL eb2, ⟨fun c => ?_, fun c => ?_⟩⟩
        · exact ⟨_, eb2, sz, step G2 none _ (fun j e => by cases e) eb2 (kG.trans k2) (S2.mono (by omega))⟩
        · have r0 : ¬ ((r : Nat) : Int) = 0 := of_decide_eq_false c
          refine ⟨_, eb2, sz, ?_⟩
          have e1 : ((r : Nat) : Int) - 1 = ((r - 1 : Nat) : Int) := by omega
          rw [e1]
          exact step G2 (some (r - 1)) _ (fun j e => by cases e; omega) eb2 (kG.trans k2) (S2.mono (by omega))
    · obtain ⟨y5, y6, bs, rfl, lb, hb2, eb, kG, SG⟩ := e
      exact q b bs G (by omega) hb2 hb0 eb kG (SG.mono (by omega))
def sp__law_kept (K : PySem.W.Frag) : Sp := fun vs H Q _ => ∃ (r a b : Addr) (R : Rv), vs = [.ref r] ∧ H r = some (.tup [.ref a, .ref b]) ∧ ObjL RowL H a R.T ∧ ObjL ThO H b R.U ∧ R.tn.Nodup ∧ R.un.Nodup ∧ R.T.length ≤ 60 ∧ R.U.length ≤ 60 ∧ TabO (tbA K "_law_kept") qL H ∧
  ∀ r' a' b' H', LamX.ExtN H H' → TabO (tbA K "_law_kept") qL H' → NL H a' → NL H b' → H' r' = some (.tup [.ref a', .ref b']) → ObjL (RowF H) H' a' (rowsT R) → ObjL ThO H' b' (rowsU R) → Q (.ref r') H'
theorem sc__law_kept : FnScope ["rows", "first", "row"] ["rows"] (defScope (topS 59)) := ⟨rfl, rfl, rfl, by decide +kernel, rfl, by decide +kernel, by decide +kernel⟩
theorem ok__law_kept {P : Program} {w : World} {K : PySem.W.Frag} {mg : Str → Option Value} {base : Heap} (T : Top K mg) (TB : LamX.TabB base mg (cdA K "_law_kept") (tbA K "_law_kept")) : FnOk P w K mg base CX0 3 T.a__law_kept T.fd__law_kept ["rows"] (sp__law_kept K) := by
  refine fun_okC T.F__law_kept (k := 2) sc__law_kept (fun vs H Q E h => ?_) (fun cdv A outer s0 H vs Q E hc hr h => ?_)
  · obtain ⟨r, a, b, R, rfl, _⟩ := h; rfl
  · have sc := sc__law_kept
    refine ⟨_, (pss_cons (ps_set (i := 1) sc.nd rfl (by first | exact Or.inl rfl | exact Or.inr rfl) (pe_lst pa_nil))
      (pss_cons (ps_for PassesOwn.never rfl (ki_seq (K := K) rfl (pe_sortLam (K := K) (n := 0) (c := cdA K "_law_kept") (P := tbA K "_law_kept") rfl (by rfl) T.n_sorted (pa_cons (pe_callTy (kc_list (K := K) rfl rfl) (by rfl) T.n_list (by decide +kernel) (pa_cons (pe_ix (kix (K := K) rfl) (xv 0) pe_int (fun _ _ => rfl)) pa_nil)) pa_nil) TB (hc.symm.trans T.tc__law_kept) rfl (hr.mono (by decide)) rfl rfl rfl rfl (by decide +kernel) (by decide +kernel) rfl (fun _ _ _ _ => rfl))) (pg_name (i := 2) sc.nd rfl (by first | exact Or.inl rfl | exact Or.inr rfl)) (pss_one (ps_expr (ke_bm (K := K) rfl PySem.F.plainAttrs_list PySem.F.slot_list_append PySem.F.type_list_append xm_append (xv 1) (pa_cons (pe_tup (pa_cons (pe_ix (kix (K := K) rfl) (xv 2) pe_int (fun _ _ => rfl)) (pa_cons (pe_ix (kix (K := K) rfl) (xv 2) pe_int (fun _ _ => rfl)) (pa_cons (pe_ix (kix (K := K) rfl) (xv 2) pe_int (fun _ _ => rfl)) (pa_cons (pe_callTy (kc_list (K := K) rfl rfl) (by rfl) T.n_list (by decide +kernel) (pa_cons (pe_ix (kix (K := K) rfl) (xv 2) pe_int (fun _ _ => rfl)) pa_nil)) pa_nil))))) pa_nil)))))
      (pss_one (ps_ret (pe_tup (pa_cons (xv 1) (pa_cons (pe_callB (kc_sortR (K := K) rfl) (by rfl) T.n_sorted (by decide +kernel) (pa_cons (pe_lc (own := [("row", 2)]) rfl sc.nd (ki_seq (K := K) rfl (pe_ix (kix (K := K) rfl) (xv 0) pe_int (fun _ _ => rfl))) (blkOk_by (N := ["rows", "first", "row"]) (sc := defScope (topS 59)) (by decide +kernel)) (fun _ _ _ _ _ => (pg_name (i := 2) sc.nd rfl (by first | exact Or.inl rfl | exact Or.inr rfl))) (fun _ _ _ _ _ => pts_nil) (fun _ _ _ _ _ => (pe_tup (pa_cons (pe_ix (kix (K := K) rfl) (xv 2) pe_int (fun _ _ => rfl)) (pa_cons (pe_ix (kix (K := K) rfl) (xv 2) pe_int (fun _ _ => rfl)) pa_nil))))) pa_nil)) pa_nil))))))), ?_⟩
    obtain ⟨r, a, b, R, rfl, hr', ha, hb, nd, und, lT, lU, tb, q⟩ := h
    refine ⟨sl_of (n := 0) rfl, fun f0 hf0 => ?_⟩
    have c0 := same_new (o := .lst []) hf0
    have ef0 : upd H f0 (.lst []) f0 = some (.lst []) := upd_same
    generalize upd H f0 (.lst []) = H0 at c0 ef0
    obtain ⟨zs, e1, e2, e3⟩ := id ha
    refine .inl ⟨_, _, Sq.t (c0 _ _ hr'), at_int (j := 0) rfl rfl, _, Sq.l (c0 _ _ e2), fun l hl => ?_⟩
    have c1 := same_new (o := .lst (zs.map fun z => V.ref z.1)) hl
    have el : upd H0 l (.lst (zs.map fun z => V.ref z.1)) l = some (.lst (zs.map fun z => V.ref z.1)) := upd_same
    have nlf : f0 ≠ l := ne_of_none ef0 hl
    generalize upd H0 l (.lst (zs.map fun z => V.ref z.1)) = H1 at c1 el
    have c01 := c0.trans c1
    have ol : ObjL (fun G p w => ∃ q', G p = some (.tup [.str (S w.t), ov w.a, .int (w.r : Nat), .ref q']) ∧ G q' = some (.lst (sv w.l)) ∧ q' ≠ f0) H1 l R.T := ⟨zs, e1, el, fun z zm => let ⟨q', h1, h2⟩ := e3 z zm; ⟨q', c01 _ _ h1, c01 _ _ h2, ne_of_none h2 hf0⟩⟩
    obtain ⟨xs, ky, sx, hx, out⟩ := sort_lam (K := K) (nm := fun w : Row => w.t) ol (fun z w h => let ⟨_, e, _⟩ := h; ⟨_, e⟩) nd
    refine ⟨tabO_same tb c01, l, xs, ky, rfl, sx, hx, fun H2 ys p eN T2 srt pm hp => ?_⟩
    obtain ⟨zt, rfl, et, hzt⟩ := out ys srt pm
    have e02 : LamX.ExtN H H2 := (Same.extN c01).trans eN
    have c2 := same_new (o := .lst (zt.map fun z => V.ref z.1)) hp
    have ep : upd H2 p (.lst (zt.map fun z => V.ref z.1)) p = some (.lst (zt.map fun z => V.ref z.1)) := upd_same
    have e2f := c2 _ _ (ext_l eN (c1 _ _ ef0))
    have npf : p ≠ f0 := (ne_of_none (ext_l eN (c1 _ _ ef0)) hp).symm
    have e03 : LamX.ExtN H (upd H2 p (.lst (zt.map fun z => V.ref z.1))) := e02.trans (Same.extN c2)
    have T3 := tabO_same T2 c2
    have zl : ∀ z ∈ zt, ∃ q', upd H2 p (.lst (zt.map fun z => V.ref z.1)) z.1 = some (.tup [.str (S z.2.t), ov z.2.a, .int (z.2.r : Nat), .ref q']) ∧ upd H2 p (.lst (zt.map fun z => V.ref z.1)) q' = some (.lst (sv z.2.l)) ∧ q' ≠ f0 := fun z zm => by
      obtain ⟨q', h1, h2, h3⟩ := (hzt z zm).2
      exact ⟨q', c2 _ _ (ext_t eN h1), c2 _ _ (ext_l eN h2), h3⟩
    generalize upd H2 p (.lst (zt.map fun z => V.ref z.1)) = H3 at c2 ep e2f e03 T3 zl
    have lzt : zt.length = R.T.length := by
      have := congrArg List.length et
      rw [List.length_map, tsort_len] at this
      exact this.trans (List.length_map _)
    have ert : zt.map (·.2) = rowsT R := by
      unfold rowsT
      rw [show tsort R.tn = zt.map (fun z => z.2.t) from et.symm, List.map_map]
      exact List.map_congr_left fun z zm => (R.row_at nd (hzt z zm).1).symm
    refine ⟨p, rfl, ⟨_, SqL.of ep⟩, for_list (D := { nx := _, rt := _ }) (xs := zt.map fun z => V.ref z.1) (fun i σ G => ∃ (y2 : Option V) (acc : List (Addr × Row)), σ = [some (.ref r), some (.ref f0), y2] ∧ Keep f0 H3 G ∧ G f0 = some (.lst (acc.map fun z => V.ref z.1)) ∧ acc.map (·.2) = (zt.take i).map (·.2) ∧ ∀ z ∈ acc, ∃ q', z.1 ≠ f0 ∧ q' ≠ f0 ∧ G z.1 = some (.tup [.str (S z.2.t), ov z.2.a, .int (z.2.r : Nat), .ref q']) ∧ G q' = some (.lst (sv z.2.l)) ∧ NL H q') ⟨none, [], rfl, Keep.refl, e2f, rfl, fun z h => (by cases h)⟩ (fun i σ G _ e => ?_) (fun i v σ G hi e => ?_) (fun σ G e => ?_)⟩
    · obtain ⟨y2, acc, rfl, kG, _⟩ := e
      exact SqL.of (kG _ _ npf ep)
    · obtain ⟨y2, acc, rfl, kG, eG, ea, hacc⟩ := e
      obtain ⟨z, gz, rfl⟩ := objs_get hi
      have zm := List.mem_of_getElem? gz
      have il := (List.getElem?_eq_some_iff.mp gz).1
      obtain ⟨q', h1, h2, h3⟩ := zl z zm
      have nz : z.1 ≠ f0 := fun e => by rw [e, e2f] at h1; cases h1
      have lacc : acc.length ≤ 60 := by
        have := congrArg List.length ea
        rw [List.length_map, List.length_map, List.length_take] at this
        omega
      have hzG := kG _ _ nz h1
      refine ⟨tyL eG, _, _, Sq.t hzG, at_int (j := 0) rfl rfl, _, _, Sq.t hzG, at_int (j := 1) rfl rfl, _, _, Sq.t hzG, at_int (j := 2) rfl rfl, _, _, Sq.t hzG, at_int (j := 3) rfl rfl, _, Sq.l (kG _ _ h3 h2), fun l2 hl2 => ⟨sl_of (n := 4) rfl, fun rw_ hrw => ?_⟩⟩
      have d1 := same_new (o := .lst (sv z.2.l)) hl2
      have ed1 : upd G l2 (.lst (sv z.2.l)) l2 = some (.lst (sv z.2.l)) := upd_same
      have n2f : l2 ≠ f0 := (ne_of_none eG hl2).symm
      have fl2 : NL H l2 := NL.back (NL.of (kG.free n2f hl2)) e03
      generalize upd G l2 (.lst (sv z.2.l)) = G1 at d1 ed1 hrw
      have d2 := same_new (o := .tup [.str (S z.2.t), ov z.2.a, .int (z.2.r : Nat), .ref l2]) hrw
      have ed2 : upd G1 rw_ (.tup [.str (S z.2.t), ov z.2.a, .int (z.2.r : Nat), .ref l2]) rw_ = some (.tup [.str (S z.2.t), ov z.2.a, .int (z.2.r : Nat), .ref l2]) := upd_same
      have nrf : rw_ ≠ f0 := (ne_of_none (d1 _ _ eG) hrw).symm
      generalize upd G1 rw_ (.tup [.str (S z.2.t), ov z.2.a, .int (z.2.r : Nat), .ref l2]) = G2 at d2 ed2
      have d12 := d1.trans d2
      refine ⟨_, d12 _ _ eG, by rw [List.length_map, sl_big]; omega, _, acc ++ [(rw_, z.2)], rfl, fun b o n e => (upd_ne n).trans (d12 _ _ (kG _ _ n e)), by rw [upd_same, List.map_append]; rfl, ?_, fun y hy => ?_⟩
      · rw [take_succ_get gz, List.map_append, List.map_append, ea]; rfl
      · rcases List.mem_append.mp hy with hy | hy
        · obtain ⟨q2, m1, m2, m3, m4, m5⟩ := hacc y hy
          exact ⟨q2, m1, m2, (upd_ne m1).trans (d12 _ _ m3), (upd_ne m2).trans (d12 _ _ m4), m5⟩
        · rw [List.mem_singleton.mp hy]
          exact ⟨l2, nrf, n2f, (upd_ne nrf).trans ed2, (upd_ne n2f).trans (d2 _ _ ed1), fl2⟩
    · obtain ⟨y2, acc, rfl, kG, eG, ea, hacc⟩ := e
      rw [List.length_map, List.take_length, ert] at ea
      have kHG : LamX.ExtN H G := fun b o e n => kG _ _ (ne_of_none e hf0) (e03 _ _ e n)
      have TG : TabO (tbA K "_law_kept") qL G := tabO_keep T3 kG e2f
      have oF : ObjL (RowF H) G f0 (rowsT R) := ⟨acc, ea, eG, fun z zm => let ⟨q2, _, _, m3, m4, m5⟩ := hacc z zm; ⟨q2, m3, m4, m5⟩⟩
      have nf0 : NL H f0 := NL.of hf0
      have hrG := ext_t kHG hr'
      obtain ⟨zb, eb1, eb2, eb3⟩ := objl_th_ext hb kHG
      have lzb : zb.length = R.U.length := by rw [← eb1, List.length_map]
      clear hacc
      dsimp only [tRet, tTup, tCons, tNil, tCB]
      refine xv_at (i := 1) (v := .ref f0) rfl ?_
      refine tLc_objMap (zs := zb) (g := fun u : Tx × Tx => u) (P' := fun D G' a u => a ≠ D ∧ ThO G' a u) (Rel := fun D G1 G2 => Keep D G1 G2) (fun D _ G' => Keep D G G') ?_ (Lt.l eb2) (by omega) ?_ (fun D G1 G2 a b k h => ⟨h.1, k _ _ h.1 h.2⟩) (fun D hD => Keep.new hD) (fun D i G' hD k => ?_) (fun D i z G' acc hD gz kD dG Q' go => ?_) (fun D G' ys hD kD ey dG hy => ?_)
      · exact fun R' h => ⟨_, _, Sq.t hrG, at_int (j := 1) rfl rfl, h⟩
      · exact fun _ => rfl
      · exact (k _ _ (ne_of_none eb2 hD) eb2).trans eb2.symm
      · have hz := kD _ _ (ne_of_none (eb3 z (List.mem_of_getElem? gz)) hD) (eb3 z (List.mem_of_getElem? gz))
        refine ⟨_, _, Sq.t hz, at_int (j := 0) rfl rfl, _, _, Sq.t hz, at_int (j := 1) rfl rfl, sl_of (n := 2) rfl, fun t ht => ?_⟩
        have c := same_new (o := .tup [.str (S z.2.1), .str (S z.2.2)]) ht
        have nD : t ≠ D := (ne_of_none dG ht).symm
        exact go t _ (c _ _ dG) fun acc' => ⟨fun b o n e => (upd_ne n).trans (c _ _ e), fun b o n e => (upd_ne n).trans (c _ _ (kD _ _ n e)), nD, (upd_ne nD).trans upd_same⟩
      have sG : Same G G' := fun b o e => kD b o (ne_of_none e hD) e
      have oD : ObjL ThO G' D R.U := ⟨ys, by rw [ey]; exact eb1, dG, fun y ym => (hy y ym).2⟩
      refine sort_rows (P := ThO) (nm := fun u : Tx × Tx => u.1) oD (fun z w h => ⟨_, h⟩) und fun L zs1 hL ez1 hz1 => ?_
      have cL := same_new (o := .lst (zs1.map fun z => V.ref z.1)) hL
      have eL : upd G' L (.lst (zs1.map fun z => V.ref z.1)) L = some (.lst (zs1.map fun z => V.ref z.1)) := upd_same
      have oL : ObjL ThO (upd G' L (.lst (zs1.map fun z => V.ref z.1))) L (rowsU R) := by
        refine ⟨zs1, ?_, eL, fun z zm => cL _ _ (hz1 z zm).2⟩
        unfold rowsU
        rw [show tsort R.un = zs1.map (fun z => z.2.1) from ez1.symm, List.map_map]
        exact List.map_congr_left fun z zm => Prod.ext rfl (R.src_at und (hz1 z zm).1).symm
      generalize upd G' L (.lst (zs1.map fun z => V.ref z.1)) = G3 at cL oL
      refine ⟨sl_of (n := 2) rfl, fun rt hrt => ?_⟩
      have cT := same_new (o := .tup [.ref f0, .ref L]) hrt
      have sT := sG.trans (cL.trans cT)
      have eT := kHG.trans (Same.extN sT)
      exact q rt f0 L _ eT (tabO_same TG sT) nf0 (NL.back (NL.of (sG.free hL)) kHG) upd_same (objl_rowF_ext oF (Same.extN sT)) (objl_same (fun _ _ h => ThO.same h cT) oL cT)
def sp_River_after (K : PySem.W.Frag) : Sp := fun vs H Q _ => ∃ (x : Addr) (R : Rv) (w : Row), vs = [.ref x, .str (S w.t)] ∧ RivO K H x R ∧ R.tn.Nodup ∧ w ∈ R.T ∧ ∀ H', Same H H' → Q (ov w.a) H'
theorem sc_River_after : FnScope ["self", "town"] ["self", "town"] (defScope (clsN (topS 35) 3)) := ⟨rfl, rfl, rfl, by decide +kernel, rfl, by decide +kernel, by decide +kernel⟩
theorem ok_River_after {P : Program} {w : World} {K : PySem.W.Frag} {mg : Str → Option Value} {base : Heap} (T : Top K mg) : FnOk P w K mg base CX0 4 T.a_River_after T.fd_River_after ["self", "town"] (sp_River_after K) := by
  refine T.F_River_after.ok (k := 3) sc_River_after (fun vs H Q E h => ?_) (fun cdv A outer s0 H vs Q E hr h => ?_)
  · obtain ⟨x, R, w, rfl, _⟩ := h; rfl
  · have sc := sc_River_after
    refine ⟨_, (pss_cons (ps_expr (pe_call (ok_check_town T) (hr.mono (by decide)) (by rfl) T.g_check_town T.F_check_town.kp T.b_check_town .nil pass0 (pa_cons (xv 0) (pa_cons (xv 1) pa_nil))))
      (pss_one (ps_ret (pe_dget (hu_of hr) (kfld (K := K) rfl 0) (xv 1) (fun _ _ => rfl))))), ?_⟩
    obtain ⟨x, R, w, rfl, hx, nd, hw, q⟩ := h
    have wt : w.t ∈ R.tn := List.mem_map.mpr ⟨w, hw, rfl⟩
    refine ⟨x, R, w.t, rfl, hx, wt, fun H1 s1 => ?_⟩
    obtain ⟨dx, a1, a2, a3, a4, a5, a6, a7, a8, a9, h0, hh⟩ := hx.same s1
    have g := DGet.k (k := Sum.inr (S w.t)) hh.h3
    rw [nxtD_at nd wt, nxt_at nd hw] at g
    exact ⟨_, dx, _, _, h0, T.in_River, T.na_River__next_towns, rfl, a3, _, rfl, g, q _ s1⟩
def sp_River_room (K : PySem.W.Frag) : Sp := fun vs H Q _ => ∃ (x : Addr) (R : Rv) (w : Row), vs = [.ref x, .str (S w.t)] ∧ RivO K H x R ∧ R.tn.Nodup ∧ w ∈ R.T ∧ ∀ H', Same H H' → Q (.int (w.r : Nat)) H'
theorem sc_River_room : FnScope ["self", "town"] ["self", "town"] (defScope (clsN (topS 35) 4)) := ⟨rfl, rfl, rfl, by decide +kernel, rfl, by decide +kernel, by decide +kernel⟩
theorem ok_River_room {P : Program} {w : World} {K : PySem.W.Frag} {mg : Str → Option Value} {base : Heap} (T : Top K mg) : FnOk P w K mg base CX0 4 T.a_River_room T.fd_River_room ["self", "town"] (sp_River_room K) := by
  refine T.F_River_room.ok (k := 3) sc_River_room (fun vs H Q E h => ?_) (fun cdv A outer s0 H vs Q E hr h => ?_)
  · obtain ⟨x, R, w, rfl, _⟩ := h; rfl
  · have sc := sc_River_room
    refine ⟨_, (pss_cons (ps_expr (pe_call (ok_check_town T) (hr.mono (by decide)) (by rfl) T.g_check_town T.F_check_town.kp T.b_check_town .nil pass0 (pa_cons (xv 0) (pa_cons (xv 1) pa_nil))))
      (pss_one (ps_ret (pe_dget (hu_of hr) (kfld (K := K) rfl 0) (xv 1) (fun _ _ => rfl))))), ?_⟩
    obtain ⟨x, R, w, rfl, hx, nd, hw, q⟩ := h
    have wt : w.t ∈ R.tn := List.mem_map.mpr ⟨w, hw, rfl⟩
    refine ⟨x, R, w.t, rfl, hx, wt, fun H1 s1 => ?_⟩
    obtain ⟨dx, a1, a2, a3, a4, a5, a6, a7, a8, a9, h0, hh⟩ := hx.same s1
    have g := DGet.k (k := Sum.inr (S w.t)) hh.h4
    have v : valV (rmD R.T) (Sum.inr (S w.t)) = some (.int (w.r : Nat)) := val_map (k := fun w : Row => w.t) (v := fun w => V.int (w.r : Nat)) nd hw
    rw [v] at g
    exact ⟨_, dx, _, _, h0, T.in_River, T.na_River__rooms, rfl, a4, _, rfl, g, q _ s1⟩
def sp_River_liking (K : PySem.W.Frag) : Sp := fun vs H Q _ => ∃ (x : Addr) (R : Rv) (w : Row), vs = [.ref x, .str (S w.t)] ∧ RivO K H x R ∧ R.tn.Nodup ∧ w ∈ R.T ∧ ∀ r H', Same H H' → H r = none → H' r = some (.lst (sv w.l)) → Q (.ref r) H'
theorem sc_River_liking : FnScope ["self", "town"] ["self", "town"] (defScope (clsN (topS 35) 5)) := ⟨rfl, rfl, rfl, by decide +kernel, rfl, by decide +kernel, by decide +kernel⟩
theorem ok_River_liking {P : Program} {w : World} {K : PySem.W.Frag} {mg : Str → Option Value} {base : Heap} (T : Top K mg) : FnOk P w K mg base CX0 4 T.a_River_liking T.fd_River_liking ["self", "town"] (sp_River_liking K) := by
  refine T.F_River_liking.ok (k := 3) sc_River_liking (fun vs H Q E h => ?_) (fun cdv A outer s0 H vs Q E hr h => ?_)
  · obtain ⟨x, R, w, rfl, _⟩ := h; rfl
  · have sc := sc_River_liking
    refine ⟨_, (pss_cons (ps_expr (pe_call (ok_check_town T) (hr.mono (by decide)) (by rfl) T.g_check_town T.F_check_town.kp T.b_check_town .nil pass0 (pa_cons (xv 0) (pa_cons (xv 1) pa_nil))))
      (pss_one (ps_ret (pe_callTy (kc_list (K := K) rfl rfl) (by rfl) T.n_list (by decide +kernel) (pa_cons (pe_dget (hu_of hr) (kfld (K := K) rfl 0) (xv 1) (fun _ _ => rfl)) pa_nil))))), ?_⟩
    obtain ⟨x, R, w, rfl, hx, nd, hw, q⟩ := h
    have wt : w.t ∈ R.tn := List.mem_map.mpr ⟨w, hw, rfl⟩
    refine ⟨x, R, w.t, rfl, hx, wt, fun H1 s1 => ?_⟩
    obtain ⟨dx, a1, a2, a3, a4, a5, a6, a7, a8, a9, h0, hh⟩ := hx.same s1
    obtain ⟨zs, ez, h5, l5⟩ := hh.h5
    obtain ⟨z, zm, ew⟩ := List.mem_map.mp (ez ▸ hw : w ∈ zs.map (·.2))
    have nz : (zs.map fun z => z.2.t).Nodup := by unfold Rv.tn at nd; rw [← ez, List.map_map] at nd; exact nd
    have g := DGet.k (k := Sum.inr (S w.t)) h5
    have v : valV (lkD zs) (Sum.inr (S w.t)) = some (.ref z.1) := by rw [← ew]; exact val_map (k := fun z : Addr × Row => z.2.t) (v := fun z => V.ref z.1) nz zm
    rw [v] at g
    have l := l5 z zm
    rw [ew] at l
    exact ⟨_, dx, _, _, h0, T.in_River, T.na_River__likings, rfl, a5, _, rfl, g, _, Sq.l l, fun r hr => q r _ (s1.trans (same_new hr)) (s1.free hr) upd_same⟩
def sp_check_rows (K : PySem.W.Frag) : Sp := fun vs H Q _ => ∃ (p o : Addr) (R : Rv) (rk : Tx → Nat), vs = [.ref p, .ref o] ∧ RowsO H p R.T ∧ ThsO H o R.U ∧ R.Ok rk ∧ ∀ H', Same H H' → Q .non H'
theorem sc_check_rows : FnScope ["towns", "things"] ["towns", "things"] (defScope (topS 33)) := ⟨rfl, rfl, rfl, by decide +kernel, rfl, by decide +kernel, by decide +kernel⟩
theorem ok_check_rows {P : Program} {w : World} {K : PySem.W.Frag} {mg : Str → Option Value} {base : Heap} (T : Top K mg) : FnOk P w K mg base CX0 4 T.a_check_rows T.fd_check_rows ["towns", "things"] (sp_check_rows K) := by
  refine T.F_check_rows.ok (k := 3) sc_check_rows (fun vs H Q E h => ?_) (fun cdv A outer s0 H vs Q E hr h => ?_)
  · obtain ⟨p, o, R, rk, rfl, _⟩ := h; rfl
  · have sc := sc_check_rows
    refine ⟨_, (pss_cons (ps_expr (pe_call (ok_check_counts T) (hr.mono (by decide)) (by rfl) T.g_check_counts T.F_check_counts.kp T.b_check_counts .nil pass0 (pa_cons (xv 0) (pa_cons (xv 1) pa_nil))))
      (pss_cons (ps_expr (pe_call (ok_check_row_names T) (hr.mono (by decide)) (by rfl) T.g_check_row_names T.F_check_row_names.kp T.b_check_row_names .nil pass0 (pa_cons (xv 0) pa_nil)))
      (pss_cons (ps_expr (pe_call (ok_check_row_names T) (hr.mono (by decide)) (by rfl) T.g_check_row_names T.F_check_row_names.kp T.b_check_row_names .nil pass0 (pa_cons (xv 1) pa_nil)))
      (pss_cons (ps_expr (pe_call (ok_check_town_rows T) (hr.mono (by decide)) (by rfl) T.g_check_town_rows T.F_check_town_rows.kp T.b_check_town_rows .nil pass0 (pa_cons (xv 0) (pa_cons (xv 1) pa_nil))))
      (pss_cons (ps_expr (pe_call (ok_check_springs T) (hr.mono (by decide)) (by rfl) T.g_check_springs T.F_check_springs.kp T.b_check_springs .nil pass0 (pa_cons (xv 0) (pa_cons (xv 1) pa_nil))))
      (pss_one (ps_expr (pe_call (ok_check_rings T) (hr.mono (by decide)) (by rfl) T.g_check_rings T.F_check_rings.kp T.b_check_rings .nil pass0 (pa_cons (xv 0) pa_nil))))))))), ?_⟩
    obtain ⟨p, o, R, rk, rfl, hp, ho, k, q⟩ := h
    obtain ⟨xs, hx, lx⟩ := hp.len
    obtain ⟨zs, hz, lz⟩ := ho.len
    have t8 := k.t8
    have u10 := k.u10
    have lt : R.tn.length = R.T.length := List.length_map _
    have lu : R.un.length = R.U.length := List.length_map _
    refine ⟨p, o, xs, zs, rfl, hx, hz, by rw [lx]; exact k.t0, by rw [lx]; exact k.t8, by rw [lz]; exact k.u10, ?_⟩
    refine ⟨p, R.tn, rfl, rows_nms hp, k.tnd, fun t ht => ?_, by omega, fun H1 s1 => ?_⟩
    · obtain ⟨w, hw, rfl⟩ := List.mem_map.mp ht
      exact k.tnm w hw
    refine ⟨o, R.un, rfl, ths_nms (ths_same ho s1), k.und, fun t ht => ?_, by omega, fun H2 s2 => ?_⟩
    · obtain ⟨u, hu, rfl⟩ := List.mem_map.mp ht
      exact k.unm u hu
    have s12 := s1.trans s2
    refine ⟨p, o, R.T, R.un, rfl, rows_same hp s12, ths_nms (ths_same ho s12), fun w hw => ⟨fun a e => (k.af w hw a e).1, k.rm w hw, k.lk w hw⟩, by omega, by omega, k.fines, fun H3 s3 => ?_⟩
    have s13 := s12.trans s3
    refine ⟨p, o, R.tn, R.U, rfl, rows_nms (rows_same hp s13), ths_same ho s13, k.sp, by omega, fun H4 s4 => ?_⟩
    have s14 := s13.trans s4
    exact ⟨p, R.T, rk, rfl, rows_same hp s14, k.down, by omega, fun H5 s5 => q H5 (s14.trans s5)⟩
def sp__law_either (K : PySem.W.Frag) : Sp := fun vs H Q _ => ∃ (s cl : Addr) (n : Nat) (p : Addr) (xs : List V), vs = [.ref s, .ref p] ∧ Sto s cl n H ∧ n < 1000000000000 ∧ H p = some (.lst xs) ∧ p ≠ s ∧
  ∀ (r : Addr) H', Keep s H H' → Sto s cl (n + 1) H' → H r = none → (H' r = some (.lst xs) ∨ H' r = some (.tup xs)) → Q (.ref r) H'
theorem sc__law_either : FnScope ["store", "items"] ["store", "items"] (defScope (topS 45)) := ⟨rfl, rfl, rfl, by decide +kernel, rfl, by decide +kernel, by decide +kernel⟩
theorem ok__law_either {P : Program} {w : World} {K : PySem.W.Frag} {mg : Str → Option Value} {base : Heap} (T : Top K mg) : FnOk P w K mg base CX0 4 T.a__law_either T.fd__law_either ["store", "items"] (sp__law_either K) := by
  refine T.F__law_either.ok (k := 3) sc__law_either (fun vs H Q E h => ?_) (fun cdv A outer s0 H vs Q E hr h => ?_)
  · obtain ⟨s, cl, n, p, xs, rfl, _⟩ := h; rfl
  · have sc := sc__law_either
    refine ⟨_, (pss_cons (xs_if (xt (pe_call (ok__law_yes T) (hr.mono (by decide)) (by rfl) T.g__law_yes T.F__law_yes.kp T.b__law_yes .nil pass0 (pa_cons (xv 0) (pa_cons pe_int pa_nil)))) (pss_one (ps_ret (pe_callTy (kc_list (K := K) rfl rfl) (by rfl) T.n_list (by decide +kernel) (pa_cons (xv 1) pa_nil)))) pss_nil)
      (pss_one (ps_ret (pe_callTy (kc_tuple (K := K) rfl) (by rfl) T.n_tuple (by decide +kernel) (pa_cons (xv 1) pa_nil))))), ?_⟩
    obtain ⟨s, cl, n, p, xs, rfl, St, hn, hp, ps, q⟩ := h
    refine ⟨s, cl, n, _, rfl, St, hn, by decide, fun b H1 k S1 => ⟨fun _ => ?_, fun _ => ?_⟩⟩
    · refine ⟨xs, Sq.l (k _ _ ps hp), fun r hr => ?_⟩
      exact q r _ (k.trans (Keep.new hr)) (S1.new hr) (k.free (S1.ne hr) hr) (.inl upd_same)
    · refine .inl ⟨xs, SqL.of (k _ _ ps hp), fun r hr => ?_⟩
      exact q r _ (k.trans (Keep.new hr)) (S1.new hr) (k.free (S1.ne hr) hr) (.inr upd_same)
def sp__law_raw_name (K : PySem.W.Frag) : Sp := fun vs H Q _ => ∃ (s cl : Addr) (n : Nat), vs = [.ref s] ∧ Sto s cl n H ∧ n + 9 < 1000000000000 ∧
  ∀ (l : List Nat) H', IsNm l → Keep s H H' → Sto s cl (n + 9) H' → Q (.str (S l)) H'
theorem sc__law_raw_name : FnScope ["store", "name", "turn"] ["store"] (defScope (topS 47)) := ⟨rfl, rfl, rfl, by decide +kernel, rfl, by decide +kernel, by decide +kernel⟩
theorem ok__law_raw_name {P : Program} {w : World} {K : PySem.W.Frag} {mg : Str → Option Value} {base : Heap} (T : Top K mg) : FnOk P w K mg base CX0 4 T.a__law_raw_name T.fd__law_raw_name ["store"] (sp__law_raw_name K) := by
  refine T.F__law_raw_name.ok (k := 3) sc__law_raw_name (fun vs H Q E h => ?_) (fun cdv A outer s0 H vs Q E hr h => ?_)
  · obtain ⟨s, cl, n, rfl, _⟩ := h; rfl
  · have sc := sc__law_raw_name
    refine ⟨_, (pss_cons (ps_set (i := 1) sc.nd rfl (by first | exact Or.inl rfl | exact Or.inr rfl) (pe_call (ok__law_pick T) (hr.mono (by decide)) (by rfl) T.g__law_pick T.F__law_pick.kp T.b__law_pick .nil pass0 (pa_cons (xv 0) (pa_cons pe_str pa_nil))))
      (pss_cons (ps_for PassesOwn.never rfl (pi_range1 (by rfl) T.n_range (pa_cons (pe_call (ok__law_take T) (hr.mono (by decide)) (by rfl) T.g__law_take T.F__law_take.kp T.b__law_take .nil pass0 (pa_cons (xv 0) (pa_cons pe_int pa_nil))) pa_nil)) (pg_name (i := 2) sc.nd rfl (by first | exact Or.inl rfl | exact Or.inr rfl)) (pss_one (ps_set (i := 1) sc.nd rfl (by first | exact Or.inl rfl | exact Or.inr rfl) (pe_op (ko_add (K := K) rfl) (xv 1) (pe_call (ok__law_pick T) (hr.mono (by decide)) (by rfl) T.g__law_pick T.F__law_pick.kp T.b__law_pick .nil pass0 (pa_cons (xv 0) (pa_cons pe_str pa_nil)))))))
      (pss_cons (xs_if (PW.pt (xw_or (xtc (ko_eq (K := K) rfl hr.units) (xv 1) pe_str (nomark _)) (pw_or1 (xtc (ko_eq (K := K) rfl hr.units) (xv 1) pe_str (nomark _))))) (pss_one (ps_ret (pe_op (ko_add (K := K) rfl) (xv 1) pe_str))) pss_nil)
      (pss_one (ps_ret (xv 1)))))), ?_⟩
    obtain ⟨s, cl, n, rfl, St, hn, q⟩ := h
    rw [lit_az, lit_az9, lit_0]
    refine ⟨s, cl, n, St, by omega, .inl ⟨aZ, rfl, by decide, by decide, fun c H1 hc k1 S1 => ?_⟩⟩
    have w0 : word [c] = true := by
      show (low c && [c].all lowD) = true
      rw [mem_az.mp hc]
      simp [low_lowD (mem_az.mp hc)]
    refine ⟨s, cl, n + 1, _, rfl, S1, by omega, by decide, fun r H2 hr k2 S2 => ?_⟩
    refine ⟨r, rfl, by omega, by omega, ?_⟩
    refine for_range (lo := 0) (n := (r : Int).toNat) (fun i σ H3 => ∃ l y, σ = [some (.ref s), some (.str (S l)), y] ∧ word l = true ∧ l.length = i + 1 ∧ Keep s H H3 ∧ Sto s cl (n + 2 + i) H3) ⟨[c], none, rfl, w0, rfl, k1.trans k2, S2⟩ (fun i σ H3 hi hW => ?_) (fun σ H3 hW => ?_)
    · obtain ⟨l, y, rfl, w1, e1, k3, S3⟩ := hW
      refine ⟨s, cl, n + 2 + i, S3, by omega, .inl ⟨aZ9, rfl, by decide, by decide, fun c H4 hc k4 S4 => ?_⟩⟩
      refine ⟨by rw [S_len, S_len, sl_big]; show l.length + 1 ≤ _; omega, ?_⟩
      rw [S_cat]
      exact ⟨l ++ [c], some (.int (0 + i)), rfl, word_app w1 (fun x hx => by rw [List.mem_singleton.mp hx]; exact mem_az9.mp hc), by rw [List.length_append, e1]; rfl, k3.trans k4, S4⟩
    · obtain ⟨l, y, rfl, w1, e1, k3, S3⟩ := hW
      have hr7 : (r : Int).toNat ≤ 7 := by omega
      have Sf := S3.mono (show n + 2 + (r : Int).toNat ≤ n + 9 by omega)
      have sub : (l = [115, 101, 97] ∨ l = [105, 116]) → IsNm (l ++ [48]) := by
        rintro (rfl | rfl)
        · exact nameL_iff.mp (by decide)
        · exact nameL_iff.mp (by decide)
      have two : (l = [115, 101, 97] ∨ l = [105, 116]) → (S l).length + (S [48]).length ≤ sizeLine := by
        rintro (rfl | rfl) <;> (rw [sl_big]; decide)
      refine ⟨fun c => ⟨fun _ => ?_, no_tf⟩, fun c1 => ⟨fun c => ?_, fun c2 => ?_⟩⟩
      · rw [dec_S lit_sea] at c
        have e := of_decide_eq_true c
        refine ⟨two (.inl e), ?_⟩
        rw [S_cat]
        exact q _ _ (sub (.inl e)) k3 Sf
      · rw [dec_S lit_it] at c
        have e := of_decide_eq_true c
        refine ⟨two (.inr e), ?_⟩
        rw [S_cat]
        exact q _ _ (sub (.inr e)) k3 Sf
      · rw [dec_S lit_sea] at c1
        rw [dec_S lit_it] at c2
        exact q _ _ ⟨w1, by omega, of_decide_eq_false c1, of_decide_eq_false c2⟩ k3 Sf
def sp__law_town_rows (K : PySem.W.Frag) : Sp := fun vs H Q _ => ∃ (s cl : Addr) (n : Nat) (p o : Addr) (ts us : List Tx), vs = [.ref s, .ref p, .ref o, .bl false] ∧ Sto s cl n H ∧ n + 20000 < 1000000000000 ∧ H p = some (.lst (sv ts)) ∧ H o = some (.lst (sv us)) ∧ p ≠ s ∧ o ≠ s ∧
  1 ≤ ts.length ∧ ts.length ≤ 8 ∧ us.length ≤ 10 ∧
  ∀ (r : Addr) (T zs : List Row) H', Made ts us zs → zs.length = ts.length → T.Perm zs → ObjL RowL H' r T → H r = none → Keep s H H' → Sto s cl (n + 20000) H' → Q (.ref r) H'
theorem sc__law_town_rows : FnScope ["store", "towns", "things", "lone", "behind", "equal", "rows", "liking", "k", "below", "room"] ["store", "towns", "things", "lone"] (defScope (topS 53)) := ⟨rfl, rfl, rfl, by decide +kernel, rfl, by decide +kernel, by decide +kernel⟩
theorem ok__law_town_rows {P : Program} {w : World} {K : PySem.W.Frag} {mg : Str → Option Value} {base : Heap} (T : Top K mg) : FnOk P w K mg base CX0 4 T.a__law_town_rows T.fd__law_town_rows ["store", "towns", "things", "lone"] (sp__law_town_rows K) := by
  refine T.F__law_town_rows.ok (k := 3) sc__law_town_rows (fun vs H Q E h => ?_) (fun cdv A outer s0 H vs Q E hr h => ?_)
  · obtain ⟨s, cl, n, p, o, ts, us, rfl, _⟩ := h; rfl
  · have sc := sc__law_town_rows
    refine ⟨_, (pss_cons (ps_set (i := 4) sc.nd rfl (by first | exact Or.inl rfl | exact Or.inr rfl) (pe_call (ok__law_tree T) (hr.mono (by decide)) (by rfl) T.g__law_tree T.F__law_tree.kp T.b__law_tree .nil pass0 (pa_cons (xv 0) (pa_cons (pe_callB (kc_len (K := K) rfl) (by rfl) T.n_len (by decide +kernel) (pa_cons (xv 1) pa_nil)) (pa_cons (xv 3) pa_nil)))))
      (pss_cons (ps_set (i := 5) sc.nd rfl (by first | exact Or.inl rfl | exact Or.inr rfl) (pe_call (ok__law_yes T) (hr.mono (by decide)) (by rfl) T.g__law_yes T.F__law_yes.kp T.b__law_yes .nil pass0 (pa_cons (xv 0) (pa_cons pe_int pa_nil))))
      (pss_cons (ps_set (i := 6) sc.nd rfl (by first | exact Or.inl rfl | exact Or.inr rfl) (pe_lst pa_nil))
      (pss_cons (ps_set (i := 7) sc.nd rfl (by first | exact Or.inl rfl | exact Or.inr rfl) (pe_lst pa_nil))
      (pss_cons (ps_for PassesOwn.never rfl (pi_range1 (by rfl) T.n_range (pa_cons (pe_callB (kc_len (K := K) rfl) (by rfl) T.n_len (by decide +kernel) (pa_cons (xv 1) pa_nil)) pa_nil)) (pg_name (i := 8) sc.nd rfl (by first | exact Or.inl rfl | exact Or.inr rfl)) (pss_cons (ps_set (i := 9) sc.nd rfl (by first | exact Or.inl rfl | exact Or.inr rfl) (xe_if (xtc xo_is (pe_ix (kix (K := K) rfl) (xv 4) (xv 8) (fun _ _ => rfl)) pe_non (nomark _)) pe_non (pe_ix (kix (K := K) rfl) (xv 1) (pe_ix (kix (K := K) rfl) (xv 4) (xv 8) (fun _ _ => rfl)) (fun _ _ => rfl))))
      (pss_cons (ps_set (i := 10) sc.nd rfl (by first | exact Or.inl rfl | exact Or.inr rfl) (pe_call (ok__law_room T) (hr.mono (by decide)) (by rfl) T.g__law_room T.F__law_room.kp T.b__law_room .nil pass0 (pa_cons (xv 0) (pa_cons (pe_callB (kc_len (K := K) rfl) (by rfl) T.n_len (by decide +kernel) (pa_cons (xv 2) pa_nil)) pa_nil))))
      (xss_cut (xs_if (PW.pt (xw_or (xtc (ko_eq (K := K) rfl hr.units) (xv 8) pe_int (nomark _)) (pw_or1 (pt_not (xt (xv 5)))))) (pss_one (ps_set (i := 7) sc.nd rfl (by first | exact Or.inl rfl | exact Or.inr rfl) (pe_call (ok__law_order T) (hr.mono (by decide)) (by rfl) T.g__law_order T.F__law_order.kp T.b__law_order .nil pass0 (pa_cons (xv 0) (pa_cons (xv 2) pa_nil))))) pss_nil)
      (pss_one (ps_expr (ke_bm (K := K) rfl PySem.F.plainAttrs_list PySem.F.slot_list_append PySem.F.type_list_append xm_append (xv 6) (pa_cons (pe_tup (pa_cons (pe_ix (kix (K := K) rfl) (xv 1) (xv 8) (fun _ _ => rfl)) (pa_cons (xv 9) (pa_cons (xv 10) (pa_cons (pe_callTy (kc_list (K := K) rfl rfl) (by rfl) T.n_list (by decide +kernel) (pa_cons (xv 7) pa_nil)) pa_nil))))) pa_nil))))))))
      (pss_one (ps_ret (pe_call (ok__law_order T) (hr.mono (by decide)) (by rfl) T.g__law_order T.F__law_order.kp T.b__law_order .nil pass0 (pa_cons (xv 0) (pa_cons (xv 6) pa_nil)))))))))), ?_⟩
    obtain ⟨s, cl, n, p, o, ts, us, rfl, St, hn, hp, ho, ps, os, t1, t8, u10, q⟩ := h
    refine ⟨_, Sq.l hp, s, cl, n, ts.length, by rw [sv_len]; rfl, St, by omega, t1, t8, fun bh bs H1 lb hbs fb eb k1 S1 => ?_⟩
    have bhs := St.ne fb
    refine ⟨s, cl, _, _, rfl, S1, by omega, by decide, fun equal H2 k2 S2 => ?_⟩
    refine ⟨sl_of (n := 0) rfl, fun fa hfa => ?_⟩
    have k12 := k1.trans k2
    have S3 := S2.new (o := .lst []) hfa
    have fas := S2.ne hfa
    have fac := S2.nec hfa
    have hfa0 : H fa = none := k12.free fas hfa
    have kput : ∀ {H' : Hp} {o : HO}, Keep s H H' → Keep s H (upd H' fa o) := fun {H' o} k b u ne e => (upd_ne (ne_of_none e hfa0)).trans (k b u ne e)
    refine ⟨sl_of (n := 0) rfl, fun lk0 hlk => ?_⟩
    have S4 := S3.new (o := .lst []) hlk
    have k4 := (k12.trans (Keep.new (o := .lst []) hfa)).trans (Keep.new (o := .lst []) hlk)
    have lkf : lk0 ≠ fa := (ne_of_none upd_same hlk).symm
    have bhf : bh ≠ fa := ne_of_none (k2 _ _ bhs eb) hfa
    have eb4 := (upd_ne (o := .lst []) (ne_of_none ((upd_ne (o := .lst []) bhf).trans (k2 _ _ bhs eb)) hlk)).trans ((upd_ne (o := .lst []) bhf).trans (k2 _ _ bhs eb))
    dsimp only [tSeq, tAsg, gName, L2.start]
    refine ⟨_, Sq.l (k4 _ _ ps hp), _, rfl, by rw [sv_len]; omega, by rw [sv_len]; omega, ?_⟩
    rw [Int.toNat_natCast, sv_len]
    refine for_range (lo := 0) (n := ts.length) (fun i σ G => ∃ (lk : Addr) (y8 y9 y10 : Option V) (zs : List (Addr × Addr × Row)), zs.length = i ∧ σ = [some (.ref s), some (.ref p), some (.ref o), some (.bl false), some (.ref bh), some (.bl equal), some (.ref fa), some (.ref lk), y8, y9, y10] ∧
      lk ≠ s ∧ lk ≠ fa ∧ (1 ≤ i → ∃ l : List Tx, G lk = some (.lst (sv l)) ∧ l.Perm us) ∧ Made ts us (zs.map (·.2.2)) ∧ G fa = some (.lst (zs.map fun z => V.ref z.1)) ∧ (∀ z ∈ zs, G z.1 = some (.tup [.str (S z.2.2.t), ov z.2.2.a, .int (z.2.2.r : Nat), .ref z.2.1]) ∧ G z.2.1 = some (.lst (sv z.2.2.l)) ∧ z.2.1 ≠ s ∧ z.2.1 ≠ fa) ∧
      Keep s H G ∧ G bh = some (.lst (bs.map oi)) ∧ Sto s cl (n + 11 + 1010 * i) G)
      ⟨lk0, _, _, _, [], rfl, rfl, S3.ne hlk, lkf, fun h => (by omega), ⟨rfl, fun k w h => (by simp at h), fun w h => (by cases h), fun w h => (by cases h)⟩, (upd_ne lkf.symm).trans upd_same, fun z h => (by cases h), k4, eb4, S4⟩ (fun i σ G hi hW => ?_) (fun σ G hW => ?_)
    · obtain ⟨lk, y8, y9, y10, zs, lz, rfl, lks, lkf, elk, made, ef, hz, kG, ebG, SG⟩ := hW
      rw [Int.zero_add]
      have hpG := kG _ _ ps hp
      have hoG := kG _ _ os ho
      have zs_ : ∀ z ∈ zs, z.1 ≠ s ∧ z.1 ≠ fa := fun z hm => by
        have e1 := (hz z hm).1
        obtain ⟨ns, x1, x2, x3, x4, e2, _⟩ := SG.ex
        exact ⟨fun e => (by rw [e, e2] at e1; cases e1), fun e => (by rw [e, ef] at e1; cases e1)⟩
      have gt : ts[i]? = some ts[i] := List.getElem?_eq_getElem hi
      have gb : bs[i]? = some bs[i] := List.getElem?_eq_getElem (by omega)
      have gbo : (bs.map oi)[i]? = some (oi bs[i]) := by rw [List.getElem?_map, gb]; rfl
      -- below
      dsimp only [tSeq, tAsg, gName]
      have key : ∀ F : VK, (∀ bel : Option Tx, (∀ u, bel = some u → ∃ j, j < i ∧ ts[j]? = some u) → F (ov bel) G) → xIf (xT (tOp mIs (tOp (mIx K) (xV 4) (xV 8)) (tC V.non))) (tC V.non) (tOp (mIx K) (xV 1) (tOp (mIx K) (xV 4) (xV 8)))
          [some (V.ref s), some (V.ref p), some (V.ref o), some (V.bl false), some (V.ref bh), some (V.bl equal), some (V.ref fa), some (V.ref lk), some (V.int (i : Nat)), y9, y10] G F := fun F hF => by
        refine ⟨_, _, Sq.l ebG, atI_nat gbo, ?_⟩
        cases hb : bs[i] with
        | none => exact ⟨fun _ => hF none fun u e => (by cases e), fun c => (by cases c)⟩
        | some j =>
          rw [hb] at gb gbo
          have hj := hbs i j gb
          refine ⟨fun c => absurd (of_decide_eq_true c) (by intro z; cases z), fun _ => ?_⟩
          have gj : ts[j]? = some ts[j] := List.getElem?_eq_getElem (by omega)
          exact ⟨_, _, Sq.l ebG, atI_nat gbo, _, _, Sq.l hpG, atI_nat (sv_get gj), hF (some ts[j]) fun u e => ⟨j, hj, by rw [← Option.some.inj e]; exact gj⟩⟩
      refine key _ fun bel hbel => ?_
      refine ⟨_, Sq.l hoG, s, cl, _, us.length, by rw [sv_len]; rfl, SG, by omega, u10, fun rm G2 rm99 k2' S2' => ?_⟩
      have bhG2 := k2' _ _ bhs ebG
      refine ⟨fun σ' G6 => ∃ (lk' : Addr) (l' : List Tx), σ' = [some (.ref s), some (.ref p), some (.ref o), some (.bl false), some (.ref bh), some (.bl equal), some (.ref fa), some (.ref lk'), some (.int (i : Nat)), some (ov bel), some (.int (rm : Nat))] ∧ lk' ≠ s ∧ lk' ≠ fa ∧ G6 lk' = some (.lst (sv l')) ∧ l'.Perm us ∧ Keep s G G6 ∧ Sto s cl (n + 11 + 1010 * i + 1005) G6, ?_, ?_⟩
      · have fin : ∀ (lk' : Addr) (ys : List V) (G6 : Hp), ys.Perm (sv us) → G2 lk' = none → G6 lk' = some (.lst ys) → Keep s G2 G6 → Sto s cl (n + 11 + 1010 * i + 2 + 1002) G6 → ∃ (lk'' : Addr) (l' : List Tx), ([some (.ref s), some (.ref p), some (.ref o), some (.bl false), some (.ref bh), some (.bl equal), some (.ref fa), some (.ref lk'), some (.int (i : Nat)), some (ov bel), some (.int (rm : Nat))] : L2.St) = [some (.ref s), some (.ref p), some (.ref o), some (.bl false), some (.ref bh), some (.bl equal), some (.ref fa), some (.ref lk''), some (.int (i : Nat)), some (ov bel), some (.int (rm : Nat))] ∧ lk'' ≠ s ∧ lk'' ≠ fa ∧ G6 lk'' = some (.lst (sv l')) ∧ l'.Perm us ∧ Keep s G G6 ∧ Sto s cl (n + 11 + 1010 * i + 1005) G6 := fun lk' ys G6 pm6 f6 e6 k6 S6 => by
          obtain ⟨l', pl', rfl⟩ := perm_lift pm6.symm us rfl
          exact ⟨lk', l', rfl, S2'.ne f6, fun z => (by rw [z] at f6; rw [k2' _ _ fas ef] at f6; cases f6), e6, pl', k2'.trans k6, S6.mono (by omega)⟩
        refine ⟨fun c => ⟨fun _ => ?_, no_tf⟩, fun c => ⟨fun c2 => ?_, fun c2 => ?_⟩⟩
        · exact ⟨s, cl, _, o, sv us, rfl, S2', by omega, k2' _ _ os hoG, os, by rw [sv_len]; omega, fun lk' ys G6 pm6 f6 e6 k6 S6 => fin lk' ys G6 pm6 f6 e6 k6 S6⟩
        · exact ⟨s, cl, _, o, sv us, rfl, S2', by omega, k2' _ _ os hoG, os, by rw [sv_len]; omega, fun lk' ys G6 pm6 f6 e6 k6 S6 => fin lk' ys G6 pm6 f6 e6 k6 S6⟩
        · have i0 : ¬ ((i : Nat) : Int) = 0 := of_decide_eq_false c
          obtain ⟨l, el, pl⟩ := elk (by omega)
          exact ⟨lk, l, rfl, lks, lkf, k2' _ _ lks el, pl, k2', S2'.mono (by omega)⟩
      rintro σ' G6 ⟨lk', l', rfl, lks', lkf', el', pl', k6, S6⟩
      have ef9 := k6 _ _ fas ef
      refine ⟨tyL ef9, _, _, Sq.l (k6 _ _ ps hpG), atI_nat (sv_get gt), _, Sq.l el', fun q1 hq1 => ⟨sl_of (n := 4) rfl, fun a1 ha1 => ?_⟩⟩
      have ef10 := (upd_ne (o := .tup [V.str (S ts[i]), ov bel, .int (rm : Nat), .ref q1]) (ne_of_none ((upd_ne (o := .lst (sv l')) (ne_of_none ef9 hq1)).trans ef9) ha1)).trans ((upd_ne (o := .lst (sv l')) (ne_of_none ef9 hq1)).trans ef9)
      refine ⟨_, ef10, by rw [List.length_map, sl_big]; omega, ?_⟩
      have S10 := (S6.new (o := .lst (sv l')) hq1).new (o := .tup [V.str (S ts[i]), ov bel, .int (rm : Nat), .ref q1]) ha1
      have q1s := S6.ne hq1
      have q1f : q1 ≠ fa := (ne_of_none ef9 hq1).symm
      have a1q : q1 ≠ a1 := ne_of_none upd_same ha1
      have a1f : a1 ≠ fa := fun z => by rw [z, upd_ne q1f.symm, ef9] at ha1; cases ha1
      have kE : ∀ b o', b ≠ s → b ≠ fa → G b = some o' → upd (upd (upd G6 q1 (.lst (sv l'))) a1 (.tup [V.str (S ts[i]), ov bel, .int (rm : Nat), .ref q1])) fa (.lst ((zs.map fun z => V.ref z.1) ++ [V.ref a1])) b = some o' := fun b o' n1 n2 e => by
        have e9 := k6 _ _ n1 e
        have e10 := (upd_ne (o := .lst (sv l')) (ne_of_none e9 hq1)).trans e9
        rw [upd_ne n2]
        exact (upd_ne (ne_of_none e10 ha1)).trans e10
      refine ⟨lk', _, _, _, zs ++ [(a1, q1, ⟨ts[i], bel, rm, l'⟩)], by rw [List.length_append, lz]; rfl, rfl, lks', lkf', fun _ => ⟨l', ?_, pl'⟩, ?_, ?_, fun z hz' => ?_, kput (kG.trans (k6.trans ((Keep.new hq1).trans (Keep.new ha1)))), kE _ _ bhs bhf ebG, (S10.put fas fac).mono (by omega)⟩
      · have e10 := (upd_ne (o := .lst (sv l')) (ne_of_none el' hq1)).trans el'
        rw [upd_ne lkf']
        exact (upd_ne (ne_of_none e10 ha1)).trans e10
      · rw [List.map_append]
        refine made.step ?_ ?_ rm99 pl'
        · rw [List.length_map, lz]; exact gt
        · rw [List.length_map, lz]; exact hbel
      · rw [upd_same, List.map_append]; rfl
      · rcases List.mem_append.mp hz' with hz' | hz'
        · obtain ⟨h1, h2, h3, h4⟩ := hz z hz'
          obtain ⟨h5, h6⟩ := zs_ z hz'
          exact ⟨kE _ _ h5 h6 h1, kE _ _ h3 h4 h2, h3, h4⟩
        · rw [List.mem_singleton.mp hz']
          exact ⟨(upd_ne a1f).trans upd_same, (upd_ne q1f).trans ((upd_ne a1q).trans upd_same), q1s, q1f⟩
    obtain ⟨lk, y8, y9, y10, zs, lz, rfl, lks, lkf, elk, made, ef, hz, kG, ebG, SG⟩ := hW
    refine ⟨s, cl, _, fa, _, rfl, SG, by omega, ef, fas, by rw [List.length_map]; omega, fun ra xs2 G2 pm2 f2 e2 k2 S2' => ?_⟩
    obtain ⟨zs2, pz, rfl⟩ := perm_lift pm2.symm zs rfl
    have row1 : ∀ z ∈ zs, z.1 ≠ s := fun z hm => by
      have e1 := (hz z hm).1
      obtain ⟨ns, x1, x2, x3, x4, e2, _⟩ := SG.ex
      exact fun e => (by rw [e, e2] at e1; cases e1)
    refine q ra (zs2.map (·.2.2)) (zs.map (·.2.2)) G2 made (by rw [List.length_map]; exact lz) (pz.map _) ⟨zs2.map fun z => (z.1, z.2.2), by rw [List.map_map]; rfl, by rw [List.map_map]; exact e2, fun z hz' => ?_⟩ (kG.free (SG.ne f2) f2) (kG.trans k2) (S2'.mono (by omega))
    obtain ⟨y, hy, rfl⟩ := List.mem_map.mp hz'
    have ym := pz.mem_iff.mp hy
    obtain ⟨h1, h2, h3, h4⟩ := hz y ym
    exact ⟨y.2.1, k2 _ _ (row1 y ym) h1, k2 _ _ h3 h2⟩
def sp__law_thing_rows (K : PySem.W.Frag) : Sp := fun vs H Q _ => ∃ (s cl : Addr) (n : Nat) (p o : Addr) (ts us : List Tx), vs = [.ref s, .ref p, .ref o] ∧ Sto s cl n H ∧ n + 2000 < 1000000000000 ∧ H p = some (.lst (sv ts)) ∧ H o = some (.lst (sv us)) ∧ p ≠ s ∧ o ≠ s ∧
  1 ≤ ts.length ∧ ts.length ≤ 8 ∧ us.length ≤ 10 ∧
  ∀ (r : Addr) (U : List (Tx × Tx)) H', (U.map (·.1)).Perm us → (∀ u ∈ U, u.2 ∈ ts) → ObjL ThO H' r U → H r = none → Keep s H H' → Sto s cl (n + 2000) H' → Q (.ref r) H'
theorem sc__law_thing_rows : FnScope ["store", "towns", "things", "spots", "thing", "k"] ["store", "towns", "things"] (defScope (topS 54)) := ⟨rfl, rfl, rfl, by decide +kernel, rfl, by decide +kernel, by decide +kernel⟩
theorem ok__law_thing_rows {P : Program} {w : World} {K : PySem.W.Frag} {mg : Str → Option Value} {base : Heap} (T : Top K mg) : FnOk P w K mg base CX0 4 T.a__law_thing_rows T.fd__law_thing_rows ["store", "towns", "things"] (sp__law_thing_rows K) := by
  refine T.F__law_thing_rows.ok (k := 3) sc__law_thing_rows (fun vs H Q E h => ?_) (fun cdv A outer s0 H vs Q E hr h => ?_)
  · obtain ⟨s, cl, n, p, o, ts, us, rfl, _⟩ := h; rfl
  · have sc := sc__law_thing_rows
    refine ⟨_, (pss_cons (ps_set (i := 3) sc.nd rfl (by first | exact Or.inl rfl | exact Or.inr rfl) (pe_lc (own := [("thing", 4)]) rfl sc.nd (ki_seq (K := K) rfl (xv 2)) (blkOk_by (N := ["store", "towns", "things", "spots", "thing", "k"]) (sc := defScope (topS 54)) (by decide +kernel)) (fun _ _ _ _ _ => (pg_name (i := 4) sc.nd rfl (by first | exact Or.inl rfl | exact Or.inr rfl))) (fun _ _ _ _ _ => pts_nil) (fun _ _ _ _ _ => (pe_ix (kix (K := K) rfl) (xv 1) (pe_un un_neg pe_int) (fun _ _ => rfl)))))
      (xss_cut (xs_if (pt_not (xt (pe_call (ok__law_yes T) (hr.mono (by decide)) (by rfl) T.g__law_yes T.F__law_yes.kp T.b__law_yes .nil pass0 (pa_cons (xv 0) (pa_cons pe_int pa_nil))))) (pss_one (ps_set (i := 3) sc.nd rfl (by first | exact Or.inl rfl | exact Or.inr rfl) (pe_lc (own := [("thing", 4)]) rfl sc.nd (ki_seq (K := K) rfl (xv 2)) (blkOk_by (N := ["store", "towns", "things", "spots", "thing", "k"]) (sc := defScope (topS 54)) (by decide +kernel)) (fun _ _ _ _ _ => (pg_name (i := 4) sc.nd rfl (by first | exact Or.inl rfl | exact Or.inr rfl))) (fun _ _ _ _ _ => pts_nil) (fun _ _ _ _ _ => (pe_call (ok__law_pick T) (hr.mono (by decide)) (by rfl) T.g__law_pick T.F__law_pick.kp T.b__law_pick .nil pass0 (pa_cons (xv 0) (pa_cons (xv 1) pa_nil))))))) pss_nil)
      (pss_one (ps_ret (pe_call (ok__law_order T) (hr.mono (by decide)) (by rfl) T.g__law_order T.F__law_order.kp T.b__law_order .nil pass0 (pa_cons (xv 0) (pa_cons (pe_lc (own := [("k", 5)]) rfl sc.nd (pi_range1 (by rfl) T.n_range (pa_cons (pe_callB (kc_len (K := K) rfl) (by rfl) T.n_len (by decide +kernel) (pa_cons (xv 2) pa_nil)) pa_nil)) (blkOk_by (N := ["store", "towns", "things", "spots", "thing", "k"]) (sc := defScope (topS 54)) (by decide +kernel)) (fun _ _ _ _ _ => (pg_name (i := 5) sc.nd rfl (by first | exact Or.inl rfl | exact Or.inr rfl))) (fun _ _ _ _ _ => pts_nil) (fun _ _ _ _ _ => (pe_tup (pa_cons (pe_ix (kix (K := K) rfl) (xv 2) (xv 5) (fun _ _ => rfl)) (pa_cons (pe_ix (kix (K := K) rfl) (xv 3) (xv 5) (fun _ _ => rfl)) pa_nil))))) pa_nil))))))), ?_⟩
    obtain ⟨s, cl, n, p, o, ts, us, rfl, St, hn, hp, ho, ps, os, t1, t8, u10, q⟩ := h
    have tl : ts.length - 1 < ts.length := by omega
    have glast : (sv ts)[(sv ts).length - 1]? = some (.str (S ts[ts.length - 1])) := by rw [sv_len]; exact sv_get (List.getElem?_eq_getElem tl)
    dsimp only [tSeq, tAsg, gName]
    refine tLc_map (xs := sv us) (fun _ => .str (S ts[ts.length - 1])) ?_ (Lt.l ho) ?_ ?_ ?_ ?_ <;> try (first | exact fun R h => h | exact fun _ => rfl)
    · rw [sv_len]; omega
    · intro D G x hD s1 hx Q' go
      exact ⟨1, rfl, _, _, Sq.l (s1 _ _ hp), at_last glast, go G (Same.refl _)⟩
    intro sp0 H1 s1 f1 e1
    have esp : (sv us).map (fun _ => V.str (S ts[ts.length - 1])) = sv (us.map fun _ => ts[ts.length - 1]) := by unfold sv; rw [List.map_map, List.map_map]; rfl
    rw [esp] at e1
    have S1 := St.same s1
    have k1 : Keep s H H1 := Same.keep s1
    refine ⟨fun σ' G => ∃ (sp : Addr) (ss : List Tx) (y : Option V), σ' = [some (.ref s), some (.ref p), some (.ref o), some (.ref sp), y, none] ∧ ss.length = us.length ∧ (∀ t ∈ ss, t ∈ ts) ∧ sp ≠ s ∧ G sp = some (.lst (sv ss)) ∧ Keep s H G ∧ Sto s cl (n + 20) G, ?_, ?_⟩
    · refine ⟨s, cl, n, _, rfl, S1, by omega, by decide, fun b G k2 S2 => ⟨fun _ => ?_, fun _ => ?_⟩⟩
      · have k12 := k1.trans k2
        have hoG := k12 _ _ os ho
        dsimp only [tAsg, gName]
        refine tLc_lt ?_ (fun D i G' => ∃ ss : List Tx, ss.length = i ∧ (∀ t ∈ ss, t ∈ ts) ∧ Keep s G G' ∧ Sto s cl (n + 1 + i) G' ∧ G' D = some (.lst (sv ss))) (Lt.l hoG)
          (fun D hD => ⟨[], rfl, fun z h => (by cases h), Keep.new hD, S2.new hD, upd_same⟩) (fun D i G' hD e => ?_) (fun D i x G' hD hx e => ?_) (fun D G' hD e => ?_) <;> try (first | exact fun R h => h)
        · obtain ⟨ss, _, _, k, _⟩ := e
          rw [k _ _ os hoG, hoG]
        · obtain ⟨ss, ls, hs, k, SD, dG⟩ := e
          have hil := (List.getElem?_eq_some_iff.mp hx).1
          rw [sv_len] at hil
          refine ⟨rfl, ?_⟩
          simp only [tYes, ↓reduceIte]
          have Ds := S2.ne hD
          have Dc := S2.nec hD
          refine ⟨s, cl, _, SD, by omega, .inr ⟨p, sv ts, rfl, k _ _ ps (k12 _ _ ps hp), ps, fun e => ?_, by rw [sv_len]; omega, fun v G2 hv k3 S3 => ?_⟩⟩
          · have := congrArg List.length e; rw [sv_len, List.length_nil] at this; omega
          · obtain ⟨t, tm, rfl⟩ := sv_mem hv
            refine ⟨_, k3 _ _ Ds dG, by rw [sv_len, sl_big]; omega, ss ++ [t], by rw [List.length_append, ls]; rfl, fun z hz => ?_, fun b o n1 e => ?_, S3.put Ds Dc, by rw [upd_same, sv_app]; rfl⟩
            · rcases List.mem_append.mp hz with hz | hz
              · exact hs z hz
              · rw [List.mem_singleton.mp hz]; exact tm
            · have e2 := k3 _ _ n1 (k _ _ n1 e)
              exact (upd_ne (ne_of_none e hD)).trans e2
        · obtain ⟨ss, ls, hs, k, SD, dG⟩ := e
          rw [sv_len] at ls SD
          exact ⟨D, ss, _, rfl, ls, hs, S2.ne hD, dG, k12.trans k, SD.mono (by omega)⟩
      · exact ⟨sp0, _, _, rfl, by rw [List.length_map], fun t ht => by obtain ⟨_, _, rfl⟩ := List.mem_map.mp ht; exact List.getElem_mem tl, St.ne f1, k2 _ _ (St.ne f1) e1, k1.trans k2, S2.mono (by omega)⟩
    rintro σ' G ⟨sp, ss, y, rfl, ls, hs, sps, esp, kG, SG⟩
    have hoG := kG _ _ os ho
    refine ⟨_, Sq.l hoG, _, rfl, by rw [sv_len]; omega, by rw [sv_len]; omega, fun D hD => ?_⟩
    rw [Int.toNat_natCast, sv_len]
    refine lc_rng (lo := 0) (n := us.length) (fun i G' => ∃ ys : List (Addr × (Tx × Tx)), ys.map (·.2) = (us.zip ss).take i ∧ Keep D G G' ∧ G' D = some (.lst (ys.map fun z => V.ref z.1)) ∧ ∀ z ∈ ys, ThO G' z.1 z.2 ∧ z.1 ≠ D) (fun _ => rfl)
      ⟨[], by simp, fun b o n e => (upd_ne n).trans e, upd_same, fun z h => (by cases h)⟩ (fun i G' hi e => ?_) fun G' e => ?_
    · obtain ⟨ys, ey, k, dG, hy⟩ := e
      have gu : us[i]? = some us[i] := List.getElem?_eq_getElem hi
      have gs : ss[i]? = some ss[i] := List.getElem?_eq_getElem (by omega)
      have gz : (us.zip ss)[i]? = some (us[i], ss[i]) := by
        rw [List.getElem?_eq_getElem (by rw [List.length_zip]; omega), List.getElem_zip]
      have e1 := k _ _ (ne_of_none hoG hD) hoG
      have e2 := k _ _ (ne_of_none esp hD) esp
      rw [Int.zero_add]
      have ly : ys.length ≤ 10 := by have := congrArg List.length ey; rw [List.length_map, List.length_take] at this; omega
      refine ⟨_, _, Sq.l e1, atI_nat (sv_get gu), _, _, Sq.l e2, atI_nat (sv_get gs), sl_of (n := 2) rfl, fun a ha => ?_⟩
      have aD : a ≠ D := fun z => by rw [z, dG] at ha; cases ha
      refine ⟨_, (upd_ne aD.symm).trans dG, by rw [List.length_map, sl_big]; omega, ys ++ [(a, (us[i], ss[i]))], by rw [List.map_append, ey, take_succ_get gz]; rfl, fun b o n1 e => ?_, by rw [upd_same, List.map_append]; rfl, fun z hz => ?_⟩
      · have e3 := k _ _ n1 e
        exact (upd_ne n1).trans ((upd_ne (ne_of_none e3 ha)).trans e3)
      · rcases List.mem_append.mp hz with hz | hz
        · obtain ⟨h1, h2⟩ := hy z hz
          exact ⟨(upd_ne h2).trans ((upd_ne (ne_of_none h1 ha)).trans h1), h2⟩
        · rw [List.mem_singleton.mp hz]
          exact ⟨(upd_ne aD).trans upd_same, aD⟩
    obtain ⟨ys, ey, k, dG, hy⟩ := e
    rw [List.take_of_length_le (by rw [List.length_zip]; omega)] at ey
    have sGG : Same G G' := fun b o e => k b o (ne_of_none e hD) e
    have ly : ys.length ≤ 10 := by have := congrArg List.length ey; rw [List.length_map, List.length_zip] at this; omega
    refine ⟨s, cl, _, D, _, rfl, SG.same sGG, by omega, dG, SG.ne hD, by rw [List.length_map]; omega, fun ra xs2 G2 pm2 f2 e2 k2 S2' => ?_⟩
    obtain ⟨ys2, py, rfl⟩ := perm_lift pm2.symm ys rfl
    have row2 : ∀ z ∈ ys, z.1 ≠ s := fun z hm => by
      have e1 := (hy z hm).1
      obtain ⟨ns, x1, x2, x3, x4, e2, _⟩ := (SG.same sGG).ex
      exact fun e => (by rw [ThO, e, e2] at e1; cases e1)
    have uz : ys.map (·.2.1) = us := by
      have := congrArg (List.map Prod.fst) ey
      rw [List.map_map, List.map_fst_zip (by omega)] at this
      exact this
    refine q ra (ys2.map (·.2)) G2 ?_ (fun u hu => ?_) ⟨ys2, rfl, e2, fun z hz' => ?_⟩ (kG.free (SG.ne (sGG.free f2)) (sGG.free f2)) (kG.trans ((Same.keep sGG).trans k2)) (S2'.mono (by omega))
    · rw [List.map_map, ← uz]
      exact py.map _
    · obtain ⟨z, hz', rfl⟩ := List.mem_map.mp hu
      have : z.2 ∈ us.zip ss := ey ▸ List.mem_map.mpr ⟨z, py.mem_iff.mp hz', rfl⟩
      exact hs _ (List.of_mem_zip this).2
    · have ym := py.mem_iff.mp hz'
      exact k2 _ _ (row2 z ym) (hy z ym).1
def sp_River___init__ (K : PySem.W.Frag) : Sp := fun vs H Q _ => ∃ (x p o dx : Addr) (R : Rv) (rk : Tx → Nat), vs = [.ref x, .ref p, .ref o] ∧ H x = some (.ins (cA K "River") dx []) ∧ RowsO H p R.T ∧ ThsO H o R.U ∧ R.Ok rk ∧ ∀ H', Keep x H H' → RivO K H' x R → RivN H H' x → Q .non H'
theorem sc_River___init__ : FnScope ["self", "towns", "things", "row", "thing", "town", "number", "landing"] ["self", "towns", "things"] (defScope (clsN (topS 35) 0)) := ⟨rfl, rfl, rfl, by decide +kernel, rfl, by decide +kernel, by decide +kernel⟩
theorem ok_River___init__ {P : Program} {w : World} {K : PySem.W.Frag} {mg : Str → Option Value} {base : Heap} (T : Top K mg) : FnOk P w K mg base CX0 5 T.a_River___init__ T.fd_River___init__ ["self", "towns", "things"] (sp_River___init__ K) := by
  refine T.F_River___init__.ok (k := 4) sc_River___init__ (fun vs H Q E h => ?_) (fun cdv A outer s0 H vs Q E hr h => ?_)
  · obtain ⟨x, p, o, dx, R, rk, rfl, _⟩ := h; rfl
  · have sc := sc_River___init__
    refine ⟨_, (pss_cons (ps_expr (pe_call (ok_check_rows T) (hr.mono (by decide)) (by rfl) T.g_check_rows T.F_check_rows.kp T.b_check_rows .nil pass0 (pa_cons (xv 1) (pa_cons (xv 2) pa_nil))))
      (pss_cons (ps_fld (xv 0) (pe_callB (kc_sort (K := K) rfl) (by rfl) T.n_sorted (by decide +kernel) (pa_cons (pe_lc (own := [("row", 3)]) rfl sc.nd (ki_seq (K := K) rfl (xv 1)) (blkOk_by (N := ["self", "towns", "things", "row", "thing", "town", "number", "landing"]) (sc := defScope (clsN (topS 35) 0)) (by decide +kernel)) (fun _ _ _ _ _ => (pg_name (i := 3) sc.nd rfl (by first | exact Or.inl rfl | exact Or.inr rfl))) (fun _ _ _ _ _ => pts_nil) (fun _ _ _ _ _ => (pe_ix (kix (K := K) rfl) (xv 3) pe_int (fun _ _ => rfl)))) pa_nil)) rfl)
      (pss_cons (ps_fld (xv 0) (pe_callB (kc_sort (K := K) rfl) (by rfl) T.n_sorted (by decide +kernel) (pa_cons (pe_lc (own := [("row", 3)]) rfl sc.nd (ki_seq (K := K) rfl (xv 2)) (blkOk_by (N := ["self", "towns", "things", "row", "thing", "town", "number", "landing"]) (sc := defScope (clsN (topS 35) 0)) (by decide +kernel)) (fun _ _ _ _ _ => (pg_name (i := 3) sc.nd rfl (by first | exact Or.inl rfl | exact Or.inr rfl))) (fun _ _ _ _ _ => pts_nil) (fun _ _ _ _ _ => (pe_ix (kix (K := K) rfl) (xv 3) pe_int (fun _ _ => rfl)))) pa_nil)) rfl)
      (pss_cons (ps_fld (xv 0) (pe_dcP (e0 := .dK []) (own := [("row", 3)]) (.inl rfl) (hu0_of hr) rfl sc.nd (ki_seq (K := K) rfl (xv 1)) (blkOk_by (N := ["self", "towns", "things", "row", "thing", "town", "number", "landing"]) (sc := defScope (clsN (topS 35) 0)) (by decide +kernel)) (fun _ _ _ _ _ => (pg_name (i := 3) sc.nd rfl (by first | exact Or.inl rfl | exact Or.inr rfl))) (fun _ _ _ _ _ => pts_nil) (fun _ _ _ _ _ => (pe_ix (kix (K := K) rfl) (xv 3) pe_int (fun _ _ => rfl))) (fun _ _ _ _ _ => (pe_ix (kix (K := K) rfl) (xv 3) pe_int (fun _ _ => rfl)))) rfl)
      (pss_cons (ps_fld (xv 0) (pe_dcP (e0 := .dK []) (own := [("row", 3)]) (.inl rfl) (hu0_of hr) rfl sc.nd (ki_seq (K := K) rfl (xv 1)) (blkOk_by (N := ["self", "towns", "things", "row", "thing", "town", "number", "landing"]) (sc := defScope (clsN (topS 35) 0)) (by decide +kernel)) (fun _ _ _ _ _ => (pg_name (i := 3) sc.nd rfl (by first | exact Or.inl rfl | exact Or.inr rfl))) (fun _ _ _ _ _ => pts_nil) (fun _ _ _ _ _ => (pe_ix (kix (K := K) rfl) (xv 3) pe_int (fun _ _ => rfl))) (fun _ _ _ _ _ => (pe_ix (kix (K := K) rfl) (xv 3) pe_int (fun _ _ => rfl)))) rfl)
      (pss_cons (ps_fld (xv 0) (pe_dcP (e0 := .dK []) (own := [("row", 3)]) (.inl rfl) (hu0_of hr) rfl sc.nd (ki_seq (K := K) rfl (xv 1)) (blkOk_by (N := ["self", "towns", "things", "row", "thing", "town", "number", "landing"]) (sc := defScope (clsN (topS 35) 0)) (by decide +kernel)) (fun _ _ _ _ _ => (pg_name (i := 3) sc.nd rfl (by first | exact Or.inl rfl | exact Or.inr rfl))) (fun _ _ _ _ _ => pts_nil) (fun _ _ _ _ _ => (pe_ix (kix (K := K) rfl) (xv 3) pe_int (fun _ _ => rfl))) (fun _ _ _ _ _ => (pe_callTy (kc_list (K := K) rfl rfl) (by rfl) T.n_list (by decide +kernel) (pa_cons (pe_ix (kix (K := K) rfl) (xv 3) pe_int (fun _ _ => rfl)) pa_nil)))) rfl)
      (pss_cons (ps_fld (xv 0) (pe_dcP (e0 := .dK []) (own := [("row", 3)]) (.inl rfl) (hu0_of hr) rfl sc.nd (ki_seq (K := K) rfl (xv 2)) (blkOk_by (N := ["self", "towns", "things", "row", "thing", "town", "number", "landing"]) (sc := defScope (clsN (topS 35) 0)) (by decide +kernel)) (fun _ _ _ _ _ => (pg_name (i := 3) sc.nd rfl (by first | exact Or.inl rfl | exact Or.inr rfl))) (fun _ _ _ _ _ => pts_nil) (fun _ _ _ _ _ => (pe_ix (kix (K := K) rfl) (xv 3) pe_int (fun _ _ => rfl))) (fun _ _ _ _ _ => (pe_ix (kix (K := K) rfl) (xv 3) pe_int (fun _ _ => rfl)))) rfl)
      (pss_cons (ps_fld (xv 0) (pe_dcP (e0 := .dK []) (own := [("row", 3)]) (.inl rfl) (hu0_of hr) rfl sc.nd (ki_seq (K := K) rfl (xv 2)) (blkOk_by (N := ["self", "towns", "things", "row", "thing", "town", "number", "landing"]) (sc := defScope (clsN (topS 35) 0)) (by decide +kernel)) (fun _ _ _ _ _ => (pg_name (i := 3) sc.nd rfl (by first | exact Or.inl rfl | exact Or.inr rfl))) (fun _ _ _ _ _ => pts_nil) (fun _ _ _ _ _ => (pe_ix (kix (K := K) rfl) (xv 3) pe_int (fun _ _ => rfl))) (fun _ _ _ _ _ => (pe_call (ok_towns_from T) (hr.mono (by decide)) (by rfl) T.g_towns_from T.F_towns_from.kp T.b_towns_from .nil pass0 (pa_cons (kfld (K := K) rfl 0) (pa_cons (pe_ix (kix (K := K) rfl) (xv 3) pe_int (fun _ _ => rfl)) pa_nil))))) rfl)
      (pss_cons (ps_fld (xv 0) (pe_lc2 (own := [("thing", 4), ("town", 5)]) (vs1 := [5]) rfl sc.nd (ki_seq (K := K) rfl (kfld (K := K) rfl 0)) (blkOk_by (N := ["self", "towns", "things", "row", "thing", "town", "number", "landing"]) (sc := defScope (clsN (topS 35) 0)) (by decide +kernel)) (by decide) (fun _ _ _ _ _ => (pg_name (i := 4) sc.nd rfl (by first | exact Or.inl rfl | exact Or.inr rfl))) (fun _ _ _ _ _ => pts_nil) (fun _ _ _ _ _ => (ki_seq (K := K) rfl (pe_dget (hu_of hr) (kfld (K := K) rfl 0) (xv 4) (fun _ _ => rfl)))) (fun _ _ _ _ _ => (pg_name (i := 5) sc.nd rfl (by first | exact Or.inl rfl | exact Or.inr rfl))) (fun _ _ _ _ _ => pts_nil) (fun _ _ _ _ _ => (pe_tup (pa_cons (xv 4) (pa_cons (xv 5) pa_nil))))) rfl)
      (pss_one (ps_fld (xv 0) (pe_dcP (e0 := .dT []) (own := [("number", 6), ("landing", 7)]) (.inr rfl) (hu0_of hr) rfl sc.nd (ki_enum (K := K) rfl (by rfl) T.n_enumerate (pa_cons (kfld (K := K) rfl 0) pa_nil)) (blkOk_by (N := ["self", "towns", "things", "row", "thing", "town", "number", "landing"]) (sc := defScope (clsN (topS 35) 0)) (by decide +kernel)) (fun _ _ _ _ _ => (kg_tup (K := K) (n := 2) rfl rfl (pgs_cons (pg_name (i := 6) sc.nd rfl (by first | exact Or.inl rfl | exact Or.inr rfl)) (pgs_cons (pg_name (i := 7) sc.nd rfl (by first | exact Or.inl rfl | exact Or.inr rfl)) pgs_nil)))) (fun _ _ _ _ _ => pts_nil) (fun _ _ _ _ _ => (xv 7)) (fun _ _ _ _ _ => (xv 6))) rfl))))))))))), ?_⟩
    obtain ⟨x, p, o, dx, R, rk, rfl, hx, hp, ho, k, q⟩ := h
    have t8 := k.t8
    have u10 := k.u10
    have lt : R.tn.length = R.T.length := List.length_map _
    have lu : R.un.length = R.U.length := List.length_map _
    refine ⟨p, o, R, rk, rfl, hp, ho, k, fun H1 s1 => ?_⟩
    have ltn : (R.T.map (·.t)).length < 64 := by rw [List.length_map]; omega
    have lun : (R.U.map (·.1)).length < 64 := by rw [List.length_map]; omega
    dsimp only [tSeq, sFld, L2.start]
    refine sorted_names ?_ (nms_same (rows_nms hp) s1) ltn ?_ ?_ ?_ <;> try (first | exact fun R h => h | exact fun _ => rfl)
    intro a1 H2 s f e
    have t0 : Stg (cA K "River") x dx H H1 [] := ⟨Same.keep s1, s1 _ _ hx⟩
    have n1 := t0.ne f
    have F1 := t0.k.free n1 f
    refine ⟨x, _, dx, _, rfl, s _ _ t0.i, T.in_River, T.na_River__towns, by decide, ?_⟩
    rw [fl1]
    obtain ⟨H3, eH⟩ : ∃ G, G = upd H2 x (.ins (cA K "River") dx (fl [a1])) := ⟨_, rfl⟩
    rw [← eH]
    have t1 : Stg (cA K "River") x dx H H3 (fl [a1]) := eH ▸ t0.on s
    have A1 : H3 a1 = some (.lst (sv (tsort R.tn))) := by rw [eH, upd_ne n1]; exact e
    clear eH e f s t0
    -- _things
    refine sorted_names ?_ (ths_nms (ths_keepI ho t1.k hx)) lun ?_ ?_ ?_ <;> try (first | exact fun R h => h | exact fun _ => rfl)
    intro a2 H4 s f e
    have n2 := t1.ne f
    have F2 := t1.k.free n2 f
    refine ⟨x, _, dx, _, rfl, s _ _ t1.i, T.in_River, T.na_River__things, by show (1 : Nat) < 1000; decide, ?_⟩
    rw [fl2]
    obtain ⟨H5, eH⟩ : ∃ G, G = upd H4 x (.ins (cA K "River") dx (fl [a1, a2])) := ⟨_, rfl⟩
    rw [← eH]
    have t2 : Stg (cA K "River") x dx H H5 (fl [a1, a2]) := eH ▸ t1.on s
    have A1 : H5 a1 = _ := eH ▸ car A1 n1 s
    have A2 : H5 a2 = some (.lst (sv (tsort R.un))) := by rw [eH, upd_ne n2]; exact e
    clear eH e f s t1
    -- _next_towns
    obtain ⟨zs, ez, hl, hz⟩ := rows_keepI hp t2.k hx
    have lz : zs.length = R.T.length := by rw [← ez, List.length_map]
    have ndz : (zs.map fun z => z.2.t).Nodup := by have := k.tnd; unfold Rv.tn at this; rw [← ez, List.map_map] at this; exact this
    have fewz : zs.length ≤ 1000 := by omega
    refine yDc_rows (m := 1) (k := fun w : Row => w.t) (v := fun w => ov w.a) ?_ hl (row_tup hz) ndz fewz ?_ ?_ ?_ <;> try (first | exact fun R h => h | exact fun _ => rfl)
    intro a3 f
    rw [show (zs.map fun z => ((Sum.inr (S z.2.t) : Key), ov z.2.a)) = nxtD R.T by unfold nxtD; rw [← ez, List.map_map]; rfl]
    have s := same_new (o := .dK (nxtD R.T)) f
    have n3 := t2.ne f
    refine ⟨x, _, dx, _, rfl, s _ _ t2.i, T.in_River, T.na_River__next_towns, by show (2 : Nat) < 1000; decide, ?_⟩
    rw [fl3]
    obtain ⟨H6, eH⟩ : ∃ G, G = upd (upd H5 a3 (.dK (nxtD R.T))) x (.ins (cA K "River") dx (fl [a1, a2, a3])) := ⟨_, rfl⟩
    rw [← eH]
    have t3 : Stg (cA K "River") x dx H H6 (fl [a1, a2, a3]) := eH ▸ t2.on s
    have A1 : H6 a1 = _ := eH ▸ car A1 n1 s
    have A2 : H6 a2 = _ := eH ▸ car A2 n2 s
    have A3 : H6 a3 = some (.dK (nxtD R.T)) := by rw [eH, upd_ne n3]; exact upd_same
    clear eH f s t2 hz hl ez lz ndz fewz zs
    -- _rooms
    obtain ⟨zs, ez, hl, hz⟩ := rows_keepI hp t3.k hx
    have lz : zs.length = R.T.length := by rw [← ez, List.length_map]
    have ndz : (zs.map fun z => z.2.t).Nodup := by have := k.tnd; unfold Rv.tn at this; rw [← ez, List.map_map] at this; exact this
    have fewz : zs.length ≤ 1000 := by omega
    refine yDc_rows (m := 2) (k := fun w : Row => w.t) (v := fun w => V.int (w.r : Nat)) ?_ hl (row_tup2 hz) ndz fewz ?_ ?_ ?_ <;> try (first | exact fun R h => h | exact fun _ => rfl)
    intro a4 f
    rw [show (zs.map fun z => ((Sum.inr (S z.2.t) : Key), V.int (z.2.r : Nat))) = rmD R.T by unfold rmD; rw [← ez, List.map_map]; rfl]
    have s := same_new (o := .dK (rmD R.T)) f
    have n4 := t3.ne f
    refine ⟨x, _, dx, _, rfl, s _ _ t3.i, T.in_River, T.na_River__rooms, by show (3 : Nat) < 1000; decide, ?_⟩
    rw [fl4]
    obtain ⟨H7, eH⟩ : ∃ G, G = upd (upd H6 a4 (.dK (rmD R.T))) x (.ins (cA K "River") dx (fl [a1, a2, a3, a4])) := ⟨_, rfl⟩
    rw [← eH]
    have t4 : Stg (cA K "River") x dx H H7 (fl [a1, a2, a3, a4]) := eH ▸ t3.on s
    have A1 : H7 a1 = _ := eH ▸ car A1 n1 s
    have A2 : H7 a2 = _ := eH ▸ car A2 n2 s
    have A3 : H7 a3 = _ := eH ▸ car A3 n3 s
    have A4 : H7 a4 = some (.dK (rmD R.T)) := by rw [eH, upd_ne n4]; exact upd_same
    clear eH f s t3 hz hl ez lz ndz fewz zs
    -- _likings
    have fewT : R.T.length ≤ 1000 := by omega
    refine yDc_lk ?_ (rows_keepI hp t4.k hx) k.tnd fewT ?_ ?_ ?_ ?_ <;> try (first | exact fun R h => h | exact fun _ => rfl)
    · intro a q r l G R' e1 e2 e3 go
      exact ⟨_, _, Sq.t e1, at_int (j := 3) rfl e2, _, e3.sq, go⟩
    intro a5 H8 zl s f ezl e hzl
    have F5 : ∀ z ∈ zl, H z.1 = none := fun z m => t4.k.free (t4.ne (hzl z m).2) (hzl z m).2
    have n5 := t4.ne f
    refine ⟨x, _, dx, _, rfl, s _ _ t4.i, T.in_River, T.na_River__likings, by show (4 : Nat) < 1000; decide, ?_⟩
    rw [fl5]
    obtain ⟨H9, eH⟩ : ∃ G, G = upd H8 x (.ins (cA K "River") dx (fl [a1, a2, a3, a4, a5])) := ⟨_, rfl⟩
    rw [← eH]
    have t5 : Stg (cA K "River") x dx H H9 (fl [a1, a2, a3, a4, a5]) := eH ▸ t4.on s
    have A1 : H9 a1 = _ := eH ▸ car A1 n1 s
    have A2 : H9 a2 = _ := eH ▸ car A2 n2 s
    have A3 : H9 a3 = _ := eH ▸ car A3 n3 s
    have A4 : H9 a4 = _ := eH ▸ car A4 n4 s
    have A5 : H9 a5 = some (.dK (lkD zl)) := by rw [eH, upd_ne n5]; exact e
    have L5 : ∀ z ∈ zl, H9 z.1 = some (.lst (sv z.2.l)) ∧ z.1 ≠ x := fun z m => ⟨by rw [eH, upd_ne (t4.ne (hzl z m).2)]; exact (hzl z m).1, t4.ne (hzl z m).2⟩
    clear eH e f s t4 hzl
    -- _sources
    obtain ⟨zs, ez, hl, hz⟩ := ths_keepI ho t5.k hx
    have lz : zs.length = R.U.length := by rw [← ez, List.length_map]
    have ndz : (zs.map fun z => z.2.1).Nodup := by have := k.und; unfold Rv.un at this; rw [← ez, List.map_map] at this; exact this
    have fewz : zs.length ≤ 1000 := by omega
    refine yDc_rows (m := 1) (k := fun u : Tx × Tx => u.1) (v := fun u => V.str (S u.2)) ?_ hl (th_tup hz) ndz fewz ?_ ?_ ?_ <;> try (first | exact fun R h => h | exact fun _ => rfl)
    intro a6 f
    rw [show (zs.map fun z => ((Sum.inr (S z.2.1) : Key), V.str (S z.2.2))) = srcD R.U by unfold srcD; rw [← ez, List.map_map]; rfl]
    have s := same_new (o := .dK (srcD R.U)) f
    have n6 := t5.ne f
    refine ⟨x, _, dx, _, rfl, s _ _ t5.i, T.in_River, T.na_River__sources, by show (5 : Nat) < 1000; decide, ?_⟩
    rw [fl6]
    obtain ⟨H10, eH⟩ : ∃ G, G = upd (upd H9 a6 (.dK (srcD R.U))) x (.ins (cA K "River") dx (fl [a1, a2, a3, a4, a5, a6])) := ⟨_, rfl⟩
    rw [← eH]
    have t6 : Stg (cA K "River") x dx H H10 (fl [a1, a2, a3, a4, a5, a6]) := eH ▸ t5.on s
    have A1 : H10 a1 = _ := eH ▸ car A1 n1 s
    have A2 : H10 a2 = _ := eH ▸ car A2 n2 s
    have A3 : H10 a3 = _ := eH ▸ car A3 n3 s
    have A4 : H10 a4 = _ := eH ▸ car A4 n4 s
    have A5 : H10 a5 = _ := eH ▸ car A5 n5 s
    have L5 : ∀ z ∈ zl, H10 z.1 = some (.lst (sv z.2.l)) ∧ z.1 ≠ x := fun z m => ⟨eH ▸ car (L5 z m).1 (L5 z m).2 s, (L5 z m).2⟩
    have A6 : H10 a6 = some (.dK (srcD R.U)) := by rw [eH, upd_ne n6]; exact upd_same
    clear eH f s t5 hz hl ez lz ndz fewz zs
    -- _paths
    obtain ⟨zs, ez, hl, hz⟩ := ths_keepI ho t6.k hx
    have lz : zs.length = R.U.length := by rw [← ez, List.length_map]
    have ndz : (zs.map fun z => z.2.1).Nodup := by have := k.und; unfold Rv.un at this; rw [← ez, List.map_map] at this; exact this
    have fewz : zs.length ≤ 1000 := by omega
    refine yDc_new (key := fun u : Tx × Tx => u.1) (val := fun u => sv (R.path u.2)) ?_ hl (fun z m => ⟨_, hz z m, rfl⟩) ndz fewz ?_ ?_ ?_ ?_ <;> try (first | exact fun R h => h | exact fun _ => rfl)
    · intro z zm D G R' hD kD go
      have xD : x ≠ D := ne_of_none t6.i hD
      have zD : G z.1 = some (.tup [.str (S z.2.1), .str (S z.2.2)]) := kD _ _ (ne_of_none (hz z zm) hD) (hz z zm)
      refine ⟨_, dx, _, _, kD _ _ xD t6.i, T.in_River, T.na_River__next_towns, rfl, _, _, Sq.t zD, at_int (j := 1) rfl rfl, ?_⟩
      refine ⟨a3, some z.2.2, R.T, rk, rfl, kD _ _ (ne_of_none A3 hD) A3, k.down, by omega, fun u e => ?_, fun r G' sG fr er => go r G' sG fr er⟩
      cases e
      exact k.sp z.2 (by rw [← ez]; exact List.mem_map.mpr ⟨z, zm, rfl⟩)
    intro a7 H11 zp s f ezp e hzp
    have F7 : ∀ z ∈ zp, H z.1 = none := fun z m => t6.k.free (t6.ne (hzp z m).2) (hzp z m).2
    have n7 := t6.ne f
    refine ⟨x, _, dx, _, rfl, s _ _ t6.i, T.in_River, T.na_River__paths, by show (6 : Nat) < 1000; decide, ?_⟩
    rw [fl7]
    obtain ⟨H12, eH⟩ : ∃ G, G = upd H11 x (.ins (cA K "River") dx (fl [a1, a2, a3, a4, a5, a6, a7])) := ⟨_, rfl⟩
    rw [← eH]
    have t7 : Stg (cA K "River") x dx H H12 (fl [a1, a2, a3, a4, a5, a6, a7]) := eH ▸ t6.on s
    have A1 : H12 a1 = _ := eH ▸ car A1 n1 s
    have A2 : H12 a2 = _ := eH ▸ car A2 n2 s
    have A3 : H12 a3 = _ := eH ▸ car A3 n3 s
    have A4 : H12 a4 = _ := eH ▸ car A4 n4 s
    have A5 : H12 a5 = _ := eH ▸ car A5 n5 s
    have L5 : ∀ z ∈ zl, H12 z.1 = some (.lst (sv z.2.l)) ∧ z.1 ≠ x := fun z m => ⟨eH ▸ car (L5 z m).1 (L5 z m).2 s, (L5 z m).2⟩
    have A6 : H12 a6 = _ := eH ▸ car A6 n6 s
    have A7 : H12 a7 = some (.dK (paD zp)) := by rw [eH, upd_ne n7]; exact e
    have L7 : ∀ z ∈ zp, H12 z.1 = some (.lst (sv (R.path z.2.2))) ∧ z.1 ≠ x := fun z m => ⟨by rw [eH, upd_ne (t6.ne (hzp z m).2)]; exact (hzp z m).1, t6.ne (hzp z m).2⟩
    have ezq : zp.map (·.2) = R.U := ezp.trans ez
    clear ezp
    clear eH e f s t6 hzp hz hl ez lz ndz fewz zs
    -- _landings
    have pU : ∀ u ∈ tsort R.un, ∃ z ∈ zp, z.2.1 = u ∧ z.2.2 = R.src u := fun u hu => by
      obtain ⟨y, hy, rfl⟩ := List.mem_map.mp (tsort_mem.mp hu)
      obtain ⟨z, zm, rfl⟩ := List.mem_map.mp (ezq ▸ hy : y ∈ zp.map (·.2))
      exact ⟨z, zm, rfl, (R.src_at k.und hy).symm⟩
    have nP : (zp.map fun z => z.2.1).Nodup := by have := k.und; unfold Rv.un at this; rw [← ezq, List.map_map] at this; exact this
    have fU : (tsort R.un).length ≤ 100 := by rw [tsort_len]; omega
    have fP : ∀ u ∈ tsort R.un, (R.path (R.src u)).length ≤ 100 := fun u _ => Nat.le_trans (pth_len _ _ _) (by omega)
    refine tLc2_pairs (us := tsort R.un) (P := fun u => R.path (R.src u)) ?_ A2 ?_ ?_ ?_ ?_ ?_ fU fP ?_ <;> try (first | exact fun _ => rfl | exact fun _ _ => rfl)
    · exact fun R' h => ⟨_, dx, _, _, t7.i, T.in_River, T.na_River__things, rfl, h⟩
    · intro u hu
      obtain ⟨z, zm, z1, z2⟩ := pU u hu
      refine ⟨z.1, by rw [← z2]; exact (L7 z zm).1, fun D G R' hD kD go => ?_⟩
      have xD : x ≠ D := ne_of_none t7.i hD
      refine ⟨_, dx, _, _, kD _ _ xD t7.i, T.in_River, T.na_River__paths, rfl, a7, _, rfl, ?_, go⟩
      have g := DGet.k (k := Sum.inr (S u)) (kD _ _ (ne_of_none A7 hD) A7)
      unfold paD at g
      rw [← z1, val_map nP zm] at g
      rw [← z1]
      exact g
    intro a8 H13 zq s f ezl2 e hzq
    have n8 := t7.ne f
    have F8 := t7.k.free n8 f
    refine ⟨x, _, dx, _, rfl, s _ _ t7.i, T.in_River, T.na_River__landings, by show (7 : Nat) < 1000; decide, ?_⟩
    rw [fl8]
    obtain ⟨H14, eH⟩ : ∃ G, G = upd H13 x (.ins (cA K "River") dx (fl [a1, a2, a3, a4, a5, a6, a7, a8])) := ⟨_, rfl⟩
    rw [← eH]
    have t8' : Stg (cA K "River") x dx H H14 (fl [a1, a2, a3, a4, a5, a6, a7, a8]) := eH ▸ t7.on s
    have A1 : H14 a1 = _ := eH ▸ car A1 n1 s
    have A2 : H14 a2 = _ := eH ▸ car A2 n2 s
    have A3 : H14 a3 = _ := eH ▸ car A3 n3 s
    have A4 : H14 a4 = _ := eH ▸ car A4 n4 s
    have A5 : H14 a5 = _ := eH ▸ car A5 n5 s
    have L5 : ∀ z ∈ zl, H14 z.1 = some (.lst (sv z.2.l)) ∧ z.1 ≠ x := fun z m => ⟨eH ▸ car (L5 z m).1 (L5 z m).2 s, (L5 z m).2⟩
    have A6 : H14 a6 = _ := eH ▸ car A6 n6 s
    have A7 : H14 a7 = _ := eH ▸ car A7 n7 s
    have L7 : ∀ z ∈ zp, H14 z.1 = some (.lst (sv (R.path z.2.2))) ∧ z.1 ≠ x := fun z m => ⟨eH ▸ car (L7 z m).1 (L7 z m).2 s, (L7 z m).2⟩
    have A8 : H14 a8 = some (.lst (zq.map fun z => V.ref z.1)) := by rw [eH, upd_ne n8]; exact e
    have L8 : ∀ z ∈ zq, ThO H14 z.1 z.2 ∧ z.1 ≠ x := fun z m => ⟨by rw [eH]; exact (upd_ne (t7.ne (hzq z m).2)).trans (hzq z m).1, t7.ne (hzq z m).2⟩
    clear eH e f s t7 hzq
    -- _numbers
    have fq : zq.length ≤ 10000 := by
      have e1 := congrArg List.length ezl2
      rw [List.length_map] at e1
      have : ∀ (l : List Tx), (l.flatMap (fun u => (R.path (R.src u)).map fun t => (u, t))).length ≤ 8 * l.length := by
        intro l
        induction l with
        | nil => simp
        | cons u r ih =>
          rw [List.flatMap_cons, List.length_append, List.length_map, List.length_cons]
          have : (R.path (R.src u)).length ≤ R.T.length := pth_len _ _ _
          omega
      have := this (tsort R.un)
      rw [tsort_len] at this
      omega
    refine yDc_enum (zs := zq) ?_ A8 (fun z m => (L8 z m).1) fq ?_ ?_ ?_ ?_ <;> try (first | exact fun _ _ => rfl)
    · exact fun R' h => ⟨_, dx, _, _, t8'.i, T.in_River, T.na_River__landings, rfl, h⟩
    intro a9 H15 kvs s f e
    have n9 := t8'.ne f
    refine ⟨x, _, dx, _, rfl, s _ _ t8'.i, T.in_River, T.na_River__numbers, by show (8 : Nat) < 1000; decide, ?_⟩
    rw [fl9]
    refine q _ (t8'.on s).k ⟨dx, a1, a2, a3, a4, a5, a6, a7, a8, a9, upd_same, ⟨car A1 n1 s, car A2 n2 s, car A3 n3 s, car A4 n4 s, ⟨zl, ezl, car A5 n5 s, fun z m => car (L5 z m).1 (L5 z m).2 s⟩, car A6 n6 s, ⟨zp, ezq, car A7 n7 s, fun z m => car (L7 z m).1 (L7 z m).2 s⟩, ⟨zq, ezl2, car A8 n8 s, fun z m => car (L8 z m).1 (L8 z m).2 s⟩, ⟨kvs, (upd_ne n9).trans e⟩⟩⟩ ⟨_, dx, a1, a2, a3, a4, a5, a6, a7, a8, a9, _, _, upd_same, F1, F2, F8, car A5 n5 s, fun p hp b eb => ?_, car A7 n7 s, fun p hp b eb => ?_⟩
    · obtain ⟨z, zm, rfl⟩ := List.mem_map.mp hp
      cases eb
      exact F5 z zm
    · obtain ⟨z, zm, rfl⟩ := List.mem_map.mp hp
      cases eb
      exact F7 z zm
def sp_River_town_rows (K : PySem.W.Frag) : Sp := fun vs H Q _ => ∃ (x : Addr) (R : Rv), vs = [.ref x] ∧ RivO K H x R ∧ R.tn.Nodup ∧ R.T.length ≤ 1000 ∧ ∀ r H', Same H H' → H r = none → ObjL (RowF H) H' r (rowsT R) → Q (.ref r) H'
theorem sc_River_town_rows : FnScope ["self", "town"] ["self"] (defScope (clsN (topS 35) 11)) := ⟨rfl, rfl, rfl, by decide +kernel, rfl, by decide +kernel, by decide +kernel⟩
theorem ok_River_town_rows {P : Program} {w : World} {K : PySem.W.Frag} {mg : Str → Option Value} {base : Heap} (T : Top K mg) : FnOk P w K mg base CX0 5 T.a_River_town_rows T.fd_River_town_rows ["self"] (sp_River_town_rows K) := by
  refine T.F_River_town_rows.ok (k := 4) sc_River_town_rows (fun vs H Q E h => ?_) (fun cdv A outer s0 H vs Q E hr h => ?_)
  · obtain ⟨x, R, rfl, _⟩ := h; rfl
  · have sc := sc_River_town_rows
    refine ⟨_, (pss_one (ps_ret (pe_lc (own := [("town", 1)]) rfl sc.nd (ki_seq (K := K) rfl (kfld (K := K) rfl 0)) (blkOk_by (N := ["self", "town"]) (sc := defScope (clsN (topS 35) 11)) (by decide +kernel)) (fun _ _ _ _ _ => (pg_name (i := 1) sc.nd rfl (by first | exact Or.inl rfl | exact Or.inr rfl))) (fun _ _ _ _ _ => pts_nil) (fun _ _ _ _ _ => (pe_tup (pa_cons (xv 1) (pa_cons (pe_meth (xv 0) T.in_River T.me_River_after (ok_River_after T) (hr.mono (by decide)) T.b_River_after .nil pass0 (pa_cons (xv 1) pa_nil)) (pa_cons (pe_meth (xv 0) T.in_River T.me_River_room (ok_River_room T) (hr.mono (by decide)) T.b_River_room .nil pass0 (pa_cons (xv 1) pa_nil)) (pa_cons (pe_meth (xv 0) T.in_River T.me_River_liking (ok_River_liking T) (hr.mono (by decide)) T.b_River_liking .nil pass0 (pa_cons (xv 1) pa_nil)) pa_nil))))))))), ?_⟩
    obtain ⟨x, R, rfl, hx, nd, few, q⟩ := h
    have hx0 := hx
    obtain ⟨dx, a1, a2, a3, a4, a5, a6, a7, a8, a9, h0, hh⟩ := hx0
    have fl' : (tsort R.tn).length ≤ 1000 := by rw [tsort_len]; unfold Rv.tn; rw [List.length_map]; exact few
    refine tLc_objs (ts := tsort R.tn) (P := fun D G a u => ∃ q, a ≠ D ∧ q ≠ D ∧ G a = some (.tup [.str (S u), ov (R.row u).a, .int ((R.row u).r : Nat), .ref q]) ∧ G q = some (.lst (sv (R.row u).l)) ∧ NL H q) ?_ hh.h1 fl' ?_ ?_ ?_ ?_ <;> try (first | exact fun _ => rfl)
    · exact fun R' h => ⟨_, dx, _, _, h0, T.in_River, T.na_River__towns, rfl, h⟩
    · exact fun D G G' a t k ⟨q, h1, h2, h3, h4, h5⟩ => ⟨q, h1, h2, k _ _ h1 h3, k _ _ h2 h4, h5⟩
    · intro D G u acc hD kD dG um Q' go
      obtain ⟨w, hw, rfl⟩ := find_row (tsort_mem.mp um)
      rw [R.row_at nd hw] at go
      have sG : Same H G := fun b o e => kD b o (ne_of_none e hD) e
      have xG := hx.same sG
      refine ⟨x, dx, _, rfl, sG _ _ h0, rfl, x, R, w, rfl, xG, nd, hw, fun G1 s1 => ?_⟩
      refine ⟨x, dx, _, rfl, s1 _ _ (sG _ _ h0), rfl, x, R, w, rfl, xG.same s1, nd, hw, fun G2 s2 => ?_⟩
      have s12 := s1.trans s2
      refine ⟨x, dx, _, rfl, s12 _ _ (sG _ _ h0), rfl, x, R, w, rfl, xG.same s12, nd, hw, fun l G3 s3 fl3 el => ?_⟩
      have s13 := s12.trans s3
      have dD := s13 _ _ dG
      refine ⟨sl_of (n := 4) rfl, fun r hr => go r _ (s13.trans (same_new hr)) ⟨l, fun e => (by rw [e, dD] at hr; cases hr), fun e => (by rw [e] at fl3; rw [s12 _ _ dG] at fl3; cases fl3), upd_same, (upd_ne (ne_of_none el hr)).trans el, NL.of ((sG.trans s12).free fl3)⟩⟩
    · intro D G zs s f ez e hz
      refine q D G s f ⟨zs.map fun z => (z.1, R.row z.2), ?_, by rw [List.map_map]; exact e, fun z zm => ?_⟩
      · unfold rowsT
        rw [List.map_map, ← ez, List.map_map]; rfl
      · obtain ⟨y, ym, rfl⟩ := List.mem_map.mp zm
        obtain ⟨q', _, _, h3, h4, h5⟩ := hz y ym
        have yt : y.2 ∈ R.tn := tsort_mem.mp (ez ▸ List.mem_map.mpr ⟨y, ym, rfl⟩)
        obtain ⟨w, hw, ew⟩ := find_row yt
        have : (R.row y.2).t = y.2 := by rw [← ew, R.row_at nd hw]
        exact ⟨q', by rw [this]; exact h3, h4, h5⟩
def sp__law_name (K : PySem.W.Frag) : Sp := fun vs H Q _ => ∃ (s cl : Addr) (n : Nat) (p : Addr) (ts : List (List Nat)), vs = [.ref s, .ref p] ∧ Sto s cl n H ∧ n + 10 < 1000000000000 ∧ H p = some (.lst (sv ts)) ∧ p ≠ s ∧ ts.length ≤ 250 ∧ Fines ts ∧
  ∀ (l : List Nat) H', l ∉ ts → l.length ≤ 8 → Fine l → ((∀ t ∈ ts, word t = true) → IsNm l) → Keep s H H' → Sto s cl (n + 10) H' → Q (.str (S l)) H'
theorem sc__law_name : FnScope ["store", "taken", "style", "words", "name", "k", "other"] ["store", "taken"] (defScope (topS 48)) := ⟨rfl, rfl, rfl, by decide +kernel, rfl, by decide +kernel, by decide +kernel⟩
theorem ok__law_name {P : Program} {w : World} {K : PySem.W.Frag} {mg : Str → Option Value} {base : Heap} (T : Top K mg) : FnOk P w K mg base CX0 5 T.a__law_name T.fd__law_name ["store", "taken"] (sp__law_name K) := by
  refine T.F__law_name.ok (k := 4) sc__law_name (fun vs H Q E h => ?_) (fun cdv A outer s0 H vs Q E hr h => ?_)
  · obtain ⟨s, cl, n, p, ts, rfl, _⟩ := h; rfl
  · have sc := sc__law_name
    refine ⟨_, (pss_cons (ps_set (i := 2) sc.nd rfl (by first | exact Or.inl rfl | exact Or.inr rfl) (pe_call (ok__law_take T) (hr.mono (by decide)) (by rfl) T.g__law_take T.F__law_take.kp T.b__law_take .nil pass0 (pa_cons (xv 0) (pa_cons pe_int pa_nil))))
      (pss_cons (ps_set (i := 3) sc.nd rfl (by first | exact Or.inl rfl | exact Or.inr rfl) (pe_lst (pa_cons pe_str (pa_cons pe_str (pa_cons pe_str (pa_cons pe_str (pa_cons pe_str (pa_cons pe_str (pa_cons pe_str (pa_cons pe_str (pa_cons pe_str (pa_cons pe_str (pa_cons pe_str (pa_cons pe_str pa_nil))))))))))))))
      (xss_cut (xs_if (xtc (ko_eq (K := K) rfl hr.units) (xv 2) pe_int (nomark _)) (pss_one (ps_set (i := 4) sc.nd rfl (by first | exact Or.inl rfl | exact Or.inr rfl) (pe_call (ok__law_pick T) (hr.mono (by decide)) (by rfl) T.g__law_pick T.F__law_pick.kp T.b__law_pick .nil pass0 (pa_cons (xv 0) (pa_cons (pe_op (ko_add (K := K) rfl) (xv 3) (pe_lst (pa_cons pe_str (pa_cons pe_str (pa_cons pe_str (pa_cons pe_str (pa_cons pe_str (pa_cons pe_str (pa_cons pe_str (pa_cons pe_str (pa_cons pe_str pa_nil))))))))))) pa_nil))))) (pss_one (xs_if (PW.pt (xw_and (xtc (ko_eq (K := K) rfl hr.units) (xv 2) pe_int (nomark _)) (pw_and1 (xtc xo_gt (pe_callB (kc_len (K := K) rfl) (by rfl) T.n_len (by decide +kernel) (pa_cons (xv 1) pa_nil)) pe_int (nomark _))))) (pss_one (ps_set (i := 4) sc.nd rfl (by first | exact Or.inl rfl | exact Or.inr rfl) (pe_op (ko_add (K := K) rfl) (pe_slice (ksl (K := K) rfl) (pe_call (ok__law_pick T) (hr.mono (by decide)) (by rfl) T.g__law_pick T.F__law_pick.kp T.b__law_pick .nil pass0 (pa_cons (xv 0) (pa_cons (xv 1) pa_nil))) po_none (po_some pe_int)) (pe_call (ok__law_pick T) (hr.mono (by decide)) (by rfl) T.g__law_pick T.F__law_pick.kp T.b__law_pick .nil pass0 (pa_cons (xv 0) (pa_cons pe_str pa_nil)))))) (pss_one (ps_set (i := 4) sc.nd rfl (by first | exact Or.inl rfl | exact Or.inr rfl) (pe_call (ok__law_raw_name T) (hr.mono (by decide)) (by rfl) T.g__law_raw_name T.F__law_raw_name.kp T.b__law_raw_name .nil pass0 (pa_cons (xv 0) pa_nil)))))))
      (xss_cut (xs_if (PW.pt (xw_and (xt (pe_call (ok__law_is_name T) (hr.mono (by decide)) (by rfl) T.g__law_is_name T.F__law_is_name.kp T.b__law_is_name .nil pass0 (pa_cons (xv 4) pa_nil))) (pw_and1 (xtc (ko_notin (K := K) rfl) (xv 4) (xv 1) (by rfl))))) (pss_one (ps_ret (xv 4))) pss_nil)
      (pss_cons (ps_for PassesOwn.never rfl (pi_range1 (by rfl) T.n_range (pa_cons (pe_op (ko_add (K := K) rfl) (pe_callB (kc_len (K := K) rfl) (by rfl) T.n_len (by decide +kernel) (pa_cons (xv 1) pa_nil)) pe_int) pa_nil)) (pg_name (i := 5) sc.nd rfl (by first | exact Or.inl rfl | exact Or.inr rfl)) (pss_cons (ps_set (i := 6) sc.nd rfl (by first | exact Or.inl rfl | exact Or.inr rfl) (pe_op (ko_add (K := K) rfl) (pe_slice (ksl (K := K) rfl) (xv 4) po_none (po_some pe_int)) (pe_callTy xc_str (by rfl) T.n_str (by decide +kernel) (pa_cons (xv 5) pa_nil))))
      (pss_one (xs_if (xtc (ko_notin (K := K) rfl) (xv 6) (xv 1) (by rfl)) (pss_one (ps_ret (xv 6))) pss_nil))))
      (pss_one (ps_ret (xv 4)))))))), ?_⟩
    obtain ⟨s, cl, n, p, ts, rfl, St, hn, hp, ps, hl, hf, q⟩ := h
    rw [lit_a09]
    refine ⟨s, cl, n, _, rfl, St, by omega, by decide, fun st H1 _ k1 S1 => ?_⟩
    refine ⟨sl_of (n := 12) rfl, fun w hw => ?_⟩
    refine ⟨fun σ' H' => ∃ l w', σ' = [some (.ref s), some (.ref p), some (.int (st : Nat)), some w', some (.str (S l)), none, none] ∧ l.length ≤ 8 ∧ Fine l ∧ ((∀ t ∈ ts, word t = true) → word l = true) ∧ Keep s H H' ∧ Sto s cl (n + 10) H', ?_, ?_⟩
    · have k2 := fun o : HO => k1.trans (Keep.new (s := s) (o := o) hw)
      refine ⟨fun c => ?_, fun c => ⟨fun c2 => ⟨_, Sq.l (k2 _ _ _ ps hp), fun c3 => ?_, fun c3 => ?_⟩, fun c2 => ⟨no_ft, fun _ => ?_⟩⟩⟩
      · refine ⟨sl_of (n := 9) rfl, fun w2 hw2 => .inl ⟨_, _, (upd_ne (ne_of_none upd_same hw2)).trans upd_same, upd_same, by rw [sl_big]; decide, fun w3 hw3 => ?_⟩⟩
        refine ⟨s, cl, n + 1, ((S1.new hw).new hw2).new hw3, by omega, .inr ⟨w3, _, rfl, upd_same, (((S1.new hw).new hw2)).ne hw3, (by intro e; cases e), by decide, fun v H4 hv k4 S4 => ?_⟩⟩
        have hv' : v ∈ sv W21 := words_eq ▸ hv
        obtain ⟨l, hl', rfl⟩ := sv_mem hv'
        have nm := w21_nm l hl'
        exact ⟨l, _, rfl, nm.l1, nm.fine, fun _ => nm.w, (k2 _).trans ((Keep.new hw2).trans ((Keep.new hw3).trans k4)), S4.mono (by omega)⟩
      · have c3' : (0 : Int) < ((sv ts).length : Nat) := of_decide_eq_true c3
        rw [sv_len] at c3'
        have ne : sv ts ≠ [] := fun e => by
          have := congrArg List.length e
          rw [sv_len] at this
          simp at this
          rw [this] at c3'
          simp at c3'
        refine ⟨s, cl, n + 1, S1.new hw, by omega, .inr ⟨p, sv ts, rfl, k2 _ _ _ ps hp, ps, ne, by rw [sv_len]; omega, fun v H4 hv k4 S4 => ?_⟩⟩
        obtain ⟨t, ht, rfl⟩ := sv_mem hv
        have ft := hf t ht
        refine ⟨7, rfl, by rw [S_len, sl_big]; have := ft.l; omega, ?_⟩
        rw [cut7]
        refine ⟨s, cl, n + 2, S4, by omega, .inl ⟨_, rfl, by decide, by decide, fun c' H5 hc' k5 S5 => ?_⟩⟩
        have l7 : (t.take 7).length ≤ 7 := by rw [List.length_take]; omega
        refine ⟨by rw [S_len, S_len, sl_big]; show _ + 1 ≤ _; omega, ?_⟩
        rw [S_cat]
        have hc'' : lowD c' = true := by
          have : ∀ x ∈ ([97, 48, 57, 122, 116] : List Nat), lowD x = true := by decide
          exact this c' hc'
        refine ⟨t.take 7 ++ [c'], _, rfl, by rw [List.length_append]; show _ + 1 ≤ _; omega, ⟨by rw [List.length_append]; show _ + 1 ≤ _; omega, fun x hx => ?_⟩, fun h => word_app (word_take (h t ht) (by decide)) (fun x hx => by rw [List.mem_singleton.mp hx]; exact hc''), (k2 _).trans (k4.trans k5), S5.mono (by omega)⟩
        rcases List.mem_append.mp hx with hx | hx
        · exact ft.a x (List.mem_of_mem_take hx)
        · rw [List.mem_singleton.mp hx]; have := lowD_lt hc''; omega
      · exact ⟨s, cl, n + 1, rfl, S1.new hw, by omega, fun l H4 nm k4 S4 => ⟨l, _, rfl, nm.l1, nm.fine, fun _ => nm.w, (k2 _).trans k4, S4.mono (by omega)⟩⟩
      · exact ⟨s, cl, n + 1, rfl, S1.new hw, by omega, fun l H4 nm k4 S4 => ⟨l, _, rfl, nm.l1, nm.fine, fun _ => nm.w, (k2 _).trans k4, S4.mono (by omega)⟩⟩
    rintro σ' H3 ⟨l, w', rfl, l8, fl, wl, k3, S3⟩
    refine ⟨fun σ' H' => σ' = [some (.ref s), some (.ref p), some (.int (st : Nat)), some w', some (.str (S l)), none, none] ∧ Keep s H H' ∧ Sto s cl (n + 10) H', ?_, ?_⟩
    · refine ⟨l, rfl, by rw [sl_big]; omega, fun H4 sm => ⟨fun c1 => ?_, fun c1 => ⟨no_ft, fun _ => ⟨rfl, k3.trans (Same.keep sm), S3.same sm⟩⟩⟩⟩
      refine ⟨sv ts, Sq.l (sm _ _ (k3 _ _ ps hp)), rfl, sv_flat ts, fun c2 => ?_, fun c2 => ⟨rfl, k3.trans (Same.keep sm), S3.same sm⟩⟩
      have c2' : (!inV (.str (S l)) (sv ts)) = true := c2
      rw [inV_sv] at c2'
      exact q l H4 (by simpa using c2') l8 fl (fun _ => nameL_iff.mp c1) (k3.trans (Same.keep sm)) (S3.same sm)
    rintro σ' H4 ⟨rfl, k4, S4⟩
    refine ⟨_, Sq.l (k4 _ _ ps hp), _, rfl, by omega, by rw [sv_len]; omega, ?_⟩
    rw [sv_len, show (((ts.length : Nat) : Int) + 1).toNat = ts.length + 1 by omega]
    refine for_range (lo := 0) (n := ts.length + 1) (fun i σ H5 => ∃ a b, σ = [some (.ref s), some (.ref p), some (.int (st : Nat)), some w', some (.str (S l)), a, b] ∧ Keep s H H5 ∧ Sto s cl (n + 10) H5 ∧ ∀ j, j < i → (l.take 5 ++ TL.numL j) ∈ ts) ⟨none, none, rfl, k4, S4, fun j hj => absurd hj (Nat.not_lt_zero j)⟩ (fun i σ H5 hi hW => ?_) (fun σ H5 hW => ?_)
    · obtain ⟨a, b, rfl, k5, S5, al⟩ := hW
      have l5 : (l.take 5).length ≤ 5 := by rw [List.length_take]; omega
      have d3 := TL.numL_len (n := i) (k := 3) (by decide) (by omega)
      refine ⟨5, rfl, by rw [S_len, sl_big]; omega, log_ok (by omega), ?_⟩
      rw [cut5, num_S0]
      refine ⟨by rw [S_len, S_len, sl_big]; omega, ?_⟩
      rw [S_cat]
      refine ⟨sv ts, Sq.l (k5 _ _ ps hp), rfl, sv_flat ts, fun c => ?_, fun c => ?_⟩
      · have c2 : (!inV (.str (S (l.take 5 ++ TL.numL i))) (sv ts)) = true := c
        rw [inV_sv] at c2
        refine q _ H5 (by simpa using c2) (by rw [List.length_append]; omega) ⟨by rw [List.length_append]; omega, fun x hx => ?_⟩ (fun h => nm_dig (word_take (wl h) (by decide)) l5 (by omega)) k5 S5
        rcases List.mem_append.mp hx with hx | hx
        · exact fl.a x (List.mem_of_mem_take hx)
        · have := lowD_lt (num_fine x hx); omega
      · have c2 : (!inV (.str (S (l.take 5 ++ TL.numL i))) (sv ts)) = false := c
        rw [inV_sv] at c2
        refine ⟨_, _, rfl, k5, S5, fun j hj => ?_⟩
        by_cases e : j = i
        · rw [e]; simpa using c2
        · exact al j (by omega)
    · obtain ⟨a, b, rfl, k5, S5, al⟩ := hW
      exact (pigeon al).elim
def sp__law_passed (K : PySem.W.Frag) : Sp := fun vs H Q _ => ∃ (s cl r a b : Addr) (n : Nat) (T : List Row) (U : List (Tx × Tx)), vs = [.ref s, .ref r] ∧ Sto s cl n H ∧ n + 200 < 1000000000000 ∧ H r = some (.tup [.ref a, .ref b]) ∧ ObjL RowL H a T ∧ ObjL ThO H b U ∧ T.length ≤ 60 ∧ U.length ≤ 60 ∧
  ∀ p f t H', Keep s H H' → Sto s cl (n + 200) H' → p ≠ s → Paper H H' p f t T U → f ≠ s → t ≠ s → Q (.ref p) H'
theorem sc__law_passed : FnScope ["store", "rows", "first", "row"] ["store", "rows"] (defScope (topS 60)) := ⟨rfl, rfl, rfl, by decide +kernel, rfl, by decide +kernel, by decide +kernel⟩
theorem ok__law_passed {P : Program} {w : World} {K : PySem.W.Frag} {mg : Str → Option Value} {base : Heap} (T : Top K mg) : FnOk P w K mg base CX0 5 T.a__law_passed T.fd__law_passed ["store", "rows"] (sp__law_passed K) := by
  refine T.F__law_passed.ok (k := 4) sc__law_passed (fun vs H Q E h => ?_) (fun cdv A outer s0 H vs Q E hr h => ?_)
  · obtain ⟨s, cl, r, a, b, n, T, U, rfl, _⟩ := h; rfl
  · have sc := sc__law_passed
    refine ⟨_, (pss_cons (ps_setLc (i := 2) (own := [("row", 3)]) rfl sc.nd rfl rfl (sw_true rfl rfl rfl (by decide +kernel)) (ki_seq (K := K) rfl (pe_ix (kix (K := K) rfl) (xv 1) pe_int (fun _ _ => rfl))) (blkOk_by (N := ["store", "rows", "first", "row"]) (sc := defScope (topS 60)) (by decide +kernel)) (fun _ _ _ _ _ => (pg_name (i := 3) sc.nd rfl (by first | exact Or.inl rfl | exact Or.inr rfl))) (fun _ _ _ _ _ => pts_nil) (fun _ _ _ _ _ => (pe_tup (pa_cons (pe_ix (kix (K := K) rfl) (xv 3) pe_int (fun _ _ => rfl)) (pa_cons (pe_ix (kix (K := K) rfl) (xv 3) pe_int (fun _ _ => rfl)) (pa_cons (pe_ix (kix (K := K) rfl) (xv 3) pe_int (fun _ _ => rfl)) (pa_cons (pe_call (ok__law_either T) (hr.mono (by decide)) (by rfl) T.g__law_either T.F__law_either.kp T.b__law_either .nil pass0 (pa_cons (xv 0) (pa_cons (pe_ix (kix (K := K) rfl) (xv 3) pe_int (fun _ _ => rfl)) pa_nil))) pa_nil)))))))
      (pss_one (ps_ret (pe_tup (pa_cons (pe_call (ok__law_either T) (hr.mono (by decide)) (by rfl) T.g__law_either T.F__law_either.kp T.b__law_either .nil pass0 (pa_cons (xv 0) (pa_cons (xv 2) pa_nil))) (pa_cons (pe_call (ok__law_either T) (hr.mono (by decide)) (by rfl) T.g__law_either T.F__law_either.kp T.b__law_either .nil pass0 (pa_cons (xv 0) (pa_cons (pe_ix (kix (K := K) rfl) (xv 1) pe_int (fun _ _ => rfl)) pa_nil))) pa_nil)))))), ?_⟩
    obtain ⟨s, cl, r, a, b, n, T, U, rfl, S0, hn, hr', ha, hb, lT, lU, q⟩ := h
    obtain ⟨zs, e1, e2, e3⟩ := ha
    have lz : zs.length = T.length := by rw [← e1, List.length_map]
    have as_ := S0.nerf e2
    dsimp only [tSeq, tAsg, gName]
    refine tLc_objMap (zs := zs) (g := fun w : Row => w) (P' := fun D G w_ w => ∃ q', w_ ≠ D ∧ w_ ≠ s ∧ q' ≠ D ∧ q' ≠ s ∧ G w_ = some (.tup [.str (S w.t), ov w.a, .int (w.r : Nat), .ref q']) ∧ LT G q' (sv w.l) ∧ NL H q') (Rel := fun D G1 G2 => ∀ b o, b ≠ D → b ≠ s → G1 b = some o → G2 b = some o) (fun D i G => (∀ b o, b ≠ D → b ≠ s → H b = some o → G b = some o) ∧ Sto s cl (n + i) G) ?_ (Lt.l e2) (by omega) ?_ (fun D G1 G2 w_ w k h => ?_) (fun D hD => ⟨fun b o n _ e => (upd_ne n).trans e, S0.new hD⟩) (fun D i G hD k => ?_) (fun D i z G acc hD gz kD dG Q' go => ?_) (fun D G ys hD kD ey dG hy => ?_)
    · exact fun R' h => ⟨_, _, Sq.t hr', at_int (j := 0) rfl rfl, h⟩
    · exact fun _ => rfl
    · obtain ⟨q', h1, h2, h3, h4, h5, h6, h7⟩ := h
      exact ⟨q', h1, h2, h3, h4, k _ _ h1 h2 h5, h6.imp (k _ _ h3 h4) (k _ _ h3 h4), h7⟩
    · exact (k.1 _ _ (ne_of_none e2 hD) as_ e2).trans e2.symm
    · obtain ⟨q0, h1, h2⟩ := e3 z (List.mem_of_getElem? gz)
      have il := (List.getElem?_eq_some_iff.mp gz).1
      have hz := kD.1 _ _ (ne_of_none h1 hD) (S0.netp h1) h1
      have hq := kD.1 _ _ (ne_of_none h2 hD) (S0.nesv h2) h2
      refine ⟨_, _, Sq.t hz, at_int (j := 0) rfl rfl, _, _, Sq.t hz, at_int (j := 1) rfl rfl, _, _, Sq.t hz, at_int (j := 2) rfl rfl, _, _, Sq.t hz, at_int (j := 3) rfl rfl, s, cl, _, q0, _, rfl, kD.2, by omega, hq, S0.nesv h2, fun r3 H' k3 S3 f3 e3' => ⟨sl_of (n := 4) rfl, fun t ht => ?_⟩⟩
      have Ds := S0.ne hD
      have Dc := S0.nec hD
      have dG' := k3 _ _ Ds dG
      have c := same_new (o := .tup [.str (S z.2.t), ov z.2.a, .int (z.2.r : Nat), .ref r3]) ht
      have tD : t ≠ D := (ne_of_none dG' ht).symm
      have rD : r3 ≠ D := (ne_of_none dG f3).symm
      have rs : r3 ≠ s := kD.2.ne f3
      have nl : NL H r3 := fun xs e => by
        have := kD.1 _ _ (ne_of_none e hD) rs e
        rw [f3] at this; cases this
      refine go t _ (c _ _ dG') fun acc' => ⟨fun b o n1 n2 e => (upd_ne n1).trans (c _ _ (k3 _ _ n2 e)), ⟨fun b o n1 n2 e => (upd_ne n1).trans (c _ _ (k3 _ _ n2 (kD.1 _ _ n1 n2 e))), (S3.new ht).put Ds Dc⟩, r3, tD, S3.ne ht, rD, rs, (upd_ne tD).trans upd_same, e3'.imp (fun e => (upd_ne rD).trans (c _ _ e)) (fun e => (upd_ne rD).trans (c _ _ e)), nl⟩
    have Ds := S0.ne hD
    have eyT : ys.map (·.2) = T := ey.trans e1
    have lys : ys.length = T.length := by rw [← eyT, List.length_map]
    refine ⟨s, cl, _, D, _, rfl, kD.2, by omega, dG, Ds, fun f H1 k1 S1 f1 ef => ?_⟩
    have rD : r ≠ D := ne_of_none hr' hD
    have hr1 := k1 _ _ (S0.netp hr') (kD.1 _ _ rD (S0.netp hr') hr')
    obtain ⟨zb, eb1, eb2, eb3⟩ := hb
    have bs := S0.nerf eb2
    have hb1 := k1 _ _ bs (kD.1 _ _ (ne_of_none eb2 hD) bs eb2)
    have ths : ∀ {a : Addr} {z : Tx × Tx} {H : Hp} {n : Nat}, Sto s cl n H → ThO H a z → a ≠ s := fun S e => S.netp e
    have hb1' : ∀ z ∈ zb, ThO H1 z.1 z.2 := fun z zm => k1 _ _ (ths S0 (eb3 z zm)) (kD.1 _ _ (ne_of_none (eb3 z zm) hD) (ths S0 (eb3 z zm)) (eb3 z zm))
    refine ⟨_, _, Sq.t hr1, at_int (j := 1) rfl rfl, s, cl, _, b, _, rfl, S1, by omega, hb1, bs, fun t H2 k2 S2 f2 et => ⟨sl_of (n := 2) rfl, fun p hp => ?_⟩⟩
    have fs : f ≠ s := kD.2.ne f1
    have ts : t ≠ s := S1.ne f2
    have nlf : NL H f := fun xs e => by
      have := kD.1 _ _ (ne_of_none e hD) fs e
      rw [f1] at this; cases this
    have nlt : NL H t := fun xs e => by
      have := k1 _ _ ts (kD.1 _ _ (ne_of_none e hD) ts e)
      rw [f2] at this; cases this
    have c := same_new (o := .tup [.ref f, .ref t]) hp
    have kH : Keep s H (upd H2 p (.tup [.ref f, .ref t])) := fun b o n e => c _ _ (k2 _ _ n (k1 _ _ n (kD.1 _ _ (ne_of_none e hD) n e)))
    refine q p f t _ kH ((S2.new hp).mono (by omega)) (S2.ne hp) ⟨upd_same, ⟨ys, eyT, ef.imp (fun e => c _ _ (k2 _ _ fs e)) (fun e => c _ _ (k2 _ _ fs e)), fun z zm => ?_⟩, ⟨zb, eb1, et.imp (c _ _) (c _ _), fun y ym => c _ _ (k2 _ _ (ths S1 (hb1' y ym)) (hb1' y ym))⟩, nlf, nlt⟩ fs ts
    obtain ⟨q', h1, h2, h3, h4, h5, h6, h7⟩ := hy z zm
    exact ⟨q', c _ _ (k2 _ _ h2 (k1 _ _ h2 h5)), h6.imp (fun e => c _ _ (k2 _ _ h4 (k1 _ _ h4 e))) (fun e => c _ _ (k2 _ _ h4 (k1 _ _ h4 e))), h7⟩
def sp__law_names (K : PySem.W.Frag) : Sp := fun vs H Q _ => ∃ (s cl : Addr) (n : Nat) (m : Nat), vs = [.ref s, .int (m : Nat)] ∧ Sto s cl n H ∧ n + 300 < 1000000000000 ∧ m ≤ 26 ∧
  ∀ (p : Addr) (ts : List (List Nat)) H', ts.length = m → ts.Nodup → (∀ t ∈ ts, IsNm t) → H p = none → H' p = some (.lst (sv ts)) → Keep s H H' → Sto s cl (n + 300) H' → Q (.ref p) H'
theorem sc__law_names : FnScope ["store", "many", "style", "letters", "names", "stem", "at", "k", "letter"] ["store", "many"] (defScope (topS 49)) := ⟨rfl, rfl, rfl, by decide +kernel, rfl, by decide +kernel, by decide +kernel⟩
theorem ok__law_names {P : Program} {w : World} {K : PySem.W.Frag} {mg : Str → Option Value} {base : Heap} (T : Top K mg) : FnOk P w K mg base CX0 6 T.a__law_names T.fd__law_names ["store", "many"] (sp__law_names K) := by
  refine T.F__law_names.ok (k := 5) sc__law_names (fun vs H Q E h => ?_) (fun cdv A outer s0 H vs Q E hr h => ?_)
  · obtain ⟨s, cl, n, m, rfl, _⟩ := h; rfl
  · have sc := sc__law_names
    refine ⟨_, (pss_cons (ps_set (i := 2) sc.nd rfl (by first | exact Or.inl rfl | exact Or.inr rfl) (pe_call (ok__law_take T) (hr.mono (by decide)) (by rfl) T.g__law_take T.F__law_take.kp T.b__law_take .nil pass0 (pa_cons (xv 0) (pa_cons pe_int pa_nil))))
      (pss_cons (ps_set (i := 3) sc.nd rfl (by first | exact Or.inl rfl | exact Or.inr rfl) (pe_callTy (kc_list (K := K) rfl rfl) (by rfl) T.n_list (by decide +kernel) (pa_cons pe_str pa_nil)))
      (pss_cons (ps_set (i := 4) sc.nd rfl (by first | exact Or.inl rfl | exact Or.inr rfl) (pe_lst pa_nil))
      (pss_cons (ps_set (i := 5) sc.nd rfl (by first | exact Or.inl rfl | exact Or.inr rfl) pe_str)
      (pss_cons (ps_set (i := 6) sc.nd rfl (by first | exact Or.inl rfl | exact Or.inr rfl) pe_int)
      (xss_cut (xs_if (xtc (ko_eq (K := K) rfl hr.units) (xv 2) pe_int (nomark _)) (pss_cons (ps_set (i := 5) sc.nd rfl (by first | exact Or.inl rfl | exact Or.inr rfl) (pe_slice (ksl (K := K) rfl) (pe_op (ko_add (K := K) rfl) (pe_call (ok__law_raw_name T) (hr.mono (by decide)) (by rfl) T.g__law_raw_name T.F__law_raw_name.kp T.b__law_raw_name .nil pass0 (pa_cons (xv 0) pa_nil)) pe_str) po_none (po_some (pe_op (ko_add (K := K) rfl) pe_int (pe_call (ok__law_take T) (hr.mono (by decide)) (by rfl) T.g__law_take T.F__law_take.kp T.b__law_take .nil pass0 (pa_cons (xv 0) (pa_cons pe_int pa_nil)))))))
      (pss_one (ps_set (i := 6) sc.nd rfl (by first | exact Or.inl rfl | exact Or.inr rfl) (pe_call (ok__law_take T) (hr.mono (by decide)) (by rfl) T.g__law_take T.F__law_take.kp T.b__law_take .nil pass0 (pa_cons (xv 0) (pa_cons (pe_op (ko_add (K := K) rfl) (pe_callB (kc_len (K := K) rfl) (by rfl) T.n_len (by decide +kernel) (pa_cons (xv 5) pa_nil)) pe_int) pa_nil)))))) pss_nil)
      (pss_cons (ps_for PassesOwn.never rfl (pi_range1 (by rfl) T.n_range (pa_cons (xv 1) pa_nil)) (pg_name (i := 7) sc.nd rfl (by first | exact Or.inl rfl | exact Or.inr rfl)) (pss_one (xs_if (xtc xo_gt (xv 2) pe_int (nomark _)) (pss_one (ps_expr (ke_bm (K := K) rfl PySem.F.plainAttrs_list PySem.F.slot_list_append PySem.F.type_list_append xm_append (xv 4) (pa_cons (pe_call (ok__law_name T) (hr.mono (by decide)) (by rfl) T.g__law_name T.F__law_name.kp T.b__law_name .nil pass0 (pa_cons (xv 0) (pa_cons (xv 4) pa_nil))) pa_nil)))) (pss_cons (ps_set (i := 8) sc.nd rfl (by first | exact Or.inl rfl | exact Or.inr rfl) (ke_bm (K := K) rfl PySem.F.plainAttrs_list PySem.F.slot_list_pop PySem.F.type_list_pop xm_pop (xv 3) (pa_cons (pe_call (ok__law_take T) (hr.mono (by decide)) (by rfl) T.g__law_take T.F__law_take.kp T.b__law_take .nil pass0 (pa_cons (xv 0) (pa_cons (pe_callB (kc_len (K := K) rfl) (by rfl) T.n_len (by decide +kernel) (pa_cons (xv 3) pa_nil)) pa_nil))) pa_nil)))
      (xss_cut (xs_if (xtc (ko_eq (K := K) rfl hr.units) (xv 2) pe_int (nomark _)) (pss_one (ps_set (i := 8) sc.nd rfl (by first | exact Or.inl rfl | exact Or.inr rfl) (pe_op xo_mul (xv 8) (pe_op (ko_add (K := K) rfl) pe_int (pe_call (ok__law_take T) (hr.mono (by decide)) (by rfl) T.g__law_take T.F__law_take.kp T.b__law_take .nil pass0 (pa_cons (xv 0) (pa_cons pe_int pa_nil))))))) pss_nil)
      (pss_one (ps_expr (ke_bm (K := K) rfl PySem.F.plainAttrs_list PySem.F.slot_list_append PySem.F.type_list_append xm_append (xv 4) (pa_cons (pe_op (ko_add (K := K) rfl) (pe_op (ko_add (K := K) rfl) (pe_slice (ksl (K := K) rfl) (xv 5) po_none (po_some (xv 6))) (xv 8)) (pe_slice (ksl (K := K) rfl) (xv 5) (po_some (xv 6)) po_none)) pa_nil)))))))))
      (pss_one (ps_ret (xv 4)))))))))), ?_⟩
    obtain ⟨s, cl, n, m, rfl, St, hn, hm, q⟩ := h
    rw [lit_az, lit_quays, lit_e]
    refine ⟨s, cl, n, _, rfl, St, by omega, by decide, fun sty H1 _ k1 S1 => ?_⟩
    refine ⟨by rw [S_len, sl_big]; decide, fun la hla => ?_⟩
    rw [signs_S]
    refine ⟨sl_of (n := 0) rfl, fun na hna => ?_⟩
    have k2 : Keep s H (upd (upd H1 la (.lst (sv (aZ.map fun c => [c])))) na (.lst [])) := k1.trans ((Keep.new hla).trans (Keep.new hna))
    have S2 : Sto s cl (n + 1) (upd (upd H1 la (.lst (sv (aZ.map fun c => [c])))) na (.lst [])) := (S1.new hla).new hna
    have las : la ≠ s := S1.ne hla
    have lac : la ≠ cl := S1.nec hla
    have nas : na ≠ s := (S1.new hla).ne hna
    have nac : na ≠ cl := (S1.new hla).nec hna
    have lna : la ≠ na := ne_of_none upd_same hna
    have hna0 : H na = none := k1.free nas ((same_new hla).free hna)
    have hla0 : H la = none := k1.free las hla
    -- what is written to them is not seen from before
    have kput : ∀ {H' : Hp} {o : HO}, Keep s H H' → Keep s H (upd H' na o) := fun {H' o} k b u ne e => (upd_ne (ne_of_none e hna0)).trans (k b u ne e)
    have kputl : ∀ {H' : Hp} {o : HO}, Keep s H H' → Keep s H (upd H' la o) := fun {H' o} k b u ne e => (upd_ne (ne_of_none e hla0)).trans (k b u ne e)
    refine ⟨fun σ' H' => ∃ (st : List Nat) (a : Nat), σ' = [some (.ref s), some (.int (m : Nat)), some (.int (sty : Nat)), some (.ref la), some (.ref na), some (.str (S st)), some (.int (a : Nat)), none, none] ∧ (sty = 3 → word st = true ∧ 4 ≤ st.length ∧ st.length ≤ 7) ∧ (sty ≠ 3 → st = []) ∧
      H' la = some (.lst (sv (aZ.map fun c => [c]))) ∧ H' na = some (.lst []) ∧ Keep s H H' ∧ Sto s cl (n + 12) H', ?_, ?_⟩
    · refine ⟨fun c => ?_, fun c => ?_⟩
      · have c3 : (sty : Int) = 3 := of_decide_eq_true c
        refine ⟨s, cl, n + 1, rfl, S2, by omega, fun l H3 nm k3 S3 => ?_⟩
        have l8 := nm.l1
        have lp := List.length_pos_iff.mpr nm.ne
        refine ⟨by rw [S_len, S_len, sl_big]; show _ + 5 ≤ _; omega, ?_⟩
        rw [S_cat]
        refine ⟨s, cl, n + 10, _, rfl, S3, by omega, by decide, fun r H4 hr k4 S4 => ?_⟩
        have ll : (l ++ [113, 117, 97, 121, 115]).length = l.length + 5 := by rw [List.length_append]; rfl
        refine ⟨_, rfl, by rw [S_len, sl_big, ll]; omega, ?_⟩
        rw [show (4 : Int) + (r : Nat) = ((4 + r : Nat) : Int) by omega, cut_to]
        have wl : word (l ++ [113, 117, 97, 121, 115]) = true := word_app nm.w (by decide)
        have tl : ((l ++ [113, 117, 97, 121, 115]).take (4 + r)).length = min (4 + r) (l.length + 5) := by rw [List.length_take, ll]
        refine ⟨by rw [S_len, tl, sl_big]; omega, s, cl, n + 11, _, rfl, S4, by omega, by rw [S_len, tl]; omega, fun a H5 ha k5 S5 => ?_⟩
        refine ⟨_, a, rfl, fun _ => ⟨word_take wl (by omega), by rw [tl]; omega, by rw [tl]; omega⟩, fun h => absurd (by omega) h, ?_, ?_, k2.trans (k3.trans (k4.trans k5)), S5⟩
        · exact k5 _ _ las (k4 _ _ las (k3 _ _ las ((upd_ne lna).trans upd_same)))
        · exact k5 _ _ nas (k4 _ _ nas (k3 _ _ nas upd_same))
      · have c3 : ¬ (sty : Int) = 3 := of_decide_eq_false c
        exact ⟨[], 0, rfl, fun h => absurd (by omega) c3, fun _ => rfl, (upd_ne lna).trans upd_same, upd_same, k2, S2.mono (by omega)⟩
    rintro σ' H3 ⟨st, a, rfl, hst, hst', hl3, hn3, k3, S3⟩
    refine ⟨(m : Nat), rfl, by omega, by omega, ?_⟩
    rw [Int.toNat_natCast]
    refine for_range (lo := 0) (n := m) (fun i σ H4 => ∃ (x y : Option V) (ts : List (List Nat)) (ls : List Nat), σ = [some (.ref s), some (.int (m : Nat)), some (.int (sty : Nat)), some (.ref la), some (.ref na), some (.str (S st)), some (.int (a : Nat)), x, y] ∧
      ts.length = i ∧ ts.Nodup ∧ (∀ t ∈ ts, IsNm t) ∧ H4 na = some (.lst (sv ts)) ∧ Keep s H H4 ∧ Sto s cl (n + 12 + 11 * i) H4 ∧
      (sty ≤ 3 → H4 la = some (.lst (sv (ls.map fun c => [c]))) ∧ ls.length = 26 - i ∧ ls.Nodup ∧ (∀ c ∈ ls, low c = true) ∧ ∀ t ∈ ts, ∃ c r, c ∉ ls ∧ 1 ≤ r ∧ t = st.take a ++ rep r [c] ++ st.drop a))
      ⟨none, none, [], aZ, rfl, rfl, List.nodup_nil, (fun t ht => by simp at ht), hn3, k3, S3, fun _ => ⟨hl3, by decide, by decide, (fun c hc => mem_az.mp hc), fun t ht => by simp at ht⟩⟩ (fun i σ H4 hi hW => ?_) (fun σ H4 hW => ?_)
    · obtain ⟨x, y, ts, ls, rfl, e1, nd, nm, hn4, k4, S4, more⟩ := hW
      have hfin : Fines ts := fun t ht => (nm t ht).fine
      refine ⟨fun c => ?_, fun c => ?_⟩
      · have c3 : (3 : Int) < (sty : Nat) := of_decide_eq_true c
        refine ⟨tyL hn4, s, cl, n + 12 + 11 * i, na, ts, rfl, S4, by omega, hn4, nas, by omega, hfin, fun l H5 hno l8 fl isn k5 S5 => ?_⟩
        have nml := isn fun t ht => (nm t ht).w
        refine ⟨_, k5 _ _ nas hn4, by rw [sv_len, sl_big]; omega, ?_⟩
        refine ⟨_, _, ts ++ [l], ls, rfl, by rw [List.length_append, e1]; rfl, ?_, ?_, upd_same.trans (by rw [sv_app]; rfl), kput (k4.trans k5), (S5.put nas nac).mono (by omega), fun h => absurd h (by omega)⟩
        · exact List.nodup_append.mpr ⟨nd, (by simp), fun u hu v hv e => hno (by rw [List.mem_singleton.mp hv] at e; exact e ▸ hu)⟩
        · intro t ht
          rcases List.mem_append.mp ht with ht | ht
          · exact nm t ht
          · rw [List.mem_singleton.mp ht]; exact nml
      · have c3 : ¬ (3 : Int) < (sty : Nat) := of_decide_eq_false c
        obtain ⟨hl4, lsl, lnd, low', made⟩ := more (by omega)
        refine ⟨tyL hl4, _, Sq.l hl4, s, cl, n + 12 + 11 * i, _, rfl, S4, by omega, by rw [one_len]; omega, fun r H5 hr k5 S5 => ?_⟩
        rw [one_len] at hr
        have hr' : r < ls.length := by omega
        obtain ⟨c, hc⟩ : ∃ c, ls[r]? = some c := ⟨_, List.getElem?_eq_getElem hr'⟩
        have cl' : low c = true := low' c (List.mem_of_getElem? hc)
        obtain ⟨cno, lnd', lsub⟩ := nd_erase lnd hc
        refine ⟨_, r, _, k5 _ _ las hl4, rfl, by omega, one_get hc, ?_⟩
        rw [one_erase]
        have lsl' : (ls.eraseIdx r).length = 26 - (i + 1) := by rw [List.length_eraseIdx_of_lt hr', lsl]; omega
        have stw : (st = [] ∨ (word st = true ∧ 4 ≤ st.length ∧ st.length ≤ 7)) := by
          by_cases z : sty = 3
          · exact .inr (hst z)
          · exact .inl (hst' z)
        have st7 : st.length ≤ 7 := by rcases stw with rfl | ⟨_, _, h⟩; · exact Nat.zero_le _
                                       · exact h
        refine ⟨fun σ' H' => ∃ (q' : Nat) (x : Option V), σ' = [some (.ref s), some (.int (m : Nat)), some (.int (sty : Nat)), some (.ref la), some (.ref na), some (.str (S st)), some (.int (a : Nat)), x, some (.str (S (rep q' [c])))] ∧ 1 ≤ q' ∧ q' ≤ 8 ∧ (sty ≠ 2 → q' = 1) ∧
          H' la = some (.lst (sv ((ls.eraseIdx r).map fun c => [c]))) ∧ H' na = some (.lst (sv ts)) ∧ Keep s H H' ∧ Sto s cl (n + 12 + 11 * i + 2) H', ?_, ?_⟩
        · have hna5 : (upd H5 la (.lst (sv ((ls.eraseIdx r).map fun c => [c])))) na = some (.lst (sv ts)) := (upd_ne (Ne.symm lna)).trans (k5 _ _ nas hn4)
          have kk : Keep s H (upd H5 la (.lst (sv ((ls.eraseIdx r).map fun c => [c])))) := kputl (k4.trans k5)
          have SS : Sto s cl (n + 12 + 11 * i + 1) (upd H5 la (.lst (sv ((ls.eraseIdx r).map fun c => [c])))) := S5.put las lac
          refine ⟨fun c2 => ?_, fun c2 => ?_⟩
          · refine ⟨s, cl, n + 12 + 11 * i + 1, _, rfl, SS, by omega, by decide, fun r2 H6 hr2 k6 S6 => ?_⟩
            have e12 : (1 : Int) + (r2 : Nat) = ((1 + r2 : Nat) : Int) := by omega
            refine ⟨by rw [e12]; exact mul_ok _ _ (by omega) (by rw [sl_big]; show 1 * _ ≤ _; omega), ?_⟩
            rw [e12, mul_S]
            exact ⟨1 + r2, _, rfl, by omega, by omega, fun h => absurd (by have := of_decide_eq_true c2; omega) h, k6 _ _ las upd_same, k6 _ _ nas hna5, kk.trans k6, S6⟩
          · exact ⟨1, _, rfl, by omega, by omega, fun _ => rfl, upd_same, hna5, kk, SS.mono (by omega)⟩
        rintro σ' H6 ⟨q', x', rfl, q1, q8, qs, hl6, hn6, k6, S6⟩
        have rl : (rep q' [c]).length = q' := by rw [rep_len]; show q' * 1 = q'; omega
        have tl1 : (st.take a).length ≤ 7 := by rw [List.length_take]; omega
        have tl2 : (st.drop a).length ≤ 7 := by rw [List.length_drop]; omega
        have sz : (S st).length ≤ sizeLine := by rw [S_len, sl_big]; omega
        refine ⟨tyL hn6, _, rfl, sz, ?_⟩
        rw [cut_to]
        refine ⟨by rw [S_len, S_len, rl, sl_big]; omega, ?_⟩
        rw [S_cat]
        refine ⟨_, rfl, sz, ?_⟩
        rw [cut_from]
        refine ⟨by rw [S_len, S_len, List.length_append, rl, sl_big]; omega, ?_⟩
        rw [S_cat]
        refine ⟨_, hn6, by rw [sv_len, sl_big]; omega, ?_⟩
        have nml : IsNm (st.take a ++ rep q' [c] ++ st.drop a) := mid_nm (by
          rcases stw with h | ⟨h1, h2, h3⟩
          · exact .inl ⟨h, q1, q8⟩
          · refine .inr ⟨h1, h2, h3, qs fun e => ?_⟩
            have := hst' (by omega)
            rw [this] at h2
            simp at h2) cl'
        have old : ∀ t ∈ ts, ∃ c0 r0, c0 ∉ ls.eraseIdx r ∧ 1 ≤ r0 ∧ t = st.take a ++ rep r0 [c0] ++ st.drop a := fun t ht => by
          obtain ⟨c0, r0, h1, h2, h3⟩ := made t ht
          exact ⟨c0, r0, fun hm => h1 (lsub _ hm), h2, h3⟩
        have hno : (st.take a ++ rep q' [c] ++ st.drop a) ∉ ts := fun hm => by
          obtain ⟨c0, r0, h1, h2, h3⟩ := made _ hm
          have := mid_ne q1 h2 h3
          exact h1 (this ▸ List.mem_of_getElem? hc)
        refine ⟨_, _, ts ++ [st.take a ++ rep q' [c] ++ st.drop a], ls.eraseIdx r, rfl, by rw [List.length_append, e1]; rfl, ?_, ?_, upd_same.trans (by rw [sv_app]; rfl), kput k6, (S6.put nas nac).mono (by omega), fun h => ⟨(upd_ne lna).trans hl6, lsl', lnd', fun x hx => low' x (lsub x hx), ?_⟩⟩
        · exact List.nodup_append.mpr ⟨nd, (by simp), fun u hu v hv e => hno (by rw [List.mem_singleton.mp hv] at e; exact e ▸ hu)⟩
        · intro t ht
          rcases List.mem_append.mp ht with ht | ht
          · exact nm t ht
          · rw [List.mem_singleton.mp ht]; exact nml
        · intro t ht
          rcases List.mem_append.mp ht with ht | ht
          · exact old t ht
          · rw [List.mem_singleton.mp ht]; exact ⟨c, q', cno, q1, rfl⟩
    · obtain ⟨x, y, ts, ls, rfl, e1, nd, nm, hn4, k4, S4, more⟩ := hW
      exact q na ts H4 e1 nd nm hna0 hn4 k4 (S4.mono (by omega))
def sp__law_thing_names (K : PySem.W.Frag) : Sp := fun vs H Q _ => ∃ (s cl : Addr) (n : Nat) (p : Addr) (ts : List Tx) (m : Nat), vs = [.ref s, .ref p, .int (m : Nat)] ∧ Sto s cl n H ∧ n + 500 < 1000000000000 ∧ H p = some (.lst (sv ts)) ∧ p ≠ s ∧ ts.length ≤ 8 ∧ (∀ t ∈ ts, IsNm t) ∧ ts.Nodup ∧ m ≤ 10 ∧
  ∀ (o : Addr) (us : List Tx) H', us.length = m → us.Nodup → (∀ u ∈ us, IsNm u) → H o = none → H' o = some (.lst (sv us)) → Keep s H H' → Sto s cl (n + 500) H' → Q (.ref o) H'
theorem sc__law_thing_names : FnScope ["store", "towns", "count", "names", "turn"] ["store", "towns", "count"] (defScope (topS 55)) := ⟨rfl, rfl, rfl, by decide +kernel, rfl, by decide +kernel, by decide +kernel⟩
theorem ok__law_thing_names {P : Program} {w : World} {K : PySem.W.Frag} {mg : Str → Option Value} {base : Heap} (T : Top K mg) : FnOk P w K mg base CX0 7 T.a__law_thing_names T.fd__law_thing_names ["store", "towns", "count"] (sp__law_thing_names K) := by
  refine T.F__law_thing_names.ok (k := 6) sc__law_thing_names (fun vs H Q E h => ?_) (fun cdv A outer s0 H vs Q E hr h => ?_)
  · obtain ⟨s, cl, n, p, ts, m, rfl, _⟩ := h; rfl
  · have sc := sc__law_thing_names
    refine ⟨_, (pss_cons (xs_if (pt_not (xt (pe_call (ok__law_yes T) (hr.mono (by decide)) (by rfl) T.g__law_yes T.F__law_yes.kp T.b__law_yes .nil pass0 (pa_cons (xv 0) (pa_cons pe_int pa_nil))))) (pss_one (ps_ret (pe_call (ok__law_names T) (hr.mono (by decide)) (by rfl) T.g__law_names T.F__law_names.kp T.b__law_names .nil pass0 (pa_cons (xv 0) (pa_cons (xv 2) pa_nil))))) pss_nil)
      (pss_cons (ps_set (i := 3) sc.nd rfl (by first | exact Or.inl rfl | exact Or.inr rfl) (pe_slice (ksl (K := K) rfl) (pe_callTy (kc_list (K := K) rfl rfl) (by rfl) T.n_list (by decide +kernel) (pa_cons (xv 1) pa_nil)) po_none (po_some (xv 2))))
      (pss_cons (ps_for PassesOwn.never rfl (pi_range1 (by rfl) T.n_range (pa_cons (pe_op xo_sub (xv 2) (pe_callB (kc_len (K := K) rfl) (by rfl) T.n_len (by decide +kernel) (pa_cons (xv 3) pa_nil))) pa_nil)) (pg_name (i := 4) sc.nd rfl (by first | exact Or.inl rfl | exact Or.inr rfl)) (pss_one (ps_expr (ke_bm (K := K) rfl PySem.F.plainAttrs_list PySem.F.slot_list_append PySem.F.type_list_append xm_append (xv 3) (pa_cons (pe_call (ok__law_name T) (hr.mono (by decide)) (by rfl) T.g__law_name T.F__law_name.kp T.b__law_name .nil pass0 (pa_cons (xv 0) (pa_cons (xv 3) pa_nil))) pa_nil)))))
      (pss_one (ps_ret (xv 3)))))), ?_⟩
    obtain ⟨s, cl, n, p, ts, m, rfl, St, hn, hp, ps, t8, tnm, td, m10, q⟩ := h
    refine ⟨s, cl, n, _, rfl, St, by omega, by decide, fun b H1 k1 S1 => ⟨fun _ => ?_, fun _ => ?_⟩⟩
    · exact ⟨s, cl, _, m, rfl, S1, by omega, by omega, fun o us H2 lu nd nm f2 e2 k2 S2 => q o us H2 lu nd nm (k1.free (S1.ne f2) f2) e2 (k1.trans k2) (S2.mono (by omega))⟩
    refine ⟨_, Sq.l (k1 _ _ ps hp), fun c hc => ?_⟩
    have S2 := S1.new (o := .lst (sv ts)) hc
    have cs := S1.ne hc
    refine ⟨_, rfl, _, SqL.of upd_same, fun d hd => ?_⟩
    rw [cutV_to, sv_take]
    have S3 := S2.new (o := .lst (sv (ts.take m))) hd
    have ds := S2.ne hd
    have dc := S2.nec hd
    have k3 := k1.trans ((Keep.new (o := .lst (sv ts)) hc).trans (Keep.new (o := .lst (sv (ts.take m))) hd))
    have hd0 : H d = none := k1.free ((S2.ne hd)) ((same_new hc).free hd)
    have kput : ∀ {H' : Hp} {o : HO}, Keep s H H' → Keep s H (upd H' d o) := fun {H' o} k b u ne e => (upd_ne (ne_of_none e hd0)).trans (k b u ne e)
    refine ⟨_, Sq.l upd_same, _, rfl, by rw [sv_len, List.length_take]; omega, by rw [sv_len, List.length_take]; omega, ?_⟩
    have lt0 : (ts.take m).length = min m ts.length := List.length_take
    rw [sv_len]
    have en : (((m : Nat) : Int) - ((ts.take m).length : Nat)).toNat = m - (ts.take m).length := by omega
    rw [en]
    refine for_range (lo := 0) (n := m - (ts.take m).length) (fun i σ G => ∃ (y : Option V) (us : List Tx), σ = [some (.ref s), some (.ref p), some (.int (m : Nat)), some (.ref d), y] ∧ us.length = (ts.take m).length + i ∧ us.Nodup ∧ (∀ u ∈ us, IsNm u) ∧ G d = some (.lst (sv us)) ∧ Keep s H G ∧ Sto s cl (n + 1 + 10 * i) G)
      ⟨_, ts.take m, rfl, rfl, td.sublist (List.take_sublist _ _), fun u hu => tnm u (List.mem_of_mem_take hu), upd_same, k3, S3⟩ (fun i σ G hi e => ?_) (fun σ G e => ?_)
    · obtain ⟨y, us, rfl, lu, nd, nm, ed, kG, SG⟩ := e
      refine ⟨tyL ed, s, cl, _, d, us, rfl, SG, by omega, ed, ds, by omega, nm_fines nm, fun l G2 hno l8 fl isn k2 S2' => ?_⟩
      have nml := isn fun t ht => (nm t ht).w
      refine ⟨_, k2 _ _ ds ed, by rw [sv_len, sl_big]; omega, ?_⟩
      refine ⟨_, us ++ [l], rfl, by rw [List.length_append, lu]; rfl, ?_, ?_, upd_same.trans (by rw [sv_app]; rfl), kput (kG.trans k2), (S2'.put ds dc).mono (by omega)⟩
      · exact List.nodup_append.mpr ⟨nd, (by simp), fun u hu v hv e => hno (by rw [List.mem_singleton.mp hv] at e; exact e ▸ hu)⟩
      · intro t ht
        rcases List.mem_append.mp ht with ht | ht
        · exact nm t ht
        · rw [List.mem_singleton.mp ht]; exact nml
    · obtain ⟨y, us, rfl, lu, nd, nm, ed, kG, SG⟩ := e
      exact q d us G (by omega) nd nm hd0 ed kG (SG.mono (by omega))
theorem sc__law_same : FnScope ["actual", "expected", "k"] ["actual", "expected"] (defScope (topS 42)) := ⟨rfl, rfl, rfl, by decide +kernel, rfl, by decide +kernel, by decide +kernel⟩
def sp__law_same (K : PySem.W.Frag) : Sp := fun vs H Q _ => ∃ x y, vs = [x, y] ∧ Rep H 7 x y ∧ Q (.bl true) H
theorem same_step {P : Program} {w : World} {K : PySem.W.Frag} {mg : Str → Option Value} {base : Heap} (T : Top K mg) (n : Nat) (spI : Sp) (ih : FnOk P w K mg base CX0 n T.a__law_same T.fd__law_same ["actual", "expected"] spI)
    (hI : ∀ (m : Nat) (H : Hp) (x y : V) (Q : VK) (E : XK), n = m + 1 → Rep H m x y → Q (.bl true) H → spI [x, y] H Q E) :
    FnOk P w K mg base CX0 (n + 1) T.a__law_same T.fd__law_same ["actual", "expected"] (fun vs H Q _ => ∃ x y, vs = [x, y] ∧ Rep H n x y ∧ Q (.bl true) H) := by
  refine T.F__law_same.ok (k := n) sc__law_same (fun vs H Q E h => ?_) (fun cdv A outer s0 H vs Q E hr h => ?_)
  · obtain ⟨x, y, rfl, _⟩ := h; rfl
  · have sc := sc__law_same
    refine ⟨_, (pss_cons (xs_if (PW.pt (xw_or (xt (pe_callB (xc_isi .list) (by rfl) T.n_isinstance (by decide +kernel) (pa_cons (xv 1) (pa_cons (pe_bltn (v := .ty "list") (by rfl) T.n_list (by decide +kernel) rfl) pa_nil)))) (pw_or1 (xt (pe_callB (xc_isi .tuple) (by rfl) T.n_isinstance (by decide +kernel) (pa_cons (xv 1) (pa_cons (pe_bltn (v := .ty "tuple") (by rfl) T.n_tuple (by decide +kernel) rfl) pa_nil))))))) (xss_cut (xs_if (PW.pt (xw_and (xt (pe_callB (xc_isi .list) (by rfl) T.n_isinstance (by decide +kernel) (pa_cons (xv 1) (pa_cons (pe_bltn (v := .ty "list") (by rfl) T.n_list (by decide +kernel) rfl) pa_nil)))) (pw_and1 (pt_not (xt (pe_callB (xc_isi .list) (by rfl) T.n_isinstance (by decide +kernel) (pa_cons (xv 0) (pa_cons (pe_bltn (v := .ty "list") (by rfl) T.n_list (by decide +kernel) rfl) pa_nil)))))))) (pss_one (ps_ret pe_bl)) pss_nil)
      (xss_cut (xs_if (PW.pt (xw_and (xt (pe_callB (xc_isi .tuple) (by rfl) T.n_isinstance (by decide +kernel) (pa_cons (xv 1) (pa_cons (pe_bltn (v := .ty "tuple") (by rfl) T.n_tuple (by decide +kernel) rfl) pa_nil)))) (pw_and1 (pt_not (xt (pe_callB (xc_isi .tuple) (by rfl) T.n_isinstance (by decide +kernel) (pa_cons (xv 0) (pa_cons (pe_bltn (v := .ty "tuple") (by rfl) T.n_tuple (by decide +kernel) rfl) pa_nil)))))))) (pss_one (ps_ret pe_bl)) pss_nil)
      (pss_cons (xs_if (xtc (ko_ne (K := K) rfl hr.units) (pe_callB (kc_len (K := K) rfl) (by rfl) T.n_len (by decide +kernel) (pa_cons (xv 0) pa_nil)) (pe_callB (kc_len (K := K) rfl) (by rfl) T.n_len (by decide +kernel) (pa_cons (xv 1) pa_nil)) (nomark _)) (pss_one (ps_ret pe_bl)) pss_nil)
      (pss_cons (ps_for PassesOwn.never rfl (pi_range1 (by rfl) T.n_range (pa_cons (pe_callB (kc_len (K := K) rfl) (by rfl) T.n_len (by decide +kernel) (pa_cons (xv 1) pa_nil)) pa_nil)) (pg_name (i := 2) sc.nd rfl (by first | exact Or.inl rfl | exact Or.inr rfl)) (pss_one (xs_if (pt_not (xt (pe_call ih hr (by rfl) T.g__law_same T.F__law_same.kp T.b__law_same .nil pass0 (pa_cons (pe_ix (kix (K := K) rfl) (xv 0) (xv 2) (fun _ _ => rfl)) (pa_cons (pe_ix (kix (K := K) rfl) (xv 1) (xv 2) (fun _ _ => rfl)) pa_nil))))) (pss_one (ps_ret pe_bl)) pss_nil)))
      (pss_one (ps_ret pe_bl)))))) pss_nil)
      (pss_cons (xs_if (xtc xo_is (xv 1) pe_non (nomark _)) (pss_one (ps_ret (pe_cmpR xo_is (xv 0) pe_non (nomark _)))) pss_nil)
      (pss_cons (xs_if (xt (pe_callB (xc_isi .bool) (by rfl) T.n_isinstance (by decide +kernel) (pa_cons (xv 1) (pa_cons (pe_bltn (v := .ty "bool") (by rfl) T.n_bool (by decide +kernel) rfl) pa_nil)))) (pss_one (ps_ret (xe_and (pe_callB (xc_isi .bool) (by rfl) T.n_isinstance (by decide +kernel) (pa_cons (xv 0) (pa_cons (pe_bltn (v := .ty "bool") (by rfl) T.n_bool (by decide +kernel) rfl) pa_nil))) (pe_one (pe_cmpR (ko_eq (K := K) rfl hr.units) (xv 0) (xv 1) (nomark _)))))) pss_nil)
      (pss_cons (xs_if (xt (pe_callB (xc_isi .int) (by rfl) T.n_isinstance (by decide +kernel) (pa_cons (xv 1) (pa_cons (pe_bltn (v := .ty "int") (by rfl) T.n_int (by decide +kernel) rfl) pa_nil)))) (pss_one (ps_ret (xe_and (pe_callB (xc_isi .int) (by rfl) T.n_isinstance (by decide +kernel) (pa_cons (xv 0) (pa_cons (pe_bltn (v := .ty "int") (by rfl) T.n_int (by decide +kernel) rfl) pa_nil))) (xe_and (xe_not (pe_callB (xc_isi .bool) (by rfl) T.n_isinstance (by decide +kernel) (pa_cons (xv 0) (pa_cons (pe_bltn (v := .ty "bool") (by rfl) T.n_bool (by decide +kernel) rfl) pa_nil)))) (pe_one (pe_cmpR (ko_eq (K := K) rfl hr.units) (xv 0) (xv 1) (nomark _))))))) pss_nil)
      (pss_one (ps_ret (xe_and (pe_callB (xc_isi .str) (by rfl) T.n_isinstance (by decide +kernel) (pa_cons (xv 0) (pa_cons (pe_bltn (v := .ty "str") (by rfl) T.n_str (by decide +kernel) rfl) pa_nil))) (pe_one (pe_cmpR (ko_eq (K := K) rfl hr.units) (xv 0) (xv 1) (nomark _)))))))))), ?_⟩
    obtain ⟨x, y, rfl, hR, q⟩ := h
    have none_of : ∀ {v : V}, Rep H n x y → True := fun _ => trivial
    cases y with
    | ref b =>
      cases n with
      | zero => cases x <;> exact hR.elim
      | succ n =>
        cases x with
        | ref a =>
          have hI := fun H x y Q E => hI n H x y Q E rfl
          rcases hR with ⟨xs, ys, ha, hb, el, hz, hr'⟩ | ⟨xs, ys, ha, hb, el, hz, hr'⟩
          · refine ⟨rfl, .inl ⟨⟨_, hb⟩, fun _ => ⟨fun _ => ?_, no_tf⟩, fun c => no_tf c⟩⟩
            have sa : Sq K H a xs := Sq.l ha
            have sb : Sq K H b ys := Sq.l hb
            refine ⟨fun σ' H' => σ' = [some (.ref a), some (.ref b), none] ∧ H' = H, ?_, ?_⟩
            · exact ⟨rfl, .inl ⟨⟨_, hb⟩, fun _ => ⟨rfl, .inl ⟨⟨_, ha⟩, no_ft, fun _ => ⟨rfl, rfl⟩⟩⟩, fun c => no_tf c⟩⟩
            rintro σ' H' ⟨rfl, rfl⟩
            refine ⟨fun σ'' H'' => σ'' = [some (.ref a), some (.ref b), none] ∧ H'' = H', ?_, ?_⟩
            · exact ⟨rfl, .inl ⟨⟨_, hb⟩, fun c => no_ft c, fun _ => ⟨no_ft, fun _ => ⟨rfl, rfl⟩⟩⟩⟩
            rintro σ'' H'' ⟨rfl, rfl⟩
            refine ⟨_, sa, _, sb, fun c => ?_, fun _ => ?_⟩
            · have c' : (!decide (((xs.length : Nat) : Int) = ((ys.length : Nat) : Int))) = true := c
              rw [el, decide_eq_true rfl] at c'
              exact Bool.noConfusion c'
            refine ⟨_, sb, _, rfl, by omega, by omega, ?_⟩
            rw [Int.toNat_natCast]
            refine for_range (lo := 0) (n := ys.length) (fun i σ H3 => H3 = H'' ∧ ∃ z : Option V, σ = [some (.ref a), some (.ref b), z]) ⟨rfl, none, rfl⟩ (fun i σ H3 hi hW => ?_) (fun σ H3 hW => ?_)
            · obtain ⟨rfl, z, rfl⟩ := hW
              have gx : xs[i]? = some xs[i] := List.getElem?_eq_getElem (by omega)
              have gy : ys[i]? = some ys[i] := List.getElem?_eq_getElem hi
              refine ⟨xs, xs[i], sa, at_int (by omega) gx, ys, ys[i], sb, at_int (by omega) gy, ?_⟩
              exact hI _ _ _ _ _ (hr' i _ _ gx gy) ⟨no_ft, fun _ => ⟨rfl, _, rfl⟩⟩
            · obtain ⟨rfl, z, rfl⟩ := hW
              exact q
          · refine ⟨rfl, .inr ⟨⟨_, hb⟩, fun c => no_ft c, fun _ => ⟨rfl, .inr ⟨⟨_, hb⟩, fun _ => ?_, fun c => no_tf c⟩⟩⟩⟩
            have sa : Sq K H a xs := Sq.t ha
            have sb : Sq K H b ys := Sq.t hb
            refine ⟨fun σ' H' => σ' = [some (.ref a), some (.ref b), none] ∧ H' = H, ?_, ?_⟩
            · exact ⟨rfl, .inr ⟨⟨_, hb⟩, fun c => no_ft c, fun _ => ⟨no_ft, fun _ => ⟨rfl, rfl⟩⟩⟩⟩
            rintro σ' H' ⟨rfl, rfl⟩
            refine ⟨fun σ'' H'' => σ'' = [some (.ref a), some (.ref b), none] ∧ H'' = H', ?_, ?_⟩
            · exact ⟨rfl, .inr ⟨⟨_, hb⟩, fun _ => ⟨rfl, .inr ⟨⟨_, ha⟩, no_ft, fun _ => ⟨rfl, rfl⟩⟩⟩, fun c => no_tf c⟩⟩
            rintro σ'' H'' ⟨rfl, rfl⟩
            refine ⟨_, sa, _, sb, fun c => ?_, fun _ => ?_⟩
            · have c' : (!decide (((xs.length : Nat) : Int) = ((ys.length : Nat) : Int))) = true := c
              rw [el, decide_eq_true rfl] at c'
              exact Bool.noConfusion c'
            refine ⟨_, sb, _, rfl, by omega, by omega, ?_⟩
            rw [Int.toNat_natCast]
            refine for_range (lo := 0) (n := ys.length) (fun i σ H3 => H3 = H'' ∧ ∃ z : Option V, σ = [some (.ref a), some (.ref b), z]) ⟨rfl, none, rfl⟩ (fun i σ H3 hi hW => ?_) (fun σ H3 hW => ?_)
            · obtain ⟨rfl, z, rfl⟩ := hW
              have gx : xs[i]? = some xs[i] := List.getElem?_eq_getElem (by omega)
              have gy : ys[i]? = some ys[i] := List.getElem?_eq_getElem hi
              refine ⟨xs, xs[i], sa, at_int (by omega) gx, ys, ys[i], sb, at_int (by omega) gy, ?_⟩
              exact hI _ _ _ _ _ (hr' i _ _ gx gy) ⟨no_ft, fun _ => ⟨rfl, _, rfl⟩⟩
            · obtain ⟨rfl, z, rfl⟩ := hW
              exact q
        | _ => exact hR.elim
    | non =>
      have ex : x = .non := by cases x <;> first | rfl | (cases n <;> exact hR.elim)
      subst ex
      exact ⟨rfl, fun c => no_ft c, fun _ => ⟨rfl, fun c => no_ft c, fun _ => ⟨fun _ => q, fun c => no_tf c⟩⟩⟩
    | bl b =>
      have ex : x = .bl b := by cases x <;> first | (cases n <;> exact congrArg V.bl hR) | (cases n <;> exact hR.elim)
      subst ex
      refine ⟨rfl, fun c => no_ft c, fun _ => ⟨rfl, fun c => no_ft c, fun _ => ⟨fun c => absurd (of_decide_eq_true c) (by intro z; cases z), fun _ => ⟨rfl, fun _ => ⟨rfl, fun _ => ?_, fun c => no_tf c⟩, fun c => no_tf c⟩⟩⟩⟩
      have z : decide (b = b) = true := decide_eq_true rfl
      rw [← z] at q
      exact q
    | int i =>
      have ex : x = .int i := by cases x <;> first | (cases n <;> exact congrArg V.int hR) | (cases n <;> exact hR.elim)
      subst ex
      refine ⟨rfl, fun c => no_ft c, fun _ => ⟨rfl, fun c => no_ft c, fun _ => ⟨fun c => absurd (of_decide_eq_true c) (by intro z; cases z), fun _ => ⟨rfl, fun c => no_ft c, fun _ => ⟨rfl, fun _ => ⟨rfl, fun _ => ⟨rfl, fun _ => ?_, fun c => no_tf c⟩, fun c => no_tf c⟩, fun c => no_tf c⟩⟩⟩⟩⟩
      have z : decide (i = i) = true := decide_eq_true rfl
      rw [← z] at q
      exact q
    | str z =>
      have ex : x = .str z := by cases x <;> first | (cases n <;> exact congrArg V.str hR) | (cases n <;> exact hR.elim)
      subst ex
      refine ⟨rfl, fun c => no_ft c, fun _ => ⟨rfl, fun c => no_ft c, fun _ => ⟨fun c => absurd (of_decide_eq_true c) (by intro z; cases z), fun _ => ⟨rfl, fun c => no_ft c, fun _ => ⟨rfl, fun c => no_ft c, fun _ => ⟨rfl, fun _ => ?_, fun c => no_tf c⟩⟩⟩⟩⟩⟩
      have z : decide (z = z) = true := decide_eq_true rfl
      rw [← z] at q
      exact q
    | byt _ => cases n <;> cases x <;> exact hR.elim
    | flt _ => cases n <;> cases x <;> exact hR.elim
    | ty _ => cases n <;> cases x <;> exact hR.elim
theorem ok_same_n {P : Program} {w : World} {K : PySem.W.Frag} {mg : Str → Option Value} {base : Heap} (T : Top K mg) : ∀ n : Nat, FnOk P w K mg base CX0 (n + 1) T.a__law_same T.fd__law_same ["actual", "expected"] (fun vs H Q _ => ∃ x y, vs = [x, y] ∧ Rep H n x y ∧ Q (.bl true) H)
  | 0 => same_step T 0 _ fn_never (fun m _ _ _ _ _ e => by cases e)
  | n + 1 => same_step T (n + 1) _ (ok_same_n T n) (fun m H x y Q E e hR q => by cases e; exact ⟨x, y, rfl, hR, q⟩)
theorem ok__law_same {P : Program} {w : World} {K : PySem.W.Frag} {mg : Str → Option Value} {base : Heap} (T : Top K mg) : FnOk P w K mg base CX0 8 T.a__law_same T.fd__law_same ["actual", "expected"] (sp__law_same K) := ok_same_n T 7
theorem sc__law_copy : FnScope ["value", "item"] ["value"] (defScope (topS 43)) := ⟨rfl, rfl, rfl, by decide +kernel, rfl, by decide +kernel, by decide +kernel⟩
def sp__law_copy (K : PySem.W.Frag) : Sp := fun vs H Q _ => ∃ x, vs = [x] ∧ Tree H 7 x ∧ ∀ y H', Same H H' → Cp (fun b => H b = none) H H' 7 x y → Q y H'
theorem copy_step {P : Program} {w : World} {K : PySem.W.Frag} {mg : Str → Option Value} {base : Heap} (T : Top K mg) (n : Nat) (spI : Sp) (ih : FnOk P w K mg base CX0 n T.a__law_copy T.fd__law_copy ["value"] spI)
    (hI : ∀ (m : Nat) (H : Hp) (x : V) (Q : VK) (E : XK), n = m + 1 → Tree H m x → (∀ y H', Same H H' → Cp (fun b => H b = none) H H' m x y → Q y H') → spI [x] H Q E) :
    FnOk P w K mg base CX0 (n + 1) T.a__law_copy T.fd__law_copy ["value"] (fun vs H Q _ => ∃ x, vs = [x] ∧ Tree H n x ∧ ∀ y H', Same H H' → Cp (fun b => H b = none) H H' n x y → Q y H') := by
  refine T.F__law_copy.ok (k := n) sc__law_copy (fun vs H Q E h => ?_) (fun cdv A outer s0 H vs Q E hr h => ?_)
  · obtain ⟨x, rfl, _⟩ := h; rfl
  · have sc := sc__law_copy
    refine ⟨_, (pss_cons (xs_if (xt (pe_callB (xc_isi .list) (by rfl) T.n_isinstance (by decide +kernel) (pa_cons (xv 0) (pa_cons (pe_bltn (v := .ty "list") (by rfl) T.n_list (by decide +kernel) rfl) pa_nil)))) (pss_one (ps_ret (pe_lc (own := [("item", 1)]) rfl sc.nd (ki_seq (K := K) rfl (xv 0)) (blkOk_by (N := ["value", "item"]) (sc := defScope (topS 43)) (by decide +kernel)) (fun _ _ _ _ _ => (pg_name (i := 1) sc.nd rfl (by first | exact Or.inl rfl | exact Or.inr rfl))) (fun _ _ _ _ _ => pts_nil) (fun _ _ _ _ _ => (pe_call ih hr (by rfl) T.g__law_copy T.F__law_copy.kp T.b__law_copy .nil pass0 (pa_cons (xv 1) pa_nil)))))) pss_nil)
      (pss_cons (xs_if (xt (pe_callB (xc_isi .tuple) (by rfl) T.n_isinstance (by decide +kernel) (pa_cons (xv 0) (pa_cons (pe_bltn (v := .ty "tuple") (by rfl) T.n_tuple (by decide +kernel) rfl) pa_nil)))) (pss_one (ps_ret (pe_callTy (kc_tuple (K := K) rfl) (by rfl) T.n_tuple (by decide +kernel) (pa_cons (pe_lc (own := [("item", 1)]) rfl sc.nd (ki_seq (K := K) rfl (xv 0)) (blkOk_by (N := ["value", "item"]) (sc := defScope (topS 43)) (by decide +kernel)) (fun _ _ _ _ _ => (pg_name (i := 1) sc.nd rfl (by first | exact Or.inl rfl | exact Or.inr rfl))) (fun _ _ _ _ _ => pts_nil) (fun _ _ _ _ _ => (pe_call ih hr (by rfl) T.g__law_copy T.F__law_copy.kp T.b__law_copy .nil pass0 (pa_cons (xv 1) pa_nil)))) pa_nil)))) pss_nil)
      (pss_one (ps_ret (xv 0))))), ?_⟩
    obtain ⟨x, rfl, hT, q⟩ := h
    cases x with
    | ref a =>
      cases n with
      | zero => exact hT.elim
      | succ n =>
        have hI := fun H x Q E => hI n H x Q E rfl
        have each : ∀ {D : Addr} {G : Hp} {x : V} {Q' : VK}, H D = none → Same H G → (∃ acc, G D = some (.lst acc)) → Tree H n x → (∀ y G', Same G G' → Cp (fun b => H b = none ∧ b ≠ D) H G' n x y → Q' y G') → spI [x] G Q' E0 := fun {D G x Q'} hD s dG t go =>
          hI G x Q' _ (t.same s n x) fun y G' s' c => go y G' s' (c.conv s (fun b hb => ⟨s.free hb, fun z => by obtain ⟨acc, e⟩ := dG; rw [z, e] at hb; cases hb⟩) n x y t)
        rcases hT with ⟨xs, ha, big, hx⟩ | ⟨xs, ha, big, hx⟩
        · refine ⟨rfl, .inl ⟨⟨_, ha⟩, fun _ => ?_, no_tf⟩⟩
          refine tLc_items (xs := xs) (fun D G x y => Cp (fun b => H b = none ∧ b ≠ D) H G n x y) ?_ (Lt.l ha) big ?_ (fun D G G' x y hD k h => h.keep k (fun b z => z.2) n x y) ?_ ?_ <;> try (first | exact fun R h => h | exact fun _ => rfl)
          · exact fun D G x hD s dG hm Q' go => each hD s dG (hx x hm) go
          · intro D G ys s hD ly dG hy
            exact q _ G s ⟨hD, .inl ⟨xs, ys, ha, dG, ly, fun k x y p1 p2 => (hy k x y p1 p2).weak (fun b z => z.1) n x y⟩⟩
        · refine ⟨rfl, .inr ⟨⟨_, ha⟩, no_ft, fun _ => ⟨rfl, .inr ⟨⟨_, ha⟩, fun _ => ?_, no_tf⟩⟩⟩⟩
          dsimp only [tCons, tNil, tCB, tRet]
          refine tLc_items (xs := xs) (fun D G x y => Cp (fun b => H b = none ∧ b ≠ D) H G n x y) ?_ (Lt.t ha) big ?_ (fun D G G' x y hD k h => h.keep k (fun b z => z.2) n x y) ?_ ?_ <;> try (first | exact fun R h => h | exact fun _ => rfl)
          · exact fun D G x hD s dG hm Q' go => each hD s dG (hx x hm) go
          · intro D G ys s hD ly dG hy
            refine .inl ⟨ys, SqL.of dG, fun r hr => ?_⟩
            have sr := same_new (o := .tup ys) hr
            exact q _ _ (s.trans sr) ⟨s.free hr, .inr ⟨xs, ys, ha, upd_same, ly, fun k x y p1 p2 => Cp.same sr n x y ((hy k x y p1 p2).weak (fun b z => z.1) n x y)⟩⟩
    | non => exact ⟨rfl, no_ft, fun _ => ⟨rfl, no_ft, fun _ => q _ H (Same.refl _) (by cases n <;> exact rfl)⟩⟩
    | int i => exact ⟨rfl, no_ft, fun _ => ⟨rfl, no_ft, fun _ => q _ H (Same.refl _) (by cases n <;> exact rfl)⟩⟩
    | str z => exact ⟨rfl, no_ft, fun _ => ⟨rfl, no_ft, fun _ => q _ H (Same.refl _) (by cases n <;> exact rfl)⟩⟩
    | bl _ => cases n <;> exact hT.elim
    | byt _ => cases n <;> exact hT.elim
    | flt _ => cases n <;> exact hT.elim
    | ty _ => cases n <;> exact hT.elim
theorem ok_copy_n {P : Program} {w : World} {K : PySem.W.Frag} {mg : Str → Option Value} {base : Heap} (T : Top K mg) : ∀ n : Nat, FnOk P w K mg base CX0 (n + 1) T.a__law_copy T.fd__law_copy ["value"] (fun vs H Q _ => ∃ x, vs = [x] ∧ Tree H n x ∧ ∀ y H', Same H H' → Cp (fun b => H b = none) H H' n x y → Q y H')
  | 0 => copy_step T 0 _ fn_never (fun m _ _ _ _ e => by cases e)
  | n + 1 => copy_step T (n + 1) _ (ok_copy_n T n) (fun m H x Q E e hR q => by cases e; exact ⟨x, rfl, hR, q⟩)
theorem ok__law_copy {P : Program} {w : World} {K : PySem.W.Frag} {mg : Str → Option Value} {base : Heap} (T : Top K mg) : FnOk P w K mg base CX0 8 T.a__law_copy T.fd__law_copy ["value"] (sp__law_copy K) := ok_copy_n T 7
theorem sc__law_spoil : FnScope ["value", "depth", "item"] ["value", "depth"] (defScope (topS 44)) := ⟨rfl, rfl, rfl, by decide +kernel, rfl, by decide +kernel, by decide +kernel⟩
def sp__law_spoil (K : PySem.W.Frag) : Sp := fun vs H Q _ => ∃ (x : V) (d c M : Nat) (C : Addr → Prop), vs = [x, .int (d : Nat)] ∧ d ≤ 7 ∧ okV C x ∧ Wf C c M H ∧ c ≤ 12 ∧ M ≤ 8000000 ∧ ∀ H', KC C H H' → Wf C 12 (M + 4000000) H' → Q .non H'
theorem spoil_step {P : Program} {w : World} {K : PySem.W.Frag} {mg : Str → Option Value} {base : Heap} (T : Top K mg) (n : Nat) (spI : Sp) (ih : FnOk P w K mg base CX0 n T.a__law_spoil T.fd__law_spoil ["value", "depth"] spI)
    (hI : ∀ (m : Nat) (H : Hp) (x : V) (C : Addr → Prop) (c M : Nat) (Q : VK) (E : XK) (d : Int), n = m + 1 → 0 ≤ d → d ≤ m → okV C x → Wf C c M H → 2 ≤ c → M + 2 * vis c m ≤ 16000000 → (∀ H', KC C H H' → Wf C c (M + vis c m) H' → (flatS x → H' = H) → Q .non H') → spI [x, .int d] H Q E) :
    FnOk P w K mg base CX0 (n + 1) T.a__law_spoil T.fd__law_spoil ["value", "depth"] (fun vs H Q _ => ∃ (x : V) (d c M : Nat) (C : Addr → Prop), vs = [x, .int (d : Nat)] ∧ d ≤ n ∧ okV C x ∧ Wf C c M H ∧ 2 ≤ c ∧ M + 2 * vis c n ≤ 16000000 ∧ ∀ H', KC C H H' → Wf C c (M + vis c n) H' → (flatS x → H' = H) → Q .non H') := by
  refine T.F__law_spoil.ok (k := n) sc__law_spoil (fun vs H Q E h => ?_) (fun cdv A outer s0 H vs Q E hr h => ?_)
  · obtain ⟨x, d, c, M, C, rfl, _⟩ := h; rfl
  · have sc := sc__law_spoil
    refine ⟨_, (xss_cut (xs_if (PW.pt (xw_and (xtc xo_gt (xv 1) pe_int (nomark _)) (pw_and1 (xt (pe_callB (xc_isi .tuple) (by rfl) T.n_isinstance (by decide +kernel) (pa_cons (xv 0) (pa_cons (pe_bltn (v := .ty "tuple") (by rfl) T.n_tuple (by decide +kernel) rfl) pa_nil))))))) (pss_one (ps_for PassesOwn.never rfl (ki_seq (K := K) rfl (xv 0)) (pg_name (i := 2) sc.nd rfl (by first | exact Or.inl rfl | exact Or.inr rfl)) (pss_one (ps_expr (pe_call ih hr (by rfl) T.g__law_spoil T.F__law_spoil.kp T.b__law_spoil .nil pass0 (pa_cons (xv 2) (pa_cons (pe_op xo_sub (xv 1) pe_int) pa_nil))))))) pss_nil)
      (pss_one (xs_if (PW.pt (xw_and (xtc xo_gt (xv 1) pe_int (nomark _)) (pw_and1 (xt (pe_callB (xc_isi .list) (by rfl) T.n_isinstance (by decide +kernel) (pa_cons (xv 0) (pa_cons (pe_bltn (v := .ty "list") (by rfl) T.n_list (by decide +kernel) rfl) pa_nil))))))) (pss_cons (ps_for PassesOwn.never rfl (ki_seq (K := K) rfl (pe_callTy (kc_list (K := K) rfl rfl) (by rfl) T.n_list (by decide +kernel) (pa_cons (xv 0) pa_nil))) (pg_name (i := 2) sc.nd rfl (by first | exact Or.inl rfl | exact Or.inr rfl)) (pss_one (ps_expr (pe_call ih hr (by rfl) T.g__law_spoil T.F__law_spoil.kp T.b__law_spoil .nil pass0 (pa_cons (xv 2) (pa_cons (pe_op xo_sub (xv 1) pe_int) pa_nil))))))
      (pss_cons (ps_expr (pe_bm0 PySem.F.plainAttrs_list PySem.F.slot_list_reverse PySem.F.type_list_reverse xm_reverse (xv 0)))
      (pss_one (ps_expr (ke_bm (K := K) rfl PySem.F.plainAttrs_list PySem.F.slot_list_append PySem.F.type_list_append xm_append (xv 0) (pa_cons pe_str pa_nil)))))) pss_nil))), ?_⟩
    obtain ⟨x, d, cc, M, C, rfl, hd, hS, hW, h2, hN, q⟩ := h
    have q0 : (flatS x → H = H) → Q .non H := fun f => q H KC.refl (hW.mono (by omega)) f
    refine ⟨fun σ' H' => (∃ y : Option V, σ' = [some x, some (.int (d : Nat)), y]) ∧ ((∃ p xs, x = .ref p ∧ H' p = some (.tup xs) ∧ KC C H H' ∧ Wf C cc (M + vis cc n) H') ∨ (∃ u xs, C u ∧ x = .ref u ∧ H u = some (.lst xs) ∧ H' = H) ∨ (flatS x ∧ H' = H)), ?_, ?_⟩
    · rcases hS with h | ⟨p, rfl, hp⟩
      · have MM : (∃ y : Option V, ([some x, some (.int (d : Nat)), none] : L2.St) = [some x, some (.int (d : Nat)), y]) ∧ ((∃ p xs, x = .ref p ∧ H p = some (.tup xs) ∧ KC C H H ∧ Wf C cc (M + vis cc n) H) ∨ (∃ u xs, C u ∧ x = .ref u ∧ H u = some (.lst xs) ∧ H = H) ∨ (flatS x ∧ H = H)) := ⟨⟨none, rfl⟩, .inr (.inr ⟨h, rfl⟩)⟩
        rcases h with ⟨z, rfl⟩ | ⟨z, rfl⟩ | ⟨z, rfl⟩ | rfl
        · exact ⟨fun c => ⟨rfl, no_ft, fun _ => MM⟩, fun c => ⟨no_ft, fun _ => MM⟩⟩
        · exact ⟨fun c => ⟨rfl, no_ft, fun _ => MM⟩, fun c => ⟨no_ft, fun _ => MM⟩⟩
        · exact ⟨fun c => ⟨rfl, no_ft, fun _ => MM⟩, fun c => ⟨no_ft, fun _ => MM⟩⟩
        · exact ⟨fun c => ⟨rfl, no_ft, fun _ => MM⟩, fun c => ⟨no_ft, fun _ => MM⟩⟩
      · rcases hW p hp with ⟨xs, h, l, hnf, f⟩ | ⟨xs, h, hnf, f⟩
        · have MM : (∃ y : Option V, ([some (.ref p), some (.int (d : Nat)), none] : L2.St) = [some (.ref p), some (.int (d : Nat)), y]) ∧ ((∃ p' xs, V.ref p = .ref p' ∧ H p' = some (.tup xs) ∧ KC C H H ∧ Wf C cc (M + vis cc n) H) ∨ (∃ u xs, C u ∧ V.ref p = .ref u ∧ H u = some (.lst xs) ∧ H = H) ∨ (flatS (.ref p) ∧ H = H)) := ⟨⟨none, rfl⟩, .inr (.inl ⟨p, xs, hp, rfl, h, rfl⟩)⟩
          exact ⟨fun c => ⟨rfl, .inl ⟨⟨_, h⟩, no_ft, fun _ => MM⟩⟩, fun c => ⟨no_ft, fun _ => MM⟩⟩
        · refine ⟨fun c => ⟨rfl, .inr ⟨⟨_, h⟩, fun _ => ?_, no_tf⟩⟩, fun c => ⟨no_ft, fun _ => ⟨⟨none, rfl⟩, .inl ⟨p, xs, rfl, h, KC.refl, hW.mono (by omega)⟩⟩⟩⟩
          have c0 : (0 : Int) < (d : Nat) := of_decide_eq_true c
          obtain ⟨m, rfl⟩ : ∃ m, n = m + 1 := ⟨n - 1, by omega⟩
          have mul : ∀ {i : Nat}, nf (xs.take i) * vis cc m ≤ cc * vis cc m := fun {i} => Nat.mul_le_mul_right _ (Nat.le_trans (nf_take xs i) hnf)
          have ev : vis cc (m + 1) = cc * vis cc m + 1 := rfl
          have e2c := Nat.mul_le_mul_right (vis cc m) h2
          refine for_seq (xs := xs) (p := p) (fun i σ H' => (∃ y : Option V, σ = [some (.ref p), some (.int (d : Nat)), y]) ∧ KC C H H' ∧ Wf C cc (M + nf (xs.take i) * vis cc m) H') (Lt.t h) ⟨⟨none, rfl⟩, KC.refl, hW.mono (by omega)⟩ (fun i σ H' hW => by rw [hW.2.1.tup h, h]) (fun i y σ H' hi hW => ?_) (fun σ H' hW => ?_)
          · obtain ⟨⟨y0, rfl⟩, k1, w1⟩ := hW
            have hy := f y (List.mem_of_getElem? hi)
            have m1 := mul (i := i + 1)
            have e1 := nf_step hi
            rw [e1, Nat.add_mul] at m1
            by_cases fy : flatS y
            · refine hI m H' y C cc _ _ _ _ rfl (by omega) (by omega) hy w1 h2 (by have := mul (i := i); omega) fun H2 k2 w2 f2 => ⟨⟨_, rfl⟩, ?_⟩
              rw [f2 fy, e1, nf_flat fy]
              exact ⟨k1, w1⟩
            · have n1 : nf [y] = 1 := by
                rcases hy with hy | ⟨a, rfl, _⟩
                · exact (fy hy).elim
                · rfl
              rw [n1] at m1
              refine hI m H' y C cc _ _ _ _ rfl (by omega) (by omega) hy w1 h2 (by omega) fun H2 k2 w2 f2 => ⟨⟨_, rfl⟩, k1.trans k2, w2.mono ?_⟩
              rw [e1, n1, Nat.add_mul]
              omega
          · obtain ⟨⟨y0, rfl⟩, k1, w1⟩ := hW
            exact ⟨⟨_, rfl⟩, .inl ⟨p, xs, rfl, k1.tup h, k1, w1.mono (by have := mul (i := xs.length); omega)⟩⟩
    · rintro σ' H' ⟨⟨y, rfl⟩, ⟨p, xs, rfl, h, k, w'⟩ | ⟨u, xs, hu, rfl, h, rfl⟩ | ⟨h, rfl⟩⟩
      · exact ⟨fun c => ⟨rfl, .inr ⟨⟨_, h⟩, no_ft, fun _ => q H' k w' fun z => (flat_ref z).elim⟩⟩, fun c => ⟨no_ft, fun _ => q H' k w' fun z => (flat_ref z).elim⟩⟩
      · obtain ⟨l, hnf, f⟩ : xs.length ≤ M ∧ nf xs ≤ cc ∧ ∀ x ∈ xs, okV C x := by
          rcases hW u hu with ⟨ys, e, r⟩ | ⟨ys, e, r⟩
          · rw [h] at e; cases e; exact r
          · rw [h] at e; cases e
        refine ⟨fun c => ⟨rfl, .inl ⟨⟨_, h⟩, fun _ => ?_, no_tf⟩⟩, fun c => ⟨no_ft, fun _ => q0 fun _ => rfl⟩⟩
        have c0 : (0 : Int) < (d : Nat) := of_decide_eq_true c
        obtain ⟨m, rfl⟩ : ∃ m, n = m + 1 := ⟨n - 1, by omega⟩
        have mul : ∀ {i : Nat}, nf (xs.take i) * vis cc m ≤ cc * vis cc m := fun {i} => Nat.mul_le_mul_right _ (Nat.le_trans (nf_take xs i) hnf)
        have ev : vis cc (m + 1) = cc * vis cc m + 1 := rfl
        have e2c := Nat.mul_le_mul_right (vis cc m) h2
        refine .inl ⟨xs, Sq.l h, fun D hD => ⟨D, rfl, ⟨_, SqL.of upd_same⟩, ?_⟩⟩
        have sD := same_new (o := .lst xs) hD
        have wD := hW.same sD
        have nD : ¬ C D := hW.some hD
        have eD : upd H' D (.lst xs) D = some (.lst xs) := upd_same
        generalize upd H' D (.lst xs) = G at sD wD eD
        have kD : ∀ {G' : Hp}, KC C G G' → G' D = some (.lst xs) := fun k => k.k _ _ eD fun _ _ => nD
        refine for_list (xs := xs) (fun i σ H2 => (∃ y : Option V, σ = [some (.ref u), some (.int (d : Nat)), y]) ∧ KC C G H2 ∧ Wf C cc (M + nf (xs.take i) * vis cc m) H2) ⟨⟨_, rfl⟩, KC.refl, wD.mono (by omega)⟩ (fun i σ H2 _ hW => SqL.of (kD hW.2.1)) (fun i y σ H2 hi hW => ?_) (fun σ H2 hW => ?_)
        · obtain ⟨⟨y0, rfl⟩, k1, w1⟩ := hW
          have hy := f y (List.mem_of_getElem? hi)
          have m1 := mul (i := i + 1)
          have e1 := nf_step hi
          rw [e1, Nat.add_mul] at m1
          by_cases fy : flatS y
          · refine hI m H2 y C cc _ _ _ _ rfl (by omega) (by omega) hy w1 h2 (by have := mul (i := i); omega) fun H3 k2 w2 f2 => ⟨⟨_, rfl⟩, ?_⟩
            rw [f2 fy, e1, nf_flat fy]
            exact ⟨k1, w1⟩
          · have n1 : nf [y] = 1 := by
              rcases hy with hy | ⟨a, rfl, _⟩
              · exact (fy hy).elim
              · rfl
            rw [n1] at m1
            refine hI m H2 y C cc _ _ _ _ rfl (by omega) (by omega) hy w1 h2 (by omega) fun H3 k2 w2 f2 => ⟨⟨_, rfl⟩, k1.trans k2, w2.mono ?_⟩
            rw [e1, n1, Nat.add_mul]
            omega
        · obtain ⟨⟨y0, rfl⟩, k1, w1⟩ := hW
          have kH : KC C H' H2 := (KC.same sD).trans k1
          have w1 := w1.mono (N := M + cc * vis cc m) (by have := mul (i := xs.length); omega)
          obtain ⟨ys, g2⟩ := kH.l _ _ h
          obtain ⟨l2, hnf2, f2⟩ : ys.length ≤ M + cc * vis cc m ∧ nf ys ≤ cc ∧ ∀ x ∈ ys, okV C x := by
            rcases w1 u hu with ⟨zs, e, r⟩ | ⟨zs, e, r⟩
            · rw [g2] at e; cases e; exact r
            · rw [g2] at e; cases e
          refine ⟨tyL g2, ys, g2, tyL upd_same, _, upd_same, by rw [List.length_reverse, sl_big]; omega, ?_⟩
          rw [upd_upd]
          refine q _ ⟨fun b o e n => ?_, fun b zs e => ?_⟩ (fun a ha => ?_) fun z => (flat_ref z).elim
          · have nb : b ≠ u := fun z => by
              subst z
              rw [h] at e
              cases e
              exact n _ rfl hu
            exact (upd_ne nb).trans (kH.k _ _ e n)
          · by_cases eb : b = u
            · subst eb; exact ⟨_, upd_same⟩
            · obtain ⟨vs, ev⟩ := kH.l _ _ e
              exact ⟨vs, (upd_ne eb).trans ev⟩
          · by_cases eb : a = u
            · subst eb
              refine .inl ⟨_, upd_same, by rw [List.length_append, List.length_reverse]; show ys.length + 1 ≤ _; omega, by rw [nf_app, nf_rev, nf_flat (flatS_lit _)]; exact hnf2, fun x hx => ?_⟩
              rcases List.mem_append.mp hx with hx | hx
              · exact f2 x (List.mem_reverse.mp hx)
              · rw [List.mem_singleton.mp hx]; exact .inl (flatS_lit _)
            · rcases w1 a ha with ⟨zs, e, l, r⟩ | ⟨zs, e, r⟩
              · exact .inl ⟨zs, (upd_ne eb).trans e, by omega, r⟩
              · exact .inr ⟨zs, (upd_ne eb).trans e, r⟩
      · rcases h with ⟨z, rfl⟩ | ⟨z, rfl⟩ | ⟨z, rfl⟩ | rfl
        · exact ⟨fun c => ⟨rfl, no_ft, fun _ => q0 fun _ => rfl⟩, fun c => ⟨no_ft, fun _ => q0 fun _ => rfl⟩⟩
        · exact ⟨fun c => ⟨rfl, no_ft, fun _ => q0 fun _ => rfl⟩, fun c => ⟨no_ft, fun _ => q0 fun _ => rfl⟩⟩
        · exact ⟨fun c => ⟨rfl, no_ft, fun _ => q0 fun _ => rfl⟩, fun c => ⟨no_ft, fun _ => q0 fun _ => rfl⟩⟩
        · exact ⟨fun c => ⟨rfl, no_ft, fun _ => q0 fun _ => rfl⟩, fun c => ⟨no_ft, fun _ => q0 fun _ => rfl⟩⟩
theorem ok_spoil_n {P : Program} {w : World} {K : PySem.W.Frag} {mg : Str → Option Value} {base : Heap} (T : Top K mg) : ∀ n : Nat, FnOk P w K mg base CX0 (n + 1) T.a__law_spoil T.fd__law_spoil ["value", "depth"] (fun vs H Q _ => ∃ (x : V) (d c M : Nat) (C : Addr → Prop), vs = [x, .int (d : Nat)] ∧ d ≤ n ∧ okV C x ∧ Wf C c M H ∧ 2 ≤ c ∧ M + 2 * vis c n ≤ 16000000 ∧ ∀ H', KC C H H' → Wf C c (M + vis c n) H' → (flatS x → H' = H) → Q .non H')
  | 0 => spoil_step T 0 _ fn_never (fun m _ _ _ _ _ _ _ _ e => by cases e)
  | n + 1 => spoil_step T (n + 1) _ (ok_spoil_n T n) (fun m H x C c M Q E d e d0 d1 hx hw h2 hN q => by
      cases e
      exact ⟨x, d.toNat, c, M, C, by rw [Int.toNat_of_nonneg d0], by omega, hx, hw, h2, hN, q⟩)
theorem ok__law_spoil {P : Program} {w : World} {K : PySem.W.Frag} {mg : Str → Option Value} {base : Heap} (T : Top K mg) : FnOk P w K mg base CX0 8 T.a__law_spoil T.fd__law_spoil ["value", "depth"] (sp__law_spoil K) :=
  (ok_spoil_n T 7).imp fun vs H Q E ⟨x, d, c, M, C, e, hd, hs, hw, hc, hM, q⟩ => ⟨x, d, 12, M, C, e, hd, hs, hw.up hc, by decide, by have := vis12; omega, fun H' k w _ => q H' k (w.mono (by have := vis7 (Nat.le_refl 12); omega))⟩
def sp__law_rows (K : PySem.W.Frag) : Sp := fun vs H Q _ => ∃ (s cl : Addr) (n mt mu : Nat), vs = [.ref s, .int (mt : Nat), .int (mu : Nat)] ∧ Sto s cl n H ∧ n + 30000 < 1000000000000 ∧ 1 ≤ mt ∧ mt ≤ 8 ∧ mu ≤ 10 ∧
  ∀ (r a b : Addr) (R : Rv) (rk : Tx → Nat) H', R.Ok rk → H' r = some (.tup [.ref a, .ref b]) → ObjL RowL H' a R.T → ObjL ThO H' b R.U → Keep s H H' → Sto s cl (n + 30000) H' → Q (.ref r) H'
theorem sc__law_rows : FnScope ["store", "most_towns", "most_things", "many", "count", "towns", "things", "rows"] ["store", "most_towns", "most_things"] (defScope (topS 56)) := ⟨rfl, rfl, rfl, by decide +kernel, rfl, by decide +kernel, by decide +kernel⟩
theorem ok__law_rows {P : Program} {w : World} {K : PySem.W.Frag} {mg : Str → Option Value} {base : Heap} (T : Top K mg) : FnOk P w K mg base CX0 8 T.a__law_rows T.fd__law_rows ["store", "most_towns", "most_things"] (sp__law_rows K) := by
  refine T.F__law_rows.ok (k := 7) sc__law_rows (fun vs H Q E h => ?_) (fun cdv A outer s0 H vs Q E hr h => ?_)
  · obtain ⟨s, cl, n, mt, mu, rfl, _⟩ := h; rfl
  · have sc := sc__law_rows
    refine ⟨_, (pss_cons (ps_set (i := 3) sc.nd rfl (by first | exact Or.inl rfl | exact Or.inr rfl) (pe_op (ko_add (K := K) rfl) pe_int (pe_call (ok__law_take T) (hr.mono (by decide)) (by rfl) T.g__law_take T.F__law_take.kp T.b__law_take .nil pass0 (pa_cons (xv 0) (pa_cons (xv 1) pa_nil)))))
      (pss_cons (ps_set (i := 4) sc.nd rfl (by first | exact Or.inl rfl | exact Or.inr rfl) (pe_call (ok__law_take T) (hr.mono (by decide)) (by rfl) T.g__law_take T.F__law_take.kp T.b__law_take .nil pass0 (pa_cons (xv 0) (pa_cons (pe_op (ko_add (K := K) rfl) (xv 2) pe_int) pa_nil))))
      (xss_cut (xs_if (PW.pt (xw_and (xtc (ko_eq (K := K) rfl hr.units) (xv 4) pe_int (nomark _)) (pw_and1 (pt_not (xt (pe_call (ok__law_yes T) (hr.mono (by decide)) (by rfl) T.g__law_yes T.F__law_yes.kp T.b__law_yes .nil pass0 (pa_cons (xv 0) (pa_cons pe_int pa_nil)))))))) (pss_one (ps_set (i := 4) sc.nd rfl (by first | exact Or.inl rfl | exact Or.inr rfl) (xv 2))) pss_nil)
      (pss_cons (ps_set (i := 5) sc.nd rfl (by first | exact Or.inl rfl | exact Or.inr rfl) (pe_call (ok__law_names T) (hr.mono (by decide)) (by rfl) T.g__law_names T.F__law_names.kp T.b__law_names .nil pass0 (pa_cons (xv 0) (pa_cons (xv 3) pa_nil))))
      (pss_cons (ps_set (i := 6) sc.nd rfl (by first | exact Or.inl rfl | exact Or.inr rfl) (pe_call (ok__law_thing_names T) (hr.mono (by decide)) (by rfl) T.g__law_thing_names T.F__law_thing_names.kp T.b__law_thing_names .nil pass0 (pa_cons (xv 0) (pa_cons (xv 5) (pa_cons (xv 4) pa_nil)))))
      (pss_cons (ps_set (i := 7) sc.nd rfl (by first | exact Or.inl rfl | exact Or.inr rfl) (pe_call (ok__law_town_rows T) (hr.mono (by decide)) (by rfl) T.g__law_town_rows T.F__law_town_rows.kp T.b__law_town_rows .nil pass0 (pa_cons (xv 0) (pa_cons (xv 5) (pa_cons (xv 6) (pa_cons pe_bl pa_nil))))))
      (pss_one (ps_ret (pe_tup (pa_cons (xv 7) (pa_cons (pe_call (ok__law_thing_rows T) (hr.mono (by decide)) (by rfl) T.g__law_thing_rows T.F__law_thing_rows.kp T.b__law_thing_rows .nil pass0 (pa_cons (xv 0) (pa_cons (xv 5) (pa_cons (xv 6) pa_nil)))) pa_nil))))))))))), ?_⟩
    obtain ⟨s, cl, n, mt, mu, rfl, St, hn, m1, m8, u10, q⟩ := h
    refine ⟨s, cl, n, _, rfl, St, by omega, by omega, fun r1 H1 hr1 k1 S1 => ?_⟩
    refine ⟨s, cl, n + 1, _, rfl, S1, by omega, by omega, fun r2 H2 hr2 k2 S2 => ?_⟩
    have k12 := k1.trans k2
    refine ⟨fun σ' G => ∃ c : Nat, σ' = [some (.ref s), some (.int (mt : Nat)), some (.int (mu : Nat)), some (.int (1 + (r1 : Nat))), some (.int (c : Nat)), none, none, none] ∧ c ≤ 10 ∧ Keep s H G ∧ Sto s cl (n + 3) G, ?_, ?_⟩
    · have stay : ∀ G, Keep s H G → Sto s cl (n + 3) G → ∃ c : Nat, ([some (.ref s), some (.int (mt : Nat)), some (.int (mu : Nat)), some (.int (1 + (r1 : Nat))), some (.int (r2 : Nat)), none, none, none] : L2.St) = [some (.ref s), some (.int (mt : Nat)), some (.int (mu : Nat)), some (.int (1 + (r1 : Nat))), some (.int (c : Nat)), none, none, none] ∧ c ≤ 10 ∧ Keep s H G ∧ Sto s cl (n + 3) G := fun G k S => ⟨r2, rfl, by omega, k, S⟩
      refine ⟨fun c1 => ⟨s, cl, n + 2, _, rfl, S2, by omega, by decide, fun b G3 k3 S3 => ⟨fun c2 => ?_, fun c2 => ?_⟩⟩, fun c1 => ⟨no_ft, fun _ => stay _ k12 (S2.mono (by omega))⟩⟩
      · exact ⟨mu, rfl, u10, k12.trans k3, S3⟩
      · exact stay _ (k12.trans k3) S3
    rintro σ' G ⟨c, rfl, c10, kG, SG⟩
    have e1m : (1 : Int) + (r1 : Nat) = ((1 + r1 : Nat) : Int) := by omega
    refine ⟨s, cl, n + 3, 1 + r1, by rw [e1m]; rfl, SG, by omega, by omega, fun p ts G1 lt nd nm f1 e1 k3 S3 => ?_⟩
    have ps := SG.ne f1
    refine ⟨s, cl, _, p, ts, c, rfl, S3, by omega, e1, ps, by omega, nm, nd, c10, fun o us G2 lu und unm f2 e2 k4 S4 => ?_⟩
    have os := S3.ne f2
    refine ⟨s, cl, _, p, o, ts, us, rfl, S4, by omega, k4 _ _ ps e1, e2, ps, os, by omega, by omega, by omega, fun ra T zs G3 made lz pT oT f3 k5 S5 => ?_⟩
    refine ⟨s, cl, _, p, o, ts, us, rfl, S5, by omega, k5 _ _ ps (k4 _ _ ps e1), k5 _ _ os e2, ps, os, by omega, by omega, by omega, fun rb U G4 pU hU oU f4 k6 S6 => ?_⟩
    refine ⟨sl_of (n := 2) rfl, fun r hr => ?_⟩
    have sr := same_new (o := .tup [V.ref ra, V.ref rb]) hr
    have ok := made.ok (U := U) lz (by omega) (by omega) (by omega) nm unm nd und pT pU hU
    refine q r ra rb ⟨T, U⟩ _ _ ok upd_same (objl_same (fun _ _ h => RowL.same h sr) (objl_keepR oT S5 k6) sr) (objl_same (fun _ _ h => ThO.same h sr) oU sr) (kG.trans (k3.trans (k4.trans (k5.trans (k6.trans (Keep.new hr)))))) ((S6.new hr).mono (by omega))
def sp__law_drawn_rows (K : PySem.W.Frag) : Sp := fun vs H Q _ => ∃ (s cl : Addr) (n : Nat), vs = [.ref s] ∧ Sto s cl n H ∧ n + 40000 < 1000000000000 ∧
  ∀ (r a b : Addr) (R : Rv) (rk : Tx → Nat) H', R.Ok rk → H' r = some (.tup [.ref a, .ref b]) → ObjL RowL H' a R.T → ObjL ThO H' b R.U → Keep s H H' → Sto s cl (n + 40000) H' → Q (.ref r) H'
theorem sc__law_drawn_rows : FnScope ["store"] ["store"] (defScope (topS 57)) := ⟨rfl, rfl, rfl, by decide +kernel, rfl, by decide +kernel, by decide +kernel⟩
theorem ok__law_drawn_rows {P : Program} {w : World} {K : PySem.W.Frag} {mg : Str → Option Value} {base : Heap} (T : Top K mg) : FnOk P w K mg base CX0 9 T.a__law_drawn_rows T.fd__law_drawn_rows ["store"] (sp__law_drawn_rows K) := by
  refine T.F__law_drawn_rows.ok (k := 8) sc__law_drawn_rows (fun vs H Q E h => ?_) (fun cdv A outer s0 H vs Q E hr h => ?_)
  · obtain ⟨s, cl, n, rfl, _⟩ := h; rfl
  · have sc := sc__law_drawn_rows
    refine ⟨_, (pss_cons (xs_if (xt (pe_call (ok__law_yes T) (hr.mono (by decide)) (by rfl) T.g__law_yes T.F__law_yes.kp T.b__law_yes .nil pass0 (pa_cons (xv 0) (pa_cons pe_int pa_nil)))) (pss_one (ps_ret (pe_call (ok__law_rows T) (hr.mono (by decide)) (by rfl) T.g__law_rows T.F__law_rows.kp T.b__law_rows .nil pass0 (pa_cons (xv 0) (pa_cons pe_int (pa_cons pe_int pa_nil)))))) pss_nil)
      (pss_one (ps_ret (pe_call (ok__law_rows T) (hr.mono (by decide)) (by rfl) T.g__law_rows T.F__law_rows.kp T.b__law_rows .nil pass0 (pa_cons (xv 0) (pa_cons pe_int (pa_cons pe_int pa_nil))))))), ?_⟩
    obtain ⟨s, cl, n, rfl, St, hn, q⟩ := h
    refine ⟨s, cl, n, _, rfl, St, by omega, by decide, fun b H1 k1 S1 => ⟨fun _ => ?_, fun _ => ?_⟩⟩
    · exact ⟨s, cl, _, 8, 10, rfl, S1, by omega, by decide, by decide, by decide, fun r a b R rk H4 ok e1 e2 e3 k4 S4 => q r a b R rk H4 ok e1 e2 e3 (k1.trans k4) (S4.mono (by omega))⟩
    · exact ⟨s, cl, _, 5, 6, rfl, S1, by omega, by decide, by decide, by decide, fun r a b R rk H4 ok e1 e2 e3 k4 S4 => q r a b R rk H4 ok e1 e2 e3 (k1.trans k4) (S4.mono (by omega))⟩
def sp__law_changed_rows (K : PySem.W.Frag) : Sp := fun vs H Q _ => ∃ (s cl r a b : Addr) (n : Nat) (R : Rv) (rk : Tx → Nat), vs = [.ref s, .ref r] ∧ Sto s cl n H ∧ n + 40000 < 1000000000000 ∧ H r = some (.tup [.ref a, .ref b]) ∧ ObjL RowL H a R.T ∧ ObjL ThO H b R.U ∧ R.Ok rk ∧
  ∀ (r2 a2 b2 : Addr) (R2 : Rv) (rk2 : Tx → Nat) H', R2.Ok rk2 → H' r2 = some (.tup [.ref a2, .ref b2]) → ObjL RowL H' a2 R2.T → ObjL ThO H' b2 R2.U → Keep s H H' → Sto s cl (n + 40000) H' → Q (.ref r2) H'
theorem sc__law_changed_rows : FnScope ["store", "rows", "first", "second", "style", "at", "row", "spot"] ["store", "rows"] (defScope (topS 58)) := ⟨rfl, rfl, rfl, by decide +kernel, rfl, by decide +kernel, by decide +kernel⟩
theorem ok__law_changed_rows {P : Program} {w : World} {K : PySem.W.Frag} {mg : Str → Option Value} {base : Heap} (T : Top K mg) : FnOk P w K mg base CX0 9 T.a__law_changed_rows T.fd__law_changed_rows ["store", "rows"] (sp__law_changed_rows K) := by
  refine T.F__law_changed_rows.ok (k := 8) sc__law_changed_rows (fun vs H Q E h => ?_) (fun cdv A outer s0 H vs Q E hr h => ?_)
  · obtain ⟨s, cl, r, a, b, n, R, rk, rfl, _⟩ := h; rfl
  · have sc := sc__law_changed_rows
    refine ⟨_, (pss_cons (ps_set (i := 2) sc.nd rfl (by first | exact Or.inl rfl | exact Or.inr rfl) (pe_callTy (kc_list (K := K) rfl rfl) (by rfl) T.n_list (by decide +kernel) (pa_cons (pe_ix (kix (K := K) rfl) (xv 1) pe_int (fun _ _ => rfl)) pa_nil)))
      (pss_cons (ps_set (i := 3) sc.nd rfl (by first | exact Or.inl rfl | exact Or.inr rfl) (pe_callTy (kc_list (K := K) rfl rfl) (by rfl) T.n_list (by decide +kernel) (pa_cons (pe_ix (kix (K := K) rfl) (xv 1) pe_int (fun _ _ => rfl)) pa_nil)))
      (pss_cons (ps_set (i := 4) sc.nd rfl (by first | exact Or.inl rfl | exact Or.inr rfl) (pe_call (ok__law_take T) (hr.mono (by decide)) (by rfl) T.g__law_take T.F__law_take.kp T.b__law_take .nil pass0 (pa_cons (xv 0) (pa_cons pe_int pa_nil))))
      (pss_cons (ps_set (i := 5) sc.nd rfl (by first | exact Or.inl rfl | exact Or.inr rfl) (pe_call (ok__law_take T) (hr.mono (by decide)) (by rfl) T.g__law_take T.F__law_take.kp T.b__law_take .nil pass0 (pa_cons (xv 0) (pa_cons (pe_callB (kc_len (K := K) rfl) (by rfl) T.n_len (by decide +kernel) (pa_cons (xv 2) pa_nil)) pa_nil))))
      (pss_cons (ps_set (i := 6) sc.nd rfl (by first | exact Or.inl rfl | exact Or.inr rfl) (pe_ix (kix (K := K) rfl) (xv 2) (xv 5) (fun _ _ => rfl)))
      (xss_cut (xs_if (xtc (ko_eq (K := K) rfl hr.units) (xv 4) pe_int (nomark _)) (pss_one (ps_asg (pe_tup (pa_cons (pe_ix (kix (K := K) rfl) (xv 6) pe_int (fun _ _ => rfl)) (pa_cons (pe_ix (kix (K := K) rfl) (xv 6) pe_int (fun _ _ => rfl)) (pa_cons (pe_op xo_mod (pe_callTy xc_int (by rfl) T.n_int (by decide +kernel) (pa_cons (pe_op (ko_add (K := K) rfl) (pe_op (ko_add (K := K) rfl) (pe_ix (kix (K := K) rfl) (xv 6) pe_int (fun _ _ => rfl)) pe_int) (pe_call (ok__law_take T) (hr.mono (by decide)) (by rfl) T.g__law_take T.F__law_take.kp T.b__law_take .nil pass0 (pa_cons (xv 0) (pa_cons pe_int pa_nil)))) pa_nil)) pe_int) (pa_cons (pe_callTy (kc_list (K := K) rfl rfl) (by rfl) T.n_list (by decide +kernel) (pa_cons (pe_ix (kix (K := K) rfl) (xv 6) pe_int (fun _ _ => rfl)) pa_nil)) pa_nil))))) (pg_sub (xv 2) (xv 5) xset))) (pss_one (xs_if (xtc (ko_eq (K := K) rfl hr.units) (xv 4) pe_int (nomark _)) (pss_one (ps_asg (pe_tup (pa_cons (pe_ix (kix (K := K) rfl) (xv 6) pe_int (fun _ _ => rfl)) (pa_cons (pe_ix (kix (K := K) rfl) (xv 6) pe_int (fun _ _ => rfl)) (pa_cons (pe_ix (kix (K := K) rfl) (xv 6) pe_int (fun _ _ => rfl)) (pa_cons (ke_rev (K := K) rfl (pe_callTy (kc_list (K := K) rfl rfl) (by rfl) T.n_list (by decide +kernel) (pa_cons (pe_ix (kix (K := K) rfl) (xv 6) pe_int (fun _ _ => rfl)) pa_nil))) pa_nil))))) (pg_sub (xv 2) (xv 5) xset))) (pss_one (xs_if (xtc (ko_eq (K := K) rfl hr.units) (xv 4) pe_int (nomark _)) (pss_one (ps_asg (pe_tup (pa_cons (pe_ix (kix (K := K) rfl) (xv 6) pe_int (fun _ _ => rfl)) (pa_cons pe_non (pa_cons (pe_ix (kix (K := K) rfl) (xv 6) pe_int (fun _ _ => rfl)) (pa_cons (pe_callTy (kc_list (K := K) rfl rfl) (by rfl) T.n_list (by decide +kernel) (pa_cons (pe_ix (kix (K := K) rfl) (xv 6) pe_int (fun _ _ => rfl)) pa_nil)) pa_nil))))) (pg_sub (xv 2) (xv 5) xset))) (pss_one (xs_if (PW.pt (xw_and (xtc (ko_eq (K := K) rfl hr.units) (xv 4) pe_int (nomark _)) (pw_and1 (xtc xo_gt (pe_callB (kc_len (K := K) rfl) (by rfl) T.n_len (by decide +kernel) (pa_cons (xv 3) pa_nil)) pe_int (nomark _))))) (pss_cons (ps_set (i := 7) sc.nd rfl (by first | exact Or.inl rfl | exact Or.inr rfl) (pe_call (ok__law_take T) (hr.mono (by decide)) (by rfl) T.g__law_take T.F__law_take.kp T.b__law_take .nil pass0 (pa_cons (xv 0) (pa_cons (pe_callB (kc_len (K := K) rfl) (by rfl) T.n_len (by decide +kernel) (pa_cons (xv 3) pa_nil)) pa_nil))))
      (pss_one (ps_asg (pe_tup (pa_cons (pe_ix (kix (K := K) rfl) (pe_ix (kix (K := K) rfl) (xv 3) (xv 7) (fun _ _ => rfl)) pe_int (fun _ _ => rfl)) (pa_cons (pe_ix (kix (K := K) rfl) (pe_call (ok__law_pick T) (hr.mono (by decide)) (by rfl) T.g__law_pick T.F__law_pick.kp T.b__law_pick .nil pass0 (pa_cons (xv 0) (pa_cons (xv 2) pa_nil))) pe_int (fun _ _ => rfl)) pa_nil))) (pg_sub (xv 3) (xv 7) xset)))) (pss_one (ps_ret (pe_call (ok__law_rows T) (hr.mono (by decide)) (by rfl) T.g__law_rows T.F__law_rows.kp T.b__law_rows .nil pass0 (pa_cons (xv 0) (pa_cons pe_int (pa_cons pe_int pa_nil)))))))))))))
      (pss_one (ps_ret (pe_tup (pa_cons (xv 2) (pa_cons (xv 3) pa_nil))))))))))), ?_⟩
    obtain ⟨s, cl, r, a, b, n, R, rk, rfl, S0, hn, hr', ha, hb, k, q⟩ := h
    have t8 := k.t8
    have t0 := k.t0
    have u10 := k.u10
    obtain ⟨zs, ez, ea, hz⟩ := ha
    obtain ⟨ys, ey, eb, hy⟩ := hb
    have lz : zs.length = R.T.length := by rw [← ez, List.length_map]
    have ly : ys.length = R.U.length := by rw [← ey, List.length_map]
    refine ⟨_, _, Sq.t hr', at_int (j := 0) rfl rfl, _, Sq.l ea, fun f hf => ?_⟩
    have c1 := same_new (o := .lst (zs.map fun z => V.ref z.1)) hf
    have ef : upd H f (.lst (zs.map fun z => V.ref z.1)) f = some (.lst (zs.map fun z => V.ref z.1)) := upd_same
    generalize upd H f (.lst (zs.map fun z => V.ref z.1)) = H1 at c1 ef
    refine ⟨_, _, Sq.t (c1 _ _ hr'), at_int (j := 1) rfl rfl, _, Sq.l (c1 _ _ eb), fun g hg => ?_⟩
    have c2 := same_new (o := .lst (ys.map fun z => V.ref z.1)) hg
    have eg : upd H1 g (.lst (ys.map fun z => V.ref z.1)) g = some (.lst (ys.map fun z => V.ref z.1)) := upd_same
    have nfg : f ≠ g := ne_of_none ef hg
    generalize upd H1 g (.lst (ys.map fun z => V.ref z.1)) = H2 at c2 eg
    have c12 := c1.trans c2
    have ef := c2 _ _ ef
    have S2 := S0.same c12
    have fs : f ≠ s := S0.ne hf
    have fc : f ≠ cl := S0.nec hf
    have gs : g ≠ s := (S0.same c1).ne hg
    have gc : g ≠ cl := (S0.same c1).nec hg
    refine ⟨s, cl, n, _, rfl, S2, by omega, by decide, fun st H3 hst k3 S3 => ?_⟩
    have ef := k3 _ _ fs ef
    have eg := k3 _ _ gs eg
    refine ⟨_, Sq.l ef, s, cl, _, _, rfl, S3, by omega, by rw [List.length_map]; omega, fun at_ H4 hat k4 S4 => ?_⟩
    have ef := k4 _ _ fs ef
    have eg := k4 _ _ gs eg
    rw [List.length_map] at hat
    have al : at_ < zs.length := by omega
    have gz : zs[at_]? = some zs[at_] := List.getElem?_eq_getElem al
    have zm := List.mem_of_getElem? gz
    have gT : R.T[at_]? = some zs[at_].2 := by rw [← ez, List.getElem?_map, gz]; rfl
    have kH : Keep s H H4 := (Same.keep c12).trans (k3.trans k4)
    have hzq : ∀ z ∈ zs, ∃ q', H4 z.1 = some (.tup [.str (S z.2.t), ov z.2.a, .int (z.2.r : Nat), .ref q']) ∧ H4 q' = some (.lst (sv z.2.l)) ∧ z.1 ≠ f ∧ q' ≠ f ∧ z.1 ≠ s ∧ q' ≠ s := fun z zm => by
      obtain ⟨q', e1, e2⟩ := hz z zm
      exact ⟨q', kH _ _ (S0.netp e1) e1, kH _ _ (S0.nesv e2) e2, ne_of_none e1 hf, ne_of_none e2 hf, S0.netp e1, S0.nesv e2⟩
    have hy4 : ∀ y ∈ ys, ThO H4 y.1 y.2 ∧ y.1 ≠ f ∧ y.1 ≠ s ∧ y.1 ≠ g := fun y ym => ⟨kH _ _ (S0.netp (hy y ym)) (hy y ym), ne_of_none (hy y ym) hf, S0.netp (hy y ym), ne_of_none (c1 _ _ (hy y ym)) hg⟩
    have lq : ∀ w ∈ R.T, w.r ≤ 99 := k.rm
    generalize zs[at_] = z at gz zm gT
    refine ⟨_, .ref z.1, Sq.l ef, at_int (j := at_) rfl (by rw [List.getElem?_map, gz]; rfl), ?_⟩
    dsimp only [tSeq, tAsg, gName]
    obtain ⟨q0, hr0, hq0, zf, qf, zs_, qs⟩ := hzq z zm
    have fin : ∀ {G : Hp} {m : Nat} {w' : Row} {ra qa : Addr}, Keep s H4 G → Sto s cl m G → m ≤ n + 10 → w'.t = z.2.t → (w'.a = z.2.a ∨ w'.a = none) → w'.r ≤ 99 → w'.l.Perm z.2.l → G ra = some (.tup [.str (S w'.t), ov w'.a, .int (w'.r : Nat), .ref qa]) → G qa = some (.lst (sv w'.l)) → ra ≠ f → qa ≠ f →
        ∃ (R2 : Rv) (rk2 : Tx → Nat), R2.Ok rk2 ∧ ObjL RowL (upd G f (.lst ((zs.map fun z => V.ref z.1).set at_ (.ref ra)))) f R2.T ∧ ObjL ThO (upd G f (.lst ((zs.map fun z => V.ref z.1).set at_ (.ref ra)))) g R2.U ∧ Keep s H (upd G f (.lst ((zs.map fun z => V.ref z.1).set at_ (.ref ra)))) ∧ Sto s cl (n + 10) (upd G f (.lst ((zs.map fun z => V.ref z.1).set at_ (.ref ra)))) := fun {G m w' ra qa} kG SG lm et ea' er el hra hqa raf qaf => by
      refine ⟨⟨R.T.set at_ w', R.U⟩, rk, ok_setT k gT et ea' er el, ?_, ⟨ys, ey, (upd_ne nfg.symm).trans (kG _ _ gs eg), fun y ym => (upd_ne (hy4 y ym).2.1).trans (kG _ _ (hy4 y ym).2.2.1 (hy4 y ym).1)⟩, fun b o nb e => (upd_ne (ne_of_none e hf)).trans (kG _ _ nb (kH _ _ nb e)), (SG.put fs fc).mono lm⟩
      have := objs_set (P := RowL) (G' := upd G f (.lst ((zs.map fun z => V.ref z.1).set at_ (.ref ra)))) (f := f) (zs := zs) (i := at_) (a := ra) (w' := w') upd_same (fun v vm => ?_) ⟨qa, (upd_ne raf).trans hra, (upd_ne qaf).trans hqa⟩
      · rw [ez] at this
        exact this
      · obtain ⟨q', e1, e2, n1, n2, n3, n4⟩ := hzq v vm
        exact ⟨q', (upd_ne n1).trans (kG _ _ n3 e1), (upd_ne n2).trans (kG _ _ n4 e2)⟩
    have ixa : ixN (zs.map fun z => V.ref z.1).length ((at_ : Nat) : Int) = some at_ := ixN_nat (by rw [List.length_map]; exact al)
    refine ⟨fun σ' G => (∃ y7 : Option V, σ' = [some (.ref s), some (.ref r), some (.ref f), some (.ref g), some (.int (st : Nat)), some (.int (at_ : Nat)), some (.ref z.1), y7]) ∧ ∃ (R2 : Rv) (rk2 : Tx → Nat), R2.Ok rk2 ∧ ObjL RowL G f R2.T ∧ ObjL ThO G g R2.U ∧ Keep s H G ∧ Sto s cl (n + 10) G, ?_, ?_⟩
    · refine ⟨fun _ => ?_, fun _ => ⟨fun _ => ?_, fun _ => ⟨fun _ => ?_, fun _ => ?_⟩⟩⟩
      · refine ⟨_, _, Sq.t hr0, at_int (j := 0) rfl rfl, _, _, Sq.t hr0, at_int (j := 1) rfl rfl, _, _, Sq.t hr0, at_int (j := 2) rfl rfl, s, cl, _, _, rfl, S4, by omega, by decide, fun c H5 hc k5 S5 => ?_⟩
        obtain ⟨j, ej, jl⟩ : ∃ j : Nat, Int.fmod (((z.2.r : Nat) : Int) + 1 + (c : Nat)) 100 = (j : Int) ∧ j ≤ 99 := by
          have h1 : Int.fmod (((z.2.r : Nat) : Int) + 1 + (c : Nat)) 100 = Int.emod (((z.2.r : Nat) : Int) + 1 + (c : Nat)) 100 := Int.fmod_eq_emod_of_nonneg _ (by decide)
          have h2 := Int.emod_nonneg (((z.2.r : Nat) : Int) + 1 + (c : Nat)) (b := 100) (by decide)
          have h3 := Int.emod_lt_of_pos (((z.2.r : Nat) : Int) + 1 + (c : Nat)) (b := 100) (by decide)
          have h3' : Int.emod (((z.2.r : Nat) : Int) + 1 + (c : Nat)) 100 < 100 := h3
          have h2' : 0 ≤ Int.emod (((z.2.r : Nat) : Int) + 1 + (c : Nat)) 100 := h2
          exact ⟨(Int.emod (((z.2.r : Nat) : Int) + 1 + (c : Nat)) 100).toNat, by rw [h1]; exact (Int.toNat_of_nonneg h2').symm, by omega⟩
        have hr5 := k5 _ _ zs_ hr0
        have hq5 := k5 _ _ qs hq0
        refine ⟨by decide, _, _, Sq.t hr5, at_int (j := 3) rfl rfl, _, Sq.l hq5, fun l hl' => ⟨sl_of (n := 4) rfl, fun ra hra => ?_⟩⟩
        rw [ej]
        have d1 := same_new (o := .lst (sv z.2.l)) hl'
        have d2 := same_new (o := .tup [.str (S z.2.t), ov z.2.a, .int (j : Nat), .ref l]) hra
        have d12 := d1.trans d2
        have ef5 := k5 _ _ fs ef
        refine ⟨_, at_, d12 _ _ ef5, ixa, ⟨_, rfl⟩, fin (w' := ⟨z.2.t, z.2.a, j, z.2.l⟩) (fun b o nb e => d12 _ _ (k5 _ _ nb e)) (S5.same d12) (by omega) rfl (.inl rfl) jl (List.Perm.refl _) upd_same (d2 _ _ upd_same) (ne_of_none (d1 _ _ ef5) hra).symm (ne_of_none ef5 hl').symm⟩
      · refine ⟨_, _, Sq.t hr0, at_int (j := 0) rfl rfl, _, _, Sq.t hr0, at_int (j := 1) rfl rfl, _, _, Sq.t hr0, at_int (j := 2) rfl rfl, _, _, Sq.t hr0, at_int (j := 3) rfl rfl, _, Sq.l hq0, fun l hl' => ?_⟩
        have d1 := same_new (o := .lst (sv z.2.l)) hl'
        refine ⟨_, SqL.of upd_same, fun l2 hl2 => ⟨sl_of (n := 4) rfl, fun ra hra => ?_⟩⟩
        have erv : (sv z.2.l).reverse = sv z.2.l.reverse := List.map_reverse.symm
        rw [erv] at hra
        rw [erv]
        have d2 := d1.trans (same_new (o := .lst (sv z.2.l.reverse)) hl2)
        have ed2 : upd (upd H4 l (.lst (sv z.2.l))) l2 (.lst (sv z.2.l.reverse)) l2 = some (.lst (sv z.2.l.reverse)) := upd_same
        have l2f : l2 ≠ f := (ne_of_none (d1 _ _ ef) hl2).symm
        generalize upd (upd H4 l (.lst (sv z.2.l))) l2 (.lst (sv z.2.l.reverse)) = G2 at d2 ed2 hra
        have d3 := same_new (o := .tup [.str (S z.2.t), ov z.2.a, .int (z.2.r : Nat), .ref l2]) hra
        have d23 := d2.trans d3
        exact ⟨_, at_, d23 _ _ ef, ixa, ⟨_, rfl⟩, fin (w' := ⟨z.2.t, z.2.a, z.2.r, z.2.l.reverse⟩) (Same.keep d23) (S4.same d23) (by omega) rfl (.inl rfl) (lq z.2 (List.mem_of_getElem? gT)) (List.reverse_perm _) upd_same (d3 _ _ ed2) (ne_of_none (d2 _ _ ef) hra).symm l2f⟩
      · refine ⟨_, _, Sq.t hr0, at_int (j := 0) rfl rfl, _, _, Sq.t hr0, at_int (j := 2) rfl rfl, _, _, Sq.t hr0, at_int (j := 3) rfl rfl, _, Sq.l hq0, fun l hl' => ⟨sl_of (n := 4) rfl, fun ra hra => ?_⟩⟩
        have d1 := same_new (o := .lst (sv z.2.l)) hl'
        have d2 := same_new (o := .tup [.str (S z.2.t), .non, .int (z.2.r : Nat), .ref l]) hra
        have d12 := d1.trans d2
        exact ⟨_, at_, d12 _ _ ef, ixa, ⟨_, rfl⟩, fin (w' := ⟨z.2.t, none, z.2.r, z.2.l⟩) (Same.keep d12) (S4.same d12) (by omega) rfl (.inr rfl) (lq z.2 (List.mem_of_getElem? gT)) (List.Perm.refl _) upd_same (d2 _ _ upd_same) (ne_of_none (d1 _ _ ef) hra).symm (ne_of_none ef hl').symm⟩
      · refine (fun (A : _) (B : 0 < ys.length → _) => ⟨fun _ => ⟨_, Sq.l eg, fun c2 => B (by
            have c2 := of_decide_eq_true c2
            rw [List.length_map] at c2
            omega), fun _ => A⟩, fun _ => ⟨fun h => (by cases h), fun _ => A⟩⟩) ?_ ?_
        · exact ⟨s, cl, _, 3, 4, rfl, S4, by omega, by decide, by decide, by decide, fun r' a' b' R' rk' H' k' er ea' eb' kk SS => q r' a' b' R' rk' H' k' er ea' eb' (kH.trans kk) (SS.mono (by omega))⟩
        intro lp
        refine ⟨_, Sq.l eg, s, cl, _, _, rfl, S4, by omega, by rw [List.length_map]; omega, fun sp H5 hsp k5 S5 => ?_⟩
        rw [List.length_map] at hsp
        have sl' : sp < ys.length := by omega
        have gy : ys[sp]? = some ys[sp] := List.getElem?_eq_getElem sl'
        have ym := List.mem_of_getElem? gy
        have gU : R.U[sp]? = some ys[sp].2 := by rw [← ey, List.getElem?_map, gy]; rfl
        generalize ys[sp] = y at gy ym gU
        obtain ⟨y1, y2, y3, y4⟩ := hy4 y ym
        have ef5 := k5 _ _ fs ef
        have eg5 := k5 _ _ gs eg
        refine ⟨_, .ref y.1, Sq.l eg5, at_int (j := sp) rfl (by rw [List.getElem?_map, gy]; rfl), _, _, Sq.t (k5 _ _ y3 y1), at_int (j := 0) rfl rfl, s, cl, _, S5, by omega, .inr ⟨f, _, rfl, ef5, fs, fun e => ?_, by rw [List.length_map]; omega, fun v H6 hv k6 S6 => ?_⟩⟩
        · have := congrArg List.length e
          rw [List.length_map, List.length_nil] at this
          omega
        obtain ⟨w, wm, rfl⟩ := List.mem_map.mp hv
        obtain ⟨q', e1, e2, n1, n2, n3, n4⟩ := hzq w wm
        refine ⟨_, _, Sq.t (k6 _ _ n3 (k5 _ _ n3 e1)), at_int (j := 0) rfl rfl, sl_of (n := 2) rfl, fun ra hra => ?_⟩
        have d := same_new (o := .tup [.str (S y.2.1), .str (S w.2.t)]) hra
        have eg6 := k6 _ _ gs eg5
        have rag : ra ≠ g := (ne_of_none eg6 hra).symm
        have k46 : Keep s H4 (upd H6 ra (.tup [.str (S y.2.1), .str (S w.2.t)])) := fun b o nb e => d _ _ (k6 _ _ nb (k5 _ _ nb e))
        have era : upd H6 ra (.tup [.str (S y.2.1), .str (S w.2.t)]) ra = some (.tup [.str (S y.2.1), .str (S w.2.t)]) := upd_same
        have S7 := S6.same d
        generalize upd H6 ra (.tup [.str (S y.2.1), .str (S w.2.t)]) = G at d k46 era S7
        refine ⟨_, sp, d _ _ eg6, ixN_nat (by rw [List.length_map]; exact sl'), ⟨_, rfl⟩, ⟨R.T, R.U.set sp (y.2.1, w.2.t)⟩, rk, ok_setU k gU rfl (List.mem_map.mpr ⟨w.2, ez ▸ List.mem_map.mpr ⟨w, wm, rfl⟩, rfl⟩), ⟨zs, ez, (upd_ne nfg).trans (k46 _ _ fs ef), fun v vm => ?_⟩, ?_, fun b o nb e => (upd_ne (ne_of_none (c1 _ _ e) hg)).trans (k46 _ _ nb (kH _ _ nb e)), (S7.put gs gc).mono (by omega)⟩
        · obtain ⟨q2, u1, u2, m1, m2, m3, m4⟩ := hzq v vm
          obtain ⟨q3, x1, x2⟩ := hz v vm
          have eq3 : q3 = q2 := by
            have := (kH _ _ (S0.netp x1) x1).symm.trans u1
            have := Option.some.inj this
            injection this with this
            simpa using this
          subst eq3
          exact ⟨q3, (upd_ne (ne_of_none (c1 _ _ x1) hg)).trans (k46 _ _ m3 u1), (upd_ne (ne_of_none (c1 _ _ x2) hg)).trans (k46 _ _ m4 u2)⟩
        · have := objs_set (P := ThO) (G' := upd G g (.lst ((ys.map fun z => V.ref z.1).set sp (.ref ra)))) (f := g) (zs := ys) (i := sp) (a := ra) (w' := (y.2.1, w.2.t)) upd_same (fun v vm => ?_) ((upd_ne rag).trans era)
          · rw [ey] at this
            exact this
          · obtain ⟨v1, v2, v3, v4⟩ := hy4 v vm
            exact (upd_ne v4).trans (k46 _ _ v3 v1)
    rintro σ' G ⟨⟨y7, rfl⟩, R2, rk2, k2, oT, oU, kG, SG⟩
    refine ⟨sl_of (n := 2) rfl, fun rt hrt => ?_⟩
    have d := same_new (o := .tup [.ref f, .ref g]) hrt
    exact q rt f g R2 rk2 _ k2 upd_same (objl_same (fun _ _ h => RowL.same h d) oT d) (objl_same (fun _ _ h => ThO.same h d) oU d) (kG.trans (Keep.new hrt)) ((SG.new hrt).mono (by omega))
def sp__law_is_told (K : PySem.W.Frag) : Sp := fun vs H Q _ => ∃ (x r a b : Addr) (R : Rv) (rk : Tx → Nat), vs = [.ref x, .ref r] ∧ RivO K H x R ∧ R.Ok rk ∧ H r = some (.tup [.ref a, .ref b]) ∧ ObjL RowL H a (rowsT R) ∧ ObjL ThO H b (rowsU R) ∧ ∀ H', Same H H' → Q (.bl true) H'
theorem sc__law_is_told : FnScope ["river", "due", "turn", "answers", "names", "row"] ["river", "due"] (defScope (topS 61)) := ⟨rfl, rfl, rfl, by decide +kernel, rfl, by decide +kernel, by decide +kernel⟩
theorem ok__law_is_told {P : Program} {w : World} {K : PySem.W.Frag} {mg : Str → Option Value} {base : Heap} (T : Top K mg) : FnOk P w K mg base CX0 9 T.a__law_is_told T.fd__law_is_told ["river", "due"] (sp__law_is_told K) := by
  refine T.F__law_is_told.ok (k := 8) sc__law_is_told (fun vs H Q E h => ?_) (fun cdv A outer s0 H vs Q E hr h => ?_)
  · obtain ⟨x, r, a, b, R, rk, rfl, _⟩ := h; rfl
  · have sc := sc__law_is_told
    refine ⟨_, (pss_cons (ps_for PassesOwn.never rfl (pi_range1 (by rfl) T.n_range (pa_cons pe_int pa_nil)) (pg_name (i := 2) sc.nd rfl (by first | exact Or.inl rfl | exact Or.inr rfl)) (pss_cons (ps_set (i := 3) sc.nd rfl (by first | exact Or.inl rfl | exact Or.inr rfl) (pe_tup (pa_cons (pe_prop (f := "towns") (xv 0) T.in_River T.pr_River_towns (ok_River_towns T) (hr.mono (by decide)) T.b_River_towns .nil pass0 rfl) (pa_cons (pe_prop (f := "things") (xv 0) T.in_River T.pr_River_things (ok_River_things T) (hr.mono (by decide)) T.b_River_things .nil pass0 rfl) (pa_cons (pe_meth0 (xv 0) T.in_River T.me_River_town_rows (ok_River_town_rows T) (hr.mono (by decide)) T.b_River_town_rows .nil pass0) (pa_cons (pe_meth0 (xv 0) T.in_River T.me_River_thing_rows (ok_River_thing_rows T) (hr.mono (by decide)) T.b_River_thing_rows .nil pass0) pa_nil))))))
      (pss_cons (ps_set (i := 4) sc.nd rfl (by first | exact Or.inl rfl | exact Or.inr rfl) (pe_tup (pa_cons (pe_lc (own := [("row", 5)]) rfl sc.nd (ki_seq (K := K) rfl (pe_ix (kix (K := K) rfl) (xv 1) pe_int (fun _ _ => rfl))) (blkOk_by (N := ["river", "due", "turn", "answers", "names", "row"]) (sc := defScope (topS 61)) (by decide +kernel)) (fun _ _ _ _ _ => (pg_name (i := 5) sc.nd rfl (by first | exact Or.inl rfl | exact Or.inr rfl))) (fun _ _ _ _ _ => pts_nil) (fun _ _ _ _ _ => (pe_ix (kix (K := K) rfl) (xv 5) pe_int (fun _ _ => rfl)))) (pa_cons (pe_lc (own := [("row", 5)]) rfl sc.nd (ki_seq (K := K) rfl (pe_ix (kix (K := K) rfl) (xv 1) pe_int (fun _ _ => rfl))) (blkOk_by (N := ["river", "due", "turn", "answers", "names", "row"]) (sc := defScope (topS 61)) (by decide +kernel)) (fun _ _ _ _ _ => (pg_name (i := 5) sc.nd rfl (by first | exact Or.inl rfl | exact Or.inr rfl))) (fun _ _ _ _ _ => pts_nil) (fun _ _ _ _ _ => (pe_ix (kix (K := K) rfl) (xv 5) pe_int (fun _ _ => rfl)))) pa_nil))))
      (pss_cons (xs_if (pt_not (xt (pe_call (ok__law_same T) (hr.mono (by decide)) (by rfl) T.g__law_same T.F__law_same.kp T.b__law_same .nil pass0 (pa_cons (xv 3) (pa_cons (pe_op (ko_add (K := K) rfl) (xv 4) (xv 1)) pa_nil))))) (pss_one (ps_ret pe_bl)) pss_nil)
      (pss_one (ps_expr (pe_call (ok__law_spoil T) (hr.mono (by decide)) (by rfl) T.g__law_spoil T.F__law_spoil.kp T.b__law_spoil .nil pass0 (pa_cons (xv 3) (pa_cons pe_int pa_nil)))))))))
      (pss_one (ps_ret pe_bl))), ?_⟩
    obtain ⟨x, r, a, b, R, rk, rfl, hx, k, hr', ha, hb, q⟩ := h
    have t8 := k.t8
    have u10 := k.u10
    have lun : R.un.length = R.U.length := List.length_map _
    have ltn : R.tn.length = R.T.length := List.length_map _
    refine ⟨_, rfl, by decide, by decide, ?_⟩
    refine for_range (lo := 0) (n := 2) (fun i σ G => (∃ y2 y3 y4, σ = [some (.ref x), some (.ref r), y2, y3, y4, none]) ∧ Same H G) ⟨⟨_, _, _, rfl⟩, Same.refl _⟩ (fun i σ G hi e => ?_) (fun σ G e => q G e.2)
    obtain ⟨⟨y2, y3, y4, rfl⟩, sG⟩ := e
    have hxG := hx.same sG
    obtain ⟨dx, a1, a2, a3, a4, a5, a6, a7, a8, a9, h0, hh⟩ := id hxG
    clear hh
    refine ⟨x, dx, _, rfl, h0, x, R, rfl, hxG, fun r1 G1 s1 f1 e1 => ?_⟩
    refine ⟨x, dx, _, rfl, s1 _ _ h0, x, R, rfl, hxG.same s1, fun r2 G2 s2 f2 e2 => ?_⟩
    have s02 := s1.trans s2
    refine ⟨x, dx, _, rfl, s02 _ _ h0, rfl, x, R, rfl, hxG.same s02, k.tnd, by omega, fun r3 G3 s3 f3 o3 => ?_⟩
    have s03 := s02.trans s3
    refine ⟨x, dx, _, rfl, s03 _ _ h0, rfl, x, R, rfl, hxG.same s03, k.und, by omega, fun r4 G4 s4 f4 o4 => ?_⟩
    have s04 := s03.trans s4
    refine ⟨sl_of (n := 4) rfl, fun an han => ?_⟩
    have c5 := same_new (o := .tup [.ref r1, .ref r2, .ref r3, .ref r4]) han
    have ea : upd G4 an (.tup [.ref r1, .ref r2, .ref r3, .ref r4]) an = some (.tup [.ref r1, .ref r2, .ref r3, .ref r4]) := upd_same
    generalize upd G4 an (.tup [.ref r1, .ref r2, .ref r3, .ref r4]) = G5 at c5 ea
    have s05 := s04.trans c5
    have s0 := sG.trans s05
    have lT : ((rowsT R).map (·.t)).length ≤ 1000 := by rw [List.length_map, rowsT_len]; omega
    have lU : ((rowsU R).map (·.1)).length ≤ 1000 := by rw [List.length_map, rowsU_len]; omega
    dsimp only [tSeq, tAsg, gName, tTup, tCons, tNil]
    refine tLc_names ?_ (objl_nmsO (objl_same (fun _ _ h => RowL.same h s0) ha s0)) lT ?_ ?_ ?_ <;> try (exact fun _ => rfl)
    · exact fun R' h => ⟨_, _, Sq.t (s0 _ _ hr'), at_int (j := 0) rfl rfl, h⟩
    intro n1 hn1
    rw [rowsT_t k.tnd]
    have c6 := same_new (o := .lst (sv (tsort R.tn))) hn1
    have en1 : upd G5 n1 (.lst (sv (tsort R.tn))) n1 = some (.lst (sv (tsort R.tn))) := upd_same
    generalize upd G5 n1 (.lst (sv (tsort R.tn))) = G6 at c6 en1
    have s06 := s0.trans c6
    refine tLc_names ?_ (objl_nmsOT (objl_same (fun _ _ h => ThO.same h s06) hb s06)) lU ?_ ?_ ?_ <;> try (exact fun _ => rfl)
    · exact fun R' h => ⟨_, _, Sq.t (s06 _ _ hr'), at_int (j := 1) rfl rfl, h⟩
    intro n2 hn2
    rw [rowsU_u]
    have c7 := same_new (o := .lst (sv (tsort R.un))) hn2
    have en2 : upd G6 n2 (.lst (sv (tsort R.un))) n2 = some (.lst (sv (tsort R.un))) := upd_same
    generalize upd G6 n2 (.lst (sv (tsort R.un))) = G7 at c7 en2
    refine ⟨sl_of (n := 2) rfl, fun nm hnm => ?_⟩
    have c8 := same_new (o := .tup [.ref n1, .ref n2]) hnm
    have enm : upd G7 nm (.tup [.ref n1, .ref n2]) nm = some (.tup [.ref n1, .ref n2]) := upd_same
    generalize upd G7 nm (.tup [.ref n1, .ref n2]) = G8 at c8 enm
    have s68 := c7.trans c8
    have s58 := c6.trans s68
    have s08 := s0.trans s58
    refine .inr ⟨_, _, _, _, rfl, rfl, SqT.of enm, SqT.of (s08 _ _ hr'), (by rw [sl_big]; show 4 ≤ _; decide), (by intro h; cases h), (by intro _ h; cases h), fun _ _ du hdu => ?_⟩
    have c9 := same_new (o := .tup [.ref n1, .ref n2, .ref a, .ref b]) hdu
    have edu : upd G8 du (.tup [.ref n1, .ref n2, .ref a, .ref b]) du = some (.tup [.ref n1, .ref n2, .ref a, .ref b]) := upd_same
    have s89 : Same G8 (upd G8 du (.tup ([.ref n1, .ref n2] ++ [.ref a, .ref b]))) := c9
    have edu : upd G8 du (.tup ([.ref n1, .ref n2] ++ [.ref a, .ref b])) du = some (.tup [.ref n1, .ref n2, .ref a, .ref b]) := edu
    generalize upd G8 du (.tup ([.ref n1, .ref n2] ++ [.ref a, .ref b])) = G9 at s89 edu
    have s59 := s58.trans s89
    have s09 := s05.trans s59
    have s0 := sG.trans s09
    have s49 := c5.trans s59
    have s39 := s4.trans s49
    have s29 := s3.trans s39
    have s19 := s2.trans s29
    have ea := s59 _ _ ea
    have e1 := s19 _ _ e1
    have e2 := s29 _ _ e2
    have o3 : ObjL (RowF G) G9 r3 (rowsT R) := objl_same (fun _ _ h => h.same s39) (objl_imp o3 fun _ _ ⟨q', h1, h2, h3⟩ => ⟨q', h1, h2, h3.back (Same.extN s02)⟩) s39
    have o4 : ObjL ThO G9 r4 (rowsU R) := objl_same (fun _ _ h => ThO.same h s49) o4 s49
    have o3l := objl_imp o3 fun _ _ h => h.l
    have en1 := (s68.trans s89) _ _ en1
    have en2 := (c8.trans s89) _ _ en2
    have rp : Rep G9 7 (.ref an) (.ref du) := by
      refine .inr ⟨_, _, ea, edu, rfl, (by show 4 ≤ 1000000; decide), fun k' x y gx gy => ?_⟩
      match k', gx, gy with
      | 0, gx, gy => cases gx; cases gy; exact rep_svL (n := 5) e1 en1 (by rw [tsort_len]; omega)
      | 1, gx, gy => cases gx; cases gy; exact rep_svL (n := 5) e2 en2 (by rw [tsort_len]; omega)
      | 2, gx, gy => cases gx; cases gy; exact rep_rows (n := 3) o3l (objl_same (fun _ _ h => RowL.same h s0) ha s0) (by rw [rowsT_len]; omega) fun w hw => Nat.le_trans (rowsT_l k hw) (by decide)
      | 3, gx, gy => cases gx; cases gy; exact rep_ths (n := 3) o4 (objl_same (fun _ _ h => ThO.same h s0) hb s0) (by rw [rowsU_len]; omega)
      | k' + 4, gx, gy => simp at gx
    refine ⟨_, _, rfl, rp, no_ft, fun _ => ?_⟩
    have tn : TN G G9 12 1000 5 (.ref an) := by
      refine .tup ea (Nat.le_trans (nf_len _) (by show 4 ≤ 12; decide)) fun x hx => ?_
      simp only [List.mem_cons, List.not_mem_nil, or_false] at hx
      rcases hx with rfl | rfl | rfl | rfl
      · exact .sv e1 (.of f1) (by rw [tsort_len]; omega)
      · exact .sv e2 (.of (s1.free f2)) (by rw [tsort_len]; omega)
      · exact .objs o3 (.of (s02.free f3)) (by rw [rowsT_len]; omega) (by rw [rowsT_len]; omega) fun p w hw h => .row h (by decide) (Nat.le_trans (rowsT_l k hw) (by decide))
      · exact .objs o4 (.of (s03.free f4)) (by rw [rowsU_len]; omega) (by rw [rowsU_len]; omega) fun p u _ h => .th h
    refine ⟨.ref an, 5, 12, 1000, Rch G9 5 (.ref an), rfl, by decide, tn.ok, tn.wf, Nat.le_refl _, by decide, fun H' kc _ => ⟨⟨_, _, _, rfl⟩, sG.trans (kc.old s09 fun b xs hb e => tn.fr hb e)⟩⟩
def sp_law (K : PySem.W.Frag) : Sp := fun vs H Q _ => ∃ (a : Addr) (ns : List Int), vs = [.ref a] ∧ SqL K H a (ns.map V.int) ∧ ns.length ≤ 63 ∧ TabO (tbA K "_law_kept") qL H ∧ ∀ H', Q (.bl true) H'
theorem sc_law : FnScope ["script", "store", "rows", "changed", "passed", "others", "copies", "river", "second", "due", "due_second", "again", "pair"] ["script"] (defScope (topS 62)) := ⟨rfl, rfl, rfl, by decide +kernel, rfl, by decide +kernel, by decide +kernel⟩
theorem ok_law {P : Program} {w : World} {K : PySem.W.Frag} {mg : Str → Option Value} {base : Heap} (T : Top K mg) (TB : LamX.TabB base mg (cdA K "_law_kept") (tbA K "_law_kept")) : FnOk P w K mg base CX0 10 T.a_law T.fd_law ["script"] (sp_law K) := by
  refine T.F_law.ok (k := 9) sc_law (fun vs H Q E h => ?_) (fun cdv A outer s0 H vs Q E hr h => ?_)
  · obtain ⟨a, ns, rfl, _⟩ := h; rfl
  · have sc := sc_law
    refine ⟨_, (pss_cons (ps_set (i := 1) sc.nd rfl (by first | exact Or.inl rfl | exact Or.inr rfl) (pe_call (ok__law_store T) (hr.mono (by decide)) (by rfl) T.g__law_store T.F__law_store.kp T.b__law_store .nil pass0 (pa_cons (xv 0) pa_nil)))
      (pss_cons (ps_set (i := 2) sc.nd rfl (by first | exact Or.inl rfl | exact Or.inr rfl) (pe_call (ok__law_drawn_rows T) (hr.mono (by decide)) (by rfl) T.g__law_drawn_rows T.F__law_drawn_rows.kp T.b__law_drawn_rows .nil pass0 (pa_cons (xv 1) pa_nil)))
      (pss_cons (ps_set (i := 3) sc.nd rfl (by first | exact Or.inl rfl | exact Or.inr rfl) (pe_call (ok__law_changed_rows T) (hr.mono (by decide)) (by rfl) T.g__law_changed_rows T.F__law_changed_rows.kp T.b__law_changed_rows .nil pass0 (pa_cons (xv 1) (pa_cons (xv 2) pa_nil))))
      (pss_cons (ps_set (i := 4) sc.nd rfl (by first | exact Or.inl rfl | exact Or.inr rfl) (pe_call (ok__law_passed T) (hr.mono (by decide)) (by rfl) T.g__law_passed T.F__law_passed.kp T.b__law_passed .nil pass0 (pa_cons (xv 1) (pa_cons (xv 2) pa_nil))))
      (pss_cons (ps_set (i := 5) sc.nd rfl (by first | exact Or.inl rfl | exact Or.inr rfl) (pe_call (ok__law_passed T) (hr.mono (by decide)) (by rfl) T.g__law_passed T.F__law_passed.kp T.b__law_passed .nil pass0 (pa_cons (xv 1) (pa_cons (xv 3) pa_nil))))
      (pss_cons (ps_set (i := 6) sc.nd rfl (by first | exact Or.inl rfl | exact Or.inr rfl) (pe_call (ok__law_copy T) (hr.mono (by decide)) (by rfl) T.g__law_copy T.F__law_copy.kp T.b__law_copy .nil pass0 (pa_cons (pe_tup (pa_cons (xv 4) (pa_cons (xv 5) pa_nil))) pa_nil)))
      (pss_cons (ps_set (i := 7) sc.nd rfl (by first | exact Or.inl rfl | exact Or.inr rfl) (pe_make T.mk_River (ok_River___init__ T) (hr.mono (by decide)) (by rfl) T.gc_River T.b_River___init__ .nil pass0 (pa_cons (pe_ix (kix (K := K) rfl) (xv 4) pe_int (fun _ _ => rfl)) (pa_cons (pe_ix (kix (K := K) rfl) (xv 4) pe_int (fun _ _ => rfl)) pa_nil))))
      (pss_cons (ps_set (i := 8) sc.nd rfl (by first | exact Or.inl rfl | exact Or.inr rfl) (pe_makeK0 T.mk_River (ok_River___init__ T) (hr.mono (by decide)) (by rfl) T.gc_River T.kr_River___init__ pass0 (pk_cons (pe_ix (kix (K := K) rfl) (xv 5) pe_int (fun _ _ => rfl)) (pk_cons (pe_ix (kix (K := K) rfl) (xv 5) pe_int (fun _ _ => rfl)) pk_nil))))
      (pss_cons (xs_if (pt_not (xt (pe_call (ok__law_same T) (hr.mono (by decide)) (by rfl) T.g__law_same T.F__law_same.kp T.b__law_same .nil pass0 (pa_cons (pe_tup (pa_cons (xv 4) (pa_cons (xv 5) pa_nil))) (pa_cons (xv 6) pa_nil))))) (pss_one (ps_ret pe_bl)) pss_nil)
      (pss_cons (ps_set (i := 9) sc.nd rfl (by first | exact Or.inl rfl | exact Or.inr rfl) (pe_call (ok__law_kept T TB) (hr.mono (by decide)) (by rfl) T.g__law_kept T.F__law_kept.kp T.b__law_kept .nil pass0 (pa_cons (xv 2) pa_nil)))
      (pss_cons (ps_set (i := 10) sc.nd rfl (by first | exact Or.inl rfl | exact Or.inr rfl) (pe_call (ok__law_kept T TB) (hr.mono (by decide)) (by rfl) T.g__law_kept T.F__law_kept.kp T.b__law_kept .nil pass0 (pa_cons (xv 3) pa_nil)))
      (pss_cons (xs_if (PW.pt (xw_or (pt_not (xt (pe_call (ok__law_is_told T) (hr.mono (by decide)) (by rfl) T.g__law_is_told T.F__law_is_told.kp T.b__law_is_told .nil pass0 (pa_cons (xv 7) (pa_cons (xv 9) pa_nil))))) (pw_or1 (pt_not (xt (pe_call (ok__law_is_told T) (hr.mono (by decide)) (by rfl) T.g__law_is_told T.F__law_is_told.kp T.b__law_is_told .nil pass0 (pa_cons (xv 8) (pa_cons (xv 10) pa_nil)))))))) (pss_one (ps_ret pe_bl)) pss_nil)
      (pss_cons (xs_if (pt_not (xt (pe_call (ok__law_same T) (hr.mono (by decide)) (by rfl) T.g__law_same T.F__law_same.kp T.b__law_same .nil pass0 (pa_cons (pe_tup (pa_cons (xv 4) (pa_cons (xv 5) pa_nil))) (pa_cons (xv 6) pa_nil))))) (pss_one (ps_ret pe_bl)) pss_nil)
      (pss_cons (ps_expr (pe_call (ok__law_spoil T) (hr.mono (by decide)) (by rfl) T.g__law_spoil T.F__law_spoil.kp T.b__law_spoil .nil pass0 (pa_cons (xv 4) (pa_cons pe_int pa_nil))))
      (pss_cons (ps_expr (pe_call (ok__law_spoil T) (hr.mono (by decide)) (by rfl) T.g__law_spoil T.F__law_spoil.kp T.b__law_spoil .nil pass0 (pa_cons (xv 5) (pa_cons pe_int pa_nil))))
      (pss_cons (xs_if (PW.pt (xw_or (pt_not (xt (pe_call (ok__law_is_told T) (hr.mono (by decide)) (by rfl) T.g__law_is_told T.F__law_is_told.kp T.b__law_is_told .nil pass0 (pa_cons (xv 8) (pa_cons (xv 10) pa_nil))))) (pw_or1 (pt_not (xt (pe_call (ok__law_is_told T) (hr.mono (by decide)) (by rfl) T.g__law_is_told T.F__law_is_told.kp T.b__law_is_told .nil pass0 (pa_cons (xv 7) (pa_cons (xv 9) pa_nil)))))))) (pss_one (ps_ret pe_bl)) pss_nil)
      (pss_cons (ps_set (i := 11) sc.nd rfl (by first | exact Or.inl rfl | exact Or.inr rfl) (pe_make T.mk_River (ok_River___init__ T) (hr.mono (by decide)) (by rfl) T.gc_River T.b_River___init__ .nil pass0 (pa_cons (pe_call (ok__law_order T) (hr.mono (by decide)) (by rfl) T.g__law_order T.F__law_order.kp T.b__law_order .nil pass0 (pa_cons (xv 1) (pa_cons (pe_ix (kix (K := K) rfl) (xv 2) pe_int (fun _ _ => rfl)) pa_nil))) (pa_cons (pe_call (ok__law_order T) (hr.mono (by decide)) (by rfl) T.g__law_order T.F__law_order.kp T.b__law_order .nil pass0 (pa_cons (xv 1) (pa_cons (pe_ix (kix (K := K) rfl) (xv 2) pe_int (fun _ _ => rfl)) pa_nil))) pa_nil))))
      (pss_cons (xs_if (pt_not (xt (pe_call (ok__law_is_told T) (hr.mono (by decide)) (by rfl) T.g__law_is_told T.F__law_is_told.kp T.b__law_is_told .nil pass0 (pa_cons (xv 11) (pa_cons (xv 9) pa_nil))))) (pss_one (ps_ret pe_bl)) pss_nil)
      (pss_cons (ps_for PassesOwn.never rfl (ki_seq (K := K) rfl (pe_lst (pa_cons (pe_tup (pa_cons (pe_cmpR (opOr (ko_eq (K := K) rfl hr.units) (op_own (ok_River___eq__ T) (hr.mono (by decide)) T.me_River___eq__ T.b_River___eq__ pass0)) (xv 7) (xv 11) (nomark _)) (pa_cons pe_bl pa_nil))) (pa_cons (pe_tup (pa_cons (pe_cmpR (opOr (ko_eq (K := K) rfl hr.units) (op_own (ok_River___eq__ T) (hr.mono (by decide)) T.me_River___eq__ T.b_River___eq__ pass0)) (xv 11) (xv 7) (nomark _)) (pa_cons pe_bl pa_nil))) (pa_cons (pe_tup (pa_cons (pe_cmpR (opOr (ko_eq (K := K) rfl hr.units) (op_own (ok_River___eq__ T) (hr.mono (by decide)) T.me_River___eq__ T.b_River___eq__ pass0)) (xv 7) (xv 7) (nomark _)) (pa_cons pe_bl pa_nil))) (pa_cons (pe_tup (pa_cons (pe_cmpR (opOr (ko_eq (K := K) rfl hr.units) (op_own (ok_River___eq__ T) (hr.mono (by decide)) T.me_River___eq__ T.b_River___eq__ pass0)) (xv 8) (xv 8) (nomark _)) (pa_cons pe_bl pa_nil))) pa_nil)))))) (pg_name (i := 12) sc.nd rfl (by first | exact Or.inl rfl | exact Or.inr rfl)) (pss_one (xs_if (pt_not (xt (pe_call (ok__law_same T) (hr.mono (by decide)) (by rfl) T.g__law_same T.F__law_same.kp T.b__law_same .nil pass0 (pa_cons (pe_ix (kix (K := K) rfl) (xv 12) pe_int (fun _ _ => rfl)) (pa_cons (pe_ix (kix (K := K) rfl) (xv 12) pe_int (fun _ _ => rfl)) pa_nil))))) (pss_one (ps_ret pe_bl)) pss_nil)))
      (pss_cons (ps_for PassesOwn.never rfl (ki_seq (K := K) rfl (pe_lst (pa_cons (pe_tup (pa_cons (pe_cmpR (opOr (ko_eq (K := K) rfl hr.units) (op_own (ok_River___eq__ T) (hr.mono (by decide)) T.me_River___eq__ T.b_River___eq__ pass0)) (xv 7) (xv 8) (nomark _)) (pa_cons (pe_cmpR (opOr (ko_eq (K := K) rfl hr.units) (op_own (ok_River___eq__ T) (hr.mono (by decide)) T.me_River___eq__ T.b_River___eq__ pass0)) (xv 9) (xv 10) (nomark _)) pa_nil))) (pa_cons (pe_tup (pa_cons (pe_cmpR (opOr (ko_eq (K := K) rfl hr.units) (op_own (ok_River___eq__ T) (hr.mono (by decide)) T.me_River___eq__ T.b_River___eq__ pass0)) (xv 8) (xv 11) (nomark _)) (pa_cons (pe_cmpR (opOr (ko_eq (K := K) rfl hr.units) (op_own (ok_River___eq__ T) (hr.mono (by decide)) T.me_River___eq__ T.b_River___eq__ pass0)) (xv 9) (xv 10) (nomark _)) pa_nil))) pa_nil)))) (pg_name (i := 12) sc.nd rfl (by first | exact Or.inl rfl | exact Or.inr rfl)) (pss_one (xs_if (pt_not (xt (pe_call (ok__law_same T) (hr.mono (by decide)) (by rfl) T.g__law_same T.F__law_same.kp T.b__law_same .nil pass0 (pa_cons (pe_ix (kix (K := K) rfl) (xv 12) pe_int (fun _ _ => rfl)) (pa_cons (pe_ix (kix (K := K) rfl) (xv 12) pe_int (fun _ _ => rfl)) pa_nil))))) (pss_one (ps_ret pe_bl)) pss_nil)))
      (pss_one (ps_ret (pe_call (ok__law_same T) (hr.mono (by decide)) (by rfl) T.g__law_same T.F__law_same.kp T.b__law_same .nil pass0 (pa_cons (pe_tup (pa_cons (pe_cmpR (opOr (ko_eq (K := K) rfl hr.units) (op_own (ok_River___eq__ T) (hr.mono (by decide)) T.me_River___eq__ T.b_River___eq__ pass0)) (xv 7) pe_str (nomark _)) (pa_cons (pe_cmpR (opOr (ko_eq (K := K) rfl hr.units) (op_own (ok_River___eq__ T) (hr.mono (by decide)) T.me_River___eq__ T.b_River___eq__ pass0)) (xv 7) pe_int (nomark _)) (pa_cons (pe_cmpR (opOr (ko_eq (K := K) rfl hr.units) (op_own (ok_River___eq__ T) (hr.mono (by decide)) T.me_River___eq__ T.b_River___eq__ pass0)) (xv 7) (pe_meth0 (xv 7) T.in_River T.me_River_town_rows (ok_River_town_rows T) (hr.mono (by decide)) T.b_River_town_rows .nil pass0) (nomark _)) pa_nil)))) (pa_cons (pe_tup (pa_cons pe_bl (pa_cons pe_bl (pa_cons pe_bl pa_nil)))) pa_nil))))))))))))))))))))))))), ?_⟩
    obtain ⟨a0, ns, rfl, hS, hl, tb, q⟩ := h
    refine ⟨a0, ns, rfl, hS, hl, fun s cl H1 s1 fs S1 => ?_⟩
    have tb := tabO_same tb s1
    clear s1 fs hS
    refine ⟨s, cl, 0, rfl, S1, by decide, fun r a b R rk H2 k er ea eb k2 S2 => ?_⟩
    have tb := tabO_keepS tb S1 k2
    clear k2 S1
    refine ⟨s, cl, r, a, b, _, R, rk, rfl, S2, by decide, er, ea, eb, k, fun rc ac bc R2 rk2 H3 kk erc eac ebc k3 S3 => ?_⟩
    have tb := tabO_keepS tb S2 k3
    have er := k3 _ _ (S2.netp er) er
    have ea := objl_keepR ea S2 k3
    have eb := objl_keepT eb S2 k3
    clear k3 S2
    have t8 := k.t8
    have u10 := k.u10
    have t8' := kk.t8
    have u10' := kk.u10
    have lun : R.un.length = R.U.length := List.length_map _
    have lun' : R2.un.length = R2.U.length := List.length_map _
    have lk1 : ∀ w ∈ R.T, w.l.length ≤ 60 := fun w hw => by rw [(k.lk w hw).length_eq]; omega
    have lk2 : ∀ w ∈ R2.T, w.l.length ≤ 60 := fun w hw => by rw [(kk.lk w hw).length_eq]; omega
    refine ⟨s, cl, r, a, b, _, R.T, R.U, rfl, S3, by decide, er, ea, eb, by omega, by omega, fun p f t H4 k4 S4 ps P4 fs ts => ?_⟩
    have tb := tabO_keepS tb S3 k4
    have er4 := k4 _ _ (S3.netp er) er
    have erc := k4 _ _ (S3.netp erc) erc
    have eac := objl_keepR eac S3 k4
    have ebc := objl_keepT ebc S3 k4
    refine ⟨s, cl, rc, ac, bc, _, R2.T, R2.U, rfl, S4, by decide, erc, eac, ebc, by omega, by omega, fun p' f' t' H5 k5 S5 ps' P5 fs' ts' => ?_⟩
    have tb := tabO_keepS tb S4 k5
    have P4 := P4.keepS S4 k5
    have P5 := P5.old S5 k4 fs' ts'
    have k35 := k4.trans k5
    have erc := k5 _ _ (S4.netp erc) erc
    have eac := objl_keepR eac S4 k5
    have ebc := objl_keepT ebc S4 k5
    have er5 := k5 _ _ (S4.netp er4) er4
    clear er4
    refine ⟨sl_of (n := 2) rfl, fun pp hpp => ?_⟩
    have c1 := same_new (o := .tup [.ref p, .ref p']) hpp
    have epp : upd H5 pp (.tup [.ref p, .ref p']) pp = some (.tup [.ref p, .ref p']) := upd_same
    generalize upd H5 pp (.tup [.ref p, .ref p']) = G6 at c1 epp
    have PG4 := P4.ext (Same.extN c1)
    have PG5 := P5.ext (Same.extN c1)
    have tr1 := tree_paper PG4 (by omega) (by omega) lk1
    have tr2 := tree_paper PG5 (by omega) (by omega) lk2
    refine ⟨.ref pp, rfl, .inr ⟨_, epp, (by show 2 ≤ 1000000; decide), fun x hx => ?_⟩, fun y H6 s6 cp => ?_⟩
    · simp only [List.mem_cons, List.not_mem_nil, or_false] at hx
      rcases hx with rfl | rfl
      · exact tr1
      · exact tr2
    obtain ⟨cc, v1, v2, rfl, ecc, cp1, cp2⟩ : ∃ (cc : Addr) (v1 v2 : V), y = .ref cc ∧ H6 cc = some (.tup [v1, v2]) ∧ Cp (fun b => G6 b = none) G6 H6 6 (.ref p) v1 ∧ Cp (fun b => G6 b = none) G6 H6 6 (.ref p') v2 := by
      cases y with
      | ref cc =>
        rcases cp.2 with ⟨xs, ys, h1, h2, h3, h4⟩ | ⟨xs, ys, h1, h2, h3, h4⟩
        · rw [epp] at h1; cases h1
        · have := Option.some.inj (epp.symm.trans h1)
          injection this with this
          subst this
          match ys, h3 with
          | [v0, v1], _ => exact ⟨cc, v0, v1, rfl, h2, h4 0 _ v0 rfl rfl, h4 1 _ v1 rfl rfl⟩
      | _ => exact cp.elim
    clear cp
    have s56 := c1.trans s6
    have Q4 := PG4.ext (Same.extN s6)
    have Q5 := PG5.ext (Same.extN s6)
    refine ⟨_, _, Sq.t Q4.top, at_int (j := 0) rfl rfl, _, _, Sq.t Q4.top, at_int (j := 1) rfl rfl, ?_⟩
    intro x dx fx fdx ndx
    have sx : Same H6 (upd (upd H6 dx (.own x)) x (.ins (cA K "River") dx [])) := (same_new fdx).trans (same_new ((upd_ne ndx.symm).trans fx))
    refine ⟨x, f, t, dx, R, rk, rfl, upd_same, rows_same Q4.rows sx, ths_same Q4.ths sx, k, fun H7 k7 hx hn => ⟨rfl, ?_⟩⟩
    have s67 : Same H6 H7 := fun u o e => k7 u o (ne_of_none e fx) (sx u o e)
    have hn := rivN_base hn sx
    clear k7 sx fx fdx ndx
    have Q5' := Q5.ext (Same.extN s67)
    refine ⟨_, _, Sq.t Q5'.top, at_int (j := 1) rfl rfl, _, _, Sq.t Q5'.top, at_int (j := 0) rfl rfl, rfl, rfl, ?_⟩
    intro x2 dx fx fdx ndx
    have sx : Same H7 (upd (upd H7 dx (.own x2)) x2 (.ins (cA K "River") dx [])) := (same_new fdx).trans (same_new ((upd_ne ndx.symm).trans fx))
    refine ⟨x2, f', t', dx, R2, rk2, rfl, upd_same, rows_same Q5'.rows sx, ths_same Q5'.ths sx, kk, fun H8 k8 hx2 hn2 => ⟨rfl, ?_⟩⟩
    have s78 : Same H7 H8 := fun u o e => k8 u o (ne_of_none e fx) (sx u o e)
    have hn2 := rivN_base hn2 sx
    clear k8 sx fx fdx ndx Q5' Q5 Q4
    have sc : ∀ {K' : Hp} {n : Addr}, LamX.ExtN H6 K' → K' n = some (.tup [.ref p, .ref p']) → Rep K' 7 (.ref n) (.ref cc) := fun {K' n} e en => by
      refine .inr ⟨_, _, en, ext_t e ecc, rfl, (by show 2 ≤ 1000000; decide), fun j x y gx gy => ?_⟩
      match j, gx, gy with
      | 0, gx, gy => cases gx; cases gy; exact rep_cp ((Same.extN s6).trans e) e 6 _ _ tr1 cp1
      | 1, gx, gy => cases gx; cases gy; exact rep_cp ((Same.extN s6).trans e) e 6 _ _ tr2 cp2
      | j + 2, gx, gy => simp at gx
    have s68 := s67.trans s78
    refine ⟨sl_of (n := 2) rfl, fun n1 hn1 => ?_⟩
    have c9 := same_new (o := .tup [.ref p, .ref p']) hn1
    refine ⟨_, _, rfl, sc (Same.extN (s68.trans c9)) upd_same, no_ft, fun _ => ?_⟩
    generalize upd H8 n1 (.tup [.ref p, .ref p']) = G9 at c9
    have s89 := s78.trans c9
    have s59 : Same H5 G9 := s56.trans (s67.trans s89)
    have e59 := Same.extN s59
    refine ⟨r, a, b, R, rfl, s59 _ _ er5, objl_row_ext (objl_keepR ea S3 k35) e59, objl_th_ext (objl_keepT eb S3 k35) e59, k.tnd, k.und, by omega, by omega, tabO_same tb s59, fun rd ad bd D1 eN1 T1 nad nbd erd oad obd => ?_⟩
    have e5D := e59.trans eN1
    refine ⟨rc, ac, bc, R2, rfl, ext_t e5D erc, objl_row_ext eac e5D, objl_th_ext ebc e5D, kk.tnd, kk.und, by omega, by omega, T1, fun rd2 ad2 bd2 D2 eN2 T2 nad2 nbd2 erd2 oad2 obd2 => ?_⟩
    have e5D2 := e5D.trans eN2
    have e79 : LamX.ExtN H7 D2 := (Same.extN s89).trans (eN1.trans eN2)
    have e89 : LamX.ExtN H8 D2 := (Same.extN c9).trans (eN1.trans eN2)
    have lf : ∀ {H0 : Hp} {a : Addr} {w : Row} {H : Hp}, RowF H0 H a w → RowL H a w := fun h => h.l
    refine ⟨x, rd, ad, bd, R, rk, rfl, rv_extN hx e79, k, ext_t eN2 erd, objl_imp (objl_rowF_ext oad eN2) (fun _ _ h => h.l), objl_th_ext obd eN2, fun T1' s1 => ⟨no_ft, fun _ => ?_⟩⟩
    refine ⟨x2, rd2, ad2, bd2, R2, rk2, rfl, rv_extN hx2 (e89.trans (Same.extN s1)), kk, s1 _ _ erd2, objl_same (fun _ _ h => RowL.same h s1) (objl_imp oad2 fun _ _ h => h.l) s1, objl_same (fun _ _ h => ThO.same h s1) obd2 s1, fun T2' s2 => ⟨no_ft, fun _ => ?_⟩⟩
    refine ⟨sl_of (n := 2) rfl, fun n2 hn2' => ?_⟩
    have c10 := same_new (o := .tup [.ref p, .ref p']) hn2'
    have sD := s1.trans (s2.trans c10)
    have eD := Same.extN sD
    have e6G : LamX.ExtN H6 (upd T2' n2 (.tup [.ref p, .ref p'])) := (Same.extN s67).trans (e79.trans eD)
    refine ⟨_, _, rfl, sc e6G upd_same, no_ft, fun _ => ?_⟩
    generalize upd T2' n2 (.tup [.ref p, .ref p']) = G10 at sD eD e6G c10
    clear s1 s2 c10 hn2' T1' T2' sc
    have e5G := e5D2.trans eD
    have tn1 := tn_paper P4 (by omega) (by omega) lk1
    have tn2 := tn_paper P5 (by omega) (by omega) lk2
    obtain ⟨C, eC⟩ : ∃ C : Addr → Prop, C = fun b => Rch H5 6 (.ref p) b ∨ Rch H5 6 (.ref p') b := ⟨_, rfl⟩
    have wf5 : Wf C 12 1000 H5 := eC ▸ wf_or tn1.wf tn2.wf
    have ok1 : okV C (.ref p) := eC ▸ okV_imp (fun b hb => .inl hb) tn1.ok
    have ok2 : okV C (.ref p') := eC ▸ okV_imp (fun b hb => .inr hb) tn2.ok
    have frC : ∀ b xs, C b → H5 b = some (.lst xs) → NL H3 b := fun b xs hb e => by
      rw [eC] at hb
      exact hb.elim (fun hb => tn1.fr hb e) fun hb => tn2.fr hb e
    have l5 : ∀ b xs, C b → G10 b = some (.lst xs) → ∃ ys, H5 b = some (.lst ys) := fun b xs hb e => by
      rcases wf5 b hb with ⟨ys, h, _⟩ | ⟨ys, h, _⟩
      · exact ⟨ys, h⟩
      · rw [ext_t e5G h] at e; cases e
    have cb : ∀ {H0 : Hp}, LamX.ExtN H5 H0 → ∀ b xs, C b → G10 b = some (.lst xs) → ∃ ys, H0 b = some (.lst ys) := fun {H0} e0 b xs hb e => let ⟨ys, h⟩ := l5 b xs hb e; ⟨ys, ext_l e0 h⟩
    refine ⟨.ref p, 5, 12, 1000, C, rfl, by decide, ok1, wf_ext wf5 e5G, Nat.le_refl _, by decide, fun K1 kc1 w1 => ?_⟩
    refine ⟨.ref p', 5, 12, _, C, rfl, by decide, ok2, w1, Nat.le_refl _, by decide, fun K2 kc2 _ => ?_⟩
    have kc := kc1.trans kc2
    clear kc1 kc2 w1 K1 ok1 ok2 wf5 tn1 tn2 eC
    obtain ⟨hxK, _⟩ := rv_KC (rv_extN hx (e79.trans eD)) (rivN_extN hn (e79.trans eD)) (cb (Same.extN s56)) kc
    obtain ⟨hx2K, _⟩ := rv_KC (rv_extN hx2 (e89.trans eD)) (rivN_extN hn2 (e89.trans eD)) (cb (Same.extN (s56.trans s67))) kc
    have erdK := kc.tup (ext_t (eN2.trans eD) erd)
    have oadK := objl_imp (objl_rowF_KC (objl_rowF_ext oad (eN2.trans eD)) nad (cb e59) kc) fun _ _ h => h.l
    have obdK := objl_th_KC (objl_th_ext obd (eN2.trans eD)) nbd (cb e59) kc
    have erd2K := kc.tup (ext_t eD erd2)
    have oad2K := objl_imp (objl_rowF_KC (objl_rowF_ext oad2 eD) nad2 (cb e5D) kc) fun _ _ h => h.l
    have obd2K := objl_th_KC (objl_th_ext obd2 eD) nbd2 (cb e5D) kc
    have e3K : ∀ b o, b ≠ s → H3 b = some o → (∀ ps, o ≠ .tbl ps) → K2 b = some o := fun b o n e nt => kc.k _ _ (e5G _ _ (k35 _ _ n e) nt) fun xs z hb => by
      obtain ⟨ys, h⟩ := l5 b xs hb (by rw [← z]; exact e5G _ _ (k35 _ _ n e) nt)
      exact frC b ys hb h xs (by rw [← z]; exact e)
    obtain ⟨n5, S5, hn5⟩ : ∃ n5, Sto s cl n5 H5 ∧ n5 ≤ 200000 := ⟨_, S5, by decide⟩
    have SK : Sto s cl n5 K2 := by
      have SG := sto_extN S5 e5G
      obtain ⟨ns, a', d', b', c', h1, h2, h3, h4⟩ := SG.ex
      obtain ⟨ns3, a3, d3, b3, c3, g1, g2, g3, g4⟩ := S3.ex
      refine ⟨ns, a', d', b', c', kc.k _ _ h1 fun xs z hb => ?_, kc.k _ _ h2 fun xs z hb => ?_, h3, h4⟩
      · obtain ⟨ys, h⟩ := l5 s xs hb (by rw [← z]; exact h1)
        unfold sRow at g1
        exact frC s ys hb h _ g1
      · obtain ⟨ys, h⟩ := l5 cl xs hb (by rw [← z]; exact h2)
        exact frC cl ys hb h _ g2
    have erK := e3K _ _ (S3.netp er) er fun _ z => by cases z
    obtain ⟨za, ez1, ez2, ez3⟩ := ea
    obtain ⟨zb, eb1, eb2, eb3⟩ := eb
    have eaK := e3K _ _ (S3.nerf ez2) ez2 fun _ z => by cases z
    have ebK := e3K _ _ (S3.nerf eb2) eb2 fun _ z => by cases z
    have zaK : ∀ z ∈ za, RowL K2 z.1 z.2 := fun z zm => let ⟨q', u1, u2⟩ := ez3 z zm; ⟨q', e3K _ _ (S3.netp u1) u1 (fun _ z => by cases z), e3K _ _ (S3.nesv u2) u2 (fun _ z => by cases z)⟩
    have zbK : ∀ z ∈ zb, ThO K2 z.1 z.2 := fun z zm => e3K _ _ (S3.netp (eb3 z zm)) (eb3 z zm) fun _ z => by cases z
    have as_ : a ≠ s := S3.nerf ez2
    have bs_ : b ≠ s := S3.nerf eb2
    clear e3K kc cb l5 frC oad obd oad2 obd2 erd erd2 nad nbd nad2 nbd2 eN1 eN2 T1 T2 tb hx hx2 hn hn2 er er5 erc eac ebc e5D e5D2 e79 e89 e59 s59 s89 s78 s68 s67 s56 c9 c1 epp ecc cp1 cp2 tr1 tr2 PG4 PG5 P4 P5 ez3 eb3 ez2 eb2 e6G e5G eD sD lf
    refine ⟨x2, rd2, ad2, bd2, R2, rk2, rfl, hx2K, kk, erd2K, oad2K, obd2K, fun L1 s1 => ⟨no_ft, fun _ => ?_⟩⟩
    refine ⟨x, rd, ad, bd, R, rk, rfl, hxK.same s1, k, s1 _ _ erdK, objl_same (fun _ _ h => RowL.same h s1) oadK s1, objl_same (fun _ _ h => ThO.same h s1) obdK s1, fun L2 s2 => ⟨no_ft, fun _ => ?_⟩⟩
    have s12 := s1.trans s2
    have lza : za.length = R.T.length := by rw [← ez1, List.length_map]
    have lzb : zb.length = R.U.length := by rw [← eb1, List.length_map]
    refine ⟨_, _, Sq.t (s12 _ _ erK), at_int (j := 0) rfl rfl, s, cl, _, a, _, rfl, SK.same s12, by omega, s12 _ _ eaK, as_, by rw [List.length_map]; omega, fun o1 ys1 L3 pm1 f1 e1 k1 S3' => ?_⟩
    obtain ⟨z1, pz1, rfl⟩ := perm_lift pm1.symm za rfl
    have Ss := SK.same s12
    have k0 : Keep s K2 L3 := (Same.keep s12).trans k1
    refine ⟨_, _, Sq.t (k0 _ _ (SK.netp erK) erK), at_int (j := 1) rfl rfl, s, cl, _, b, _, rfl, S3', by omega, k0 _ _ bs_ ebK, bs_, by rw [List.length_map]; omega, fun o2 ys2 L4 pm2 f2 e2 k2 S4' => ?_⟩
    obtain ⟨z2, pz2, rfl⟩ := perm_lift pm2.symm zb rfl
    have k04 := k0.trans k2
    have o1s : o1 ≠ s := Ss.ne f1
    have oR : ObjL RowL L4 o1 (z1.map (·.2)) := ⟨z1, rfl, k2 _ _ o1s e1, fun z zm => by
      obtain ⟨q', u1, u2⟩ := zaK z (pz1.subset zm)
      exact ⟨q', k04 _ _ (SK.netp u1) u1, k04 _ _ (SK.nesv u2) u2⟩⟩
    have oU : ObjL ThO L4 o2 (z2.map (·.2)) := ⟨z2, rfl, e2, fun z zm => k04 _ _ (SK.netp (zbK z (pz2.subset zm))) (zbK z (pz2.subset zm))⟩
    have pT : (z1.map (·.2)).Perm R.T := ez1 ▸ pz1.map (·.2)
    have pU : (z2.map (·.2)).Perm R.U := eb1 ▸ pz2.map (·.2)
    generalize z1.map (·.2) = T3 at oR pT
    generalize z2.map (·.2) = U3 at oU pU
    have k3 := ok_perm k pT pU
    have eqP := (eqRv_iff k.tnd k3.tnd k.und k3.und).mp (eqRv_perm pT pU)
    have hxL := hxK.keepS SK k04
    have hx2L := hx2K.keepS SK k04
    have erdL := k04 _ _ (SK.netp erdK) erdK
    have erd2L := k04 _ _ (SK.netp erd2K) erd2K
    have oadL := objl_keepR oadK SK k04
    have obdL := objl_keepT obdK SK k04
    have oad2L := objl_keepR oad2K SK k04
    have obd2L := objl_keepT obd2K SK k04
    clear k04 k2 k1 k0 s12 s2 s1 S3' S4' Ss f1 f2 e1 e2 pm1 pm2 eaK ebK erK zaK zbK hxK hx2K erdK erd2K oadK obdK oad2K obd2K SK as_ bs_ o1s pz1 pz2
    intro x3 dx fx fdx ndx
    have sx : Same L4 (upd (upd L4 dx (.own x3)) x3 (.ins (cA K "River") dx [])) := (same_new fdx).trans (same_new ((upd_ne ndx.symm).trans fx))
    refine ⟨x3, o1, o2, dx, ⟨T3, U3⟩, rk, rfl, upd_same, rows_same (objl_rows oR) sx, ths_same (objl_ths oU) sx, k3, fun L5 k5' hx3 _ => ⟨rfl, ?_⟩⟩
    have s45 : Same L4 L5 := fun u o e => k5' u o (ne_of_none e fx) (sx u o e)
    clear k5' sx fx fdx ndx oR oU
    generalize eR3 : (⟨T3, U3⟩ : Rv) = R3 at k3 eqP hx3
    refine ⟨x3, rd, ad, bd, R3, rk, rfl, hx3, k3, s45 _ _ erdL, by rw [← eqP.1]; exact objl_same (fun _ _ h => RowL.same h s45) oadL s45, by rw [← eqP.2]; exact objl_same (fun _ _ h => ThO.same h s45) obdL s45, fun M0 s5 => ⟨no_ft, fun _ => ?_⟩⟩
    have s4M := s45.trans s5
    have hxM := hxL.same s4M
    have hx2M := hx2L.same s4M
    have hx3M := hx3.same s5
    have d1M : Dp K M0 (.ref rd) (dueD (rowsT R) (rowsU R)) := dp_due (s4M _ _ erdL) (objl_same (fun _ _ h => RowL.same h s4M) oadL s4M) (objl_same (fun _ _ h => ThO.same h s4M) obdL s4M)
    have erdM := s4M _ _ erdL
    have oadM := objl_same (fun _ _ h => RowL.same h s4M) oadL s4M
    have obdM := objl_same (fun _ _ h => ThO.same h s4M) obdL s4M
    have erd2M := s4M _ _ erd2L
    have oad2M := objl_same (fun _ _ h => RowL.same h s4M) oad2L s4M
    have obd2M := objl_same (fun _ _ h => ThO.same h s4M) obd2L s4M
    clear d1M s45 s5 s4M hxL hx2L hx3 erdL erd2L oadL obdL oad2L obd2L
    have eqx : ∀ {G : Hp} {y z : Addr} {A B : Rv} {ra rb : Tx → Nat} {Q' : VK}, RivO K G y A → RivO K G z B → A.Ok ra → B.Ok rb → (∀ b, (b = true ↔ rowsT A = rowsT B ∧ rowsU A = rowsU B) → Q' (.bl b) G) → mOwn (cA K "River") (sp_River___eq__ K) (.ref y) (.ref z) G Q' := fun {G y z A B ra rb Q'} hy hz ka kb go => by
      obtain ⟨d1, _, _, _, _, _, _, _, _, _, h0, _⟩ := id hy
      obtain ⟨d2, _, _, _, _, _, _, _, _, _, g0, _⟩ := id hz
      exact ⟨⟨_, _, _, rfl, h0⟩, .inr (.inr (.inr ⟨_, _, _, rfl, g0⟩)), y, .ref z, A, ra, rfl, hy, ka, .inr ⟨z, B, rb, rfl, hz, kb, fun b hb => ⟨⟨b, rfl⟩, go b (hb.trans (eqRv_iff ka.tnd kb.tnd ka.und kb.und))⟩⟩⟩
    refine .inl (.inr (eqx hxM hx3M k k3 fun b1 hb1 => ⟨sl_of (n := 2) rfl, fun t1 ht1 => ?_⟩))
    obtain rfl : b1 = true := hb1.mpr eqP
    have c1 := same_new (o := .tup [.bl true, .bl true]) ht1
    have et1 : upd M0 t1 (.tup [.bl true, .bl true]) t1 = some (.tup [.bl true, .bl true]) := upd_same
    generalize upd M0 t1 (.tup [.bl true, .bl true]) = M1 at c1 et1
    refine .inr (eqx (hx3M.same c1) (hxM.same c1) k3 k fun b2 hb2 => ⟨sl_of (n := 2) rfl, fun t2 ht2 => ?_⟩)
    obtain rfl : b2 = true := hb2.mpr ⟨eqP.1.symm, eqP.2.symm⟩
    have c2 := same_new (o := .tup [.bl true, .bl true]) ht2
    have et2 : upd M1 t2 (.tup [.bl true, .bl true]) t2 = some (.tup [.bl true, .bl true]) := upd_same
    generalize upd M1 t2 (.tup [.bl true, .bl true]) = M2 at c2 et2
    have c12 := c1.trans c2
    refine .inr (eqx (hxM.same c12) (hxM.same c12) k k fun b3 hb3 => ⟨sl_of (n := 2) rfl, fun t3 ht3 => ?_⟩)
    obtain rfl : b3 = true := hb3.mpr ⟨rfl, rfl⟩
    have c3 := same_new (o := .tup [.bl true, .bl true]) ht3
    have et3 : upd M2 t3 (.tup [.bl true, .bl true]) t3 = some (.tup [.bl true, .bl true]) := upd_same
    generalize upd M2 t3 (.tup [.bl true, .bl true]) = M3 at c3 et3
    have c13 := c12.trans c3
    refine .inr (eqx (hx2M.same c13) (hx2M.same c13) kk kk fun b4 hb4 => ⟨sl_of (n := 2) rfl, fun t4 ht4 => ?_⟩)
    obtain rfl : b4 = true := hb4.mpr ⟨rfl, rfl⟩
    have c4 := same_new (o := .tup [.bl true, .bl true]) ht4
    have et4 : upd M3 t4 (.tup [.bl true, .bl true]) t4 = some (.tup [.bl true, .bl true]) := upd_same
    generalize upd M3 t4 (.tup [.bl true, .bl true]) = M4 at c4 et4
    refine ⟨sl_of (n := 4) rfl, fun ls hls => ?_⟩
    have c5 := same_new (o := .lst [.ref t1, .ref t2, .ref t3, .ref t4]) hls
    have els : upd M4 ls (.lst [.ref t1, .ref t2, .ref t3, .ref t4]) ls = some (.lst [.ref t1, .ref t2, .ref t3, .ref t4]) := upd_same
    generalize upd M4 ls (.lst [.ref t1, .ref t2, .ref t3, .ref t4]) = M5 at c5 els
    have c45 := c4.trans c5
    have c15 := c13.trans c45
    have four : ∀ v ∈ [V.ref t1, .ref t2, .ref t3, .ref t4], ∃ t, v = .ref t ∧ M5 t = some (.tup [.bl true, .bl true]) := fun v hv => by
      simp only [List.mem_cons, List.not_mem_nil, or_false] at hv
      rcases hv with rfl | rfl | rfl | rfl
      · exact ⟨_, rfl, (c2.trans (c3.trans c45)) _ _ et1⟩
      · exact ⟨_, rfl, (c3.trans c45) _ _ et2⟩
      · exact ⟨_, rfl, c45 _ _ et3⟩
      · exact ⟨_, rfl, c5 _ _ et4⟩
    clear et1 et2 et3 et4 hb1 hb2 hb3 hb4 c1 c2 c3 c4 c5 c12 c13 c45 ht1 ht2 ht3 ht4 hls
    refine ⟨ls, rfl, ⟨_, SqL.of els⟩, for_list (D := { nx := _, rt := _ }) (xs := [V.ref t1, .ref t2, .ref t3, .ref t4]) (fun i σ G => (∃ y12, σ = [some (.ref a0), some (.ref s), some (.ref r), some (.ref rc), some (.ref p), some (.ref p'), some (.ref cc), some (.ref x), some (.ref x2), some (.ref rd), some (.ref rd2), some (.ref x3), y12]) ∧ Same M5 G) ⟨⟨_, rfl⟩, Same.refl _⟩ (fun i σ G _ e => SqL.of (e.2 _ _ els)) (fun i v σ G hi e => ?_) (fun σ G e => ?_)⟩
    · obtain ⟨⟨y12, rfl⟩, sG⟩ := e
      obtain ⟨t, rfl, et⟩ := four v (List.mem_of_getElem? hi)
      have et := sG _ _ et
      exact ⟨_, _, Sq.t et, at_int (j := 0) rfl rfl, _, _, Sq.t et, at_int (j := 1) rfl rfl, _, _, rfl, rfl, no_ft, fun _ => ⟨⟨_, rfl⟩, sG⟩⟩
    obtain ⟨⟨y12, rfl⟩, sG⟩ := e
    have sM := c15.trans sG
    have hxN := hxM.same sM
    have hx2N := hx2M.same sM
    have hx3N := hx3M.same sM
    have dpN : ∀ {G' : Hp}, Same G G' → Dp K G' (.ref rd) (dueD (rowsT R) (rowsU R)) ∧ Dp K G' (.ref rd2) (dueD (rowsT R2) (rowsU R2)) := fun {G'} s' => by
      have s'' := sM.trans s'
      exact ⟨dp_due (s'' _ _ erdM) (objl_same (fun _ _ h => RowL.same h s'') oadM s'') (objl_same (fun _ _ h => ThO.same h s'') obdM s''), dp_due (s'' _ _ erd2M) (objl_same (fun _ _ h => RowL.same h s'') oad2M s'') (objl_same (fun _ _ h => ThO.same h s'') obd2M s'')⟩
    have sh1 := ok_fine k
    have sh2 := ok_fine kk
    clear four els sG c15 hxM hx2M hx3M erdM oadM obdM erd2M oad2M obd2M sM
    refine .inl (.inr (eqx hxN hx2N k kk fun b5 hb5 => .inl ⟨_, _, (dpN (Same.refl _)).1, (dpN (Same.refl _)).2, sh1, sh2, sl_of (n := 2) rfl, fun t5 ht5 => ?_⟩))
    obtain rfl : b5 = PyData.eqv (dueD (rowsT R) (rowsU R)) (dueD (rowsT R2) (rowsU R2)) := by rw [Bool.eq_iff_iff, hb5, eqv_dueD]
    generalize PyData.eqv (dueD (rowsT R) (rowsU R)) (dueD (rowsT R2) (rowsU R2)) = b5 at hb5 ht5
    have c1 := same_new (o := .tup [.bl b5, .bl b5]) ht5
    have et5 : upd G t5 (.tup [.bl b5, .bl b5]) t5 = some (.tup [.bl b5, .bl b5]) := upd_same
    generalize upd G t5 (.tup [.bl b5, .bl b5]) = N1 at c1 et5
    refine .inr (eqx (hx2N.same c1) (hx3N.same c1) kk k3 fun b7 hb7 => .inl ⟨_, _, (dpN c1).1, (dpN c1).2, sh1, sh2, sl_of (n := 2) rfl, fun t6 ht6 => ?_⟩)
    obtain rfl : b7 = PyData.eqv (dueD (rowsT R) (rowsU R)) (dueD (rowsT R2) (rowsU R2)) := by
      rw [Bool.eq_iff_iff, hb7, eqv_dueD, ← eqP.1, ← eqP.2]
      exact ⟨fun h => ⟨h.1.symm, h.2.symm⟩, fun h => ⟨h.1.symm, h.2.symm⟩⟩
    generalize PyData.eqv (dueD (rowsT R) (rowsU R)) (dueD (rowsT R2) (rowsU R2)) = b7 at hb7 ht6
    have c2 := same_new (o := .tup [.bl b7, .bl b7]) ht6
    have et6 : upd N1 t6 (.tup [.bl b7, .bl b7]) t6 = some (.tup [.bl b7, .bl b7]) := upd_same
    generalize upd N1 t6 (.tup [.bl b7, .bl b7]) = N2 at c2 et6
    refine ⟨sl_of (n := 2) rfl, fun l2 hl2 => ?_⟩
    have c3 := same_new (o := .lst [.ref t5, .ref t6]) hl2
    have el2 : upd N2 l2 (.lst [.ref t5, .ref t6]) l2 = some (.lst [.ref t5, .ref t6]) := upd_same
    generalize upd N2 l2 (.lst [.ref t5, .ref t6]) = N3 at c3 el2
    have c13 := c1.trans (c2.trans c3)
    have two : ∀ v ∈ [V.ref t5, .ref t6], ∃ t bb, v = .ref t ∧ N3 t = some (.tup [.bl bb, .bl bb]) := fun v hv => by
      simp only [List.mem_cons, List.not_mem_nil, or_false] at hv
      rcases hv with rfl | rfl
      · exact ⟨_, _, rfl, (c2.trans c3) _ _ et5⟩
      · exact ⟨_, _, rfl, c3 _ _ et6⟩
    refine ⟨l2, rfl, ⟨_, SqL.of el2⟩, for_list (D := { nx := _, rt := _ }) (xs := [V.ref t5, .ref t6]) (fun i σ G => (∃ y12, σ = [some (.ref a0), some (.ref s), some (.ref r), some (.ref rc), some (.ref p), some (.ref p'), some (.ref cc), some (.ref x), some (.ref x2), some (.ref rd), some (.ref rd2), some (.ref x3), y12]) ∧ Same N3 G) ⟨⟨_, rfl⟩, Same.refl _⟩ (fun i σ G _ e => SqL.of (e.2 _ _ el2)) (fun i v σ G hi e => ?_) (fun σ G e => ?_)⟩
    · obtain ⟨⟨y12, rfl⟩, sG⟩ := e
      obtain ⟨t, bb, rfl, et⟩ := two v (List.mem_of_getElem? hi)
      have et := sG _ _ et
      exact ⟨_, _, Sq.t et, at_int (j := 0) rfl rfl, _, _, Sq.t et, at_int (j := 1) rfl rfl, _, _, rfl, rfl, no_ft, fun _ => ⟨⟨_, rfl⟩, sG⟩⟩
    obtain ⟨⟨y12', rfl⟩, sG⟩ := e
    have hxP := hxN.same (c13.trans sG)
    clear two et5 et6 el2 dpN sh1 sh2 hxN hx2N hx3N c1 c2 c3 c13 sG
    obtain ⟨dz, _, _, _, _, _, _, _, _, _, hz0, _⟩ := id hxP
    refine .inr ⟨⟨_, _, _, rfl, hz0⟩, .inl ⟨_, rfl⟩, x, _, R, rk, rfl, hxP, k, .inl ⟨.inl ⟨_, rfl⟩, ⟨_, rfl⟩, ?_⟩⟩
    refine .inr ⟨⟨_, _, _, rfl, hz0⟩, .inr (.inl ⟨_, rfl⟩), x, _, R, rk, rfl, hxP, k, .inl ⟨.inr (.inl ⟨_, rfl⟩), ⟨_, rfl⟩, ?_⟩⟩
    refine ⟨x, dz, _, rfl, hz0, rfl, x, R, rfl, hxP, k.tnd, by omega, fun rr G' s' fr' orr => ?_⟩
    obtain ⟨zz, _, elr, _⟩ := orr
    refine .inr ⟨⟨_, _, _, rfl, s' _ _ hz0⟩, .inr (.inr (.inl ⟨_, _, rfl, elr⟩)), x, _, R, rk, rfl, hxP.same s', k, .inl ⟨.inr (.inr ⟨_, _, rfl, elr⟩), ⟨_, rfl⟩, ?_⟩⟩
    refine ⟨sl_of (n := 3) rfl, fun ta hta => ⟨sl_of (n := 3) rfl, fun tc htc => ?_⟩⟩
    have d1 := same_new (o := .tup [.bl false, .bl false, .bl false]) htc
    refine ⟨_, _, rfl, .inr ⟨_, _, d1 _ _ upd_same, upd_same, rfl, (by show 3 ≤ 1000000; decide), fun j u v gu gv => ?_⟩, q _⟩
    match j, gu, gv with
    | 0, gu, gv => cases gu; cases gv; exact rfl
    | 1, gu, gv => cases gu; cases gv; exact rfl
    | 2, gu, gv => cases gu; cases gv; exact rfl
    | j + 3, gu, gv => simp at gu
def d0 : Df := ⟨296, "towns", "River.towns", (clsN (topS 35) 1)⟩
def d1 : Df := ⟨371, "thing_rows", "River.thing_rows", (clsN (topS 35) 12)⟩
def d2 : Df := ⟨392, "__eq__", "River.__eq__", (clsN (topS 35) 15)⟩
def d3 : Df := ⟨304, "things", "River.things", (clsN (topS 35) 2)⟩
def d4 : Df := ⟨206, "is_name", "is_name", (topS 22)⟩
def d5 : Df := ⟨220, "is_liking", "is_liking", (topS 24)⟩
def d6 : Df := ⟨227, "check_counts", "check_counts", (topS 26)⟩
def d7 : Df := ⟨241, "check_room", "check_room", (topS 28)⟩
def d8 : Df := ⟨258, "check_springs", "check_springs", (topS 31)⟩
def d9 : Df := ⟨263, "check_rings", "check_rings", (topS 32)⟩
def d10 : Df := ⟨277, "towns_from", "towns_from", (topS 34)⟩
def d11 : Df := ⟨404, "_law_store", "_law_store", (topS 37)⟩
def d12 : Df := ⟨411, "_law_mix", "_law_mix", (topS 38)⟩
def d13 : Df := ⟨463, "_law_is_name", "_law_is_name", (topS 46)⟩
def d14 : Df := ⟨213, "check_name", "check_name", (topS 23)⟩
def d15 : Df := ⟨248, "check_liking", "check_liking", (topS 29)⟩
def d16 : Df := ⟨418, "_law_take", "_law_take", (topS 39)⟩
def d17 : Df := ⟨193, "check_town", "check_town", (topS 12)⟩
def d18 : Df := ⟨234, "check_row_names", "check_row_names", (topS 27)⟩
def d19 : Df := ⟨253, "check_town_rows", "check_town_rows", (topS 30)⟩
def d20 : Df := ⟨425, "_law_yes", "_law_yes", (topS 40)⟩
def d21 : Df := ⟨432, "_law_pick", "_law_pick", (topS 41)⟩
def d22 : Df := ⟨491, "_law_order", "_law_order", (topS 50)⟩
def d23 : Df := ⟨498, "_law_room", "_law_room", (topS 51)⟩
def d24 : Df := ⟨505, "_law_tree", "_law_tree", (topS 52)⟩
def d25 : Df := ⟨550, "_law_kept", "_law_kept", (topS 59)⟩
def d26 : Df := ⟨312, "after", "River.after", (clsN (topS 35) 3)⟩
def d27 : Df := ⟨319, "room", "River.room", (clsN (topS 35) 4)⟩
def d28 : Df := ⟨326, "liking", "River.liking", (clsN (topS 35) 5)⟩
def d29 : Df := ⟨270, "check_rows", "check_rows", (topS 33)⟩
def d30 : Df := ⟨458, "_law_either", "_law_either", (topS 45)⟩
def d31 : Df := ⟨470, "_law_raw_name", "_law_raw_name", (topS 47)⟩
def d32 : Df := ⟨512, "_law_town_rows", "_law_town_rows", (topS 53)⟩
def d33 : Df := ⟨517, "_law_thing_rows", "_law_thing_rows", (topS 54)⟩
def d34 : Df := ⟨289, "__init__", "River.__init__", (clsN (topS 35) 0)⟩
def d35 : Df := ⟨366, "town_rows", "River.town_rows", (clsN (topS 35) 11)⟩
def d36 : Df := ⟨477, "_law_name", "_law_name", (topS 48)⟩
def d37 : Df := ⟨555, "_law_passed", "_law_passed", (topS 60)⟩
def d38 : Df := ⟨484, "_law_names", "_law_names", (topS 49)⟩
def d39 : Df := ⟨524, "_law_thing_names", "_law_thing_names", (topS 55)⟩
def d40 : Df := ⟨439, "_law_same", "_law_same", (topS 42)⟩
def d41 : Df := ⟨444, "_law_copy", "_law_copy", (topS 43)⟩
def d42 : Df := ⟨451, "_law_spoil", "_law_spoil", (topS 44)⟩
def d43 : Df := ⟨531, "_law_rows", "_law_rows", (topS 56)⟩
def d44 : Df := ⟨538, "_law_drawn_rows", "_law_drawn_rows", (topS 57)⟩
def d45 : Df := ⟨545, "_law_changed_rows", "_law_changed_rows", (topS 58)⟩
def d46 : Df := ⟨560, "_law_is_told", "_law_is_told", (topS 61)⟩
def d47 : Df := ⟨567, "law", "law", (topS 62)⟩
def df0 : List Df := [d0, d1, d2, d3, d4, d5, d6, d7, d8, d9, d10, d11, d12, d13, d14, d15]
def fb0 : List Fl := [.glo "River" 395, .prop 395 "towns" 297 296, .meth 395 "thing_rows" 371, .meth 395 "__eq__" 392, .prop 395 "things" 305 304, .glo "is_name" 206, .glo "is_liking" 220, .glo "check_counts" 227, .glo "check_room" 241, .glo "check_springs" 258, .glo "check_rings" 263, .glo "towns_from" 277, .glo "_law_store" 404, .glo "_law_mix" 411, .glo "_law_is_name" 463, .glo "check_name" 213, .glo "check_liking" 248, .glo "_law_take" 418, .glo "check_town" 193, .glo "check_row_names" 234, .glo "check_town_rows" 253, .glo "_law_yes" 425, .glo "_law_pick" 432, .glo "_law_order" 491, .glo "_law_room" 498, .glo "_law_tree" 505]
def df1 : List Df := [d16, d17, d18, d19, d20, d21, d22, d23, d24, d25, d26, d27, d28, d29, d30, d31]
def fb1 : List Fl := [.glo "_law_kept" 550, .meth 395 "after" 312, .meth 395 "room" 319, .meth 395 "liking" 326, .glo "check_rows" 270, .glo "_law_either" 458, .glo "_law_raw_name" 470, .glo "_law_town_rows" 512, .glo "_law_thing_rows" 517, .make 395 289, .meth 395 "town_rows" 366, .glo "_law_name" 477, .glo "_law_passed" 555, .glo "_law_names" 484, .glo "_law_thing_names" 524, .glo "_law_same" 439, .glo "_law_copy" 444, .glo "_law_spoil" 451, .glo "_law_rows" 531, .glo "_law_drawn_rows" 538, .glo "_law_changed_rows" 545, .glo "_law_is_told" 560, .glo "law" 567, .inst 395, .free "all", .free "bool"]
def df2 : List Df := [d32, d33, d34, d35, d36, d37, d38, d39, d40, d41, d42, d43, d44, d45, d46, d47]
def fb2 : List Fl := [.free "enumerate", .free "int", .free "isinstance", .free "len", .free "list", .free "range", .free "sorted", .free "str", .free "tuple", .int "MAX_NAME" 8, .int "MAX_ROOM" 99, .int "MAX_THINGS" 10, .int "MAX_TOWNS" 8, .str "LETTERS" "abcdefghijklmnopqrstuvwxyz", .str "LETTERS_AND_DIGITS" "abcdefghijklmnopqrstuvwxyz0123456789", .glo "BARRED_WORDS" 201, .tup 201 ["sea", "it"], .nof 395 "_landings", .nof 395 "_likings", .nof 395 "_next_towns", .nof 395 "_numbers", .nof 395 "_paths", .nof 395 "_rooms", .nof 395 "_sources", .nof 395 "_things", .nof 395 "_towns"]
def dfs : List Df := (df0 ++ (df1 ++ df2))
def fbs : List Fl := (fb0 ++ (fb1 ++ fb2))
theorem two_obs {α : Type} {o : Option α} {g : α → Addr → Option Obj} {as : List Addr} {fa fb : List Fl} {da db : List Df} (h1 : o.map (fun s => obsLG as fa da (g s)) = some (valL da)) (h2 : o.map (fun s => obsLG as fb db (g s)) = some (valL db)) : o.map (fun s => obsLG as (fa ++ fb) (da ++ db) (g s)) = some (valL (da ++ db)) := by
  cases o with
  | none => cases h1
  | some s =>
    have e1 : obsLG as fa da (g s) = valL da := Option.some.inj h1
    have e2 : obsLG as fb db (g s) = valL db := Option.some.inj h2
    show some (obsLG as (fa ++ fb) (da ++ db) (g s)) = _
    unfold obsLG obsL valL at *
    simp only [Prod.mk.injEq, Bool.and_eq_true] at e1 e2
    simp only [List.all_append, List.map_append, Option.some.injEq, Prod.mk.injEq, Bool.and_eq_true]
    exact ⟨⟨⟨e1.1.1, e2.1.1⟩, e1.1.2, e2.1.2⟩, by rw [e1.2, e2.2]⟩
def ads : List Addr := [mainGlobals, 297, 296, 295, 371, 370, 392, 391, 305, 304, 303, 206, 205, 220, 219, 227, 226, 241, 240, 258, 257, 263, 262, 277, 276, 404, 403, 411, 410, 463, 462, 213, 212, 248, 247, 418, 417, 193, 192, 234, 233, 253, 252, 425, 424, 432, 431, 491, 490, 498, 497, 505, 504, 550, 549, 312, 311, 319, 318, 326, 325, 270, 269, 458, 457, 470, 469, 512, 511, 517, 516, 289, 288, 366, 365, 477, 476, 555, 554, 484, 483, 524, 523, 439, 438, 444, 443, 451, 450, 531, 530, 538, 537, 545, 544, 560, 559, 567, 566, 201, 395, 394]
theorem km : PySem.W.kitMeta "ValueError" = true := by decide +kernel
def nm0 : List PySem.Str := ["_wall", "RiverError", "BadName", "DuplicateName", "BadCount", "BadRoom", "BadLiking", "Ring", "UnknownTown", "UnknownThing", "check_town", "check_thing", "MAX_TOWNS", "MAX_THINGS", "MAX_ROOM", "MAX_NAME", "LETTERS", "LETTERS_AND_DIGITS", "BARRED_WORDS", "is_name", "check_name", "is_liking", "check_counts", "check_row_names", "check_room", "check_liking", "check_town_rows", "check_springs", "check_rings", "check_rows"]
def nm1 : List PySem.Str := ["towns_from", "River", "_law_store", "_law_mix", "_law_take", "_law_yes", "_law_pick", "_law_same", "_law_copy", "_law_spoil", "_law_either", "_law_is_name", "_law_raw_name", "_law_name", "_law_names", "_law_order", "_law_room", "_law_tree", "_law_town_rows", "_law_thing_rows", "_law_thing_names", "_law_rows", "_law_drawn_rows", "_law_changed_rows", "_law_kept", "_law_passed", "_law_is_told"]
def nms : List PySem.Str := nm0 ++ nm1
def cds : List (Addr × Addr × Addr) := [(550, 549, 547)]
def iss : List Addr := [395]
abbrev RR : PySem.W.OpenRow := PySem.W.OpenLaw.row PySem.Challenge.rw_riverkeeps_k04_rows_told_back
abbrev hkR : PySem.W.Hook := hookT ads fbs dfs cds iss (by decide +kernel)
def obR (s : PySem.W.SharedT) : AlL × Bool := obsT ads fbs dfs cds iss (HandSHeadRun.getT s)
theorem obR_eq (s : PySem.W.SharedT) : obR s = hkR.obs s.abs := obsT_eq (HandSHeadRun.getT_eq s)
noncomputable abbrev endR (w : World) (os : OsState) := HandSHeadRun.endF (HandSHeadRun.stepQ (HandSHeadRun.denQ HandSHeadRun.tabQ) RR.prog w) 60000 RR.prog w os
set_option maxHeartbeats 0 in
theorem runA (w : World) (os : OsState) : (endR w os).map (fun s => (HandSHeadRun.looksF RR.prog (PySem.W.boot_heap w.params) s.abs, HandSHeadRun.seenQ (PySem.W.view RR.prog [62]) nms (importedModules RR.prog.main.body) (fun s => PySem.W.xlAt (PySem.W.view RR.prog [62]) [] s && PySem.W.recOk RR.toRowW.records s) s.abs)) = some (true, PySem.W.openGood (PySem.W.view RR.prog [62]) nms) := by
  kernel_rfl
set_option maxHeartbeats 0 in
theorem runB0 (w : World) (os : OsState) : (endR w os).map (fun s => obsLG ads fb0 df0 (HandSHeadRun.getT s)) = some (valL df0) := by
  kernel_rfl
set_option maxHeartbeats 0 in
theorem runB1 (w : World) (os : OsState) : (endR w os).map (fun s => obsLG ads fb1 df1 (HandSHeadRun.getT s)) = some (valL df1) := by
  kernel_rfl
set_option maxHeartbeats 0 in
theorem runB2 (w : World) (os : OsState) : (endR w os).map (fun s => obsLG ads fb2 df2 (HandSHeadRun.getT s)) = some (valL df2) := by
  kernel_rfl
theorem runB (w : World) (os : OsState) : (endR w os).map (fun s => obsLG ads fbs dfs (HandSHeadRun.getT s)) = some (valL dfs) := (two_obs (fa := fb0) (da := df0) (runB0 w os) (two_obs (fa := fb1) (da := df1) (runB1 w os) (runB2 w os)))
set_option maxHeartbeats 0 in
theorem runT (w : World) (os : OsState) : (endR w os).map (fun s => obsTG ads cds iss (HandSHeadRun.getT s)) = some true := by
  kernel_rfl
theorem runBT (w : World) (os : OsState) : (endR w os).map obR = some (valL dfs, true) := both_looks (runB w os) (runT w os)
theorem runR (w : World) : HandSHeadRun.RunEq RR (PySem.W.view RR.prog [62]) hkR obR 60000 nms w := fun os => three_looks (runA w os) (runBT w os)
theorem all_mk {P : Program} {w : World} {K : PySem.W.Frag} {h : Heap} {mg : Str → Option Value} {f : Addr} (X : K.In h) (G : h.Ns mainGlobals mg) (hfa : mg ("law" : Str) = some (.ref f)) (c : SaysL fbs dfs K) (ct : ∀ p ∈ cds, codOk K p.1 p.2.1 p.2.2 = true ∧ K.lookup p.2.2 = none) (ci : ∀ a ∈ iss, isiOk K a = true) :
    ∃ fd : FuncData, (∀ (s : Shared) (v : Value), BindsTo s fd ⟨[v], []⟩ [("script", v)]) ∧ tbA K "_law_kept" = 547 ∧ ∀ base : Heap, K.In base → base.Ns mainGlobals mg → LamX.TabB base mg 549 547 → FnOk P w K mg base CX0 10 f fd ["script"] (sp_law K) := by
  have e := hfa.symm.trans (Fl.glo_ok X G (c.fact 48 rfl))
  cases e
  obtain ⟨fd0, F0⟩ := c.def_ 0 (d := d0) rfl
  have F0 : Fun K "towns" "River.towns" (clsN (topS 35) 1) 296 fd0 := F0
  have b0 := F0.binds (ps := ["self"]) fun _ _ _ _ _ _ us hl => match us, hl with | [_], _ => rfl
  obtain ⟨fd1, F1⟩ := c.def_ 1 (d := d1) rfl
  have F1 : Fun K "thing_rows" "River.thing_rows" (clsN (topS 35) 12) 371 fd1 := F1
  have b1 := F1.binds (ps := ["self"]) fun _ _ _ _ _ _ us hl => match us, hl with | [_], _ => rfl
  obtain ⟨fd2, F2⟩ := c.def_ 2 (d := d2) rfl
  have F2 : Fun K "__eq__" "River.__eq__" (clsN (topS 35) 15) 392 fd2 := F2
  have b2 := F2.binds (ps := ["self", "other"]) fun _ _ _ _ _ _ us hl => match us, hl with | [_, _], _ => rfl
  obtain ⟨fd3, F3⟩ := c.def_ 3 (d := d3) rfl
  have F3 : Fun K "things" "River.things" (clsN (topS 35) 2) 304 fd3 := F3
  have b3 := F3.binds (ps := ["self"]) fun _ _ _ _ _ _ us hl => match us, hl with | [_], _ => rfl
  obtain ⟨fd4, F4⟩ := c.def_ 4 (d := d4) rfl
  have F4 : Fun K "is_name" "is_name" (topS 22) 206 fd4 := F4
  have b4 := F4.binds (ps := ["text"]) fun _ _ _ _ _ _ us hl => match us, hl with | [_], _ => rfl
  obtain ⟨fd5, F5⟩ := c.def_ 5 (d := d5) rfl
  have F5 : Fun K "is_liking" "is_liking" (topS 24) 220 fd5 := F5
  have b5 := F5.binds (ps := ["liking", "things"]) fun _ _ _ _ _ _ us hl => match us, hl with | [_, _], _ => rfl
  obtain ⟨fd6, F6⟩ := c.def_ 6 (d := d6) rfl
  have F6 : Fun K "check_counts" "check_counts" (topS 26) 227 fd6 := F6
  have b6 := F6.binds (ps := ["towns", "things"]) fun _ _ _ _ _ _ us hl => match us, hl with | [_, _], _ => rfl
  obtain ⟨fd7, F7⟩ := c.def_ 7 (d := d7) rfl
  have F7 : Fun K "check_room" "check_room" (topS 28) 241 fd7 := F7
  have b7 := F7.binds (ps := ["town", "room"]) fun _ _ _ _ _ _ us hl => match us, hl with | [_, _], _ => rfl
  obtain ⟨fd8, F8⟩ := c.def_ 8 (d := d8) rfl
  have F8 : Fun K "check_springs" "check_springs" (topS 31) 258 fd8 := F8
  have b8 := F8.binds (ps := ["towns", "things"]) fun _ _ _ _ _ _ us hl => match us, hl with | [_, _], _ => rfl
  obtain ⟨fd9, F9⟩ := c.def_ 9 (d := d9) rfl
  have F9 : Fun K "check_rings" "check_rings" (topS 32) 263 fd9 := F9
  have b9 := F9.binds (ps := ["towns"]) fun _ _ _ _ _ _ us hl => match us, hl with | [_], _ => rfl
  obtain ⟨fd10, F10⟩ := c.def_ 10 (d := d10) rfl
  have F10 : Fun K "towns_from" "towns_from" (topS 34) 277 fd10 := F10
  have b10 := F10.binds (ps := ["next_towns", "town"]) fun _ _ _ _ _ _ us hl => match us, hl with | [_, _], _ => rfl
  obtain ⟨fd11, F11⟩ := c.def_ 11 (d := d11) rfl
  have F11 : Fun K "_law_store" "_law_store" (topS 37) 404 fd11 := F11
  have b11 := F11.binds (ps := ["script"]) fun _ _ _ _ _ _ us hl => match us, hl with | [_], _ => rfl
  obtain ⟨fd12, F12⟩ := c.def_ 12 (d := d12) rfl
  have F12 : Fun K "_law_mix" "_law_mix" (topS 38) 411 fd12 := F12
  have b12 := F12.binds (ps := ["cell", "turn"]) fun _ _ _ _ _ _ us hl => match us, hl with | [_, _], _ => rfl
  obtain ⟨fd13, F13⟩ := c.def_ 13 (d := d13) rfl
  have F13 : Fun K "_law_is_name" "_law_is_name" (topS 46) 463 fd13 := F13
  have b13 := F13.binds (ps := ["text"]) fun _ _ _ _ _ _ us hl => match us, hl with | [_], _ => rfl
  obtain ⟨fd14, F14⟩ := c.def_ 14 (d := d14) rfl
  have F14 : Fun K "check_name" "check_name" (topS 23) 213 fd14 := F14
  have b14 := F14.binds (ps := ["text"]) fun _ _ _ _ _ _ us hl => match us, hl with | [_], _ => rfl
  obtain ⟨fd15, F15⟩ := c.def_ 15 (d := d15) rfl
  have F15 : Fun K "check_liking" "check_liking" (topS 29) 248 fd15 := F15
  have b15 := F15.binds (ps := ["town", "liking", "things"]) fun _ _ _ _ _ _ us hl => match us, hl with | [_, _, _], _ => rfl
  obtain ⟨fd16, F16⟩ := c.def_ 16 (d := d16) rfl
  have F16 : Fun K "_law_take" "_law_take" (topS 39) 418 fd16 := F16
  have b16 := F16.binds (ps := ["store", "many"]) fun _ _ _ _ _ _ us hl => match us, hl with | [_, _], _ => rfl
  obtain ⟨fd17, F17⟩ := c.def_ 17 (d := d17) rfl
  have F17 : Fun K "check_town" "check_town" (topS 12) 193 fd17 := F17
  have b17 := F17.binds (ps := ["river", "town"]) fun _ _ _ _ _ _ us hl => match us, hl with | [_, _], _ => rfl
  obtain ⟨fd18, F18⟩ := c.def_ 18 (d := d18) rfl
  have F18 : Fun K "check_row_names" "check_row_names" (topS 27) 234 fd18 := F18
  have b18 := F18.binds (ps := ["rows"]) fun _ _ _ _ _ _ us hl => match us, hl with | [_], _ => rfl
  obtain ⟨fd19, F19⟩ := c.def_ 19 (d := d19) rfl
  have F19 : Fun K "check_town_rows" "check_town_rows" (topS 30) 253 fd19 := F19
  have b19 := F19.binds (ps := ["towns", "things"]) fun _ _ _ _ _ _ us hl => match us, hl with | [_, _], _ => rfl
  obtain ⟨fd20, F20⟩ := c.def_ 20 (d := d20) rfl
  have F20 : Fun K "_law_yes" "_law_yes" (topS 40) 425 fd20 := F20
  have b20 := F20.binds (ps := ["store", "many"]) fun _ _ _ _ _ _ us hl => match us, hl with | [_, _], _ => rfl
  obtain ⟨fd21, F21⟩ := c.def_ 21 (d := d21) rfl
  have F21 : Fun K "_law_pick" "_law_pick" (topS 41) 432 fd21 := F21
  have b21 := F21.binds (ps := ["store", "items"]) fun _ _ _ _ _ _ us hl => match us, hl with | [_, _], _ => rfl
  obtain ⟨fd22, F22⟩ := c.def_ 22 (d := d22) rfl
  have F22 : Fun K "_law_order" "_law_order" (topS 50) 491 fd22 := F22
  have b22 := F22.binds (ps := ["store", "items"]) fun _ _ _ _ _ _ us hl => match us, hl with | [_, _], _ => rfl
  obtain ⟨fd23, F23⟩ := c.def_ 23 (d := d23) rfl
  have F23 : Fun K "_law_room" "_law_room" (topS 51) 498 fd23 := F23
  have b23 := F23.binds (ps := ["store", "many"]) fun _ _ _ _ _ _ us hl => match us, hl with | [_, _], _ => rfl
  obtain ⟨fd24, F24⟩ := c.def_ 24 (d := d24) rfl
  have F24 : Fun K "_law_tree" "_law_tree" (topS 52) 505 fd24 := F24
  have b24 := F24.binds (ps := ["store", "many", "lone"]) fun _ _ _ _ _ _ us hl => match us, hl with | [_, _, _], _ => rfl
  obtain ⟨fd25, F25⟩ := c.def_ 25 (d := d25) rfl
  have F25 : Fun K "_law_kept" "_law_kept" (topS 59) 550 fd25 := F25
  have b25 := F25.binds (ps := ["rows"]) fun _ _ _ _ _ _ us hl => match us, hl with | [_], _ => rfl
  obtain ⟨fd26, F26⟩ := c.def_ 26 (d := d26) rfl
  have F26 : Fun K "after" "River.after" (clsN (topS 35) 3) 312 fd26 := F26
  have b26 := F26.binds (ps := ["self", "town"]) fun _ _ _ _ _ _ us hl => match us, hl with | [_, _], _ => rfl
  obtain ⟨fd27, F27⟩ := c.def_ 27 (d := d27) rfl
  have F27 : Fun K "room" "River.room" (clsN (topS 35) 4) 319 fd27 := F27
  have b27 := F27.binds (ps := ["self", "town"]) fun _ _ _ _ _ _ us hl => match us, hl with | [_, _], _ => rfl
  obtain ⟨fd28, F28⟩ := c.def_ 28 (d := d28) rfl
  have F28 : Fun K "liking" "River.liking" (clsN (topS 35) 5) 326 fd28 := F28
  have b28 := F28.binds (ps := ["self", "town"]) fun _ _ _ _ _ _ us hl => match us, hl with | [_, _], _ => rfl
  obtain ⟨fd29, F29⟩ := c.def_ 29 (d := d29) rfl
  have F29 : Fun K "check_rows" "check_rows" (topS 33) 270 fd29 := F29
  have b29 := F29.binds (ps := ["towns", "things"]) fun _ _ _ _ _ _ us hl => match us, hl with | [_, _], _ => rfl
  obtain ⟨fd30, F30⟩ := c.def_ 30 (d := d30) rfl
  have F30 : Fun K "_law_either" "_law_either" (topS 45) 458 fd30 := F30
  have b30 := F30.binds (ps := ["store", "items"]) fun _ _ _ _ _ _ us hl => match us, hl with | [_, _], _ => rfl
  obtain ⟨fd31, F31⟩ := c.def_ 31 (d := d31) rfl
  have F31 : Fun K "_law_raw_name" "_law_raw_name" (topS 47) 470 fd31 := F31
  have b31 := F31.binds (ps := ["store"]) fun _ _ _ _ _ _ us hl => match us, hl with | [_], _ => rfl
  obtain ⟨fd32, F32⟩ := c.def_ 32 (d := d32) rfl
  have F32 : Fun K "_law_town_rows" "_law_town_rows" (topS 53) 512 fd32 := F32
  have b32 := F32.binds (ps := ["store", "towns", "things", "lone"]) fun _ _ _ _ _ _ us hl => match us, hl with | [_, _, _, _], _ => rfl
  obtain ⟨fd33, F33⟩ := c.def_ 33 (d := d33) rfl
  have F33 : Fun K "_law_thing_rows" "_law_thing_rows" (topS 54) 517 fd33 := F33
  have b33 := F33.binds (ps := ["store", "towns", "things"]) fun _ _ _ _ _ _ us hl => match us, hl with | [_, _, _], _ => rfl
  obtain ⟨fd34, F34⟩ := c.def_ 34 (d := d34) rfl
  have F34 : Fun K "__init__" "River.__init__" (clsN (topS 35) 0) 289 fd34 := F34
  have b34 := F34.binds (ps := ["self", "towns", "things"]) fun _ _ _ _ _ _ us hl => match us, hl with | [_, _, _], _ => rfl
  obtain ⟨fd35, F35⟩ := c.def_ 35 (d := d35) rfl
  have F35 : Fun K "town_rows" "River.town_rows" (clsN (topS 35) 11) 366 fd35 := F35
  have b35 := F35.binds (ps := ["self"]) fun _ _ _ _ _ _ us hl => match us, hl with | [_], _ => rfl
  obtain ⟨fd36, F36⟩ := c.def_ 36 (d := d36) rfl
  have F36 : Fun K "_law_name" "_law_name" (topS 48) 477 fd36 := F36
  have b36 := F36.binds (ps := ["store", "taken"]) fun _ _ _ _ _ _ us hl => match us, hl with | [_, _], _ => rfl
  obtain ⟨fd37, F37⟩ := c.def_ 37 (d := d37) rfl
  have F37 : Fun K "_law_passed" "_law_passed" (topS 60) 555 fd37 := F37
  have b37 := F37.binds (ps := ["store", "rows"]) fun _ _ _ _ _ _ us hl => match us, hl with | [_, _], _ => rfl
  obtain ⟨fd38, F38⟩ := c.def_ 38 (d := d38) rfl
  have F38 : Fun K "_law_names" "_law_names" (topS 49) 484 fd38 := F38
  have b38 := F38.binds (ps := ["store", "many"]) fun _ _ _ _ _ _ us hl => match us, hl with | [_, _], _ => rfl
  obtain ⟨fd39, F39⟩ := c.def_ 39 (d := d39) rfl
  have F39 : Fun K "_law_thing_names" "_law_thing_names" (topS 55) 524 fd39 := F39
  have b39 := F39.binds (ps := ["store", "towns", "count"]) fun _ _ _ _ _ _ us hl => match us, hl with | [_, _, _], _ => rfl
  obtain ⟨fd40, F40⟩ := c.def_ 40 (d := d40) rfl
  have F40 : Fun K "_law_same" "_law_same" (topS 42) 439 fd40 := F40
  have b40 := F40.binds (ps := ["actual", "expected"]) fun _ _ _ _ _ _ us hl => match us, hl with | [_, _], _ => rfl
  obtain ⟨fd41, F41⟩ := c.def_ 41 (d := d41) rfl
  have F41 : Fun K "_law_copy" "_law_copy" (topS 43) 444 fd41 := F41
  have b41 := F41.binds (ps := ["value"]) fun _ _ _ _ _ _ us hl => match us, hl with | [_], _ => rfl
  obtain ⟨fd42, F42⟩ := c.def_ 42 (d := d42) rfl
  have F42 : Fun K "_law_spoil" "_law_spoil" (topS 44) 451 fd42 := F42
  have b42 := F42.binds (ps := ["value", "depth"]) fun _ _ _ _ _ _ us hl => match us, hl with | [_, _], _ => rfl
  obtain ⟨fd43, F43⟩ := c.def_ 43 (d := d43) rfl
  have F43 : Fun K "_law_rows" "_law_rows" (topS 56) 531 fd43 := F43
  have b43 := F43.binds (ps := ["store", "most_towns", "most_things"]) fun _ _ _ _ _ _ us hl => match us, hl with | [_, _, _], _ => rfl
  obtain ⟨fd44, F44⟩ := c.def_ 44 (d := d44) rfl
  have F44 : Fun K "_law_drawn_rows" "_law_drawn_rows" (topS 57) 538 fd44 := F44
  have b44 := F44.binds (ps := ["store"]) fun _ _ _ _ _ _ us hl => match us, hl with | [_], _ => rfl
  obtain ⟨fd45, F45⟩ := c.def_ 45 (d := d45) rfl
  have F45 : Fun K "_law_changed_rows" "_law_changed_rows" (topS 58) 545 fd45 := F45
  have b45 := F45.binds (ps := ["store", "rows"]) fun _ _ _ _ _ _ us hl => match us, hl with | [_, _], _ => rfl
  obtain ⟨fd46, F46⟩ := c.def_ 46 (d := d46) rfl
  have F46 : Fun K "_law_is_told" "_law_is_told" (topS 61) 560 fd46 := F46
  have b46 := F46.binds (ps := ["river", "due"]) fun _ _ _ _ _ _ us hl => match us, hl with | [_, _], _ => rfl
  obtain ⟨fd47, F47⟩ := c.def_ 47 (d := d47) rfl
  have F47 : Fun K "law" "law" (topS 62) 567 fd47 := F47
  have b47 := F47.binds (ps := ["script"]) fun _ _ _ _ _ _ us hl => match us, hl with | [_], _ => rfl
  have kr34 := fun_kbr (n := 1) (ps := ["self", "towns", "things"]) (ks := ["things", "towns"]) F34 fun _ _ _ _ _ _ us ws h1 h2 => match us, ws, h1, h2 with | [_], [_, _], _, _ => rfl
  have ct0 := ct (550, 549, 547) List.mem_cons_self
  have ecd : cdA K "_law_kept" = 549 := cdA_of (Fl.ca (c.fact 26 rfl)) ct0.1
  have etb : tbA K "_law_kept" = 547 := tbA_of (Fl.ca (c.fact 26 rfl)) ct0.1
  have bA := binds_law F47 fun _ _ _ _ _ _ _ => rfl
  exact ⟨_, bA, etb, fun base _ _ TB => ok_law { a_River_towns := 296, fd_River_towns := _, F_River_towns := F0, b_River_towns := b0, p_River_towns := 297, pr_River_towns := Fl.prop_ok (Fl.ca (c.fact 0 rfl)) (c.fact 1 rfl), a_River_thing_rows := 371, fd_River_thing_rows := _, F_River_thing_rows := F1, b_River_thing_rows := b1, me_River_thing_rows := Fl.meth_ok (Fl.ca (c.fact 0 rfl)) (c.fact 2 rfl), a_River___eq__ := 392, fd_River___eq__ := _, F_River___eq__ := F2, b_River___eq__ := b2, me_River___eq__ := Fl.meth_ok (Fl.ca (c.fact 0 rfl)) (c.fact 3 rfl), a_River_things := 304, fd_River_things := _, F_River_things := F3, b_River_things := b3, p_River_things := 305, pr_River_things := Fl.prop_ok (Fl.ca (c.fact 0 rfl)) (c.fact 4 rfl), a_is_name := 206, fd_is_name := _, F_is_name := F4, b_is_name := b4, g_is_name := Fl.glo_ok X G (c.fact 5 rfl), a_is_liking := 220, fd_is_liking := _, F_is_liking := F5, b_is_liking := b5, g_is_liking := Fl.glo_ok X G (c.fact 6 rfl), a_check_counts := 227, fd_check_counts := _, F_check_counts := F6, b_check_counts := b6, g_check_counts := Fl.glo_ok X G (c.fact 7 rfl), a_check_room := 241, fd_check_room := _, F_check_room := F7, b_check_room := b7, g_check_room := Fl.glo_ok X G (c.fact 8 rfl), a_check_springs := 258, fd_check_springs := _, F_check_springs := F8, b_check_springs := b8, g_check_springs := Fl.glo_ok X G (c.fact 9 rfl), a_check_rings := 263, fd_check_rings := _, F_check_rings := F9, b_check_rings := b9, g_check_rings := Fl.glo_ok X G (c.fact 10 rfl), a_towns_from := 277, fd_towns_from := _, F_towns_from := F10, b_towns_from := b10, g_towns_from := Fl.glo_ok X G (c.fact 11 rfl), a__law_store := 404, fd__law_store := _, F__law_store := F11, b__law_store := b11, g__law_store := Fl.glo_ok X G (c.fact 12 rfl), a__law_mix := 411, fd__law_mix := _, F__law_mix := F12, b__law_mix := b12, g__law_mix := Fl.glo_ok X G (c.fact 13 rfl), a__law_is_name := 463, fd__law_is_name := _, F__law_is_name := F13, b__law_is_name := b13, g__law_is_name := Fl.glo_ok X G (c.fact 14 rfl), a_check_name := 213, fd_check_name := _, F_check_name := F14, b_check_name := b14, g_check_name := Fl.glo_ok X G (c.fact 15 rfl), a_check_liking := 248, fd_check_liking := _, F_check_liking := F15, b_check_liking := b15, g_check_liking := Fl.glo_ok X G (c.fact 16 rfl), a__law_take := 418, fd__law_take := _, F__law_take := F16, b__law_take := b16, g__law_take := Fl.glo_ok X G (c.fact 17 rfl), a_check_town := 193, fd_check_town := _, F_check_town := F17, b_check_town := b17, g_check_town := Fl.glo_ok X G (c.fact 18 rfl), a_check_row_names := 234, fd_check_row_names := _, F_check_row_names := F18, b_check_row_names := b18, g_check_row_names := Fl.glo_ok X G (c.fact 19 rfl), a_check_town_rows := 253, fd_check_town_rows := _, F_check_town_rows := F19, b_check_town_rows := b19, g_check_town_rows := Fl.glo_ok X G (c.fact 20 rfl), a__law_yes := 425, fd__law_yes := _, F__law_yes := F20, b__law_yes := b20, g__law_yes := Fl.glo_ok X G (c.fact 21 rfl), a__law_pick := 432, fd__law_pick := _, F__law_pick := F21, b__law_pick := b21, g__law_pick := Fl.glo_ok X G (c.fact 22 rfl), a__law_order := 491, fd__law_order := _, F__law_order := F22, b__law_order := b22, g__law_order := Fl.glo_ok X G (c.fact 23 rfl), a__law_room := 498, fd__law_room := _, F__law_room := F23, b__law_room := b23, g__law_room := Fl.glo_ok X G (c.fact 24 rfl), a__law_tree := 505, fd__law_tree := _, F__law_tree := F24, b__law_tree := b24, g__law_tree := Fl.glo_ok X G (c.fact 25 rfl), a__law_kept := 550, fd__law_kept := _, F__law_kept := F25, b__law_kept := b25, g__law_kept := Fl.glo_ok X G (c.fact 26 rfl), a_River_after := 312, fd_River_after := _, F_River_after := F26, b_River_after := b26, me_River_after := Fl.meth_ok (Fl.ca (c.fact 0 rfl)) (c.fact 27 rfl), a_River_room := 319, fd_River_room := _, F_River_room := F27, b_River_room := b27, me_River_room := Fl.meth_ok (Fl.ca (c.fact 0 rfl)) (c.fact 28 rfl), a_River_liking := 326, fd_River_liking := _, F_River_liking := F28, b_River_liking := b28, me_River_liking := Fl.meth_ok (Fl.ca (c.fact 0 rfl)) (c.fact 29 rfl), a_check_rows := 270, fd_check_rows := _, F_check_rows := F29, b_check_rows := b29, g_check_rows := Fl.glo_ok X G (c.fact 30 rfl), a__law_either := 458, fd__law_either := _, F__law_either := F30, b__law_either := b30, g__law_either := Fl.glo_ok X G (c.fact 31 rfl), a__law_raw_name := 470, fd__law_raw_name := _, F__law_raw_name := F31, b__law_raw_name := b31, g__law_raw_name := Fl.glo_ok X G (c.fact 32 rfl), a__law_town_rows := 512, fd__law_town_rows := _, F__law_town_rows := F32, b__law_town_rows := b32, g__law_town_rows := Fl.glo_ok X G (c.fact 33 rfl), a__law_thing_rows := 517, fd__law_thing_rows := _, F__law_thing_rows := F33, b__law_thing_rows := b33, g__law_thing_rows := Fl.glo_ok X G (c.fact 34 rfl), a_River___init__ := 289, fd_River___init__ := _, F_River___init__ := F34, b_River___init__ := b34, mk_River := Fl.make_ok (Fl.ca (c.fact 0 rfl)) (c.fact 35 rfl), a_River_town_rows := 366, fd_River_town_rows := _, F_River_town_rows := F35, b_River_town_rows := b35, me_River_town_rows := Fl.meth_ok (Fl.ca (c.fact 0 rfl)) (c.fact 36 rfl), a__law_name := 477, fd__law_name := _, F__law_name := F36, b__law_name := b36, g__law_name := Fl.glo_ok X G (c.fact 37 rfl), a__law_passed := 555, fd__law_passed := _, F__law_passed := F37, b__law_passed := b37, g__law_passed := Fl.glo_ok X G (c.fact 38 rfl), a__law_names := 484, fd__law_names := _, F__law_names := F38, b__law_names := b38, g__law_names := Fl.glo_ok X G (c.fact 39 rfl), a__law_thing_names := 524, fd__law_thing_names := _, F__law_thing_names := F39, b__law_thing_names := b39, g__law_thing_names := Fl.glo_ok X G (c.fact 40 rfl), a__law_same := 439, fd__law_same := _, F__law_same := F40, b__law_same := b40, g__law_same := Fl.glo_ok X G (c.fact 41 rfl), a__law_copy := 444, fd__law_copy := _, F__law_copy := F41, b__law_copy := b41, g__law_copy := Fl.glo_ok X G (c.fact 42 rfl), a__law_spoil := 451, fd__law_spoil := _, F__law_spoil := F42, b__law_spoil := b42, g__law_spoil := Fl.glo_ok X G (c.fact 43 rfl), a__law_rows := 531, fd__law_rows := _, F__law_rows := F43, b__law_rows := b43, g__law_rows := Fl.glo_ok X G (c.fact 44 rfl), a__law_drawn_rows := 538, fd__law_drawn_rows := _, F__law_drawn_rows := F44, b__law_drawn_rows := b44, g__law_drawn_rows := Fl.glo_ok X G (c.fact 45 rfl), a__law_changed_rows := 545, fd__law_changed_rows := _, F__law_changed_rows := F45, b__law_changed_rows := b45, g__law_changed_rows := Fl.glo_ok X G (c.fact 46 rfl), a__law_is_told := 560, fd__law_is_told := _, F__law_is_told := F46, b__law_is_told := b46, g__law_is_told := Fl.glo_ok X G (c.fact 47 rfl), a_law := 567, fd_law := _, F_law := F47, b_law := b47, g_law := Fl.glo_ok X G (c.fact 48 rfl), kr_River___init__ := kr34, tc__law_kept := by rw [ecd]; exact (fun_code F25).trans (cod_code ct0.1), is_River := by rw [Fl.ca (c.fact 0 rfl)]; exact isi_ok (by have := Fl.inst_ok (Fl.ca (c.fact 0 rfl)) (c.fact 49 rfl); rw [Fl.ca (c.fact 0 rfl)] at this; exact this) (ci 395 (by decide)), n_all := Fl.free_ok X G (c.fact 50 rfl), n_bool := Fl.free_ok X G (c.fact 51 rfl), n_enumerate := Fl.free_ok X G (c.fact 52 rfl), n_int := Fl.free_ok X G (c.fact 53 rfl), n_isinstance := Fl.free_ok X G (c.fact 54 rfl), n_len := Fl.free_ok X G (c.fact 55 rfl), n_list := Fl.free_ok X G (c.fact 56 rfl), n_range := Fl.free_ok X G (c.fact 57 rfl), n_sorted := Fl.free_ok X G (c.fact 58 rfl), n_str := Fl.free_ok X G (c.fact 59 rfl), n_tuple := Fl.free_ok X G (c.fact 60 rfl), gv_MAX_NAME := Fl.int_ok X G (c.fact 61 rfl), gv_MAX_ROOM := Fl.int_ok X G (c.fact 62 rfl), gv_MAX_THINGS := Fl.int_ok X G (c.fact 63 rfl), gv_MAX_TOWNS := Fl.int_ok X G (c.fact 64 rfl), gs_LETTERS := Fl.str_ok X G (c.fact 65 rfl), gs_LETTERS_AND_DIGITS := Fl.str_ok X G (c.fact 66 rfl), gt_BARRED_WORDS := by rw [Fl.ca (c.fact 67 rfl)]; exact Fl.glo_ok X G (c.fact 67 rfl), tt_BARRED_WORDS := fun H => by rw [Fl.ca (c.fact 67 rfl)]; exact Fl.tup_ok (c.fact 68 rfl) H, gc_River := by rw [Fl.ca (c.fact 0 rfl)]; exact Fl.glo_ok X G (c.fact 0 rfl), in_River := Fl.inst_ok (Fl.ca (c.fact 0 rfl)) (c.fact 49 rfl), na_River__landings := Fl.noat_ok (Fl.ca (c.fact 0 rfl)) (c.fact 69 rfl), na_River__likings := Fl.noat_ok (Fl.ca (c.fact 0 rfl)) (c.fact 70 rfl), na_River__next_towns := Fl.noat_ok (Fl.ca (c.fact 0 rfl)) (c.fact 71 rfl), na_River__numbers := Fl.noat_ok (Fl.ca (c.fact 0 rfl)) (c.fact 72 rfl), na_River__paths := Fl.noat_ok (Fl.ca (c.fact 0 rfl)) (c.fact 73 rfl), na_River__rooms := Fl.noat_ok (Fl.ca (c.fact 0 rfl)) (c.fact 74 rfl), na_River__sources := Fl.noat_ok (Fl.ca (c.fact 0 rfl)) (c.fact 75 rfl), na_River__things := Fl.noat_ok (Fl.ca (c.fact 0 rfl)) (c.fact 76 rfl), na_River__towns := Fl.noat_ok (Fl.ca (c.fact 0 rfl)) (c.fact 77 rfl) } (by rw [ecd, etb]; exact TB)⟩
end RK
open PySem PySem.W PySem.Calls PyProof.Rows
set_option maxHeartbeats 0 in
theorem PySem.Challenge.cw_riverkeeps_k04_rows_told_back_holds : PySem.Challenge.rw_riverkeeps_k04_rows_told_back.Holds := by
  w_on; o_law
  refine HandSHeadRun.head_any (r := OpenLaw.row PySem.Challenge.rw_riverkeeps_k04_rows_told_back) (q := view (OpenLaw.row PySem.Challenge.rw_riverkeeps_k04_rows_told_back).prog [62]) (H := RK.hkR) (ob := RK.obR) (M := 60000) (loose := RK.nms) (d := HandSHeadRun.topDef (OpenLaw.row PySem.Challenge.rw_riverkeeps_k04_rows_told_back).prog 62) (kwd := []) RK.obR_eq
    (by kernel_rfl) (fun s => by kernel_rfl) RK.runR (by kernel_rfl) (by kernel_rfl) (by kernel_rfl) (by rfl) (by first | assumption | decide +kernel) (by decide +kernel) ⟨rfl, rfl, rfl, rfl, rfl, by decide +kernel⟩ ?hw ?hc
  case hw => w_witness2
  case hc =>
    refine LamX.walk_ofTsE (l := PySem.Challenge.rw_riverkeeps_k04_rows_told_back) (n := 63) (k := 10) (x := "script") (CX := fun _ => L2.CX0) rfl (by decide) (by kernel_rfl) ⟨rfl, by decide, by decide⟩ ?F (fun _ _ _ _ _ z => z)
    intro w mg fa h Y G hmg0
    obtain ⟨⟨K, KX, c, ct, ci⟩, tabs⟩ := Y
    have hmg : mg ("law" : PySem.Str) = some (.ref fa) := by
      have e : (HandSHeadRun.topDef (OpenLaw.row PySem.Challenge.rw_riverkeeps_k04_rows_told_back).prog 62).name = ("law" : PySem.Str) := by kernel_rfl
      rw [← e]
      exact hmg0
    obtain ⟨fd, hb, etb, hF⟩ := RK.all_mk (P := (PySem.Challenge.rw_riverkeeps_k04_rows_told_back).prog) (w := w) KX G hmg c ct ci
    have ct0 := ct (550, 549, 547) List.mem_cons_self
    have tb0 := tabs (550, 549, 547) List.mem_cons_self
    refine ⟨K, KX, fd, [(549, 547)], RK.sp_law K, fun p hp => ?_, fun p hp => ?_, fun p hp => ?_, hb, fun H a ns hl _ hT hS => ⟨a, ns, rfl, hS, hl, ?_, fun _ => rfl⟩, fun base hK hN hB => hF base hK hN (hB _ List.mem_cons_self)⟩
    · rw [List.mem_singleton.mp hp]; exact tb0
    · rw [List.mem_singleton.mp hp]; exact ct0.2
    · rw [List.mem_singleton.mp hp]; exact RK.cod_hd KX ct0.1
    · intro p hp
      rw [List.mem_singleton.mp hp]
      exact LamX.TabS.nil (by show H (RK.tbA K "_law_kept") = _; rw [etb]; exact hT _ List.mem_cons_self)
