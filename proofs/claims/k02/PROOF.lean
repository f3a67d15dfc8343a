import PyProof.Rows.All
import Wide.All
import OpenK.AllK
import Wide.FinOn
import PyProof.ListStr
import PyProof.StrBlock2
import KE.Datum
import HandS.ForMost
import HandS.ForExc
import HandS.More
import HandS.Style
import HandS.SetFor
import HandS.IsInst
import HandS.TupAny
import HandS.Defaults
import HandS.Codes
import HandS.HotCalls
import KE.KExcIs
import PyProof.Seq
import PyProof.RangeIter
import HandS.Comp
import HandS.ExcField
import HandS.ExcIs
import HandS.ExcInit
import HandS.ExcCtx
import HandS.WordsExc
import KE.KIndexOf
import HandS.Strs
import HandS.DictComp
import HandS.Property
import KE.KStateDown
import HandS.Head0
import HandS.Head1
import HandS.Head2
import HandS.HeadEnd
import HandS.HeadHook1
import HandS.HeadHook2
import PySem.Challenge.RW_riverkeeps_k02_rank_insert_drop_exchange
set_option Elab.async false
set_option linter.all false
set_option maxRecDepth 100000
set_option maxHeartbeats 4000000
namespace RK
open PySem PySem.Spec PyProof.Rows L2

/-! ### readings that reckon by themselves -/
section
variable {X : Cx}
theorem peImp {e : Expr} {t t' : TE} (h : PE X e t) (w : ∀ σ H Q, t' σ H Q → t σ H Q) : PE X e t' := ⟨fun pins s σ H Q I q => h.run pins s σ H Q I (w _ _ _ q)⟩
theorem ptImp {e : Expr} {t t' : TT} (h : PT X e t) (w : ∀ σ H Q, t' σ H Q → t σ H Q) : PT X e t' := ⟨fun pins s σ H Q I q => h.run pins s σ H Q I (w _ _ _ q)⟩
theorem pwImp {e : Expr} {t t' : TT} (h : PW X e t) (w : ∀ σ H Q, t' σ H Q → t σ H Q) : PW X e t' := ⟨fun wh pins s σ H Q I q => h.run wh pins s σ H Q I (w _ _ _ q)⟩
theorem psImp {e : Stmt} {t t' : TS} (h : PS X e t) (w : ∀ D σ H, t' D σ H → t D σ H) : PS X e t' := ⟨fun pins s σ H D I q => h.run pins s σ H D I (w _ _ _ q)⟩
theorem piImp {tg e : Expr} {t t' : TI} (h : PI X tg e t) (w : ∀ σ H R, t' σ H R → t σ H R) : PI X tg e t' := ⟨fun pins s σ H R I q => h.run pins s σ H R I (w _ _ _ q)⟩
theorem piOr {tg e : Expr} {t u : TI} (h : PI X tg e t) (g : PI X tg e u) : PI X tg e (fun σ H R => t σ H R ∨ u σ H R) := ⟨fun pins s σ H R I q => q.elim (h.run pins s σ H R I) (g.run pins s σ H R I)⟩
theorem opImp {f : Value → Value → Sem Value} {r r' : R2} (h : OpR X f r) (w : ∀ x y H Q, r' x y H Q → r x y H Q) : OpR X f r' := fun pins s σ H x y v u Q I rx ry q => h pins s σ H x y v u Q I rx ry (w _ _ _ _ q)
theorem opOr {f : Value → Value → Sem Value} {r r' : R2} (h : OpR X f r) (h' : OpR X f r') : OpR X f (fun x y H Q => r x y H Q ∨ r' x y H Q) := fun pins s σ H x y v u Q I rx ry q =>
  q.elim (h pins s σ H x y v u Q I rx ry) (h' pins s σ H x y v u Q I rx ry)
theorem calImp {f : Value} {r r' : List V → Hp → VK → Prop} (h : CallR X f r) (w : ∀ xs H Q, r' xs H Q → r xs H Q) : CallR X f r' := fun pins s σ H xs us Q I rs q => h pins s σ H xs us Q I rs (w _ _ _ q)
theorem mtImp {id : String} {r r' : V → List V → Hp → VK → Prop} (h : MtR X id r) (w : ∀ x xs H Q, r' x xs H Q → r x xs H Q) : MtR X id r' := fun pins s σ H x xs v us Q I rx rs q => h pins s σ H x xs v us Q I rx rs (w _ _ _ _ q)

/-- a name -/
def xV (i : Nat) : TE := fun σ H Q => match σ[i]? with
  | some (some v) => Q v H
  | _ => False
theorem xv (i : Nat) {x : Str} {pos : Pos} (hN : X.N[i]? = some x := by rfl) (hv : Vis X.env.scope x := by first | exact Or.inl rfl | exact Or.inr (Or.inl rfl) | exact Or.inr (Or.inr rfl)) (hd : (x == ("__debug__" : Str)) = false := by decide)
    (hcd : (x == ("__classdict__" : Str)) = false := by decide) : PE X (.Name x pos) (xV i) := peImp (pe_var hN hv hd hcd) fun σ H Q h => by
  unfold xV at h
  split at h
  · exact ⟨_, ‹_›, h⟩
  · exact h.elim

/-! ### tests -/
def xT (t : TE) : TT := fun σ H Q => t σ H fun x H1 => match x with
  | .bl k => Q k H1
  | _ => False
theorem xT_eq (t : TE) : xT t = tB t := by
  funext σ H Q
  refine congrArg (t σ H) (funext fun x => funext fun H1 => propext ⟨fun h => ?_, fun ⟨c, e, h⟩ => ?_⟩)
  · cases x <;> first | exact ⟨_, rfl, h⟩ | exact h.elim
  · subst e; exact h
theorem xt {e : Expr} {t : TE} (h : PE X e t) (he : ∀ whole, isTrue e X.env whole = (do let v ← whole; standAt e.pos; holding [v] (truthy v)) := by intro _; rfl) : PT X e (xT t) := by
  rw [xT_eq]; exact pt_val h he
theorem xtc {op : CmpOp} {r : R2} {a b : Expr} {ta tb : TE} {pos : Pos} (ho : OpR X (compareOp op) r) (ha : PE X a ta) (hb : PE X b tb) (hm : behindInMarks op b = false) : PT X (.Compare a [op] [b] pos) (xT (tOp r ta tb)) := by
  rw [xT_eq]; exact pt_cmpR ho ha hb hm
theorem two_eq (c : Bool) (A B : Prop) : ((c = true → A) ∧ (c = false → B)) = (if c = true then A else B) := by
  cases c <;> simp
def xAnd (t u : TT) : TT := fun σ H Q => t σ H fun c H1 => (c = true → u σ H1 Q) ∧ (c = false → Q false H1)
def xOr (t u : TT) : TT := fun σ H Q => t σ H fun c H1 => (c = true → Q true H1) ∧ (c = false → u σ H1 Q)
theorem xAnd_eq (t u : TT) : xAnd t u = tAnd t u := by
  funext σ H Q; exact congrArg (t σ H) (funext fun c => funext fun H1 => two_eq c _ _)
theorem xOr_eq (t u : TT) : xOr t u = tOr t u := by
  funext σ H Q; exact congrArg (t σ H) (funext fun c => funext fun H1 => two_eq c _ _)
section
variable {a b : Expr} {rest : List Expr} {pos : Pos} {tA tB' : TT}
theorem xw_and (ha : PT X a tA) (hb : PW X (.BoolOp .And (b :: rest) pos) tB') : PW X (.BoolOp .And (a :: b :: rest) pos) (xAnd tA tB') := by rw [xAnd_eq]; exact pw_and ha hb
theorem xw_or (ha : PT X a tA) (hb : PW X (.BoolOp .Or (b :: rest) pos) tB') : PW X (.BoolOp .Or (a :: b :: rest) pos) (xOr tA tB') := by rw [xOr_eq]; exact pw_or ha hb
end
/-- values of and, or, not, by truth values -/
def xAndV (ta tb : TE) : TE := fun σ H Q => ta σ H fun x H1 => match x with
  | .bl c => (c = true → tb σ H1 Q) ∧ (c = false → Q (.bl false) H1)
  | _ => False
def xOrV (ta tb : TE) : TE := fun σ H Q => ta σ H fun x H1 => match x with
  | .bl c => (c = true → Q (.bl true) H1) ∧ (c = false → tb σ H1 Q)
  | _ => False
def xNotV (ta : TE) : TE := fun σ H Q => ta σ H fun x H1 => match x with
  | .bl c => Q (.bl (!c)) H1
  | _ => False
theorem xAndV_eq (ta tb : TE) : xAndV ta tb = tAndV ta tb := by
  funext σ H Q
  refine congrArg (ta σ H) (funext fun x => funext fun H1 => propext ⟨fun h => ?_, fun ⟨c, e, h⟩ => ?_⟩)
  · cases x <;> first | exact ⟨_, rfl, by rw [← two_eq]; exact h⟩ | exact h.elim
  · subst e; rw [← two_eq] at h; exact h
theorem xOrV_eq (ta tb : TE) : xOrV ta tb = tOrV ta tb := by
  funext σ H Q
  refine congrArg (ta σ H) (funext fun x => funext fun H1 => propext ⟨fun h => ?_, fun ⟨c, e, h⟩ => ?_⟩)
  · cases x <;> first | exact ⟨_, rfl, by rw [← two_eq]; exact h⟩ | exact h.elim
  · subst e; rw [← two_eq] at h; exact h
theorem xNotV_eq (ta : TE) : xNotV ta = tNotV ta := by
  funext σ H Q
  refine congrArg (ta σ H) (funext fun x => funext fun H1 => propext ⟨fun h => ?_, fun ⟨c, e, h⟩ => ?_⟩)
  · cases x <;> first | exact ⟨_, rfl, h⟩ | exact h.elim
  · subst e; exact h
section
variable {a b : Expr} {rest : List Expr} {pos : Pos} {ta tb : TE}
theorem xe_and (ha : PE X a ta) (hb : PE X (.BoolOp .And (b :: rest) pos) tb) : PE X (.BoolOp .And (a :: b :: rest) pos) (xAndV ta tb) := by rw [xAndV_eq]; exact pe_and ha hb
theorem xe_or (ha : PE X a ta) (hb : PE X (.BoolOp .Or (b :: rest) pos) tb) : PE X (.BoolOp .Or (a :: b :: rest) pos) (xOrV ta tb) := by rw [xOrV_eq]; exact pe_or ha hb
theorem xe_not (ha : PE X a ta) : PE X (.UnaryOp .Not a pos) (xNotV ta) := by rw [xNotV_eq]; exact pe_not ha
end
def xIf (t : TT) (ta tb : TE) : TE := fun σ H Q => t σ H fun c H1 => (c = true → ta σ H1 Q) ∧ (c = false → tb σ H1 Q)
theorem xIf_eq (t : TT) (ta tb : TE) : xIf t ta tb = tIf t ta tb := by
  funext σ H Q; exact congrArg (t σ H) (funext fun c => funext fun H1 => two_eq c _ _)
theorem xe_if {c a b : Expr} {tA : TT} {ta tb : TE} {pos : Pos} (hc : PT X c tA) (ha : PE X a ta) (hb : PE X b tb) : PE X (.IfExp c a b pos) (xIf tA ta tb) := by rw [xIf_eq]; exact pe_ifExp hc ha hb
def xIfS (c : TT) (t u : TS) : TS := fun D σ H => c σ H fun b H1 => (b = true → t D σ H1) ∧ (b = false → u D σ H1)
theorem xIfS_eq (c : TT) (t u : TS) : xIfS c t u = tIfS c t u := by
  funext D σ H; exact congrArg (c σ H) (funext fun c => funext fun H1 => two_eq c _ _)
theorem xs_if {c : Expr} {a b : List Stmt} {tc : TT} {t u : TS} {pos : Pos} (hc : PT X c tc) (ha : PSs X a t) (hb : PSs X b u) : PS X (.If c a b pos) (xIfS tc t u) := by rw [xIfS_eq]; exact ps_if hc ha hb

/-! ### operators, by what the two sides are -/
def mAdd (K : PySem.W.Frag) : R2 := fun x y H Q => match x, y with
  | .int i, .int j => Q (.int (i + j)) H
  | .str a, .str b => a.length + b.length ≤ sizeLine ∧ Q (.str (a ++ b)) H
  | .ref l, .ref b => (∃ xs zs, H l = some (.lst xs) ∧ H b = some (.lst zs) ∧ xs.length + zs.length ≤ sizeLine ∧ ∀ p, H p = none → Q (.ref p) (upd H p (.lst (xs ++ zs)))) ∨
      rCatA K (.ref l) (.ref b) H Q
  | _, _ => False
theorem xo_add : OpR X (binaryOp .Add) (mAdd X.K) := opImp (opOr op_add (opOr op_add_str (opOr op_cat op_catA))) fun x y H Q h => by
  unfold mAdd at h
  split at h
  · exact .inl ⟨_, _, rfl, rfl, h⟩
  · exact .inr (.inl ⟨_, _, rfl, rfl, h⟩)
  · rcases h with ⟨xs, zs, h1, h2, h3, h4⟩ | h
    · exact .inr (.inr (.inl ⟨_, _, xs, zs, rfl, rfl, h1, h2, h3, h4⟩))
    · exact .inr (.inr (.inr h))
  · exact h.elim
def mSub : R2 := fun x y H Q => match x, y with
  | .int i, .int j => Q (.int (i - j)) H
  | _, _ => False
theorem xo_sub : OpR X (binaryOp .Sub) mSub := opImp op_sub fun x y H Q h => by
  unfold mSub at h
  split at h
  · exact ⟨_, _, rfl, rfl, h⟩
  · exact h.elim
theorem op_mul_str : OpR X (binaryOp .Mult) (fun x y H Q => ∃ z i, x = .str z ∧ y = .int i ∧ PySem.MulOk z i ∧ Q (.str (PySem.Txt.mul z i)) H) := by
  intro pins s σ H x y v u Q I rx ry h
  obtain ⟨z, i, rfl, rfl, hz, q⟩ := h
  obtain ⟨t, rfl⟩ := rx
  obtain ⟨t', rfl⟩ := ry
  exact PySem.SB.mul hz fun t' k => ⟨.str (PySem.Txt.mul z i), H, I.tok _, ⟨_, rfl⟩, q⟩
def mMul : R2 := fun x y H Q => match x, y with
  | .int i, .int j => CMul i j ∧ Q (.int (i * j)) H
  | .str z, .int i => PySem.MulOk z i ∧ Q (.str (PySem.Txt.mul z i)) H
  | _, _ => False
theorem xo_mul : OpR X (binaryOp .Mult) mMul := opImp (opOr op_mul op_mul_str) fun x y H Q h => by
  unfold mMul at h
  split at h
  · exact .inl ⟨_, _, rfl, rfl, h⟩
  · exact .inr ⟨_, _, rfl, rfl, h⟩
  · exact h.elim
def mDiv : R2 := fun x y H Q => match x, y with
  | .int i, .int j => CDivN i j ∧ Q (.int (i.fdiv j)) H
  | _, _ => False
theorem xo_div : OpR X (binaryOp .FloorDiv) mDiv := opImp op_fdivN fun x y H Q h => by
  unfold mDiv at h
  split at h
  · exact ⟨_, _, rfl, rfl, h⟩
  · exact h.elim
def mMod : R2 := fun x y H Q => match x, y with
  | .int i, .int j => j ≠ 0 ∧ Q (.int (i.fmod j)) H
  | _, _ => False
theorem xo_mod : OpR X (binaryOp .Mod) mMod := opImp op_modN fun x y H Q h => by
  unfold mMod at h
  split at h
  · exact ⟨_, _, rfl, rfl, h⟩
  · exact h.elim
def mPow : R2 := fun x y H Q => match x, y with
  | .int i, .int j => CPow i j ∧ Q (.int (i ^ j.toNat)) H
  | _, _ => False
theorem xo_pow : OpR X (binaryOp .Pow) mPow := opImp op_pow fun x y H Q h => by
  unfold mPow at h
  split at h
  · exact ⟨_, _, rfl, rfl, h⟩
  · exact h.elim
def mCmp (p : Int → Int → Bool) : R2 := fun x y H Q => match x, y with
  | .int i, .int j => Q (.bl (p i j)) H
  | _, _ => False
theorem mCmp_of {f : Value → Value → Sem Value} {p : Int → Int → Bool} (h : OpR X f (rI0 fun i j => .bl (p i j))) : OpR X f (mCmp p) := opImp h fun x y H Q h => by
  unfold mCmp at h
  split at h
  · exact ⟨_, _, rfl, rfl, h⟩
  · exact h.elim
theorem xo_lt : OpR X (compareOp .Lt) (mCmp fun i j => decide (i < j)) := mCmp_of op_lt
theorem xo_le : OpR X (compareOp .LtE) (mCmp fun i j => decide (i ≤ j)) := mCmp_of op_le
theorem xo_gt : OpR X (compareOp .Gt) (mCmp fun i j => decide (j < i)) := mCmp_of op_gt
theorem xo_ge : OpR X (compareOp .GtE) (mCmp fun i j => decide (j ≤ i)) := mCmp_of op_ge
def mEq (K : PySem.W.Frag) : R2 := fun x y H Q => match x, y with
  | .int i, .int j => Q (.bl (decide (i = j))) H
  | .str i, .str j => Q (.bl (decide (i = j))) H
  | .bl i, .bl j => Q (.bl (decide (i = j))) H
  | .ref l, .ref b => rEqD K (.ref l) (.ref b) H Q
  | _, _ => scal x y = true ∧ Q (.bl (decide (x = y))) H
theorem xo_eq (hu : X.A.units + 64 < cLine) : OpR X (compareOp .Eq) (mEq X.K) := opImp (opOr op_eq (op_eqD hu)) fun x y H Q h => by
  unfold mEq at h
  split at h
  · rename_i i j
    exact .inl ⟨rfl, by rw [show decide (V.int i = V.int j) = decide (i = j) from by simp]; exact h⟩
  · rename_i i j
    exact .inl ⟨rfl, by rw [show decide (V.str i = V.str j) = decide (i = j) from by simp]; exact h⟩
  · rename_i i j
    exact .inl ⟨rfl, by rw [show decide (V.bl i = V.bl j) = decide (i = j) from by simp]; exact h⟩
  · exact .inr h
  · exact .inl h
def mNe (K : PySem.W.Frag) : R2 := fun x y H Q => match x, y with
  | .int i, .int j => Q (.bl (!decide (i = j))) H
  | .str i, .str j => Q (.bl (!decide (i = j))) H
  | .bl i, .bl j => Q (.bl (!decide (i = j))) H
  | .ref l, .ref b => rNeD K (.ref l) (.ref b) H Q
  | _, _ => scal x y = true ∧ Q (.bl (!decide (x = y))) H
theorem xo_ne (hu : X.A.units + 64 < cLine) : OpR X (compareOp .NotEq) (mNe X.K) := opImp (opOr op_ne (op_neD hu)) fun x y H Q h => by
  unfold mNe at h
  split at h
  · rename_i i j
    exact .inl ⟨rfl, by rw [show decide (V.int i = V.int j) = decide (i = j) from by simp]; exact h⟩
  · rename_i i j
    exact .inl ⟨rfl, by rw [show decide (V.str i = V.str j) = decide (i = j) from by simp]; exact h⟩
  · rename_i i j
    exact .inl ⟨rfl, by rw [show decide (V.bl i = V.bl j) = decide (i = j) from by simp]; exact h⟩
  · exact .inr h
  · exact .inl h
def mIs : R2 := fun x y H Q => match y with
  | .non => Q (.bl (decide (x = .non))) H
  | _ => False
theorem xo_is : OpR X (compareOp .Is) mIs := opImp op_isN fun x y H Q h => by
  unfold mIs at h
  split at h
  · exact ⟨rfl, h⟩
  · exact h.elim
def mIsNot : R2 := fun x y H Q => match y with
  | .non => Q (.bl (!decide (x = .non))) H
  | _ => False
theorem xo_isnot : OpR X (compareOp .IsNot) mIsNot := opImp op_notN fun x y H Q h => by
  unfold mIsNot at h
  split at h
  · exact ⟨rfl, h⟩
  · exact h.elim
/-- a list or a tuple that is read -/
def Sq (K : PySem.W.Frag) (H : Hp) (p : Addr) (xs : List V) : Prop := SqL K H p xs ∨ SqT K H p xs
def mIn (K : PySem.W.Frag) (neg : Bool) : R2 := fun x y H Q => match y with
  | .str z => ∃ c, x = .str ⟨#[c]⟩ ∧ Q (.bl (if neg then !decide (c ∈ z.cps.toList) else decide (c ∈ z.cps.toList))) H
  | .ref p => ∃ xs, Sq K H p xs ∧ flatV x = true ∧ xs.all flatV = true ∧ Q (.bl (if neg then !inV x xs else inV x xs)) H
  | _ => False
theorem xo_in : OpR X (compareOp .In) (mIn X.K false) := opImp (opOr op_in_sign op_in_seq) fun x y H Q h => by
  unfold mIn at h
  split at h
  · obtain ⟨c, rfl, h⟩ := h
    exact .inl ⟨c, _, rfl, rfl, h⟩
  · obtain ⟨xs, h1, h2, h3, h4⟩ := h
    exact .inr ⟨_, xs, rfl, h1, h2, h3, h4⟩
  · exact h.elim
theorem xo_notin : OpR X (compareOp .NotIn) (mIn X.K true) := opImp (opOr op_notIn_sign op_notIn_seq) fun x y H Q h => by
  unfold mIn at h
  split at h
  · obtain ⟨c, rfl, h⟩ := h
    exact .inl ⟨c, _, rfl, rfl, h⟩
  · obtain ⟨xs, h1, h2, h3, h4⟩ := h
    exact .inr ⟨_, xs, rfl, h1, h2, h3, h4⟩
  · exact h.elim

/-! ### built-ins -/
def mLen (K : PySem.W.Frag) : List V → Hp → VK → Prop := fun vs H Q => match vs with
  | [.str z] => z.length ≤ sizeLine ∧ Q (.int (z.length : Nat)) H
  | [.ref p] => ∃ xs, Sq K H p xs ∧ Q (.int (xs.length : Nat)) H
  | _ => False
theorem xc_len : CallR X (.builtin "len") (mLen X.K) := calImp (CallR.or call_len_str call_len_seq) fun xs H Q h => by
  unfold mLen at h
  split at h
  · exact .inl ⟨_, rfl, h.1, h.2⟩
  · obtain ⟨xs, h1, h2⟩ := h
    exact .inr ⟨_, xs, rfl, h1, h2⟩
  · exact h.elim
def mInt : List V → Hp → VK → Prop := fun vs H Q => match vs with
  | [.int i] => Q (.int i) H
  | [.bl k] => Q (.int (if k then 1 else 0)) H
  | _ => False
theorem xc_int : CallR X (.type "int") mInt := calImp call_int1 fun xs H Q h => by
  unfold mInt at h
  split at h
  · exact .inl ⟨_, rfl, h⟩
  · exact .inr ⟨_, rfl, h⟩
  · exact h.elim
def mStr : List V → Hp → VK → Prop := fun vs H Q => match vs with
  | [.int i] => i.natAbs.log2 < 1920 ∧ Q (.str (toString i)) H
  | _ => False
theorem xc_str : CallR X (.type "str") mStr := calImp call_str_int fun xs H Q h => by
  unfold mStr at h
  split at h
  · exact ⟨_, rfl, h.1, h.2⟩
  · exact h.elim
/-- the signs of a text, one by one -/
def signs (z : Str) : List V := z.cps.toList.map fun c => V.str ⟨#[c]⟩
end
end RK

namespace RK
open PySem PySem.Spec PyProof.Rows L2
section
variable {X : Cx}
/-! ### more built-ins -/
theorem vals_signs {z : Str} {acc : Array Value} (h : PySem.ItemsOf (PySem.SignAt z) acc z.cps.size) : Vals (signs z) acc.toList := by
  have hl : (signs z).length = acc.toList.length := by
    unfold signs
    rw [List.length_map, Array.length_toList, Array.length_toList]
    exact h.1.symm
  have go : ∀ (xs : List V) (us : List Value), xs.length = us.length → (∀ (i : Nat) x u, xs[i]? = some x → us[i]? = some u → RelV x u) → Vals xs us := by
    intro xs
    induction xs with
    | nil =>
      intro us e _
      cases us with
      | nil => exact .nil
      | cons u us => cases e
    | cons x xs ih =>
      intro us e f
      cases us with
      | nil => cases e
      | cons u us => exact .cons (f 0 x u rfl rfl) (ih us (Nat.succ.inj e) fun i y v h1 h2 => f (i + 1) y v h1 h2)
  refine go _ _ hl fun i x u hx hu => ?_
  have hu' : acc[i]? = some u := by simpa using hu
  obtain ⟨c, t, hc, rfl⟩ := h.2 i u hu'
  unfold signs at hx
  rw [List.getElem?_map] at hx
  have : z.cps.toList[i]? = some c := by simpa using hc
  rw [this] at hx
  cases hx
  exact ⟨t, rfl⟩
theorem signs_len (z : Str) : (signs z).length = z.length := by
  unfold signs
  rw [List.length_map, Array.length_toList]
  rfl
theorem call_list_text (hc : X.calm = true) : CallR X (.type "list") (fun xs H Q => ∃ z, xs = [.str z] ∧ z.length ≤ sizeLine ∧ ∀ l, H l = none → Q (.ref l) (upd H l (.lst (signs z)))) := by
  intro pins s σ H xs us Q I r h
  obtain ⟨z, rfl, hz, q⟩ := h
  obtain ⟨u, rfl, t, rfl⟩ := vals1 r
  refine PySem.call_list_str (I.ok.hd hc) z t (fun h' tk acc' c' kp e it => ?_) hz
  exact ⟨.ref s.heap.objs.size, _, I.laid (t' := tk) kp (Nat.le_refl _) (show ObjOk X.prog X.w _ h' _ (.lst (signs z)) from ⟨by rw [signs_len]; exact hz, acc'.toList, c', vals_signs it, by simpa using e⟩), rfl, q _ (I.hok.fresh (Nat.le_refl _))⟩
def mList (K : PySem.W.Frag) : List V → Hp → VK → Prop := fun vs H Q => match vs with
  | [.str z] => z.length ≤ sizeLine ∧ ∀ l, H l = none → Q (.ref l) (upd H l (.lst (signs z)))
  | [.ref p] => ∃ xs, Sq K H p xs ∧ ∀ l, H l = none → Q (.ref l) (upd H l (.lst xs))
  | _ => False
theorem xc_list (hc : X.calm = true) : CallR X (.type "list") (mList X.K) := calImp (CallR.or (call_list_text hc) call_list_of) fun xs H Q h => by
  unfold mList at h
  split at h
  · exact .inl ⟨_, rfl, h.1, h.2⟩
  · obtain ⟨xs, h1, h2⟩ := h
    exact .inr ⟨_, xs, rfl, h1, h2⟩
  · exact h.elim
def mTuple (K : PySem.W.Frag) : List V → Hp → VK → Prop := fun vs H Q => match vs with
  | [.ref p] => (∃ xs, SqL K H p xs ∧ ∀ l, H l = none → Q (.ref l) (upd H l (.tup xs))) ∨ (∃ xs, SqT K H p xs ∧ Q (.ref p) H)
  | _ => False
theorem xc_tuple : CallR X (.type "tuple") (mTuple X.K) := calImp call_tuple_of fun xs H Q h => by
  unfold mTuple at h
  split at h
  · rcases h with ⟨xs, h1, h2⟩ | ⟨xs, h1, h2⟩
    · exact ⟨_, xs, rfl, .inl ⟨h1, h2⟩⟩
    · exact ⟨_, xs, rfl, .inr ⟨h1, h2⟩⟩
  · exact h.elim
def mSortS (K : PySem.W.Frag) : List V → Hp → VK → Prop := fun vs H Q => match vs with
  | [.ref p] => ∃ xs : List Str, Sq K H p (xs.map V.str) ∧ xs.length < 64 ∧ ∀ (ys : List Str) (q : Addr), ys.Perm xs → sortedS ys = true → H q = none → Q (.ref q) (upd H q (.lst (ys.map V.str)))
  | _ => False

/-! ### subscripts and slices -/
def mIx (K : PySem.W.Frag) : R2 := fun x y H Q => match x, y with
  | .ref p, .int i => ∃ xs v, Sq K H p xs ∧ atI xs i = some v ∧ Q v H
  | .str z, .int i => z.length ≤ sizeLine ∧ ∃ c, atI z.cps.toList i = some c ∧ Q (.str ⟨#[c]⟩) H
  | _, _ => False
theorem ixImp {r r' : R2} (h : IxR X r) (w : ∀ x y H Q, r' x y H Q → r x y H Q) : IxR X r' := by
  intro pins s σ H x y v u Q
  intros
  apply h <;> first | assumption | (apply w; assumption)
theorem xix : IxR X (mIx X.K) := ixImp ix_seq fun x y H Q h => by
  unfold mIx at h
  split at h
  · obtain ⟨xs, v, h1 | h1, h2, h3⟩ := h
    · exact .inl ⟨_, xs, _, v, rfl, rfl, h1, h2, h3⟩
    · exact .inr (.inl ⟨_, xs, _, v, rfl, rfl, h1, h2, h3⟩)
  · obtain ⟨h1, c, h2, h3⟩ := h
    exact .inr (.inr ⟨_, _, c, rfl, rfl, h1, h2, h3⟩)
  · exact h.elim
def mSet : TSet := fun o i v H Q => match o, i with
  | .ref p, .int k => ∃ xs j, H p = some (.lst xs) ∧ ixN xs.length k = some j ∧ Q (upd H p (.lst (xs.set j v)))
  | _, _ => False
theorem psetImp {r r' : TSet} (h : PSet X r) (w : ∀ o i v H Q, r' o i v H Q → r o i v H Q) : PSet X r' := by
  intro pins s σ H x y v
  intros
  apply h <;> first | assumption | (apply w; assumption)
theorem xset : PSet X mSet := psetImp set_list fun o i v H Q h => by
  unfold mSet at h
  split at h
  · obtain ⟨xs, j, h1, h2, h3⟩ := h
    exact ⟨_, xs, _, j, rfl, rfl, h1, h2, h3⟩
  · exact h.elim
def mSl (K : PySem.W.Frag) : V → Option Int → Option Int → Hp → VK → Prop := fun x lo hi H Q => match x with
  | .str z => z.length ≤ sizeLine ∧ Q (.str (cutS z lo hi)) H
  | .ref p => ∃ xs, SqL K H p xs ∧ ∀ q, H q = none → Q (.ref q) (upd H q (.lst (cutV xs lo hi)))
  | _ => False
theorem xsl : SlR X (mSl X.K) := by
  have hS : SlR X rSlS := sl_str
  have hL : SlR X (rSlL X.K) := sl_list
  intro pins s σ H x v vl vu lo hi sl Q I rx hs pl pu h
  unfold mSl at h
  split at h
  · exact hS pins s σ H _ v vl vu lo hi sl Q I rx hs pl pu ⟨_, rfl, h.1, h.2⟩
  · obtain ⟨xs, h1, h2⟩ := h
    exact hL pins s σ H _ v vl vu lo hi sl Q I rx hs pl pu ⟨_, xs, rfl, h1, h2⟩
  · exact h.elim
/-- xs[::-1] -/
def xRev (K : PySem.W.Frag) (te : TE) : TE := fun σ H Q => te σ H fun x H1 => match x with
  | .ref p => ∃ xs, SqL K H1 p xs ∧ ∀ q, H1 q = none → Q (.ref q) (upd H1 q (.lst xs.reverse))
  | _ => False
theorem xRev_eq (K : PySem.W.Frag) (te : TE) : xRev K te = tRevL K te := by
  funext σ H Q
  refine congrArg (te σ H) (funext fun x => funext fun H1 => propext ⟨fun h => ?_, fun ⟨a, xs, e, h⟩ => ?_⟩)
  · cases x <;> first | exact ⟨_, _, rfl, h.choose_spec⟩ | exact h.elim
  · subst e; exact ⟨xs, h⟩

/-! ### methods -/
def lmAppend : V → List V → Hp → VK → Prop := fun x vs H Q => match x, vs with
  | .ref p, [y] => ∃ xs, H p = some (.lst xs) ∧ xs.length < sizeLine ∧ Q .non (upd H p (.lst (xs ++ [y])))
  | _, _ => False
theorem xm_append : MtR X "list.append" lmAppend := mtImp (r := rAppend) mt_append fun x vs H Q h => by
  unfold lmAppend at h
  split at h
  · obtain ⟨xs, h1, h2, h3⟩ := h
    exact ⟨_, xs, _, rfl, rfl, h1, h2, h3⟩
  · exact h.elim
def lmPop : V → List V → Hp → VK → Prop := fun x vs H Q => match x, vs with
  | .ref p, [.int i] => ∃ xs k y, H p = some (.lst xs) ∧ i = ((k : Nat) : Int) ∧ k < 2 ^ 62 ∧ xs[k]? = some y ∧ Q y (upd H p (.lst (xs.eraseIdx k)))
  | _, _ => False
theorem xm_pop : MtR X "list.pop" lmPop := mtImp (r := rPopAt) mt_popAt fun x vs H Q h => by
  unfold lmPop at h
  split at h
  · obtain ⟨xs, k, y, h1, rfl, h2, h3, h4⟩ := h
    refine ⟨_, xs, _, k, y, rfl, rfl, h1, by omega, by omega, ?_, h3, h4⟩
    have hk := (List.getElem?_eq_some_iff.mp h3).1
    unfold seqIndex?
    simp only []
    first | (rw [if_neg (by omega), if_pos (by omega)]; simp) | (simp; omega)
  · exact h.elim
def lmInsert : V → List V → Hp → VK → Prop := fun x vs H Q => match x, vs with
  | .ref p, [.int i, y] => ∃ xs, H p = some (.lst xs) ∧ xs.length < sizeLine ∧ 0 ≤ i ∧ i < 2 ^ 63 ∧ Q .non (upd H p (.lst (xs.take i.toNat ++ [y] ++ xs.drop i.toNat)))
  | _, _ => False
theorem xm_insert : MtR X "list.insert" lmInsert := mtImp mt_insert fun x vs H Q h => by
  unfold lmInsert at h
  split at h
  · obtain ⟨xs, h1, h2, h3, h4, h5⟩ := h
    exact ⟨_, xs, _, _, rfl, rfl, h1, h2, h3, h4, h5⟩
  · exact h.elim
def lmIndex (K : PySem.W.Frag) : V → List V → Hp → VK → Prop := fun x vs H Q => match x, vs with
  | .ref p, [y] => ∃ xs j z, SqL K H p xs ∧ flatV y = true ∧ xs.all flatV = true ∧ xs[j]? = some z ∧ eqV z y = true ∧ (∀ (m : Nat) z', m < j → xs[m]? = some z' → eqV z' y = false) ∧ Q (.int (j : Nat)) H
  | _, _ => False
theorem xm_index : MtR X "list.index" (lmIndex X.K) := mtImp mt_index fun x vs H Q h => by
  unfold lmIndex at h
  split at h
  · obtain ⟨xs, j, z, h1, h2, h3, h4, h5, h6, h7⟩ := h
    exact ⟨_, xs, _, j, z, rfl, rfl, h1, h2, h3, h4, h5, h6, h7⟩
  · exact h.elim
def eqU (y : V) (u : Value) : Bool := match absV u with
  | some x => eqV x y
  | none => false
theorem eqU_count {y : V} : ∀ {xs : List V} {us : List Value}, Vals xs us → us.countP (eqU y) = xs.countP (fun x => eqV x y)
  | _, _, .nil => rfl
  | _, _, .cons r t => by
    rw [List.countP_cons, List.countP_cons, eqU_count t]
    unfold eqU
    rw [r.abs]
theorem vals_mem : ∀ {xs : List V} {us : List Value} {u : Value}, Vals xs us → u ∈ us → ∃ x, x ∈ xs ∧ RelV x u
  | _, _, _, .cons r t, h => by
    rcases List.mem_cons.mp h with e | e
    · subst e; exact ⟨_, List.mem_cons_self, r⟩
    · obtain ⟨x, h1, h2⟩ := vals_mem t e
      exact ⟨x, List.mem_cons_of_mem _ h1, h2⟩
def lmCount (K : PySem.W.Frag) : V → List V → Hp → VK → Prop := fun x vs H Q => match x, vs with
  | .ref p, [y] => ∃ xs, SqL K H p xs ∧ flatV y = true ∧ xs.all flatV = true ∧ Q (.int (xs.countP (fun x => eqV x y) : Nat)) H
  | _, _ => False
theorem xm_count : MtR X "list.count" (lmCount X.K) := by
  intro pins s σ H x vs v us Q I rx rxs h
  unfold lmCount at h
  split at h
  · rename_i p y
    obtain ⟨xs, hs, fy, fx, q⟩ := h
    cases rx
    obtain ⟨u, rfl, ru⟩ := rxs.one
    obtain ⟨its, rv, ⟨⟨cls, dd, data, sl⟩, n, ho, hc, hdn, hd⟩, hlen⟩ := I.list hs
    simp only at hc hd
    subst hc hd
    refine call_meets PySem.F.slot_list_count ⟨_, ho, rfl⟩ PySem.F.entry_list_count (PySem.F.args_list_count_2 _ _)
      (SeqAt.list_countAt p its.toArray n dd sl u (eqU y)) ⟨ho, fun w hw => ?_, ?_⟩
    · obtain ⟨x, hx, rw'⟩ := vals_mem rv (show w ∈ its by simpa using hw)
      have e : eqU y w = eqV x y := by unfold eqU; rw [rw'.abs]
      rw [e]
      exact eqAt_V rw' ru (List.all_eq_true.mp fx x hx) fy
    · refine ⟨.int (its.toArray.toList.countP (eqU y) : Nat), H, I.tok _, ⟨s.toks, rfl⟩, ?_⟩
      have e : its.toArray.toList.countP (eqU y) = xs.countP (fun x => eqV x y) := eqU_count rv
      rw [e]
      exact q
  · exact h.elim
/-- a method of a list -/
def xL (K : PySem.W.Frag) (r : V → List V → Hp → VK → Prop) (to : TE) (t : TA) : TE := fun σ H Q => to σ H fun x H1 => match x with
  | .ref p => (∃ xs, SqL K H1 p xs) ∧ t σ H1 fun vs H2 => r (.ref p) vs H2 Q
  | _ => False
theorem xL_le {K : PySem.W.Frag} {r : V → List V → Hp → VK → Prop} {to : TE} {t : TA} (mono : ∀ σ H (Q Q' : VK), (∀ v H1, Q v H1 → Q' v H1) → to σ H Q → to σ H Q') : ∀ σ H Q, xL K r to t σ H Q → tBM K "list" r to t σ H Q := fun σ H Q h => mono σ H _ _ (fun x H1 h => by
  cases x <;> first | exact h.elim | exact ⟨.inl ⟨rfl, h.1⟩, h.2⟩) h
/-- text.upper() -/
def xUpper (te : TE) : TE := fun σ H Q => te σ H fun x H1 => match x with
  | .str a => a.length ≤ 5592405 ∧ Q (.str (PySem.Txt.upper a)) H1
  | _ => False

/-! ### walks -/
def iSeq (K : PySem.W.Frag) (tl : TE) : TI := fun σ H R => iList K tl σ H R ∨ iTup K tl σ H R
theorem xi_seq {tg l : Expr} {tl : TE} (hl : PE X l tl) : PI X tg l (iSeq X.K tl) := piOr (pi_list hl) (pi_tup hl)
end

/-! ### heaps -/
/-- all but what stands at s is kept -/
def Keep (s : Addr) (H H' : Hp) : Prop := ∀ b o, b ≠ s → H b = some o → H' b = some o
theorem Keep.refl {s : Addr} {H : Hp} : Keep s H H := fun _ _ _ h => h
theorem Keep.trans {s : Addr} {H H1 H2 : Hp} (a : Keep s H H1) (b : Keep s H1 H2) : Keep s H H2 := fun c o n h => b c o n (a c o n h)
theorem Keep.new {s : Addr} {H : Hp} {p : Addr} {o : HO} (h : H p = none) : Keep s H (upd H p o) := fun b u _ e => by
  rw [upd_ne (ne_of_none e h)]; exact e
theorem Keep.put {s : Addr} {H : Hp} {o : HO} : Keep s H (upd H s o) := fun b u n e => by
  rw [upd_ne n]; exact e
theorem Same.keep {s : Addr} {H H' : Hp} (h : Same H H') : Keep s H H' := fun b o _ e => h b o e
theorem Keep.free {s : Addr} {H H' : Hp} (h : Keep s H H') {p : Addr} (n : p ≠ s) (e : H' p = none) : H p = none := by
  cases q : H p with
  | none => rfl
  | some o => rw [h p o n q] at e; cases e
theorem same_new {H : Hp} {p : Addr} {o : HO} (h : H p = none) : Same H (upd H p o) := fun b u e => by
  rw [upd_ne (ne_of_none e h)]; exact e
end RK

namespace RK
open PySem PySem.Spec PyProof.Rows L2
section
variable {X : Cx} {CX : CXT} {k : Nat} {f : Addr} {fd : FuncData} {ps ks : List Str} {sp : Sp} {E : XK} {x : Str} {p pos : Pos} {kws : List Keyword} {tk : TA} {g : List Value → List Value → List Value} {gV : List V → List V → List V}
/-- f(k = v, ..), no positional argument -/
theorem pe_kw0 (F : FnOk X.prog X.w X.K X.mg X.base CX k f fd ps sp) (hr : Room k X.A) (hg : Gl X x) (hm : X.mg x = some (.ref f)) (hk : PySem.W.keepIn X.K (.ref f) = true) (hb : KBn X.K fd ps 0 ks g gV) (hx : Passes CX X E)
    (hkw : PK X kws tk) (hall : (backToKw pos (keywordEach kws X.env)).all (·.1.isSome) = true := by rfl) (hks : (backToKw pos (keywordEach kws X.env)).filterMap (·.1) = ks := by rfl)
    (hdb : (x == ("__debug__" : Str)) = false := by decide)
    (hpl : ((backTo pos (starEach [] X.env)).any (·.1) || (backToKw pos (keywordEach kws X.env)).any (·.1.isNone)) = false := by rfl) :
    PE X (.Call (.Name x p) [] kws pos) (tCallN 0 ks.length sp gV E tNil tk) := by
  refine ⟨fun pins s σ H Q I h => ?_⟩
  refine wpAny_Call_Name_kw (ld_glob I hg hm ?_ hdb)
  refine PySem.W.callWith_KW0 (h₀ := X.base) I.ok.mod.kin hk hall ?_ hpl
  refine thn (hkw.run pos pins s σ H _ I h) fun ws s2 ⟨zs, H2, I2, rz, l1, l2, q2⟩ => ⟨I2.kIn, ?_⟩
  rw [hks]
  exact run_fnN (us := []) (vs := []) F hr hb hx I2 .nil rz l1 l2 q2
end
theorem fun_kb {K : PySem.W.Frag} {x qual : Str} {st : Stmt} {f : Addr} {fd : FuncData} {ps ks : List Str} (F : Fun K x qual st f fd)
    (h : ∀ (kV doc pm : Value) (an : Option Addr) (cdv ct : Value) (us ws : List Value), us.length = 0 → ws.length = ks.length → bindArgs (PySem.W.fnOf x qual (defArgs st) (defBody st) (defScope st) .none kV doc pm an cdv ct) ⟨us, ks.zip ws⟩ = pure (ps.zip ws)) :
    KBn K fd ps 0 ks (fun _ ws => ws) (fun _ zs => zs) := by
  obtain ⟨oc, od, kV, doc, pm, an, cdv, ct, osl, rfl, lk, hcd⟩ := F.ex
  exact ⟨fun s us ws X l1 l2 => .of_eq (h kV doc pm an cdv ct us ws l1 l2), fun _ r => r⟩

/-! ### isinstance by a built-in class -/
inductive K5 | list | tuple | bool | int | str
def K5.name : K5 → String
  | .list => "list" | .tuple => "tuple" | .bool => "bool" | .int => "int" | .str => "str"
def K5.isB : K5 → Bool | .bool => true | .int => true | _ => false
def K5.isI : K5 → Bool | .int => true | _ => false
def K5.isS : K5 → Bool | .str => true | _ => false
def K5.isL : K5 → Bool | .list => true | _ => false
def K5.isT : K5 → Bool | .tuple => true | _ => false
def mIsi (c5 : K5) : List V → Hp → VK → Prop := fun vs H Q => match vs with
  | [x, c] => c = .ty c5.name ∧ match x with
    | .non => Q (.bl false) H
    | .bl _ => Q (.bl c5.isB) H
    | .int _ => Q (.bl c5.isI) H
    | .str _ => Q (.bl c5.isS) H
    | .ref p => ((∃ xs, H p = some (.lst xs)) ∧ Q (.bl c5.isL) H) ∨ ((∃ xs, H p = some (.tup xs)) ∧ Q (.bl c5.isT) H)
    | _ => False
  | _ => False
section
variable {X : Cx}
theorem xc_isi (c5 : K5) : CallR X (.builtin "isinstance") (mIsi c5) := calImp call_isi fun vs H Q h => by
  unfold mIsi at h
  split at h
  · rename_i x c
    obtain ⟨rfl, h⟩ := h
    split at h
    · exact ⟨_, _, .type "NoneType", _, false, rfl, .ty _, .base .non, kit_ty (by cases c5 <;> decide +kernel), h⟩
    · exact ⟨_, _, .type "bool", _, _, rfl, .ty _, .base (.bl _), kit_ty (by cases c5 <;> decide +kernel), h⟩
    · exact ⟨_, _, .type "int", _, _, rfl, .ty _, .base (.int _), kit_ty (by cases c5 <;> decide +kernel), h⟩
    · exact ⟨_, _, .type "str", _, _, rfl, .ty _, .base (.str _), kit_ty (by cases c5 <;> decide +kernel), h⟩
    · rcases h with ⟨⟨xs, e⟩, h⟩ | ⟨⟨xs, e⟩, h⟩
      · exact ⟨_, _, .type "list", _, _, rfl, .ty _, .base (.lst e), kit_ty (by cases c5 <;> decide +kernel), h⟩
      · exact ⟨_, _, .type "tuple", _, _, rfl, .ty _, .base (.tup e), kit_ty (by cases c5 <;> decide +kernel), h⟩
    · exact h.elim
  · exact h.elim
end
end RK

namespace RK
open PySem PySem.Spec PyProof.Rows L2
/-- a middle that one names -/
def xCut (t u : TS) : TS := fun D σ H => ∃ M : L2.St → Hp → Prop, t { D with nx := M } σ H ∧ ∀ σ' H', M σ' H' → u D σ' H'
theorem xss_cut {X : Cx} {st : Stmt} {rest : List Stmt} {t u : TS} (h1 : PS X st t) (h2 : PSs X rest u) : PSs X (st :: rest) (xCut t u) := by
  refine ⟨fun pins s σ H D I h => ?_⟩
  obtain ⟨M, hm, hu⟩ := h
  refine wpAny_execs_cons (thn (h1.run pins s σ H { D with nx := M } I hm) fun f s1 q => ?_)
  cases f with
  | next =>
    obtain ⟨σ', H', I', q⟩ := q
    exact h2.run pins s1 σ' H' D I' (hu σ' H' q)
  | ret v => exact q
  | brk => exact q
  | cont => exact q
theorem xe_rev {X : Cx} {e : Expr} {te : TE} {k : Nat} {p1 p2 p3 pos : Pos} (he : PE X e te) : PE X (.Subscript e (.Slice none none (some (.UnaryOp .USub (.Constant (.int 1) k p1) p2)) p3) pos) (xRev X.K te) := by
  rw [xRev_eq]; exact pe_revL he
/-! ### what one needs of numbers and places -/
theorem sl_big : sizeLine = 16777216 := sizeLine_eq
theorem ixN_nat {n j : Nat} (h : j < n) : ixN n (j : Int) = some j := by
  unfold ixN
  rw [if_pos (by omega), if_pos (by omega)]
  simp
theorem at_int {α : Type} {xs : List α} {i : Int} {j : Nat} {v : α} (e : i = (j : Int)) (h : xs[j]? = some v) : atI xs i = some v := by
  subst e; exact atI_nat h
theorem tyL {K : PySem.W.Frag} {p : Addr} {xs : List V} {H : Hp} (h : H p = some (.lst xs)) : tyV K "list" (.ref p) H := .inl ⟨rfl, _, SqL.of h⟩
theorem Sq.l {K : PySem.W.Frag} {H : Hp} {p : Addr} {xs : List V} (h : H p = some (.lst xs)) : Sq K H p xs := .inl (SqL.of h)
theorem Sq.t {K : PySem.W.Frag} {H : Hp} {p : Addr} {xs : List V} (h : H p = some (.tup xs)) : Sq K H p xs := .inr (SqT.of h)
theorem no_tf {A : Prop} (h : true = false) : A := Bool.noConfusion h
theorem no_ft {A : Prop} (h : false = true) : A := Bool.noConfusion h
theorem ref_ne {H : Hp} {a b : Addr} {o u : HO} (h : H a = some o) (h' : H b = some u) (d : o ≠ u) : a ≠ b := ne_of h h' d

/-! ### the store of draws -/
def sRow (c : Addr) (a d : Nat) (b e : Int) : HO := .lst [.ref c, .int a, .int b, .int d, .int e]
/-- at s a store that has given at most n numbers; its own list at c -/
structure Sto (s c : Addr) (n : Nat) (H : Hp) : Prop where
  ex : ∃ (ns : List Int) (a d : Nat) (b e : Int), H s = some (sRow c a d b e) ∧ H c = some (.lst (ns.map V.int)) ∧ c ≠ s ∧ a ≤ ns.length ∧ ns.length ≤ 63 ∧ 0 ≤ b ∧ d ≤ n
section
variable {s c p : Addr} {n m : Nat} {H H' : Hp} {o : HO}
theorem Sto.mono (S : Sto s c n H) (h : n ≤ m) : Sto s c m H := by
  obtain ⟨ns, a, d, b, e, h1, h2, h3, h4, h5, h6, h7⟩ := S.ex
  exact ⟨ns, a, d, b, e, h1, h2, h3, h4, h5, h6, by omega⟩
theorem Sto.got (S : Sto s c n H) : ∃ o, H s = some o := by
  obtain ⟨ns, a, d, b, e, h1, _⟩ := S.ex
  exact ⟨_, h1⟩
theorem Sto.gotc (S : Sto s c n H) : ∃ o, H c = some o := by
  obtain ⟨ns, a, d, b, e, h1, h2, _⟩ := S.ex
  exact ⟨_, h2⟩
theorem Sto.same (S : Sto s c n H) (k : Same H H') : Sto s c n H' := by
  obtain ⟨ns, a, d, b, e, h1, h2, h3⟩ := S.ex
  exact ⟨ns, a, d, b, e, k _ _ h1, k _ _ h2, h3⟩
/-- a new object -/
theorem Sto.new (S : Sto s c n H) (h : H p = none) : Sto s c n (upd H p o) := S.same (same_new h)
/-- an object that is not the store's is written -/
theorem Sto.put (S : Sto s c n H) (h1 : p ≠ s) (h2 : p ≠ c) : Sto s c n (upd H p o) := by
  obtain ⟨ns, a, d, b, e, g1, g2, g3⟩ := S.ex
  exact ⟨ns, a, d, b, e, (upd_ne (Ne.symm h1)).trans g1, (upd_ne (Ne.symm h2)).trans g2, g3⟩
theorem Sto.ne (S : Sto s c n H) (h : H p = none) : p ≠ s := by
  obtain ⟨o, e⟩ := S.got
  exact Ne.symm (ne_of_none e h)
theorem Sto.nec (S : Sto s c n H) (h : H p = none) : p ≠ c := by
  obtain ⟨o, e⟩ := S.gotc
  exact Ne.symm (ne_of_none e h)
end
/-- a comprehension over a list that leaves the heap alone: a test, a value -/
theorem lc_fm {K : PySem.W.Frag} {a : Addr} {xs : List V} {j : Nat} {tt : TT} {te : TE} {vs : List Nat} {σ : L2.St} {H1 : Hp} {D : Addr} {Qd : Hp → Prop} (f : V → V) (p : V → Bool) (hx : SqL K H1 a xs) (hD : H1 D = none) (hz : xs.length ≤ sizeLine)
    (hw : ∀ x : V, wipe ((wipe σ vs).set j (some x)) vs = wipe σ vs)
    (ht : ∀ (x : V) (acc : List V) (Q : Bool → Hp → Prop), x ∈ xs → Q (p x) (upd H1 D (.lst acc)) → tt ((wipe σ vs).set j (some x)) (upd H1 D (.lst acc)) Q)
    (he : ∀ (x : V) (acc : List V) (Q : VK), x ∈ xs → Q (f x) (upd H1 D (.lst acc)) → te ((wipe σ vs).set j (some x)) (upd H1 D (.lst acc)) Q)
    (hd : Qd (upd H1 D (.lst ((xs.filter p).map f)))) :
    ∃ W : Nat → Nat → Hp → Prop, (∃ m, W 0 m (upd H1 D (.lst []))) ∧ ∀ i m H, W i m H →
      ((Itl K a).stop i H ∧ Qd H) ∨ ((Itl K a).go i H ∧ ∃ Nx : Hp → Prop, (∀ H', Nx H' → ∃ m', m' < m ∧ W (i + 1) m' H') ∧ ∀ x H', (Itl K a).yld i H x H' → gName j x (wipe σ vs) H' fun σ2 H2 => wipe σ2 vs = wipe σ vs ∧ tt σ2 H2 fun b H3 =>
        if b = true then te σ2 H3 fun y H4 => ∃ acc, H4 D = some (.lst acc) ∧ acc.length < sizeLine ∧ Nx (upd H4 D (.lst (acc ++ [y]))) else Nx H3) := by
  have keep : ∀ acc, SqL K (upd H1 D (.lst acc)) a xs := fun acc => (same_new hD).seq hx
  refine lc_list (xs := xs) (fun i H => H = upd H1 D (.lst (((xs.take i).filter p).map f))) rfl (fun i H _ e => by rw [e]; exact keep _) (fun i x H hi e => ?_) (fun H e => by rw [e, List.take_length]; exact hd)
  subst e
  have hm : x ∈ xs := List.mem_of_getElem? hi
  have hil := (List.getElem?_eq_some_iff.mp hi).1
  have et : xs.take (i + 1) = xs.take i ++ [x] := by rw [List.take_add_one, hi]; rfl
  refine ⟨hw x, ht x _ _ hm ?_⟩
  cases hp : p x with
  | true =>
    rw [if_pos rfl]
    refine he x _ _ hm ⟨_, upd_same, ?_, ?_⟩
    · rw [List.length_map]
      have := List.length_filter_le p (xs.take i)
      rw [List.length_take] at this
      omega
    · rw [upd_upd, et, List.filter_append, List.map_append]
      simp [hp]
  | false =>
    rw [if_neg Bool.false_ne_true, et, List.filter_append]
    simp [hp]
theorem lc_f {K : PySem.W.Frag} {a : Addr} {xs : List V} {j : Nat} {te : TE} {vs : List Nat} {σ : L2.St} {H1 : Hp} {D : Addr} {Qd : Hp → Prop} (f : V → V) (hx : SqL K H1 a xs) (hD : H1 D = none) (hz : xs.length ≤ sizeLine)
    (hw : ∀ x : V, wipe ((wipe σ vs).set j (some x)) vs = wipe σ vs)
    (he : ∀ (x : V) (acc : List V) (Q : VK), x ∈ xs → Q (f x) (upd H1 D (.lst acc)) → te ((wipe σ vs).set j (some x)) (upd H1 D (.lst acc)) Q)
    (hd : Qd (upd H1 D (.lst (xs.map f)))) :
    ∃ W : Nat → Nat → Hp → Prop, (∃ m, W 0 m (upd H1 D (.lst []))) ∧ ∀ i m H, W i m H →
      ((Itl K a).stop i H ∧ Qd H) ∨ ((Itl K a).go i H ∧ ∃ Nx : Hp → Prop, (∀ H', Nx H' → ∃ m', m' < m ∧ W (i + 1) m' H') ∧ ∀ x H', (Itl K a).yld i H x H' → gName j x (wipe σ vs) H' fun σ2 H2 => wipe σ2 vs = wipe σ vs ∧ tYes σ2 H2 fun b H3 =>
        if b = true then te σ2 H3 fun y H4 => ∃ acc, H4 D = some (.lst acc) ∧ acc.length < sizeLine ∧ Nx (upd H4 D (.lst (acc ++ [y]))) else Nx H3) :=
  lc_fm f (fun _ => true) hx hD hz hw (fun _ _ _ _ q => q) he (by rw [List.filter_eq_self.mpr (fun _ _ => rfl)]; exact hd)
theorem sl_of {xs : List V} {n : Nat} (h : xs.length = n) (hn : n ≤ 1000 := by decide) : xs.length ≤ sizeLine := by rw [h]; exact Nat.le_of_lt (small1000 hn)
end RK

namespace RK
open PySem PySem.Spec PyProof.Rows L2 SX
/-! ### texts as lists of codes -/
theorem S_c (l : List Nat) : (S l).cps.toList = l := rfl
theorem S_of (z : Str) : z = S z.cps.toList := (S_tl z).symm
theorem S_one (c : Nat) : (⟨#[c]⟩ : Str) = S [c] := rfl
theorem S_dec (a b : List Nat) : decide (S a = S b) = decide (a = b) := by
  rw [decide_eq_decide]
  exact ⟨S_inj, fun h => by rw [h]⟩
theorem dec_S {a b : List Nat} {s : Str} (h : s = S b) : decide (S a = s) = decide (a = b) := by rw [h, S_dec]
theorem cut_to (l : List Nat) (k : Nat) : cutS (S l) none (some (k : Int)) = S (l.take k) := by
  unfold cutS
  rw [show HT.sIx (S l).length 0 none = 0 from rfl, HT.sIx_nat, Nat.sub_zero, List.drop_zero, S_c, S_len]
  congr 1
  rw [show l.take (min k l.length) = l.take k by
    by_cases h : k ≤ l.length
    · rw [Nat.min_eq_left h]
    · rw [Nat.min_eq_right (by omega), List.take_length, List.take_of_length_le (by omega)]]
theorem cut_from (l : List Nat) (k : Nat) : cutS (S l) (some (k : Int)) none = S (l.drop k) := by
  unfold cutS
  rw [show HT.sIx (S l).length (S l).length none = (S l).length from rfl, HT.sIx_nat, S_c, S_len]
  congr 1
  by_cases h : k ≤ l.length
  · rw [Nat.min_eq_left h, List.take_of_length_le (by rw [List.length_drop]; omega)]
  · rw [Nat.min_eq_right (by omega), Nat.sub_self, List.take_zero, List.drop_of_length_le (by omega)]
theorem cutV_to (l : List V) (k : Nat) : cutV l none (some (k : Int)) = l.take k := by
  unfold cutV
  rw [show HT.sIx l.length 0 none = 0 from rfl, HT.sIx_nat, Nat.sub_zero, List.drop_zero]
  by_cases h : k ≤ l.length
  · rw [Nat.min_eq_left h]
  · rw [Nat.min_eq_right (by omega), List.take_length, List.take_of_length_le (by omega)]
theorem cutV_from (l : List V) (k : Nat) : cutV l (some (k : Int)) none = l.drop k := by
  unfold cutV
  rw [show HT.sIx l.length l.length none = l.length from rfl, HT.sIx_nat]
  by_cases h : k ≤ l.length
  · rw [Nat.min_eq_left h, List.take_of_length_le (by rw [List.length_drop]; omega)]
  · rw [Nat.min_eq_right (by omega), Nat.sub_self, List.take_zero, List.drop_of_length_le (by omega)]
/-- a text over again -/
def rep (n : Nat) (l : List Nat) : List Nat := (List.replicate n l).flatten
theorem rep_succ (n : Nat) (l : List Nat) : rep (n + 1) l = l ++ rep n l := by unfold rep; rw [List.replicate_succ, List.flatten_cons]
theorem rep_len (n : Nat) (l : List Nat) : (rep n l).length = n * l.length := by
  induction n with
  | zero => simp [rep]
  | succ n ih => rw [rep_succ, List.length_append, ih, Nat.succ_mul, Nat.add_comm]
theorem fold_app (xs : List (Array Nat)) (a : Array Nat) : (xs.foldl (· ++ ·) a).toList = a.toList ++ (xs.map Array.toList).flatten := by
  induction xs generalizing a with
  | nil => simp
  | cons x r ih => rw [List.foldl_cons, ih]; simp
theorem mul_S (l : List Nat) (n : Nat) : PySem.Txt.mul (S l) (n : Int) = S (rep n l) := by
  unfold PySem.Txt.mul
  by_cases h1 : n = 0
  · subst h1
    rw [if_pos (by decide)]
    rfl
  · rw [if_neg (by omega)]
    by_cases h2 : (((n : Int) == 1) || (S l).length == 0) = true
    · rw [if_pos h2]
      rcases Bool.or_eq_true _ _ ▸ h2 with h | h
      · have : n = 1 := by have := eq_of_beq h; omega
        subst this
        congr 1
        simp [rep]
      · have : l = [] := by have := eq_of_beq h; rw [S_len] at this; exact List.length_eq_zero_iff.mp this
        subst this
        congr 1
        simp [rep]
    · rw [if_neg h2]
      refine TL.ext_tl ?_
      show ((List.replicate ((n : Int)).toNat (S l).cps).foldl (· ++ ·) #[]).toList = rep n l
      rw [fold_app, Int.toNat_natCast]
      simp [rep]
theorem mul_ok (l : List Nat) (n : Nat) (hn : n ≤ 20000) (hz : l.length * n ≤ sizeLine) : PySem.MulOk (S l) (n : Int) := by
  refine ⟨by simp; omega, fun h1 h2 => ?_, fun h1 h2 => ?_⟩
  · rw [S_len]
    have hl : l.length ≤ sizeLine := Nat.le_trans (Nat.le_mul_of_pos_right _ (by omega)) hz
    rw [sl_big] at hl
    have : (20000 : Int) * (l.length : Int) ≤ 2 ^ 63 - 1 := by omega
    have h3 : (l.length : Int) ≤ (2 ^ 63 - 1) / n := by
      rw [Int.le_ediv_iff_mul_le (by omega)]
      have : (l.length : Int) * n ≤ (l.length : Int) * 20000 := Int.mul_le_mul_of_nonneg_left (by omega) (by omega)
      omega
    omega
  · rw [S_len, Int.toNat_natCast]
    rw [sl_big] at hz
    show decide (_ > sizeLine) = false
    rw [decide_eq_false_iff_not, sl_big]
    omega

/-! ### names -/
def low (c : Nat) : Bool := decide (97 ≤ c) && decide (c ≤ 122)
def lowD (c : Nat) : Bool := low c || (decide (48 ≤ c) && decide (c ≤ 57))
def aZ : List Nat := [97, 98, 99, 100, 101, 102, 103, 104, 105, 106, 107, 108, 109, 110, 111, 112, 113, 114, 115, 116, 117, 118, 119, 120, 121, 122]
def aZ9 : List Nat := aZ ++ [48, 49, 50, 51, 52, 53, 54, 55, 56, 57]
theorem lit_az : Str.ofString "abcdefghijklmnopqrstuvwxyz" = S aZ := by decide +kernel
theorem lit_az9 : Str.ofString "abcdefghijklmnopqrstuvwxyz0123456789" = S aZ9 := by decide +kernel
theorem lit_sea : Str.ofString "sea" = S [115, 101, 97] := by decide +kernel
theorem lit_it : Str.ofString "it" = S [105, 116] := by decide +kernel
theorem lit_0 : Str.ofString "0" = S [48] := by decide +kernel
theorem lit_e : Str.ofString "" = S [] := by decide +kernel
theorem mem_az {c : Nat} : c ∈ aZ ↔ low c = true := by
  unfold low
  rw [Bool.and_eq_true, decide_eq_true_iff, decide_eq_true_iff]
  constructor
  · intro h
    have : ∀ x ∈ aZ, 97 ≤ x ∧ x ≤ 122 := by decide
    exact this c h
  · intro h
    have : ∀ x, x < 123 → 97 ≤ x → x ∈ aZ := by decide
    exact this c (by omega) h.1
theorem mem_az9 {c : Nat} : c ∈ aZ9 ↔ lowD c = true := by
  unfold lowD
  rw [Bool.or_eq_true, ← mem_az, Bool.and_eq_true, decide_eq_true_iff, decide_eq_true_iff]
  unfold aZ9
  rw [List.mem_append]
  constructor
  · rintro (h | h)
    · exact .inl h
    · have : ∀ x ∈ ([48, 49, 50, 51, 52, 53, 54, 55, 56, 57] : List Nat), 48 ≤ x ∧ x ≤ 57 := by decide
      exact .inr (this c h)
  · rintro (h | h)
    · exact .inl h
    · have : ∀ x, x < 58 → 48 ≤ x → x ∈ ([48, 49, 50, 51, 52, 53, 54, 55, 56, 57] : List Nat) := by decide
      exact .inr (this c (by omega) h.1)
theorem low_lowD {c : Nat} (h : low c = true) : lowD c = true := by unfold lowD; rw [h]; rfl
theorem lowD_lt {c : Nat} (h : lowD c = true) : c < 123 := by
  unfold lowD low at h
  simp at h
  omega
/-- it starts with a letter; letters and digits follow -/
def word (l : List Nat) : Bool := (match l with | [] => false | c :: _ => low c) && l.all lowD
def nameL (l : List Nat) : Bool := !(decide (l = [115, 101, 97])) && !(decide (l = [105, 116])) && decide (1 ≤ l.length) && decide (l.length ≤ 8) && word l
theorem word_all {l : List Nat} (h : word l = true) : ∀ c ∈ l, lowD c = true := by
  unfold word at h
  exact List.all_eq_true.mp (Bool.and_eq_true _ _ ▸ h).2
theorem word_ne {l : List Nat} (h : word l = true) : l ≠ [] := by
  rintro rfl
  exact Bool.noConfusion h
theorem word_app {l m : List Nat} (h : word l = true) (k : ∀ c ∈ m, lowD c = true) : word (l ++ m) = true := by
  cases l with
  | nil => exact absurd h Bool.false_ne_true
  | cons c r =>
    unfold word at h ⊢
    rw [Bool.and_eq_true] at h ⊢
    exact ⟨h.1, List.all_eq_true.mpr fun x hx => (List.mem_append.mp hx).elim (List.all_eq_true.mp h.2 x) (k x)⟩
theorem word_take {l : List Nat} (h : word l = true) {k : Nat} (hk : 0 < k) : word (l.take k) = true := by
  cases l with
  | nil => exact absurd h Bool.false_ne_true
  | cons c r =>
    cases k with
    | zero => omega
    | succ k =>
      unfold word at h ⊢
      rw [Bool.and_eq_true] at h ⊢
      exact ⟨h.1, List.all_eq_true.mpr fun x hx => List.all_eq_true.mp h.2 x (List.mem_of_mem_take hx)⟩
structure IsNm (l : List Nat) : Prop where
  w : word l = true
  l1 : l.length ≤ 8
  ns : l ≠ [115, 101, 97]
  ni : l ≠ [105, 116]
theorem IsNm.ne {l : List Nat} (h : IsNm l) : l ≠ [] := word_ne h.w
theorem nameL_iff {l : List Nat} : nameL l = true ↔ IsNm l := by
  unfold nameL
  simp only [Bool.and_eq_true, Bool.not_eq_true', decide_eq_false_iff_not, decide_eq_true_iff]
  constructor
  · rintro ⟨⟨⟨⟨a, b⟩, c⟩, d⟩, e⟩
    exact ⟨e, d, a, b⟩
  · intro h
    have := List.length_pos_iff.mpr h.ne
    exact ⟨⟨⟨⟨h.ns, h.ni⟩, this⟩, h.l1⟩, h.w⟩
/-! ### a comprehension over a text's signs -/
theorem lc_str {l : List Nat} {j : Nat} {tt : TT} {te : TE} {vs : List Nat} {σ : L2.St} {H1 : Hp} {D : Addr} {Qd : Hp → Prop} (f : Nat → V) (p : Nat → Bool) (hz : l.length ≤ sizeLine)
    (hw : ∀ x : V, wipe ((wipe σ vs).set j (some x)) vs = wipe σ vs)
    (ht : ∀ (x : Nat) (acc : List V) (Q : Bool → Hp → Prop), x ∈ l → Q (p x) (upd H1 D (.lst acc)) → tt ((wipe σ vs).set j (some (.str (S [x])))) (upd H1 D (.lst acc)) Q)
    (he : ∀ (x : Nat) (acc : List V) (Q : VK), x ∈ l → Q (f x) (upd H1 D (.lst acc)) → te ((wipe σ vs).set j (some (.str (S [x])))) (upd H1 D (.lst acc)) Q)
    (hd : Qd (upd H1 D (.lst ((l.filter p).map f)))) :
    ∃ W : Nat → Nat → Hp → Prop, (∃ m, W 0 m (upd H1 D (.lst []))) ∧ ∀ i m H, W i m H →
      ((Its (S l)).stop i H ∧ Qd H) ∨ ((Its (S l)).go i H ∧ ∃ Nx : Hp → Prop, (∀ H', Nx H' → ∃ m', m' < m ∧ W (i + 1) m' H') ∧ ∀ x H', (Its (S l)).yld i H x H' → gName j x (wipe σ vs) H' fun σ2 H2 => wipe σ2 vs = wipe σ vs ∧ tt σ2 H2 fun b H3 =>
        if b = true then te σ2 H3 fun y H4 => ∃ acc, H4 D = some (.lst acc) ∧ acc.length < sizeLine ∧ Nx (upd H4 D (.lst (acc ++ [y]))) else Nx H3) := by
  have hsz : (S l).cps.size = l.length := S_len l
  refine ⟨fun i m H => m = l.length - i ∧ i ≤ l.length ∧ H = upd H1 D (.lst (((l.take i).filter p).map f)), ⟨l.length, by simp, Nat.zero_le _, rfl⟩, ?_⟩
  rintro i m H ⟨rfl, hi, rfl⟩
  by_cases hlt : i < l.length
  · refine .inr ⟨by show i < (S l).cps.size; rw [hsz]; exact hlt, fun H' => H' = upd H1 D (.lst (((l.take (i + 1)).filter p).map f)), fun H' e => ⟨l.length - (i + 1), by omega, rfl, hlt, e⟩, ?_⟩
    rintro x H' ⟨rfl, c, hc, rfl⟩
    have hc' : l[i]? = some c := by simpa using hc
    have hm : c ∈ l := List.mem_of_getElem? hc'
    have et : l.take (i + 1) = l.take i ++ [c] := by rw [List.take_add_one, hc']; rfl
    refine ⟨hw _, ht c _ _ hm ?_⟩
    cases hp : p c with
    | true =>
      rw [if_pos rfl]
      refine he c _ _ hm ⟨_, upd_same, ?_, ?_⟩
      · rw [List.length_map]
        have := List.length_filter_le p (l.take i)
        rw [List.length_take] at this
        omega
      · rw [upd_upd, et, List.filter_append, List.map_append]
        simp [hp]
    | false =>
      rw [if_neg Bool.false_ne_true, et, List.filter_append]
      simp [hp]
  · have e : i = l.length := by omega
    subst e
    rw [List.take_length]
    exact .inl ⟨by show (S l).cps.size ≤ _; rw [hsz]; exact Nat.le_refl _, hd⟩
theorem filter_nil_iff {α : Type} {p : α → Bool} {l : List α} : ((l.filter p).length = 0) ↔ ∀ x ∈ l, p x = false := by
  rw [List.length_eq_zero_iff, List.filter_eq_nil_iff]
  exact ⟨fun h x hx => by simpa using h x hx, fun h x hx => by rw [h x hx]; exact Bool.false_ne_true⟩
end RK

namespace RK
open PySem PySem.Spec PyProof.Rows L2 SX
/-! ### the rules once more, with the written part named -/
section
variable {X : Cx} {K : PySem.W.Frag} (h : X.K = K)
include h
theorem ko_add : OpR X (binaryOp .Add) (mAdd K) := h ▸ xo_add
theorem ko_eq (hu : X.A.units + 64 < cLine) : OpR X (compareOp .Eq) (mEq K) := h ▸ xo_eq hu
theorem ko_ne (hu : X.A.units + 64 < cLine) : OpR X (compareOp .NotEq) (mNe K) := h ▸ xo_ne hu
theorem ko_in : OpR X (compareOp .In) (mIn K false) := h ▸ xo_in
theorem ko_notin : OpR X (compareOp .NotIn) (mIn K true) := h ▸ xo_notin
theorem kc_len : CallR X (.builtin "len") (mLen K) := h ▸ xc_len
theorem kc_list (hc : X.calm = true) : CallR X (.type "list") (mList K) := h ▸ xc_list hc
theorem kc_tuple : CallR X (.type "tuple") (mTuple K) := h ▸ xc_tuple
theorem kc_sorted : CallR X (.builtin "sorted") (rSortedS K) := h ▸ cr_sortedS
theorem kix : IxR X (mIx K) := h ▸ xix
theorem ksl : SlR X (mSl K) := h ▸ xsl
theorem ke_rev {e : Expr} {te : TE} {k : Nat} {p1 p2 p3 pos : Pos} (he : PE X e te) : PE X (.Subscript e (.Slice none none (some (.UnaryOp .USub (.Constant (.int 1) k p1) p2)) p3) pos) (xRev K te) := h ▸ xe_rev he
theorem km_index : MtR X "list.index" (lmIndex K) := h ▸ xm_index
theorem km_count : MtR X "list.count" (lmCount K) := h ▸ xm_count
theorem ki_seq {tg l : Expr} {tl : TE} (hl : PE X l tl) : PI X tg l (iSeq K tl) := h ▸ xi_seq hl
theorem ke_bm {o e : Expr} {es : List Expr} {to : TE} {t : TA} {name : Str} {apos cpos : Pos} {T id : String} {r : V → List V → Hp → VK → Prop} (pa : PlainAttrs T) (slot : Slot T name id) (hty : typeOf (.builtin id) = pure (.type "method_descriptor")) (hm : MtR X id r) (ho : PE X o to) (ha : PA X (e :: es) t)
    (hbase : attributeBase o name X.env (eval o X.env) = eval o X.env := by rfl)
    (hfew : ((backTo cpos (starEach (e :: es) X.env)).all (fun x => !x.1) && (backToKw cpos (keywordEach [] X.env)).all (fun x => x.1.isSome)
      && decide ((e :: es).length + ([] : List Keyword).length + (if ([] : List Keyword).isEmpty then 0 else 1) < 30)) = true := by rfl)
    (hline : (apos.endLine == cpos.line) = true := by rfl) (hs : starEach (e :: es) X.env = (false, eval e X.env) :: starEach es X.env := by rfl) (hplain : (backTo cpos (starEach es X.env)).any (·.1) = false := by rfl) :
    PE X (.Call (.Attribute o name apos) (e :: es) [] cpos) (tBM K T r to t) := h ▸ pe_bm pa slot hty hm ho ha hbase hfew hline hs hplain
end
end RK

namespace PyProof.Rows
open PySem PySem.Spec
section
variable {prog : Program} {w : World} {A : Around} {E : Value → Shared → Prop} {s : Shared}
/-- what a tuple holds is put into a list, as of a list -/
theorem rk_collect {l : Addr} {T : String} {o : Obj} {n : Nat} {vs : List Value} {Q : List Value → Shared → Prop} (hT : T = "list" ∨ T = "tuple") (ho : s.heap.get? l = some o) (hc : o.cls = .type T) (hd : o.data = .seq vs.toArray n)
    (h : Q vs { s with heap := (s.heap.push (seqObj "list" #[] 0)).update s.heap.objs.size (Obj.mapSeq (· ++ vs.toArray)) }) (hz : vs.length ≤ sizeLine) :
    wpAny (model prog w) A (collect (.ref l)) Q E s := by
  unfold collect
  apply wpAny_bind
  apply wpAny_runValue
  apply codeAny_builtin entry_proto_collect'
  show wpAny _ _ (do again (.builtin "list.__iadd__" ⟨[← newList [], .ref l], []⟩)) _ _ s
  apply wpAny_bind
  refine wpAny_newList ?_
  apply wpAny_pure
  refine ⟨Code.quiet_builtin _ (by decide +kernel), ?_⟩
  apply codeAny_builtin entry_list_iadd'
  show wpAny _ _ (Builtin.List.listExtendWith (.ref s.heap.objs.size) (.ref l) (.ref s.heap.objs.size)) _ _ { s with heap := s.heap.push (seqObj "list" #[] 0) }
  unfold Builtin.List.listExtendWith
  have old : (s.heap.push (seqObj "list" #[] 0)).get? l = some o := Heap.get?_push_of_some _ ho
  apply wpAny_bind
  refine wpAny_typeOf (T := T) ⟨o, old, hc⟩ ?_
  have cond : ∀ b : Bool, (b || Value.type T == Value.type "list" || Value.type T == Value.type "tuple") = true := by
    intro b
    rcases hT with rfl | rfl <;> cases b <;> decide
  rw [if_pos (by rcases hT with rfl | rfl <;> simp)]
  apply wpAny_bind
  refine listItems_at old hd ?_
  apply wpAny_bind
  refine listItems_at (xs := #[]) (n := 0) (Heap.get?_push_size _ rfl) rfl ?_
  rw [if_neg (by simp)]
  apply wpAny_bind
  refine listUpdate_at (xs := #[]) (n := 0) (Heap.get?_push_size _ rfl) rfl ?_ (Nat.zero_le _) (by show (#[] ++ vs.toArray).size ≤ sizeLine + 1; simp only [Array.size_append, List.size_toArray, List.length_nil]; omega)
  apply wpAny_pure
  show wpAny (model prog w) A (do
      let o ← load s.heap.objs.size
      match o.data with | .seq xs _ => pure xs.toList | _ => unsupported "internal:collect") Q E { s with heap := (s.heap.push (seqObj "list" #[] 0)).update s.heap.objs.size (Obj.mapSeq (· ++ vs.toArray)) }
  apply wpAny_bind
  refine wpAny_load (get?_update_seq (Heap.get?_push_size _ rfl) _) ?_
  show wpAny _ _ (pure ((#[] : Array Value) ++ vs.toArray).toList) Q E _
  have e : ((#[] : Array Value) ++ vs.toArray).toList = vs := by simp
  rw [e]
  exact wpAny_pure h
theorem rk_sorted {T : String} {o : Obj} {n : Nat} {l : Addr} {vs : List Value} {ss : List Str} {Q : Value → Shared → Prop} (hT : T = "list" ∨ T = "tuple") (ho : s.heap.get? l = some o) (hc : o.cls = .type T) (hd : o.data = .seq vs.toArray n) (hS : StrsAre vs ss) (h64 : vs.length < 64)
    (h : ∀ (out : Array Value) (zs : List Str), StrsAre out.toList zs → zs.Perm ss → sortedS zs = true → Q (.ref (s.heap.objs.size + 1)) { s with heap := sortedAll s.heap vs out }) :
    wpAny (model prog w) A (call (.builtin "sorted") [.ref l]) Q E s := by
  have line := sizeLine_eq
  apply Calls.call_function_entry kind_sorted plain_sorted entry_sorted (args_sorted1 _)
  unfold Builtin.«sorted»
  refine wpAny_bind (m := checkCount "sorted" 1 1 _) ?_
  apply wpAny_pure
  apply wpAny_bind
  refine rk_collect hT ho hc hd ?_ (by omega)
  apply wpAny_bind
  refine wpAny_newList ?_ (by omega)
  generalize hh : (s.heap.push (seqObj "list" #[] 0)).update s.heap.objs.size (Obj.mapSeq (· ++ vs.toArray)) = hp
  have hsz : hp.objs.size = s.heap.objs.size + 1 := by
    rw [← hh, Heap.size_update, size_push']
  have hoL : (hp.push (seqObj "list" vs.toArray 0)).get? (s.heap.objs.size + 1) = some (seqObj "list" vs.toArray 0) := by
    rw [← hsz]
    exact Heap.get?_push_size _ rfl
  show wpAny _ _ _ _ _ { s with heap := hp.push (seqObj "list" vs.toArray 0) }
  rw [hsz]
  apply wpAny_bind
  apply wpAny_holding
  refine wpAny_call_entry slot_list_sort ⟨_, hoL, rfl⟩ entry_list_sort (list_sort_treeK (κ := strKind) strKind_oneLt hoL hS.keysOf (fun v₁ v₂ rest e => keyKind_strs (by rw [← e]; exact hS)) h64 fun st' hp' hs => ⟨_, rfl, ?_⟩) (args_list_sort _)
  obtain ⟨zs, q1, q2, q3⟩ := sorted_out_str hS hp' hs
  refine wpAny_pure ⟨_, rfl, ?_⟩
  have z := h _ zs q1 q2 q3
  unfold sortedAll at z
  rw [hh] at z
  exact z
end
end PyProof.Rows
namespace RK
open PySem PySem.Spec PyProof.Rows L2 SX
def mSort (K : PySem.W.Frag) : List V → Hp → VK → Prop := fun vs H Q => match vs with
  | [.ref p] => ∃ xs : List Str, Sq K H p (xs.map V.str) ∧ xs.length < 64 ∧ ∀ (ys : List Str) (q : Addr), ys.Perm xs → sortedS ys = true → H q = none → Q (.ref q) (upd H q (.lst (ys.map V.str)))
  | _ => False
theorem kc_sort {X : Cx} {K : PySem.W.Frag} (hK : X.K = K) : CallR X (.builtin "sorted") (mSort K) := by
  subst hK
  intro pins s σ H vs us Q I r h
  unfold mSort at h
  split at h
  · rename_i p
    obtain ⟨xs, hs, h64, q⟩ := h
    rw [Vals.ref1 r]
    have fin : ∀ its : List Value, Vals (xs.map V.str) its → ∀ (out : Array Value) (zs : List Str), StrsAre out.toList zs → zs.Perm xs → sortedS zs = true → EP X pins σ Q (.ref (s.heap.objs.size + 1)) { s with heap := sortedAll s.heap its out } := by
      intro its rv out zs h1 h2 h3
      obtain ⟨ep, he'⟩ := PyProof.Rows.sortedAll_at s.heap its out
      have hz : (zs.map V.str).length ≤ sizeLine := by rw [List.length_map, h2.length_eq, sl_big]; omega
      exact ⟨.ref _, upd H (s.heap.objs.size + 1) (.lst (zs.map V.str)), I.laid (t' := s.toks) (fun _ _ => PyProof.Rows.sortedAll_old) (Nat.le_succ _) ⟨hz, out.toList, ep, vals_of_strs h1, he'⟩, rfl, q zs _ h2 h3 (I.hok.fresh (Nat.le_succ _))⟩
    rcases hs with hs | hs
    · obtain ⟨its, rv, pl, _⟩ := I.list hs
      have hl := rv.length
      rw [List.length_map] at hl
      obtain ⟨o, ho, hc, n, hd⟩ := pl.isList
      exact PyProof.Rows.rk_sorted (.inl rfl) ho hc hd rv.strs (by omega) (fin its rv)
    · obtain ⟨its, rv, pl, _⟩ := I.tuple hs
      have hl := rv.length
      rw [List.length_map] at hl
      obtain ⟨o, ho, hc, n, hd⟩ := pl
      exact PyProof.Rows.rk_sorted (.inr rfl) ho hc hd rv.strs (by omega) (fin its rv)
  · exact h.elim
/-! ### lists of texts -/
def sv (ts : List (List Nat)) : List V := ts.map fun t => V.str (S t)
theorem sv_len (ts : List (List Nat)) : (sv ts).length = ts.length := List.length_map _
theorem sv_flat (ts : List (List Nat)) : (sv ts).all flatV = true := List.all_eq_true.mpr fun x hx => by
  obtain ⟨t, _, rfl⟩ := List.mem_map.mp hx
  rfl
theorem sv_app (a b : List (List Nat)) : sv (a ++ b) = sv a ++ sv b := List.map_append
theorem sv_get {ts : List (List Nat)} {i : Nat} {t : List Nat} (h : ts[i]? = some t) : (sv ts)[i]? = some (.str (S t)) := by
  unfold sv
  rw [List.getElem?_map, h]
  rfl
theorem sv_mem {ts : List (List Nat)} {v : V} (h : v ∈ sv ts) : ∃ t, t ∈ ts ∧ v = .str (S t) := by
  obtain ⟨t, h1, h2⟩ := List.mem_map.mp h
  exact ⟨t, h1, h2.symm⟩
theorem str_eqv (a b : List Nat) : eqV (.str (S a)) (.str (S b)) = decide (a = b) := by
  show (S a == S b) = _
  rw [S_beq_eq]
theorem inV_sv (t : List Nat) (ts : List (List Nat)) : inV (.str (S t)) (sv ts) = decide (t ∈ ts) := by
  unfold inV sv
  rw [List.any_map, Bool.eq_iff_iff, decide_eq_true_iff, List.any_eq_true]
  constructor
  · rintro ⟨x, h1, h2⟩
    have e : eqV (.str (S x)) (.str (S t)) = true := h2
    rw [str_eqv] at e
    have := of_decide_eq_true e
    subst this
    exact h1
  · intro h
    exact ⟨t, h, by show eqV (.str (S t)) (.str (S t)) = true; rw [str_eqv]; exact decide_eq_true rfl⟩
theorem sv_erase (ts : List (List Nat)) (k : Nat) : (sv ts).eraseIdx k = sv (ts.eraseIdx k) := by
  unfold sv
  induction ts generalizing k with
  | nil => simp
  | cons t r ih =>
    cases k with
    | zero => simp
    | succ k =>
      have := ih k
      simp_all
theorem sv_take (ts : List (List Nat)) (k : Nat) : (sv ts).take k = sv (ts.take k) := by unfold sv; rw [List.map_take]
theorem sv_strs (ts : List (List Nat)) : sv ts = (ts.map S).map V.str := by unfold sv; rw [List.map_map]; rfl
/-- a function of texts, on values -/
def onS (g : List Nat → List Nat) : V → V
  | .str z => .str (S (g z.cps.toList))
  | v => v
theorem sv_on (g : List Nat → List Nat) (ts : List (List Nat)) : (sv ts).map (onS g) = sv (ts.map g) := by
  unfold sv
  rw [List.map_map, List.map_map]
  rfl
theorem sorted_same {a b : List Str} (ha : sortedS a = true) (hb : sortedS b = true) (h : a.Perm b) : a = b := by
  have up : ∀ l : List Str, sortedS l = true → l.Pairwise (fun x y => x.cps.toList ≤ y.cps.toList) := by
    have go : ∀ (l : List Str) (p : Str), risingS p l = true → (p :: l).Pairwise (fun x y => x.cps.toList ≤ y.cps.toList) := by
      intro l
      induction l with
      | nil => intro p _; simp
      | cons x r ih =>
        intro p h
        have h' : (!ltCps x.cps.toList p.cps.toList && risingS x r) = true := h
        rw [Bool.and_eq_true] at h'
        have hr := ih x h'.2
        have px : p.cps.toList ≤ x.cps.toList := by
          have e := h'.1
          rw [ltCps_eq] at e
          have : decide (x.cps.toList < p.cps.toList) = false := by simpa using e
          exact of_decide_eq_false this
        rw [List.pairwise_cons]
        refine ⟨fun y hy => ?_, hr⟩
        rcases List.mem_cons.mp hy with e | hy
        · rw [e]; exact px
        · exact List.le_trans px ((List.pairwise_cons.mp hr).1 y hy)
    intro l hl
    cases l with
    | nil => exact List.Pairwise.nil
    | cons x r => exact go r x hl
  exact h.eq_of_pairwise (fun x y _ _ h1 h2 => ext_toList (List.le_antisymm h1 h2)) (up a ha) (up b hb)
/-! ### == of lists of texts -/
def dS (ts : List (List Nat)) : List PyData := ts.map fun t => PyData.str (S t)
theorem dp_sv {K : PySem.W.Frag} {H : Hp} : ∀ ts : List (List Nat), DpAll K H (sv ts) (dS ts)
  | [] => .nil
  | t :: r => .cons (.str _) (dp_sv r)
/-- a short text of ASCII signs -/
structure Fine (t : List Nat) : Prop where
  l : t.length ≤ 250
  a : ∀ c ∈ t, c < 128
def Fines (ts : List (List Nat)) : Prop := ∀ t ∈ ts, Fine t
theorem Fines.sub {ts us : List (List Nat)} (h : Fines ts) (k : ∀ t ∈ us, t ∈ ts) : Fines us := fun t ht => h t (k t ht)
theorem IsNm.fine {l : List Nat} (h : IsNm l) : Fine l := ⟨Nat.le_trans h.l1 (by decide), fun c hc => by have := lowD_lt (word_all h.w c hc); omega⟩
theorem Fine.all {t : List Nat} (h : Fine t) : t.all (· < 128) = true := List.all_eq_true.mpr fun c hc => decide_eq_true (h.a c hc)
theorem shaped_dS {ts : List (List Nat)} (hf : Fines ts) : SeqAt.shaped (.list (dS ts)) = true := by
  have go : ∀ l : List (List Nat), Fines l → PyData.canLayAll0 (l.map fun t => PyData.str (S t)) = true ∧ PyData.depthAll (l.map fun t => PyData.str (S t)) ≤ 1 := by
    intro l
    induction l with
    | nil => exact fun _ => ⟨by simp [PyData.canLayAll0], by simp [PyData.depthAll]⟩
    | cons t r ih =>
      intro hl
      have ih := ih (hl.sub fun x hx => List.mem_cons_of_mem _ hx)
      have ht := hl t List.mem_cons_self
      refine ⟨?_, ?_⟩
      · have o : PyData.strOk (S t) = true := by
          show (S t).cps.all (· < 0x110000) = true
          rw [Array.all_eq_true']
          intro c hc
          have := ht.a c (by simpa using hc)
          exact decide_eq_true (by omega)
        rw [List.map_cons, PyData.canLayAll0, ih.1]
        simp [PyData.canLay0, o]
      · have := ih.2
        simp only [List.map_cons, PyData.depthAll, PyData.depth]
        omega
  unfold SeqAt.shaped dS
  have h := go ts hf
  rw [Bool.and_eq_true, PyData.canLay0]
  refine ⟨h.1, decide_eq_true ?_⟩
  simp only [PyData.depth]
  omega
theorem eqv_dS (a b : List (List Nat)) : PyData.eqv (.list (dS a)) (.list (dS b)) = decide (a = b) := by
  rw [PyData.eqv]
  induction a generalizing b with
  | nil => cases b <;> simp [dS, PyData.eqvAll]
  | cons x r ih =>
    cases b with
    | nil => simp [dS, PyData.eqvAll]
    | cons y t =>
      have ih := ih t
      unfold dS at ih ⊢
      rw [List.map_cons, List.map_cons, PyData.eqvAll, ih, PyData.eqv]
      rw [Bool.eq_iff_iff]
      simp
theorem liking_iff {ls ts : List (List Nat)} (nd : ts.Nodup) : (ls.length = ts.length ∧ ∀ t ∈ ts, ls.count t = 1) ↔ ls.Perm ts := by
  constructor
  · rintro ⟨h1, h2⟩
    induction ts generalizing ls with
    | nil => rw [List.length_eq_zero_iff.mp h1]
    | cons t r ih =>
      have ht := h2 t List.mem_cons_self
      have hm : t ∈ ls := List.count_pos_iff.mp (by omega)
      have p := List.perm_cons_erase hm
      have nd' := List.nodup_cons.mp nd
      refine p.trans (List.Perm.cons t (ih nd'.2 (by rw [List.length_erase_of_mem hm, h1]; rfl) fun x hx => ?_))
      have ne : x ≠ t := fun e => nd'.1 (e ▸ hx)
      rw [List.count_erase_of_ne ne]
      exact h2 x (List.mem_cons_of_mem _ hx)
  · intro h
    refine ⟨h.length_eq, fun t ht => ?_⟩
    rw [h.count_eq]
    have := List.nodup_iff_count.mp nd t
    have := List.count_pos_iff.mpr ht
    omega
theorem count_sv (t : List Nat) (ts : List (List Nat)) : (sv ts).countP (fun x => eqV x (.str (S t))) = ts.count t := by
  unfold sv
  rw [List.countP_map, List.count]
  congr 1
  funext x
  show eqV (.str (S x)) (.str (S t)) = (x == t)
  rw [str_eqv, Bool.eq_iff_iff]
  simp
end RK

namespace RK
open PySem PySem.Spec PyProof.Rows L2 SX
def W21 : List (List Nat) := [[116, 111, 119, 110], [116, 104, 105, 110, 103], [108, 97, 110, 100], [97, 108, 108], [115, 101, 116, 116, 108, 101], [119, 104, 105, 108, 101], [117, 110, 116, 105, 108], [105, 102], [101, 108, 115, 101], [101, 97, 99, 104], [97, 102, 108, 111, 97, 116], [107, 101, 112, 116], [97, 110, 121], [102, 117, 108, 108], [110, 111, 116], [115, 101, 97, 115], [105, 116, 48], [115, 101], [105], [102, 114, 101, 101], [108, 97, 110, 100, 101, 100]]
theorem words_eq : ([V.str (Str.ofString "town"), V.str (Str.ofString "thing"), V.str (Str.ofString "land"), V.str (Str.ofString "all"), V.str (Str.ofString "settle"), V.str (Str.ofString "while"), V.str (Str.ofString "until"), V.str (Str.ofString "if"), V.str (Str.ofString "else"), V.str (Str.ofString "each"), V.str (Str.ofString "afloat"), V.str (Str.ofString "kept")] ++ [V.str (Str.ofString "any"), V.str (Str.ofString "full"), V.str (Str.ofString "not"), V.str (Str.ofString "seas"), V.str (Str.ofString "it0"), V.str (Str.ofString "se"), V.str (Str.ofString "i"), V.str (Str.ofString "free"), V.str (Str.ofString "landed")] : List V) = sv W21 := by decide +kernel
theorem w21_nm : ∀ l ∈ W21, IsNm l := by
  have h : W21.all nameL = true := by decide +kernel
  exact fun l hl => nameL_iff.mp (List.all_eq_true.mp h l hl)
theorem lit_a09 : Str.ofString "a09zt" = S [97, 48, 57, 122, 116] := by decide +kernel
theorem lit_quays : Str.ofString "quays" = S [113, 117, 97, 121, 115] := by decide +kernel
theorem lit_sp : Str.ofString " " = S [32] := by decide +kernel
theorem lit_nl : Str.ofString "\n" = S [10] := by decide +kernel
theorem cut7 (l : List Nat) : cutS (S l) none (some 7) = S (l.take 7) := cut_to l 7
theorem cut5 (l : List Nat) : cutS (S l) none (some 5) = S (l.take 5) := cut_to l 5
theorem cut9 (l : List Nat) : cutS (S l) none (some 9) = S (l.take 9) := cut_to l 9
theorem num_S0 (i : Nat) : (((toString (0 + (i : Int))) : String) : Str) = S (TL.numL i) := by
  rw [Int.zero_add]
  exact num_S i
theorem log_ok {i : Nat} (h : i ≤ 1000) : ((0 : Int) + (i : Int)).natAbs.log2 < 1920 := by
  have : ((0 : Int) + (i : Int)).natAbs = i := by omega
  rw [this]
  exact Nat.lt_of_le_of_lt (Nat.log2_le_self i) (by omega)
theorem num_fine {k : Nat} : ∀ c ∈ TL.numL k, lowD c = true := fun c hc => by
  have h : 48 ≤ c ∧ c ≤ 57 := by
    have := TL.numL_digits k
    first | exact this c hc | exact List.all_eq_true.mp this c hc
  unfold lowD
  rw [decide_eq_true h.1, decide_eq_true h.2]
  simp
theorem nm_dig {m : List Nat} {k : Nat} (w : word m = true) (hm : m.length ≤ 5) (hk : k < 1000) : IsNm (m ++ TL.numL k) := by
  have hl := TL.numL_len (n := k) (k := 3) (by decide) hk
  have last : ∀ c, (m ++ TL.numL k).getLast? = some c → 48 ≤ c ∧ c ≤ 57 := by
    intro c hc
    have hm : c ∈ TL.numL k := by
      rw [List.getLast?_append] at hc
      cases e : (TL.numL k).getLast? with
      | none => exact absurd (List.getLast?_eq_none_iff.mp e) (TL.numL_ne k)
      | some d =>
        rw [e] at hc
        have : d = c := by simpa using hc
        subst this
        exact List.mem_of_getLast? e
    have := TL.numL_digits k
    first | exact this c hm | exact List.all_eq_true.mp this c hm
  refine ⟨word_app w fun c hc => num_fine c hc, by rw [List.length_append]; omega, fun e => ?_, fun e => ?_⟩
  · have := last 97 (by rw [e]; rfl)
    omega
  · have := last 116 (by rw [e]; rfl)
    omega
theorem pigeon {ts : List (List Nat)} {m : List Nat} (h : ∀ j, j < ts.length + 1 → (m ++ TL.numL j) ∈ ts) : False := by
  have nd : ((List.range (ts.length + 1)).map fun j => m ++ TL.numL j).Nodup := by
    unfold List.Nodup
    rw [List.pairwise_map]
    exact List.Pairwise.imp (fun {a b} ne e => ne (TL.numL_inj (List.append_cancel_left e))) List.nodup_range
  have := nd.length_le_of_subset fun x hx => by
    obtain ⟨j, hj, rfl⟩ := List.mem_map.mp hx
    exact h j (List.mem_range.mp hj)
  rw [List.length_map, List.length_range] at this
  omega
end RK

namespace RK
open PySem PySem.Spec PyProof.Rows L2 SX
theorem signs_S (l : List Nat) : signs (S l) = sv (l.map fun c => [c]) := by
  unfold signs sv
  rw [List.map_map]
  rfl
theorem one_get {ls : List Nat} {i : Nat} {c : Nat} (h : ls[i]? = some c) : (sv (ls.map fun c => [c]))[i]? = some (.str (S [c])) := sv_get (by rw [List.getElem?_map, h]; rfl)
theorem one_len (ls : List Nat) : (sv (ls.map fun c => [c])).length = ls.length := by rw [sv_len, List.length_map]
theorem one_erase (ls : List Nat) (k : Nat) : (sv (ls.map fun c => [c])).eraseIdx k = sv ((ls.eraseIdx k).map fun c => [c]) := by
  rw [sv_erase]
  congr 1
  induction ls generalizing k with
  | nil => simp
  | cons t r ih =>
    cases k with
    | zero => simp
    | succ k =>
      have := ih k
      simp_all
theorem nd_erase {ls : List Nat} {k : Nat} {c : Nat} (nd : ls.Nodup) (h : ls[k]? = some c) : c ∉ ls.eraseIdx k ∧ (ls.eraseIdx k).Nodup ∧ (∀ x ∈ ls.eraseIdx k, x ∈ ls) := by
  have hk := (List.getElem?_eq_some_iff.mp h).1
  refine ⟨fun hm => ?_, nd.sublist (List.eraseIdx_sublist ls k), fun x hx => (List.eraseIdx_sublist ls k).subset hx⟩
  obtain ⟨i, hi, ne, e⟩ := List.mem_eraseIdx_iff_getElem.mp hm
  exact ne (nd_ix nd (List.getElem?_eq_some_iff.mpr ⟨hi, e⟩) h)
theorem rep_cons {r : Nat} (hr : 1 ≤ r) (c : Nat) : rep r [c] = c :: rep (r - 1) [c] := by
  obtain ⟨k, rfl⟩ : ∃ k, r = k + 1 := ⟨r - 1, by omega⟩
  rw [rep_succ]
  rfl
theorem rep_mem {r c x : Nat} (h : x ∈ rep r [c]) : x = c := by
  induction r with
  | zero => simp [rep] at h
  | succ r ih =>
    rw [rep_succ] at h
    rcases List.mem_append.mp h with h | h
    · exact List.mem_singleton.mp h
    · exact ih h
theorem mid_ne {m d : List Nat} {a b r q : Nat} (hr : 1 ≤ r) (hq : 1 ≤ q) (h : m ++ rep r [a] ++ d = m ++ rep q [b] ++ d) : a = b := by
  rw [List.append_assoc, List.append_assoc] at h
  have h := List.append_cancel_left h
  rw [rep_cons hr, rep_cons hq] at h
  exact (List.cons.inj h).1
/-- a name made of one sign within a stem -/
theorem mid_nm {st : List Nat} {a r c : Nat} (hs : (st = [] ∧ 1 ≤ r ∧ r ≤ 8) ∨ (word st = true ∧ 4 ≤ st.length ∧ st.length ≤ 7 ∧ r = 1)) (hc : low c = true) : IsNm (st.take a ++ rep r [c] ++ st.drop a) := by
  have hr : 1 ≤ r := by rcases hs with ⟨_, h, _⟩ | ⟨_, _, _, h⟩ <;> omega
  have ln : (st.take a ++ rep r [c] ++ st.drop a).length = st.length + r := by
    rw [List.length_append, List.length_append, rep_len, List.length_take, List.length_drop]
    simp
    omega
  have all : ∀ x ∈ st, lowD x = true := by
    rcases hs with ⟨rfl, _⟩ | ⟨w, _⟩
    · intro x hx; simp at hx
    · exact word_all w
  have wd : word (st.take a ++ rep r [c] ++ st.drop a) = true := by
    have w1 : word (rep r [c] ++ st.drop a) = true := by
      rw [rep_cons hr]
      show (low c && ((c :: (rep (r - 1) [c] ++ st.drop a)).all lowD)) = true
      rw [hc, Bool.true_and, List.all_eq_true]
      intro x hx
      rcases List.mem_cons.mp hx with e | hx
      · rw [e]; exact low_lowD hc
      rcases List.mem_append.mp hx with hx | hx
      · rw [rep_mem hx]; exact low_lowD hc
      · exact all x (List.mem_of_mem_drop hx)
    rw [List.append_assoc]
    by_cases ha : (st.take a) = []
    · rw [ha]; exact w1
    · rcases hs with ⟨rfl, _⟩ | ⟨w, _⟩
      · simp at ha
      · refine word_app (word_take w ?_) (word_all w1)
        cases a with
        | zero => simp at ha
        | succ a => omega
  refine ⟨wd, by rw [ln]; rcases hs with ⟨rfl, h1, h2⟩ | ⟨_, h1, h2, h3⟩; · show 0 + r ≤ 8; omega
                 · omega, fun e => ?_, fun e => ?_⟩
  · rcases hs with ⟨rfl, h1, h2⟩ | ⟨_, h1, h2, h3⟩
    · simp at e
      have h115 : (115 : Nat) = c := rep_mem (r := r) (by rw [e]; simp)
      have h101 : (101 : Nat) = c := rep_mem (r := r) (by rw [e]; simp)
      omega
    · have := congrArg List.length e
      rw [ln] at this
      simp at this
      omega
  · rcases hs with ⟨rfl, h1, h2⟩ | ⟨_, h1, h2, h3⟩
    · simp at e
      have h115 : (105 : Nat) = c := rep_mem (r := r) (by rw [e]; simp)
      have h101 : (116 : Nat) = c := rep_mem (r := r) (by rw [e]; simp)
      omega
    · have := congrArg List.length e
      rw [ln] at this
      simp at this
      omega
theorem rep_one (c : Nat) : rep 1 [c] = [c] := rfl
end RK

namespace RK
open PySem PySem.Spec PyProof.Rows L2 SX
theorem lit_dg : Str.ofString "0123456789" = S [48, 49, 50, 51, 52, 53, 54, 55, 56, 57] := by decide +kernel
def badL : List Nat := [10, 32, 33, 34, 35, 36, 38, 39, 40, 41, 42, 43, 44, 45, 46, 47, 58, 59, 60, 61, 62, 63, 64, 65, 77, 90, 91, 92, 93, 94, 95, 96, 123, 124, 125, 126]
theorem lit_bad : Str.ofString "\n !\"#$&'()*+,-./:;<=>?@AMZ[\\]^_`{|}~" = S badL := by decide +kernel
theorem not_word_head {c : Nat} {r : List Nat} (h : low c = false) : ¬ IsNm (c :: r) := fun z => by
  have : (low c && (c :: r).all lowD) = true := z.w
  rw [h] at this
  exact Bool.noConfusion this
theorem not_nm_bad {l : List Nat} {c : Nat} (hc : c ∈ l) (h : lowD c = false) : ¬ IsNm l := fun z => by
  have := word_all z.w c hc
  rw [h] at this
  exact Bool.noConfusion this
theorem rep_sub {n : Nat} {l : List Nat} {x : Nat} (h : x ∈ rep n l) : x ∈ l := by
  induction n with
  | zero => simp [rep] at h
  | succ r ih =>
    rw [rep_succ] at h
    rcases List.mem_append.mp h with h | h
    · exact h
    · exact ih h
theorem up_fine {t : List Nat} (h : Fine t) : Fine (t.map up1) := ⟨by rw [List.length_map]; exact h.l, fun c hc => by
  obtain ⟨d, hd, rfl⟩ := List.mem_map.mp hc
  have := h.a d hd
  unfold up1
  split <;> omega⟩
theorem up_not {t : List Nat} (h : IsNm t) : ¬ IsNm (t.map up1) := by
  have w := h.w
  cases t with
  | nil => exact absurd rfl h.ne
  | cons c r =>
    unfold word at w
    have hc := (Bool.and_eq_true _ _ ▸ w).1
    refine not_word_head ?_
    unfold low at hc ⊢
    rw [Bool.and_eq_true, decide_eq_true_iff, decide_eq_true_iff] at hc
    unfold up1
    rw [if_pos hc]
    rw [decide_eq_false (by omega)]
    rfl
theorem up_inj {t u : List Nat} (ht : ∀ c ∈ t, lowD c = true) (hu : ∀ c ∈ u, lowD c = true) (h : t.map up1 = u.map up1) : t = u := by
  induction t generalizing u with
  | nil =>
    cases u with
    | nil => rfl
    | cons c r => simp at h
  | cons a r ih =>
    cases u with
    | nil => simp at h
    | cons c s =>
      rw [List.map_cons, List.map_cons] at h
      have h1 := List.cons.inj h
      have e := ih (fun x hx => ht x (List.mem_cons_of_mem _ hx)) (fun x hx => hu x (List.mem_cons_of_mem _ hx)) h1.2
      have ha := ht a List.mem_cons_self
      have hc := hu c List.mem_cons_self
      have : a = c := by
        unfold lowD low at ha hc
        simp at ha hc
        have h2 := h1.1
        unfold up1 at h2
        split at h2 <;> split at h2 <;> omega
      rw [e, this]
theorem nd_map {ts : List (List Nat)} {g : List Nat → List Nat} (nd : ts.Nodup) (h : ∀ t ∈ ts, ∀ u ∈ ts, g t = g u → t = u) : (ts.map g).Nodup := by
  unfold List.Nodup at nd ⊢
  rw [List.pairwise_map]
  exact List.Pairwise.imp_of_mem (fun {a b} ha hb ne e => ne (h a ha b hb e)) nd
theorem nd_set {ts : List (List Nat)} {j : Nat} (nd : ts.Nodup) (h : ∀ t ∈ ts, t ≠ []) : (ts.set j []).Nodup := by
  induction ts generalizing j with
  | nil => simpa using nd
  | cons t r ih =>
    have n2 := List.nodup_cons.mp nd
    cases j with
    | zero =>
      show ([] :: r : List (List Nat)).Nodup
      exact List.nodup_cons.mpr ⟨fun hm => h [] (List.mem_cons_of_mem _ hm) rfl, n2.2⟩
    | succ j =>
      show (t :: r.set j []).Nodup
      refine List.nodup_cons.mpr ⟨fun hm => ?_, ih n2.2 fun x hx => h x (List.mem_cons_of_mem _ hx)⟩
      rcases List.mem_or_eq_of_mem_set hm with hm | e
      · exact n2.1 hm
      · exact h t List.mem_cons_self e
theorem sv_set (ts : List (List Nat)) (j : Nat) (t : List Nat) : (sv ts).set j (.str (S t)) = sv (ts.set j t) := by unfold sv; rw [List.map_set]
theorem nm_fines {ts : List (List Nat)} (h : ∀ t ∈ ts, IsNm t) : Fines ts := fun t ht => (h t ht).fine
theorem sv_nonempty {ts : List (List Nat)} (h : (0 : Int) < ((sv ts).length : Nat)) : sv ts ≠ [] := fun e => by
  rw [e] at h
  exact absurd h (by decide)
end RK

namespace RK
open PySem PySem.Spec PyProof.Rows L2 SX
theorem xtp {X : Cx} {op : CmpOp} {a b : Expr} {t : TE} {pos : Pos} (h : PC X op a b t) (h1 : behindInMarks op b = false := by rfl) : PT X (.Compare a [op] [b] pos) (xT t) := by
  rw [xT_eq]; exact pt_cmp h h1
theorem perm_pick {α : Type} {l : List α} {i : Nat} {x : α} (h : l[i]? = some x) : (x :: l.eraseIdx i).Perm l := by
  induction l generalizing i with
  | nil => simp at h
  | cons a r ih =>
    cases i with
    | zero =>
      have : a = x := Option.some.inj h
      subst this
      exact List.Perm.refl _
    | succ i => exact (List.Perm.swap a x _).trans (List.Perm.cons a (ih (i := i) h))
/-- a comprehension over a range, its element drawn -/
theorem lc_rng {lo : Int} {n j : Nat} {te : TE} {vs : List Nat} {σ : L2.St} {H1 : Hp} {D : Addr} {Qd : Hp → Prop} (Pv : Nat → Hp → Prop) (hw : ∀ x : V, wipe ((wipe σ vs).set j (some x)) vs = wipe σ vs) (h0 : Pv 0 (upd H1 D (.lst [])))
    (hs : ∀ i H, i < n → Pv i H → te ((wipe σ vs).set j (some (.int (lo + i)))) H fun y H4 => ∃ acc, H4 D = some (.lst acc) ∧ acc.length < sizeLine ∧ Pv (i + 1) (upd H4 D (.lst (acc ++ [y])))) (hd : ∀ H, Pv n H → Qd H) :
    ∃ W : Nat → Nat → Hp → Prop, (∃ m, W 0 m (upd H1 D (.lst []))) ∧ ∀ i m H, W i m H →
      ((Itr lo n).stop i H ∧ Qd H) ∨ ((Itr lo n).go i H ∧ ∃ Nx : Hp → Prop, (∀ H', Nx H' → ∃ m', m' < m ∧ W (i + 1) m' H') ∧ ∀ x H', (Itr lo n).yld i H x H' → gName j x (wipe σ vs) H' fun σ2 H2 => wipe σ2 vs = wipe σ vs ∧ tYes σ2 H2 fun b H3 =>
        if b = true then te σ2 H3 fun y H4 => ∃ acc, H4 D = some (.lst acc) ∧ acc.length < sizeLine ∧ Nx (upd H4 D (.lst (acc ++ [y]))) else Nx H3) := by
  refine lc_range (lo := lo) (n := n) Pv h0 (fun i H hi hP => ?_) hd
  refine ⟨hw _, ?_⟩
  simp only [tYes, ↓reduceIte]
  exact hs i H hi hP
/-- the least index at which an item was there before, or none -/
def FD (ts : List (List Nat)) (v : V) : Prop := (v = .non ∧ ts.Nodup) ∨ ∃ (i : Nat) (t : List Nat), ts[i]? = some t ∧ t ∈ ts.take i ∧ (ts.take i).Nodup ∧ v = .str (S t)
theorem nd_snoc' {ts : List (List Nat)} {i : Nat} {t : List Nat} (h : ts[i]? = some t) (nd : (ts.take i).Nodup) (no : t ∉ ts.take i) : (ts.take (i + 1)).Nodup := by
  rw [List.take_add_one, h]
  exact List.nodup_append.mpr ⟨nd, by simp, fun a ha b hb e => no (by
    have : b = t := by simpa using hb
    rw [← this, ← e]; exact ha)⟩
theorem FD.inj {ts : List (List Nat)} {v w : V} (a : FD ts v) (b : FD ts w) : v = w := by
  have dup : ∀ {i : Nat} {t : List Nat}, ts[i]? = some t → t ∈ ts.take i → ¬ (ts.take (i + 1)).Nodup := by
    intro i t h hm nd
    rw [List.take_add_one, h] at nd
    have := (List.nodup_append.mp nd).2.2 t hm t (by simp)
    exact this rfl
  have sub : ∀ {i k : Nat}, i ≤ k → (ts.take k).Nodup → (ts.take i).Nodup := fun {i k} hik nd => nd.sublist (by
    rw [show ts.take i = (ts.take k).take i by rw [List.take_take, Nat.min_eq_left hik]]
    exact List.take_sublist _ _)
  rcases a with ⟨rfl, nd⟩ | ⟨i, t, h1, h2, h3, rfl⟩
  · rcases b with ⟨rfl, _⟩ | ⟨i, t, h1, h2, h3, rfl⟩
    · rfl
    · exact (dup h1 h2 (nd.sublist (List.take_sublist _ _))).elim
  · rcases b with ⟨rfl, nd⟩ | ⟨k, u, g1, g2, g3, rfl⟩
    · exact (dup h1 h2 (nd.sublist (List.take_sublist _ _))).elim
    · have : i = k := by
        rcases Nat.lt_trichotomy i k with h | h | h
        · exact (dup h1 h2 (sub h g3)).elim
        · exact h
        · exact (dup g1 g2 (sub h h3)).elim
      subst this
      rw [h1] at g1
      rw [Option.some.inj g1]
/-- two values that hold the same data -/
def Rep (H : Hp) : Nat → V → V → Prop
  | _, .non, .non => True
  | _, .bl a, .bl b => a = b
  | _, .int i, .int j => i = j
  | _, .str a, .str b => a = b
  | n + 1, .ref a, .ref b => (∃ xs ys, H a = some (.lst xs) ∧ H b = some (.lst ys) ∧ xs.length = ys.length ∧ ys.length ≤ 1000000 ∧ ∀ (k : Nat) x y, xs[k]? = some x → ys[k]? = some y → Rep H n x y) ∨
      (∃ xs ys, H a = some (.tup xs) ∧ H b = some (.tup ys) ∧ xs.length = ys.length ∧ ys.length ≤ 1000000 ∧ ∀ (k : Nat) x y, xs[k]? = some x → ys[k]? = some y → Rep H n x y)
  | _, _, _ => False
theorem FD.rep {ts : List (List Nat)} {v w : V} {H : Hp} (a : FD ts v) (b : FD ts w) : Rep H 7 v w := by
  have e := a.inj b
  subst e
  rcases a with ⟨rfl, _⟩ | ⟨i, t, _, _, _, rfl⟩
  · exact True.intro
  · exact rfl
theorem first_at : ∀ {ts : List (List Nat)} {k : Nat} {t : List Nat}, ts[k]? = some t → ∃ j, j ≤ k ∧ ts[j]? = some t ∧ ∀ m, m < j → ts[m]? ≠ some t
  | [], _, _, h => by simp at h
  | a :: r, k, t, h => by
    by_cases e : a = t
    · subst e
      exact ⟨0, Nat.zero_le _, rfl, fun m hm => absurd hm (Nat.not_lt_zero m)⟩
    · cases k with
      | zero => exact absurd (Option.some.inj h) e
      | succ k =>
        obtain ⟨j, h1, h2, h3⟩ := first_at (ts := r) (k := k) (t := t) h
        refine ⟨j + 1, by omega, h2, fun m hm => ?_⟩
        cases m with
        | zero => exact fun z => e (Option.some.inj z)
        | succ m => exact h3 m (by omega)
theorem mem_take_iff {ts : List (List Nat)} {k : Nat} {t : List Nat} : t ∈ ts.take k ↔ ∃ m, m < k ∧ ts[m]? = some t := by
  rw [List.mem_iff_getElem?]
  constructor
  · rintro ⟨m, hm⟩
    rw [List.getElem?_take] at hm
    split at hm
    · exact ⟨m, ‹_›, hm⟩
    · cases hm
  · rintro ⟨m, h1, h2⟩
    exact ⟨m, by rw [List.getElem?_take, if_pos h1]; exact h2⟩
theorem sv_us {ys : List Str} : ys.map V.str = sv (ys.map fun z => z.cps.toList) := by
  unfold sv
  rw [List.map_map]
  congr 1
theorem eqv_self (ts : List (List Nat)) : PyData.eqv (.list (dS ts)) (.list (dS ts)) = true := by rw [eqv_dS]; exact decide_eq_true rfl
/-- a function that is never called -/
theorem fn_never {P : Program} {w : World} {K : PySem.W.Frag} {mg : Str → Option Value} {base : Heap} {CX : CXT} {k : Nat} {f : Addr} {fd : FuncData} {ps : List Str} : FnOk P w K mg base CX k f fd ps (fun _ _ _ _ => False) :=
  ⟨fun _ _ _ _ h => h.elim, fun _ _ _ _ _ _ _ _ _ _ _ _ _ h => h.elim⟩
/-- a test of texts, on values -/
def onP (g : List Nat → Bool) : V → Bool
  | .str z => g z.cps.toList
  | _ => false
theorem sv_filter (g : List Nat → Bool) (ts : List (List Nat)) : (sv ts).filter (onP g) = sv (ts.filter g) := by
  unfold sv
  rw [List.filter_map]
  rfl
end RK

namespace RK
open PySem PySem.Spec PyProof.Rows L2 SX
theorem lit_new : Str.ofString "new" = S [110, 101, 119] := by decide +kernel
theorem join_tC {x y : V} {σ : L2.St} {H : Hp} {Q : VK} {c : Bool} (h : ∀ v, (v = x ∨ v = y) → Q v H) : (c = true → tC x σ H Q) ∧ (c = false → tC y σ H Q) := ⟨fun _ => h x (.inl rfl), fun _ => h y (.inr rfl)⟩
theorem sv_back {ys : List V} {ts us : List (List Nat)} (hm : ∀ y ∈ ys, y ∈ sv ts ∨ y ∈ sv us) (hf : Fines ts) (hu : Fines us) : ∃ zs, ys = sv zs ∧ Fines zs := by
  induction ys with
  | nil => exact ⟨[], rfl, fun t ht => by simp at ht⟩
  | cons y r ih =>
    obtain ⟨zs, e, f⟩ := ih fun z hz => hm z (List.mem_cons_of_mem _ hz)
    have : ∃ t, y = .str (S t) ∧ Fine t := by
      rcases hm y List.mem_cons_self with h | h
      · obtain ⟨t, ht, e2⟩ := sv_mem h
        exact ⟨t, e2, hf t ht⟩
      · obtain ⟨t, ht, e2⟩ := sv_mem h
        exact ⟨t, e2, hu t ht⟩
    obtain ⟨t, e2, ft⟩ := this
    exact ⟨t :: zs, by rw [e, e2]; rfl, fun z hz => (List.mem_cons.mp hz).elim (fun h => h ▸ ft) (f z)⟩
theorem sv_inj {a b : List (List Nat)} (h : sv a = sv b) : a = b := by
  have e : ∀ l : List (List Nat), (sv l).map (fun v => match v with | .str z => z.cps.toList | _ => []) = l := by
    intro l
    unfold sv
    rw [List.map_map]
    exact List.map_id l
  rw [← e a, ← e b, h]
theorem sv_perm {ys : List V} {ts : List (List Nat)} (h : ys.Perm (sv ts)) : ∃ us, ys = sv us ∧ us.Perm ts := by
  have e : ∀ l : List (List Nat), (sv l).map (fun v => match v with | .str z => z.cps.toList | _ => []) = l := by
    intro l
    unfold sv
    rw [List.map_map]
    exact List.map_id l
  refine ⟨ys.map (fun v => match v with | .str z => z.cps.toList | _ => []), ?_, ?_⟩
  · unfold sv
    rw [List.map_map]
    refine (List.map_id ys).symm.trans (List.map_congr_left fun y hy => ?_)
    obtain ⟨t, _, rfl⟩ := sv_mem (h.mem_iff.mp hy)
    rfl
  · have := h.map (fun v => match v with | .str z => z.cps.toList | _ => [])
    rw [e] at this
    exact this
theorem sv_rev (ts : List (List Nat)) : (sv ts).reverse = sv ts.reverse := by unfold sv; rw [List.map_reverse]
theorem sv_one (t : List Nat) : [V.str (S t)] = sv [t] := rfl
end RK

namespace RK
open PySem PySem.Spec PyProof.Rows L2 L2H HotX

/-! ### a list walked while an error is handled -/
section
variable {prog : Program} {w : World} {A : Around} {E : Value → Shared → Prop} {s : Shared}
/-- the end of a list iterator: StopIteration gets the handled error as its context, and is thrown away -/
theorem hot_listEnd {j l y1 : Addr} {i : Nat} {its : Array Value} {Q : Option Value → Shared → Prop} (hot : HotAt A y1 s.heap) (hj : s.heap.IsListIter j l i) (hl : s.heap.IsList l its) (out : its[i]? = none) (ny : y1 ≠ j)
    (q : ∀ h2, (∀ b o, b ≠ j → s.heap.get? b = some o → h2.get? b = some o) → Q none { s with heap := h2 }) : wpAny (model prog w) A (pyNext (.ref j)) Q E s := by
  obtain ⟨oj, gj, cj, dj⟩ := id hj
  obtain ⟨ol, gl, _, kl, dl⟩ := hl
  obtain ⟨hh, o1, v1, g1, d1, c1⟩ := hot
  unfold pyNext
  refine wpAny_bind (wpAny_attempt (wpAny_callSpecial?_slot (name := Str.ofString "__next__") hj.typeIs slot_listiter_next (wpAny_call_entry slot_listiter_next hj.typeIs entry_listiter_next ?_ (args_listiter_next _))))
  show wpAny _ _ (do let u ← field (.ref j) 0; _) _ _ s
  refine wpAny_bind (wpAny_field gj dj (x := .ref l) rfl ?_)
  show wpAny _ _ (ite ((Value.ref l == Value.none) = true) _ _) _ _ s
  rw [if_neg (fun z => by cases z)]
  show wpAny _ _ (do let u ← field (.ref j) 1; _) _ _ s
  refine wpAny_bind (wpAny_field gj dj (x := .int i 0) rfl ?_)
  show wpAny _ _ (do let u ← seqItems? (.ref l); _) _ _ s
  refine wpAny_bind (wpAny_seqItems gl dl ?_)
  simp only [Int.toNat_natCast, out]
  refine wpAny_bind (wpAny_rule (wpAny_bind (wpAny_setField gj dj (by simp) ?_)))
  have g1' := (Heap.get?_update_other s.heap (Obj.mapFields (·.setIfInBounds 0 Value.none)) (Ne.symm ny)).trans g1
  show wpAny _ _ (do let u ← newExc (.type "StopIteration") []; _) _ _ _
  refine wpAny_bind ?_
  simp only [newExc, newTuple]
  refine wpAny_bind (wpAny_newObj_type ?_ (by size_fits))
  refine wpAny_bind (m := firstArgMember _ _) (wpAny_of_eq (a := Value.none) (by first | rfl | (simp only [firstArgMember]; rfl)) ?_)
  refine wpAny_newObj_type ?_ (by size_fits)
  refine raiseNew_hot ⟨hh, o1, v1, Heap.get?_push_of_some _ (Heap.get?_push_of_some _ g1'), d1, c1⟩ (Nat.ne_of_lt (Heap.lt_size (Heap.get?_push_of_some _ g1'))) (Heap.get?_push_size _ rfl) rfl
    (by first | (simp; done) | (simp; omega) | (simp only [Array.size_append]; simp; omega)) ?_
  refine wpAny_bind (wpAny_isInstance (T := "StopIteration") (b := true) ⟨_, Heap.get?_update_self _ (Heap.get?_push_size _ rfl) rfl, rfl⟩ isSubtype_stop ?_)
  refine wpAny_pure (q _ fun b o nb gb => ?_)
  have gb' := (Heap.get?_update_other s.heap (Obj.mapFields (·.setIfInBounds 0 Value.none)) (Ne.symm nb)).trans gb
  rw [Heap.get?_update_other _ _ (Nat.ne_of_gt (Heap.lt_size (Heap.get?_push_of_some _ gb')))]
  exact Heap.get?_push_of_some _ (Heap.get?_push_of_some _ gb')
end

section
variable {X : Cx} {tg : Expr}
theorem hot_turnL {P : Program} {w : World} {K : PySem.W.Frag} (a j : Addr) : TurnH P w K tg (Itl K a) [j] j (fun i h => h.IsListIter j a i) where
  mem := List.mem_singleton.mpr rfl
  obj := fun i h ij b hb => by
    cases List.mem_singleton.mp hb
    obtain ⟨oj, gj, cj, dj⟩ := ij
    exact ⟨oj, gj, fun v z => by rw [dj] at z; cases z⟩
  keep := fun i h h2 ij k => ij.at fun o e => k j (List.mem_singleton.mpr rfl) o e
  item := by
    intro X hP hw hK hc i pn s σ H E I own ij go
    subst hP hw hK
    obtain ⟨zs, z, lz, iz⟩ := go
    obtain ⟨us, vz, pl, _⟩ := I.list lz
    obtain ⟨u, iu, ru⟩ := vz.get iz
    obtain ⟨n0, n1, n2, n3, n4, n5⟩ := own j (List.mem_singleton.mpr rfl)
    refine wpAny_pyNext_list_item ij pl.isList (x := u) (by simpa using iu) fun h2 ij2 sb => ?_
    obtain ⟨oj, gj, cj, dj⟩ := id ij2
    refine ⟨u, rfl, go_of (s := { s with heap := h2 }) gj cj dj (by decide) ⟨z, H, ?_, ru, ⟨rfl, fun ys ly => by rw [I.list_inj ly lz]; exact iz⟩, ij2, fun b hb => (own b hb).1⟩⟩
    exact I.turned (t' := s.toks) (fun b o nb e => (sb.2 b nb).trans e) n0 n1 n3 n4 n5
  done := by
    intro X hP hw hK hc i pn s σ H E I own ij stop
    subst hP hw hK
    obtain ⟨zs, lz, iz⟩ := stop
    obtain ⟨us, vz, pl, _⟩ := I.list lz
    obtain ⟨n0, n1, n2, n3, n4, n5⟩ := own j (List.mem_singleton.mpr rfl)
    have len := vz.length
    obtain ⟨p, ⟨hh, v1, e1, c1⟩, hp⟩ := hc
    have gp := (I.pin p (List.mem_append_left _ hp)).1
    exact hot_listEnd (y1 := p.1) ⟨hh, p.2, v1, gp, e1, c1⟩ ij pl.isList (by simp; omega) (n5 p (List.mem_append_left _ hp)) fun h2 kk => ⟨rfl, I.turned (t' := s.toks) kk n0 n1 n3 n4 n5⟩
  self := fun _ _ _ _ _ ij q => wpAny_pyIter_listiter ij q
theorem hot_itL {l : Expr} {tl : TE} (hl : PE X l tl) : PIH X tg l (iList X.K tl) := ⟨fun pn s σ H R I h => by
  refine thn (hl.run pn s σ H _ I h) fun v s1 ⟨x, H1, J, rx, a, ea, ⟨zs, lz⟩, q⟩ => ?_
  subst ea
  cases rx
  obtain ⟨us, _, pl, _⟩ := J.list lz
  refine wpAny_pyIter_list pl.isList ⟨s1.heap.objs.size, [s1.heap.objs.size], _, _, H1, rfl, J.kept (t' := s1.toks) fun b o e => Heap.get?_push_of_some _ e, hot_turnL a _, ⟨_, Heap.get?_push_size _ rfl, rfl, rfl⟩, fun b hb => ?_, q⟩
  cases List.mem_singleton.mp hb
  exact J.fpOk (Nat.le_refl _) (J.hok.fresh (Nat.le_refl _))⟩
end
end RK

namespace RK
open PySem PySem.Spec PyProof.Rows L2 L2H HotX

/-! ### a list comprehension while an error is handled -/
/-- its block: the pins of the def stay -/
abbrev blkP (X : Cx) (s : Shared) (H : Hp) (sc : Scope) (ce : Env) (fp : List Addr) : Cx := { X.blk s H sc ce fp with pn := X.pn }
section
variable {X : Cx}
theorem blkP_hot {s : Shared} {H : Hp} {sc : Scope} {ce : Env} {fp : List Addr} (hc : HotC X) : HotC (blkP X s H sc ce fp) := hc
theorem blkP_inv {s s1 : Shared} {H H1 : Hp} {sc : Scope} {ce : Env} {fp : List Addr} {σ : L2.St} (J : Inv (X.blk s H sc ce fp) [] σ H1 s1)
    (pin : ∀ p ∈ X.pn, s1.heap.get? p.1 = some p.2 ∧ H1 p.1 = none ∧ p.1 ≠ ce.locals ∧ p.1 ∉ frs X.stack ∧ ∀ v, p.2.data ≠ .cell v) : Inv (blkP X s H sc ce fp) [] σ H1 s1 where
  ok := ⟨J.ok.mod, J.ok.kind, J.ok.glob, J.ok.blt, J.ok.above, J.ok.inj, J.ok.has, J.ok.cab, J.ok.hd, J.ok.frames, J.ok.stk, J.ok.exf, J.ok.bs, J.ok.bsz, J.ok.noex, J.ok.exfs, J.ok.funs, J.ok.frf⟩
  os := J.os
  bare := J.bare
  base := J.base
  loc := J.loc
  cell := J.cell
  free := J.free
  freeC := J.freeC
  pin := fun p hp => pin p (by simpa using hp)
  hok := J.hok
  len := J.len
/-- the first state of the block -/
theorem blkP_start {s : Shared} {H : Hp} {σ : L2.St} {pn : List (Addr × Obj)} {sc : Scope} {own : List (Str × Nat)} {fp : List Addr} (I : Inv X pn σ H s) (ok : BlkOk X.N X.env.scope sc own) (nd : X.N.Nodup) (hfp : ∀ b ∈ fp, FpOk X pn H b ∧ b < s.heap.objs.size) :
    Inv (blkP X s H sc (compEnvC sc (cellsFrom (s.heap.objs.size + 1) sc.names (cloFrom X.env.cells sc.names [])) s.heap.objs.size X.env) fp) [] (wipe σ (own.map (·.2))) H
      { s with heap := pushCells (s.heap.push { cls := .type "dict", data := .dict #[] }) sc.names } := by
  refine blkP_inv (block_start I ok nd hfp) fun p hp => ?_
  obtain ⟨g, n, nl, nf, nc⟩ := I.pin p (List.mem_append_left _ hp)
  refine ⟨pushCells_keeps _ _ _ _ (Heap.get?_push_of_some _ g), n, Nat.ne_of_lt (Heap.lt_size g), fun z => ?_, nc⟩
  rcases List.mem_cons.mp (I.stkSub _ z) with z | z
  · exact nl z
  · exact nf z
theorem hot_lc {elt tg iter : Expr} {ifs : List Expr} {sc : Scope} {own : List (Str × Nat)} {pos : Pos} {wi : TI} {g : TG} {tt : TT} {te : TE} (hc : HotC X) (nd : X.N.Nodup) (hi : PIH X tg iter wi) (ok : BlkOk X.N X.env.scope sc own)
    (hg : ∀ s H C cl fp, PG (blkP X s H sc (compEnvC sc cl C X.env) fp) tg g) (ht : ∀ s H C cl fp, PTs (blkP X s H sc (compEnvC sc cl C X.env) fp) ifs tt) (he : ∀ s H C cl fp, PE (blkP X s H sc (compEnvC sc cl C X.env) fp) elt te)
    (hs : ∀ x, foldedSetIterable iter X.env x = pure x := by intro _; rfl) : PE X (.ListComp elt [⟨tg, iter, ifs, 0⟩] sc pos) (tLc wi g tt te (own.map (·.2))) := by
  refine ⟨fun pn s0 σ H0 Q I0 h => ?_⟩
  rw [eval_ListComp]
  have hfree : ∀ y ∈ sc.names, y.2 = .free → ∃ c, X.env.cells.lookup y.1 = some c := fun y hy e => (ok.free y hy e).elim (fun k => I0.ok.has _ (.inl k)) fun k => I0.ok.has _ (.inr k)
  refine wpAny_comprehension_free (use := none) rfl hs (closure_ok hfree) ok.kind (fun y hy e => (ok.uniq y hy).trans (congrArg some e)) (thn (hi.run pn s0 σ H0 _ I0 h) fun xv s1 hx => thn hx fun iv s2 got => ?_)
  obtain ⟨j, fp, tn, J, H2, rfl, I2, T, st2, fp2, q⟩ := got
  refine wpAny_newObj_type (newEnv_comp ?_) (by show 0 ≤ sizeLine; decide)
  have nD : H2 s2.heap.objs.size = none := I2.hok.fresh (Nat.le_refl _)
  obtain ⟨W, ⟨m0, w0⟩, turn⟩ := q s2.heap.objs.size nD
  generalize eD : s2.heap.objs.size = D at *
  generalize e3 : ({ s2 with heap := s2.heap.push { cls := .type "list", data := .seq ([] : List Value).toArray } } : Shared) = s3
  have g3 : s3.heap = s2.heap.push { cls := .type "list", data := .seq ([] : List Value).toArray } := by rw [← e3]
  have I3 : Inv X pn σ (upd H2 D (.lst [])) s3 := by
    rw [← e3]
    exact I2.laid (t' := s2.toks) (fun b o e => Heap.get?_push_of_some _ e) (Nat.le_of_eq eD) ⟨Nat.zero_le _, [], 0, .nil, by rw [← eD]; exact Heap.get?_push_size _ rfl⟩
  have below : ∀ b ∈ fp, b < D := fun b hb => by
    obtain ⟨o, e, _⟩ := T.obj _ _ st2 b hb
    rw [← eD]
    exact Heap.lt_size e
  have own3 : ∀ b ∈ fp, FpOk X pn (upd H2 D (.lst [])) b ∧ b < s3.heap.objs.size := fun b hb =>
    ⟨⟨by rw [upd_ne (Nat.ne_of_lt (below b hb))]; exact (fp2 b hb).1, (fp2 b hb).2⟩, by rw [g3, Heap.size_push, eD]; exact Nat.lt_succ_of_lt (below b hb)⟩
  have st3 : tn 0 s3.heap := T.keep _ _ _ st2 fun b _ o e => by rw [g3]; exact Heap.get?_push_of_some _ e
  have I4 := blkP_start I3 ok nd own3
  have pg := hg s3 (upd H2 D (.lst [])) s3.heap.objs.size (cellsFrom (s3.heap.objs.size + 1) sc.names (cloFrom X.env.cells sc.names [])) fp
  have pt := ht s3 (upd H2 D (.lst [])) s3.heap.objs.size (cellsFrom (s3.heap.objs.size + 1) sc.names (cloFrom X.env.cells sc.names [])) fp
  have pe := he s3 (upd H2 D (.lst [])) s3.heap.objs.size (cellsFrom (s3.heap.objs.size + 1) sc.names (cloFrom X.env.cells sc.names [])) fp
  have n3 : ∀ b ∈ fp, (upd H2 D (.lst [])) b = none := fun b hb => (own3 b hb).1.1
  show codeAny _ _ (.compStart _ 0 (.ref j) (.ref D) (compEnvC sc (cellsFrom (s3.heap.objs.size + 1) sc.names (cloFrom X.env.cells sc.names [])) s3.heap.objs.size X.env)) (compPost _ _ X.xe none _ (.ref D) s3.heap.objs.size)
    { s3 with heap := pushCells (s3.heap.push { cls := .type "dict", data := .dict #[] }) sc.names }
  have hL : (compEnvC sc (cellsFrom (s3.heap.objs.size + 1) sc.names (cloFrom X.env.cells sc.names [])) s3.heap.objs.size X.env).locals = s3.heap.objs.size := rfl
  generalize (compEnvC sc (cellsFrom (s3.heap.objs.size + 1) sc.names (cloFrom X.env.cells sc.names [])) s3.heap.objs.size X.env) = ce at I4 pg pt pe hL ⊢
  generalize upd H2 D (.lst []) = H3 at I3 I4 pg pt pe w0 n3 own3
  generalize e4 : ({ s3 with heap := pushCells (s3.heap.push { cls := .type "dict", data := .dict #[] }) sc.names } : Shared) = s4 at I4 ⊢
  have st4 : tn 0 s4.heap := T.keep _ _ _ st3 fun b _ o e => by rw [← e4]; exact pushCells_keeps _ _ _ _ (Heap.get?_push_of_some _ e)
  generalize eB : blkP X s3 H3 sc ce fp = B at I4 pg pt pe
  have hB : HotC B := by rw [← eB]; exact hc
  -- the iterator's records: nobody else's
  have fpB : ∀ {σ' : L2.St} {H' : Hp} {s' : Shared}, Inv B [] σ' H' s' → (∀ b ∈ fp, H' b = none) → ∀ b ∈ fp, FpOk B [] H' b := fun {σ' H' s'} K n b hb => by
    subst eB
    refine ⟨n b hb, (K.ok.exf b hb).1, K.ok.exfs b hb, .inl hb, (K.ok.exf b hb).2, fun p hp => ?_⟩
    have hp : p ∈ X.pn := by simpa using hp
    exact (own3 b hb).1.2.2.2.2.2 p (List.mem_append_left _ hp)
  have whole : codeAny (model X.prog X.w) X.A (.compLoop (.ListComp elt [⟨tg, iter, ifs, 0⟩] sc pos) 0 (.ref j) (.ref D) ce) (compPost (model X.prog X.w) X.A X.xe none (EP X pn σ Q) (.ref D) s3.heap.objs.size) s4 := by
    have idB : B.A = X.A ∧ B.prog = X.prog ∧ B.w = X.w ∧ B.K = X.K ∧ B.env = ce ∧ B.xe = (fun _ _ => False) ∧ B.N = X.N := by subst eB; exact ⟨rfl, rfl, rfl, rfl, rfl, rfl, rfl⟩
    refine compLoop_any (fun n t => ∃ i Hi, Inv B [] (wipe σ (own.map (·.2))) Hi t ∧ tn i t.heap ∧ (∀ b ∈ fp, Hi b = none) ∧ W i n Hi) ?_ m0 ⟨0, H3, I4, st4, n3, w0⟩
    rintro n t ⟨i, Hi, Ii, sti, ni, wi'⟩
    subst eB
    rcases turn i n Hi wi' with ⟨stop, last⟩ | ⟨go, Nx, less, step⟩
    · -- no more item
      refine thnF (T.done (blkP X s3 H3 sc ce fp) rfl rfl rfl hB i [] t _ Hi (fun _ _ => False) Ii (fpB Ii ni) sti stop) fun r t1 ⟨er, I1⟩ => ?_
      subst er
      have back : Inv X pn σ Hi t1 := I3.call' (ch := fp) I1.os I1.base I1.hok I1.bare fun b hb => by
        obtain ⟨_, o1, _, o3, o4, o5⟩ := (own3 b hb).1
        exact ⟨o3, o1, o4, o5⟩
      obtain ⟨m, ns, _⟩ := I1.loc
      have ns : t1.heap.Ns ce.locals m := ns
      have nC : Hi ce.locals = none := I1.free
      rw [hL] at ns nC
      obtain ⟨_, f1, f2, f3, f4, f5⟩ := I3.fpOk (Nat.le_refl _) nC
      exact ⟨m, ns, fun h2 sb => ⟨.ref D, Hi, back.turned (t' := t1.toks) (fun b o nb e => (sb.2 b nb).trans e) nC f1 f3 f4 f5, rfl, last⟩⟩
    · refine thnF (T.item (blkP X s3 H3 sc ce fp) rfl rfl rfl hB i [] t _ Hi (fun _ _ => False) Ii (fpB Ii ni) sti go) fun r t1 ⟨u, er, more⟩ => ?_
      subst er
      refine thnF more fun _ t2 ⟨x, Hx, Ix, rx, yx, stx, nx⟩ => ?_
      refine thnF (pg.run _ t2 _ Hx x u _ (Ix.pinned (fpB Ix nx) (T.obj _ _ stx)) rx (step x Hx yx)) fun _ t3 ⟨σ3, Hy, Iy, same, qy⟩ => ?_
      -- what one turn leaves
      have next : ∀ {t' : Shared} {H' : Hp}, Inv (blkP X s3 H3 sc ce fp) ([] ++ pinsAt fp t2.heap) σ3 H' t' → Nx H' →
          ∃ m, m < n ∧ ∃ i Hi, Inv (blkP X s3 H3 sc ce fp) [] (wipe σ (own.map (·.2))) Hi t' ∧ tn i t'.heap ∧ (∀ b ∈ fp, Hi b = none) ∧ W i m Hi := fun {t' H'} K' z => by
        obtain ⟨m, lm, wm⟩ := less H' z
        have stay : ∀ b ∈ fp, ∀ o, t2.heap.get? b = some o → t'.heap.get? b = some o ∧ H' b = none := fun b hb o e => by
          have y := K'.pin (b, o) (List.mem_append_right _ (List.mem_append_right _ (mem_pinsAt hb e)))
          exact ⟨y.1, y.2.1⟩
        refine ⟨m, lm, i + 1, H', K'.unpinned.weak (by rw [← same, wipe_length]) (fun k v e => ?_), T.keep _ _ _ stx fun b hb o e => (stay b hb o e).1, fun b hb => ?_, wm⟩
        · rw [← same] at e
          exact (wipe_some e).1
        · obtain ⟨o, e, _⟩ := T.obj _ _ stx b hb
          exact (stay b hb o e).2
      refine thnF (pt.run _ t3 σ3 Hy _ Iy qy) fun yes t4 ⟨Hz, Iz, qz⟩ => ?_
      cases yes with
      | true =>
        try dsimp only at qz
        try dsimp only
        rw [if_pos rfl] at qz ⊢
        refine thnF (pe.run _ t4 σ3 Hz _ Iz qz) fun v t5 ⟨y, Ha, Ia, ra, acc, ha, la, na⟩ => ?_
        exact app_ok (X := blkP X s3 H3 sc ce fp) Ia ha la ra fun t6 I6 => next I6 na
      | false =>
        try dsimp only at qz
        try dsimp only
        rw [if_neg Bool.false_ne_true] at qz ⊢
        exact next Iz qz
  exact codeAny_compStart_list whole (T.self X.A 0 _ _ _ st4 whole)
end
end RK

namespace RK
open PySem PySem.Spec PyProof.Rows L2 L2H HotX

/-! ### a def that is called while p's error is handled: what it promises may speak of p -/
structure FnE (P : Program) (w : World) (K : PySem.W.Frag) (mg : Str → Option Value) (base : Heap) (CX : CXT) (k : Nat) (f : Addr) (fd : FuncData) (ps : List Str) (sp : Addr × Obj → Sp) : Prop where
  len : ∀ p vs H Q E, sp p vs H Q E → vs.length = ps.length
  run : ∀ (p : Addr × Obj) (A : Around) (out : List Env) (s : Shared) (H : Hp) (args : Args) (us : List Value) (vs : List V) (Q : VK) (E : XK), RoomH k A → Hot1 A p → PinOk out H s p → Env0 P w K mg base A out s H →
    BindsTo s fd args (ps.zip us) → Vals vs us → sp p vs H Q E → codeAny (model P w) A (.call (.ref f) args) (CR CX out P w H s Q E) s
section
variable {CX : CXT} {P : Program} {w : World} {K : PySem.W.Frag} {mg : Str → Option Value} {base : Heap} {k : Nat} {f : Addr}
theorem fnE_of {name qual : Str} {params : Arguments} {body : List Stmt} {sc : Scope} {dV kV doc pm cdv ct oc : Value} {an od : Option Addr} {osl : Array (Option Value)} {N ps : List Str} {sp : Addr × Obj → Sp}
    (lk : K.lookup f = some ⟨oc, od, .func (PySem.W.fnOf name qual params body sc dV kV doc pm an cdv ct), osl⟩) (hcd : PySem.W.codeIn K cdv qual = true) (S : FnScope N ps sc) (len : ∀ p vs H Q E, sp p vs H Q E → vs.length = ps.length)
    (go : ∀ (p : Addr × Obj) (A : Around) (out : List Env) (s : Shared) (H : Hp) (vs : List V) (Q : VK) (E : XK), Hot1 A p → RoomH k (A.deeper (envOfC qual sc s.heap.objs.size f cdv)) → sp p vs H Q E →
      ∃ t, PSs (cxH CX P w K mg base N qual sc f cdv A out s H E p) body t ∧ t { nx := fun _ H' => Q .non H', rt := Q } (L2.start N vs) H) :
    FnE P w K mg base CX (k + 1) f (PySem.W.fnOf name qual params body sc dV kV doc pm an cdv ct) ps sp := by
  refine ⟨len, fun p A out s H args us vs Q E room hot pin e0 bind rv h => ?_⟩
  have n := len _ _ _ _ _ h
  have kin : K.In s.heap := e0.mod.kin.keeps fun b o e => (e0.bs b o e).1
  refine codeAny_call_function room.depth (kin _ _ lk) rfl S.co S.gen rfl (PySem.W.codeRec_of kin hcd) (bind _ _ _ _ ?_)
  refine wpAny_newFunctionEnv_cells S.kind (fun y hy => ?_) fun env he s1 x => ?_
  · rcases S.par y.1 (List.of_mem_zip hy).1 with q | q
    · exact .inl q
    · exact .inr ⟨q, PySem.W.cellsFrom_some _ _ _ (.inl q)⟩
  subst he
  refine ⟨(e0.mod.nolimit.keeps fun b o e => (e0.bs b o e).1).keeps x.toInCall.keep, codeAny_func ?_⟩
  obtain ⟨t, run, ht⟩ := go p A out s H vs Q E hot (room.deeper _) h
  refine wpAny_mono (run.run [] s1 (L2.start N vs) H _ (inv_startH S pin e0 n rv x) ht) (fun fl s2 r => ?_) fun e s2 r => r
  cases fl with
  | ret u =>
    obtain ⟨v, σ2, H2, J, ru, q⟩ := r
    exact ⟨v, H2, J.os, J.bare, J.base, J.hok, ru, q⟩
  | next =>
    obtain ⟨σ2, H2, J, q⟩ := r
    exact ⟨.non, H2, J.os, J.bare, J.base, J.hok, rfl, q⟩
  | brk => exact r.elim fun _ r => r.elim fun _ r => r.2.elim
  | cont => exact r.elim fun _ r => r.elim fun _ r => r.2.elim
end
section
variable {X : Cx} {CX : CXT} {k : Nat} {f : Addr} {fd : FuncData} {ps : List Str} {sp : Addr × Obj → Sp} {E : L2.St → XK} {x : Str} {q pos : Pos} {e : Expr} {es : List Expr} {t : TA} {p : Addr × Obj}
/-- a call where p's error is handled -/
theorem pe_callE (F : FnE X.prog X.w X.K X.mg X.base CX k f fd ps sp) (hr : RoomH k X.A) (hot : Hot1 X.A p) (hp : p ∈ X.pn) (hg : Gl X x) (hm : X.mg x = some (.ref f)) (hk : PySem.W.keepIn X.K (.ref f) = true) (hb : Binds X.K fd ps [])
    (hx : ∀ σ, PassesAt CX X σ (E σ)) (ha : PA X (e :: es) t) (hdb : (x == ("__debug__" : Str)) = false := by decide) (he : starEach (e :: es) X.env = (false, eval e X.env) :: starEach es X.env := by rfl)
    (hpl : (backTo pos (starEach es X.env)).any (·.1) = false := by rfl) : PE X (.Call (.Name x q) (e :: es) [] pos) (tCallS (sp p) E t) := by
  refine ⟨fun pn s σ H Q I h => wpAny_Call_Name_kw (ld_glob I hg hm ?_ hdb)⟩
  refine PySem.W.callWith_K (h₀ := X.base) I.ok.mod.kin hk (thn (ha.run pos pn s σ H _ I h) fun us s1 ⟨vs, H1, J, rv, z⟩ => ⟨J.kIn, ?_⟩) he hpl
  have n := F.len _ _ _ _ _ z
  have b := hb s1 us J.kIn (by rw [List.append_nil, ← rv.length]; exact n)
  rw [List.append_nil] at b
  obtain ⟨g1, g2, g3, g4, g5⟩ := J.pin p (List.mem_append_left _ hp)
  have pin : PinOk X.stack H1 s1 p := ⟨g1, g2, fun z => (List.mem_cons.mp (J.stkSub p.1 z)).elim g3 g4, g5⟩
  refine wpAny_call (codeAny_mono (F.run p X.A X.stack s1 H1 ⟨us, []⟩ us vs Q (E σ) hr hot pin J.env0 b rv z) fun r s2 y => ?_)
  cases r with
  | error er => exact hx σ pn H1 s1 er s2 J y
  | ok fl => cases fl with
    | ret u => exact J.after y
    | next => exact y.elim
    | brk => exact y.elim
    | cont => exact y.elim
end

/-! ### the error at hand: its class, its attributes -/
/-- what an error class must say -/
structure ErrC (K : PySem.W.Frag) (D : Addr) : Prop where
  cl : (PySem.W.clsIn K D).isSome = true
  gt : PySem.W.findIn K (.ref D) "__getattribute__" = some (some (.builtin "BaseException.__getattribute__"))
  gn : PySem.W.findIn K (.ref D) "__getattr__" = some none
  sb : PySem.W.subIn K (.ref D) (.type "BaseException") = some true
  cc : PySem.W.findIn K (.ref D) "__class__" = some (some (.builtin "object.__class__"))
  sg : PySem.W.specialIn K (.builtin "object.__class__") "__get__" = some (some (.builtin "getset_descriptor.__get__"))
  tk : PySem.W.takesIn K (.builtin "object.__class__") = some true
  mr : PySem.W.mroIn K D (.type "object") = some true
  hd : PySem.W.hasDictIn K D = true
/-- p's object is an error of the class D whose dictionary stands at d -/
structure IsErr (p : Addr × Obj) (D d : Addr) : Prop where
  cls : p.2.cls = .ref D
  dct : p.2.dict = some d
  dat : ∃ vs, p.2.data = .fields vs
section
variable {X : Cx} {p : Addr × Obj} {D d : Addr}
theorem IsErr.inst (T : IsErr p D d) {h : Heap} {od : Obj} (g : h.get? p.1 = some p.2) (gd : h.get? d = some od) : PySem.W.InstAt h p.1 p.2 D (some od) := by
  obtain ⟨vs, dat⟩ := T.dat
  exact ⟨g, T.cls, by unfold PySem.W.notCls; rw [dat], by rw [T.dct]; exact gd⟩
/-- isinstance(error, c): b by the classes alone -/
def mIsErr (K : PySem.W.Frag) (D d a : Addr) : List V → Hp → VK → Prop := fun xs H Q => ∃ (c : V) (cv : Value) (b : Bool), xs = [.ref a, c] ∧ (∀ u, RelV c u → u = cv) ∧ PySem.W.kitOne K (.ref D) cv = some b ∧ (∃ fs, H d = some (.xd fs)) ∧ Q (.bl b) H
theorem call_isErr (C : ErrC X.K D) (T : IsErr p D d) (hp : p ∈ X.pn) : CallR X (.builtin "isinstance") (mIsErr X.K D d p.1) := by
  rintro pn s σ H xs us Q I rv ⟨c, cv, b, rfl, one, kit, ⟨fs, ed⟩, q⟩
  obtain ⟨u1, us', rfl⟩ : ∃ u1 us', us = u1 :: us' := by cases rv; exact ⟨_, _, rfl⟩
  obtain ⟨u2, us'', rfl⟩ : ∃ u2 us'', us' = u2 :: us'' := by cases rv with | cons _ r => cases r; exact ⟨_, _, rfl⟩
  cases rv with
  | cons r1 rv =>
    cases rv with
    | cons r2 rv =>
      cases rv
      cases r1
      cases one _ r2
      obtain ⟨g, _⟩ := I.pin p (List.mem_append_left _ hp)
      obtain ⟨mA, ns, _⟩ := (show ObjOk X.prog X.w H s.heap d (.xd fs) from I.hok d _ ed)
      obtain ⟨od, ho, _⟩ := lookIn_ns ns
      exact PySem.W.kia_one (PySem.W.kitx_exc C.cl C.gt C.gn C.sb C.cc C.sg C.tk C.mr) I.kIn (T.inst g ho) kit (fun z => nomatch z) fun tk => ⟨.bl b, H, I.kept (t' := tk) fun _ _ z => z, rfl, q⟩
/-- error.n -/
def tErrF (d a : Addr) (n : Str) (te : TE) : TE := fun σ H Q => te σ H fun x H1 => x = .ref a ∧ ∃ fs v, H1 d = some (.xd fs) ∧ fs.lookup n = some v ∧ Q v H1
theorem pe_errF {e : Expr} {te : TE} {pos : Pos} {n : Str} (C : ErrC X.K D) (T : IsErr p D d) (hp : p ∈ X.pn) (no : PySem.W.findIn X.K (.ref D) n = some none) (he : PE X e te) (hb : attributeBase e n X.env (eval e X.env) = eval e X.env := by rfl) :
    PE X (.Attribute e n pos) (tErrF d p.1 n te) := by
  refine ⟨fun pn s σ H Q I h => attr_of hb (thn (he.run pn s σ H _ I h) fun u s1 ⟨y, H1, J, ry, ey, fs, v, ed, lf, q⟩ => ?_)⟩
  subst ey
  cases ry
  obtain ⟨g, _⟩ := J.pin p (List.mem_append_left _ hp)
  obtain ⟨mA, ns, hr⟩ := (show ObjOk X.prog X.w H1 s1.heap d (.xd fs) from J.hok d _ ed)
  obtain ⟨od, ho, hl⟩ := lookIn_ns ns
  obtain ⟨u, hu, ru⟩ := RelO.some_of (v := v) (o := mA n) (by rw [← lf]; exact hr n)
  exact HandSPX.exc_get J.kIn (T.inst g ho) C.gt C.gn C.sb (PySem.W.findObj_own C.hd no rfl (by rw [hl, hu])) (handed_of ru) ⟨v, H1, J.tok _, ru, q⟩
end
end RK

namespace RK
open PySem PySem.Spec PyProof.Rows L2

/-! ### raise X(e, ..) where nothing is handled: the error's context is None -/
section
variable {X : Cx}
theorem pmkN {CX : CXT} {x : Str} {e : Expr} {es : List Expr} {ta : TA} {p pos : Pos} {C g : Addr} {k : Nat} {fd : FuncData} {ps : List Str} {sp : Sp} (T : OexC X.K C) (ini : PySem.W.findIn X.K (.ref C) "__init__" = some (some (.ref g))) (fun_ : PySem.W.typeIn X.K (.ref g) = some (.type "function"))
    (Fi : FnOk X.prog X.w X.K X.mg X.base CX k g fd ps sp) (hr : Room (k + 1) X.A) (hb : Binds X.K fd ps []) (hx : Passes CX X (fun _ _ _ => False)) (hg : Gl X x) (hm : X.mg x = some (.ref C)) (ha : PA X (e :: es) ta)
    (hdb : (x == ("__debug__" : Str)) = false := by decide) (he : starEach (e :: es) X.env = (false, eval e X.env) :: starEach es X.env := by rfl) (hpl : (backTo pos (starEach es X.env)).any (·.1) = false := by rfl) :
    L2N.PMk X (.Call (.Name x p) (e :: es) [] pos) (tMkO C sp [] ta) := by
  intro pn s0 σ H0 Q I0 h
  obtain ⟨nm, q, N, bs, bm, sn, sub, ab, col, dd, k0, k1, k2, k3, k5, obj, tail⟩ := T.cls
  refine wpAny_Call_Name_kw (ld_glob I0 hg hm ?_ hdb)
  refine PySem.W.callWith_K (h₀ := X.base) I0.ok.mod.kin T.kC (thn (ha.run pos pn s0 σ H0 _ I0 h) fun us s1 ⟨vs, H1, I, rv, few, next⟩ => ⟨I.kIn, ?_⟩) he hpl
  show wpAny _ _ (call (.ref C) us) _ _ _
  obtain ⟨hp, gn, dr, tk, os⟩ := s1
  have up := Nat.le_succ hp.objs.size
  have go := next (hp.objs.size + 1) (I.hok.fresh up)
  rw [List.append_nil] at go
  have keep : ∀ b o, hp.get? b = some o → ((hp.push (PySem.W.kdv_tup us)).push (PySem.HandSPX.excO C hp.objs.size)).get? b = some o := fun b o e => Heap.get?_push_of_some _ (Heap.get?_push_of_some _ e)
  have made : ((hp.push (PySem.W.kdv_tup us)).push (PySem.HandSPX.excO C hp.objs.size)).get? (hp.objs.size + 1) = some (PySem.HandSPX.excO C hp.objs.size) := by heap_get
  have J := I.laid (t' := tk) (a := hp.objs.size + 1) (o := exo (hp.objs.size + 1) C none) (h' := (hp.push (PySem.W.kdv_tup us)).push (PySem.HandSPX.excO C hp.objs.size)) keep up (exo_ok made)
  have rv2 : Vals (V.ref (hp.objs.size + 1) :: vs) (Value.ref (hp.objs.size + 1) :: us) := .cons rfl rv
  have many : us.length ≤ sizeLine := by rw [← Paired.length rv, sizeLine_eq]; omega
  have bind := hb _ (Value.ref (hp.objs.size + 1) :: us) J.kIn (by rw [List.append_nil, ← rv2.length]; exact Fi.len _ _ _ _ go)
  rw [List.append_nil] at bind
  refine wpAny_call (PySem.HandSPX.call_own F.excBase_ValueError (fun Y => PySem.HandSPX.refsVE_contains Y bm tail) (I.kIn _ _ obj) (PySem.W.looks_findIn I.kIn ini) (fun self => PySem.W.bind_fn I.kIn self fun_) many
    (codeAny_mono (Fi.run _ X.stack _ _ ⟨Value.ref (hp.objs.size + 1) :: us, []⟩ (Value.ref (hp.objs.size + 1) :: us) _ _ (fun _ _ _ => False) (hr.make C us []) (J.env0.make C us []) bind rv2 go) fun r s2 z => ?_))
  cases r with
  | error er => exact hx pn σ _ _ er s2 J z
  | ok fl => cases fl with
    | ret u =>
      obtain ⟨v, H2, os2, bare2, un2, hok2, ru, ev, d, fs, ea, ed, new, last⟩ := z
      subst ev
      obtain ⟨h2, g2, d2, t2, o2⟩ := s2
      obtain ⟨t0, G, JG, kG, nG, at_, na⟩ := mk_end0 (d2 := d2) (t2 := t2) I up keep un2 hok2 os2 bare2 ea ed new
      exact ⟨ru, hp.objs.size + 1, _, _, ⟨G, g2, d2, t2, o2⟩, _, .ref C, some d, rfl, JG, kG, nG, at_, ⟨rfl, rfl, fun vs hv => by cases hv; rfl⟩, rfl, rfl, na, rfl, bare2, raises_own T.exC T.tyC, last⟩
    | next => exact z.elim
    | brk => exact z.elim
    | cont => exact z.elim
end

/-! ### an error class whose __init__ keeps one value -/
/-- what its __init__ does -/
def spIni (C : Addr) (fld : Str) : Sp := fun vs H Q _ => ∃ a v, vs = [.ref a, v] ∧ H a = some (exo a C none) ∧ ∀ dx, H dx = none → dx ≠ a → Q .non (upd (upd H dx (exd dx [(fld, v)])) a (exo a C (some dx)))
/-- a class of errors of the program: what the raising and the asking need -/
structure Err (K : PySem.W.Frag) (mg : Str → Option Value) (x fld : Str) (C g : Addr) (fd : FuncData) (ps : List Str) : Prop where
  ox : OexC K C
  er : ErrC K C
  ini : PySem.W.findIn K (.ref C) "__init__" = some (some (.ref g))
  fn : PySem.W.typeIn K (.ref g) = some (.type "function")
  no : PySem.W.findIn K (.ref C) fld = some none
  at_ : mg x = some (.ref C)
  bi : Binds K fd ps []
/-- raise X(e) -/
def tRaise1 (C : Addr) (fld : Str) (te : TE) (W : WX) : TS := fun _ σ H => tMkO C (spIni C fld) [] (tCons te tNil) σ H fun cls d H' => W cls d σ H'
theorem del_back {H : Hp} {a d : Addr} {o1 o2 o3 o4 : HO} (n : H a = none) (ne : d ≠ a) : upd (del (upd (upd (upd H a o1) d o2) a o3) a) d o4 = upd H d o4 := by
  funext b
  by_cases h : b = d
  · subst h; rw [upd_same, upd_same]
  · rw [upd_ne h, upd_ne h]
    by_cases h2 : b = a
    · subst h2; rw [del_same, n]
    · rw [del_ne h2, upd_ne h2, upd_ne h, upd_ne h2]
theorem ps_raise1 {X : Cx} {W : WX} {x fld : Str} {e : Expr} {te : TE} {p pos pos' : Pos} {C g : Addr} {fd : FuncData} {ps : List Str} (T : Err X.K X.mg x fld C g fd ps) (F : FnOk X.prog X.w X.K X.mg X.base CX0 1 g fd ps (spIni C fld)) (hr : Room 2 X.A) (hc : X.calm = true)
    (tk : L2N.Takes X W) (hg : Gl X x) (he : PE X e te) (hdb : (x == ("__debug__" : Str)) = false := by decide) (h1 : starEach [e] X.env = (false, eval e X.env) :: starEach [] X.env := by rfl) (hpl : (backTo pos (starEach [] X.env)).any (·.1) = false := by rfl) :
    PS X (.Raise (some (.Call (.Name x p) [e] [] pos)) none pos') (tRaise1 C fld te W) := by
  exact L2N.ps_raise hc tk (pmkN T.ox T.ini T.fn F hr T.bi pass0 hg T.at_ (pa_cons he pa_nil (hs := h1)) hdb h1 hpl)
/-- .. as it is read, e's value at hand -/
theorem raise1_go {C : Addr} {fld : Str} {W : WX} {σ : L2.St} {H : Hp} {v : V} (h : ∀ d, H d = none → W (.ref C) (some d) σ (upd H d (.xd [(fld, v)]))) :
    [v].length ≤ 1000 ∧ ∀ a, H a = none → spIni C fld (.ref a :: ([v] ++ [])) (upd H a (exo a C none)) (fun u H2 => u = .non ∧ ∃ (d : Addr) (fs : List (Str × V)), H2 a = some (exo a C (some d)) ∧ H2 d = some (exd d fs) ∧ H d = none ∧ W (.ref C) (some d) σ (upd (del H2 a) d (.xd fs))) (fun _ _ _ => False) := by
  refine ⟨show (1 : Nat) ≤ 1000 by decide, fun a n => ⟨a, v, rfl, upd_same, fun dx nd ne => ⟨rfl, dx, [(fld, v)], upd_same, ?_, ?_, ?_⟩⟩⟩
  · rw [upd_ne ne, upd_same]
  · rw [upd_ne ne] at nd; exact nd
  · rw [upd_ne ne] at nd
    rw [del_back n ne]
    exact h dx nd
theorem ok_ini {P : Program} {w : World} {K : PySem.W.Frag} {mg : Str → Option Value} {base : Heap} {x fld qual : Str} {st : Stmt} {C g : Addr} {fd : FuncData} {p0 p1 : Str} (T : Err K mg x fld C g fd [p0, p1]) (F : Fun K "__init__" qual st g fd) (S : FnScope [p0, p1] [p0, p1] (defScope st))
    (body : ∀ X : Cx, X.K = K → X.N = [p0, p1] → X.env.scope = defScope st → PSs X (defBody st) (fun D σ H => tOst K fld (xV 0) (xV 1) D σ H)) : FnOk P w K mg base CX0 1 g fd [p0, p1] (spIni C fld) := by
  refine F.ok (k := 0) S (fun vs H Q E ⟨a, v, e, _⟩ => by rw [e]; rfl) (fun cdv A outer s0 H vs Q E hr h => ?_)
  obtain ⟨a, v, rfl, ha, go⟩ := h
  refine ⟨_, body _ rfl rfl rfl, ?_⟩
  refine ⟨a, C, rfl, T.ox, T.no, .inl ⟨ha, fun dx nd ne => go dx nd ne⟩⟩
end RK

namespace RK
open PySem PySem.Spec PyProof.Rows L2 L2H

theorem takesN0 {X : Cx} : L2N.Takes X (fun _ _ _ _ => False) := fun _ _ x => by
  obtain ⟨_, _, _, _, _, _, _, _, _, _, _, _, _, _, _, _, z⟩ := x
  exact z.elim
/-- a promise of a def that gets the caught error: the error's address, class and dictionary -/
abbrev SpE := Addr → Value → Option Addr → Sp
abbrev atE (sp : SpE) : Addr × Obj → Sp := fun p => sp p.1 p.2.cls p.2.dict
/-- return f(e), e the caught error -/
abbrev tTold (sp : SpE) (i : Nat) : Addr → Value → Option Addr → TS := fun a cls d => tRet (tCallS (sp a cls d) (fun _ _ _ _ => False) (tCons (xV i) tNil))
section
variable {X : Cx} {x n f : Str} {c : Value} {i k : Nat} {body : List Stmt} {np p1 p2 p3 p4 pos pos' : Pos} {tb : WX → TS} {Wout : WX} {fa : Addr} {fd : FuncData} {ps : List Str} {sp : SpE}
/-- try: body, except x as n: return f(n) -/
theorem ps_tried (hs : X.stack = X.env :: X.outer) (hf : X.env.frame = some X.env.locals) (nd : X.N.Nodup) (hi : X.N[i]? = some n) (hln : X.env.kindOf n = some .local) (hc : Names X x c) (tk : L2N.Takes X Wout)
    (hb : ∀ (W : WX) (pn : List (Addr × Obj)) (xe : Value → Shared → Prop), L2N.Takes (X.tr pn xe) W → PSs (X.tr pn xe) body (tb W))
    (F : FnE X.prog X.w X.K X.mg X.base CX0 k fa fd ps (atE sp)) (hr : RoomH k X.A) (hg : Gl X f) (hm : X.mg f = some (.ref fa)) (hk : PySem.W.keepIn X.K (.ref fa) = true) (hbi : Binds X.K fd ps [])
    (hd : (n == ("__debug__" : Str)) = false := by decide) (hcd : (n == ("__classdict__" : Str)) = false := by decide) (hdb : (f == ("__debug__" : Str)) = false := by decide)
    (st : starEach [.Name n p2] X.env = (false, eval (.Name n p2) X.env) :: starEach [] X.env := by rfl) (pl : (backTo p3 (starEach [] X.env)).any (·.1) = false := by rfl) :
    PS X (.Try body [.ExceptHandler (some (.Name x np)) (some n) [.Return (some (.Call (.Name f p1) [.Name n p2] [] p3)) p4] pos'] [] [] pos) (fun D σ H => tb (wAs X.K c i (tTold sp i) Wout D) D σ H) := by
  refine L2N.ps_try_as hs hf nd hi hln hc tk (fun W pn xe h _ => hb W pn xe h) fun a oe cls d pn z ⟨vs, dat⟩ => ?_
  obtain ⟨z1, z2, z3⟩ := z
  subst z1 z2
  have hot : Hot1 (X.A.mark (some (.ref a))) (a, oe) := ⟨rfl, vs, dat, z3 vs dat⟩
  refine pss_one (ps_ret ?_)
  exact pe_callE (X := X.suite a ((a, oe) :: pn)) (p := (a, oe)) F ⟨hr.dp, hr.un⟩ hot List.mem_cons_self hg hm hk hbi (fun _ _ _ _ _ _ _ z => z.elim) (pa_cons (xv i hi (.inl hln) hd hcd) pa_nil (hs := st)) hdb st pl
end

/-! ### the classes of the program by their names -/
def cA (K : PySem.W.Frag) (x : Str) : Addr := match PySem.W.nsIn K mainGlobals x with
  | some (some (.ref C)) => C
  | _ => 0
theorem cA_of {K : PySem.W.Frag} {x : Str} {C : Addr} (h : PySem.W.nsIn K mainGlobals x = some (some (.ref C))) : cA K x = C := by unfold cA; rw [h]
theorem kit_own {K : PySem.W.Frag} {C D : Addr} {cd : ClassData} {b : Bool} (h1 : PySem.W.clsIn K C = some cd) (h2 : PySem.W.typeIn K (.ref C) = some (.type "type")) (h3 : PySem.W.subIn K (.ref D) (.ref C) = some b) (h4 : C = D → b = true) : PySem.W.kitOne K (.ref D) (.ref C) = some b := by
  unfold PySem.W.kitOne PySem.W.kitCls
  by_cases e : C = D
  · subst e
    rw [if_pos (by simp), h4 rfl]
  · rw [if_neg (by simpa using fun z => e z.symm)]
    dsimp only
    rw [h1, h2]
    exact h3
theorem kit_val {K : PySem.W.Frag} {D : Addr} {T : String} {b : Bool} (h1 : PySem.W.kitMeta T = true) (h2 : PySem.W.subIn K (.ref D) (.type T) = some b) : PySem.W.kitOne K (.ref D) (.type T) = some b := by
  unfold PySem.W.kitOne PySem.W.kitCls
  rw [if_neg (by simp)]
  dsimp only
  rw [if_pos h1]
  exact h2
theorem exm_own {K : PySem.W.Frag} {C D : Addr} {cd : ClassData} {b : Bool} (h0 : PySem.W.subIn K (.ref C) (.type "BaseException") = some true) (h1 : PySem.W.clsIn K C = some cd) (h2 : PySem.W.typeIn K (.ref C) = some (.type "type")) (h3 : PySem.W.subIn K (.ref D) (.ref C) = some b) :
    PySem.W.exmOne K (.ref D) (.ref C) = some b := by
  unfold PySem.W.exmOne PySem.W.kitCls
  rw [h0]
  dsimp only
  rw [h1, h2]
  exact h3
/-- isinstance(error, c) by the names of the classes: yes tells which ones -/
def mIsNm (K : PySem.W.Frag) (D d a : Addr) : List V → Hp → VK → Prop := fun xs H Q => match xs with
  | [.ref b, .ref c] => b = a ∧ (∃ fs, H d = some (.xd fs)) ∧ ∃ y, PySem.W.kitOne K (.ref D) (.ref c) = some y ∧ Q (.bl y) H
  | [.ref b, .ty T] => b = a ∧ (∃ fs, H d = some (.xd fs)) ∧ ∃ y, PySem.W.kitOne K (.ref D) (.type T) = some y ∧ Q (.bl y) H
  | _ => False
theorem call_isNm {X : Cx} {p : Addr × Obj} {D d : Addr} (C : ErrC X.K D) (T : IsErr p D d) (hp : p ∈ X.pn) : CallR X (.builtin "isinstance") (mIsNm X.K D d p.1) := calImp (call_isErr C T hp) fun xs H Q h => by
  unfold mIsNm at h
  split at h
  · obtain ⟨rfl, hx, y, e, q⟩ := h
    exact ⟨_, _, y, rfl, fun u r => r, e, hx, q⟩
  · obtain ⟨rfl, hx, y, e, q⟩ := h
    exact ⟨_, _, y, rfl, fun u r => r, e, hx, q⟩
  · exact h.elim

/-! ### defs that raise, defs that get the caught error: their promise by their body -/
section
variable {P : Program} {w : World} {K : PySem.W.Frag} {mg : Str → Option Value} {base : Heap}
theorem okN {x qual : Str} {st : Stmt} {f : Addr} {fd : FuncData} {N ps : List Str} {k : Nat} {sp : Sp} (F : Fun K x qual st f fd) (S : FnScope N ps (defScope st)) (len : ∀ vs H Q E, sp vs H Q E → vs.length = ps.length)
    (go : ∀ (cdv : Value) (A : Around) (out : List Env) (s : Shared) (H : Hp) (vs : List V) (Q : VK) (E : XK), Room k (A.deeper (envOfC qual (defScope st) s.heap.objs.size f cdv)) → L2N.Takes (cxOf (L2N.CX P w) P w K mg base N qual (defScope st) f cdv A out s H E) (fun cls d _ H' => E cls d H') →
      sp vs H Q E → ∃ t, PSs (cxOf (L2N.CX P w) P w K mg base N qual (defScope st) f cdv A out s H E) (defBody st) t ∧ t { nx := fun _ H' => Q .non H', rt := Q } (start N vs) H) : FnOk P w K mg base (L2N.CX P w) (k + 1) f fd ps sp := by
  obtain ⟨oc, od, kV, doc, pm, an, cdv, ct, osl, rfl, lk, code⟩ := F.ex
  exact fn_of lk code S len fun A out s H vs Q E hr h => go cdv A out s H vs Q E hr (L2N.takes_of rfl rfl rfl rfl) h
theorem okE {x qual : Str} {st : Stmt} {f : Addr} {fd : FuncData} {N ps : List Str} {k : Nat} {sp : SpE} (F : Fun K x qual st f fd) (S : FnScope N ps (defScope st)) (len : ∀ a cls d vs H Q E, sp a cls d vs H Q E → vs.length = ps.length)
    (go : ∀ (cdv : Value) (p : Addr × Obj) (A : Around) (out : List Env) (s : Shared) (H : Hp) (vs : List V) (Q : VK) (E : XK), Hot1 A p → RoomH k (A.deeper (envOfC qual (defScope st) s.heap.objs.size f cdv)) → sp p.1 p.2.cls p.2.dict vs H Q E →
      ∃ t, PSs (cxH CX0 P w K mg base N qual (defScope st) f cdv A out s H E p) (defBody st) t ∧ t { nx := fun _ H' => Q .non H', rt := Q } (start N vs) H) : FnE P w K mg base CX0 (k + 1) f fd ps (atE sp) := by
  obtain ⟨oc, od, kV, doc, pm, an, cdv, ct, osl, rfl, lk, code⟩ := F.ex
  exact fnE_of lk code S (fun p => len _ _ _) fun p A out s H vs Q E hot hr h => go cdv p A out s H vs Q E hot hr h
end
theorem passAtN {X : Cx} : ∀ σ, PassesAt (L2N.CX X.prog X.w) X σ ((fun _ _ _ _ => False : L2.St → XK) σ) := fun _ _ _ _ _ _ _ h => by
  obtain ⟨_, _, _, _, _, _, _, _, _, _, _, _, z⟩ := h
  exact z.elim
theorem passN {X : Cx} : Passes (L2N.CX X.prog X.w) X (fun _ _ _ => False) := fun _ _ _ _ _ _ _ h => by
  obtain ⟨_, _, _, _, _, _, _, _, _, _, _, _, z⟩ := h
  exact z.elim
theorem _root_.L2H.RoomH.units {k : Nat} {A : Around} (r : RoomH k A) : A.units + 64 < cLine := by have := r.un; omega
def clsS (t : Stmt) : Stmt := match t with
  | .ClassDef (body := b) .. => b.getD 0 (.Pass ⟨0, 0, 0, 0⟩)
  | _ => .Pass ⟨0, 0, 0, 0⟩
theorem bb_isi : bootBuiltins "isinstance" = some (.builtin "isinstance") := by decide +kernel
end RK

namespace RK
open PySem PySem.Spec PyProof.Rows L2 L2H
section
variable {X : Cx}
theorem peOr {e : Expr} {t u : TE} (h : PE X e t) (g : PE X e u) : PE X e (fun σ H Q => t σ H Q ∨ u σ H Q) := ⟨fun pins s σ H Q I q => q.elim (h.run pins s σ H Q I) (g.run pins s σ H Q I)⟩
/-- t.index(z), t a tuple of texts -/
def mIxT (K : PySem.W.Frag) : V → List V → Hp → VK → Prop := fun x vs H Q => match x, vs with
  | .ref p, [.str z] => ∃ ys : List Str, SqT K H p (ys.map V.str) ∧ z ∈ ys ∧ Q (.int (ys.idxOf z : Nat)) H
  | _, _ => False
theorem strs_are : ∀ {ys : List Str} {us : List Value}, Vals (ys.map V.str) us → StrsAre us ys
  | [], us, h => by cases h; exact .nil
  | y :: ys, us, h => by
    cases h with
    | cons r rr =>
      obtain ⟨t, rfl⟩ := r
      exact .cons _ _ (strs_are rr)
theorem mt_indexT : MtR X "tuple.index" (mIxT X.K) := by
  intro pins s σ H x xs v us Q I rx rxs h
  unfold mIxT at h
  split at h
  · rename_i p z
    obtain ⟨ys, hs, hz, q⟩ := h
    cases rx
    cases rxs with
    | cons r rr =>
      cases rr
      obtain ⟨t, rfl⟩ := r
      obtain ⟨its, rv, pl, hl⟩ := I.tuple hs
      exact PySem.SeqAt.tuple_index_strs pl (strs_are rv) hz ⟨.int _, H, I.tok _, ⟨_, rfl⟩, q⟩
  · exact h.elim
end

/-! ### max, reverse, whole numbers of the module -/
section
variable {X : Cx}
def mMax : List V → Hp → VK → Prop := fun vs H Q => match vs with
  | [.int i, .int j] => Q (.int (if j > i then j else i)) H
  | _ => False
theorem xc_max (hc : X.calm = true) : CallR X (.builtin "max") mMax := calImp (call_max2 hc) fun xs H Q h => by
  unfold mMax at h
  split at h
  · exact ⟨_, _, rfl, h⟩
  · exact h.elim
def lmReverse : V → List V → Hp → VK → Prop := fun x vs H Q => match x, vs with
  | .ref p, [] => ∃ xs, H p = some (.lst xs) ∧ Q .non (upd H p (.lst xs.reverse))
  | _, _ => False
theorem xm_reverse : MtR X "list.reverse" lmReverse := mtImp (r := rReverse) mt_reverse fun x vs H Q h => by
  unfold lmReverse at h
  split at h
  · obtain ⟨xs, h1, h2⟩ := h
    exact ⟨_, xs, rfl, rfl, h1, h2⟩
  · exact h.elim
theorem pe_gint {x : Str} {i : Int} {pos : Pos} (hg : Gl X x) (h : ∃ t, X.mg x = some (.int i t)) (hd : (x == ("__debug__" : Str)) = false := by decide) : PE X (.Name x pos) (tC (.int i)) := by
  obtain ⟨t, h⟩ := h
  exact pe_glob hg h ⟨t, rfl⟩ hd
end

theorem fun_kbn {K : PySem.W.Frag} {x qual : Str} {st : Stmt} {f : Addr} {fd : FuncData} {ps ks : List Str} {n : Nat} (F : Fun K x qual st f fd)
    (h : ∀ (kV doc pm : Value) (an : Option Addr) (cdv ct : Value) (us ws : List Value), us.length = n → ws.length = ks.length → bindArgs (PySem.W.fnOf x qual (defArgs st) (defBody st) (defScope st) .none kV doc pm an cdv ct) ⟨us, ks.zip ws⟩ = pure (ps.zip (us ++ ws))) :
    KBn K fd ps n ks (fun us ws => us ++ ws) (fun vs zs => vs ++ zs) := by
  obtain ⟨oc, od, kV, doc, pm, an, cdv, ct, osl, rfl, lk, hcd⟩ := F.ex
  exact ⟨fun s us ws X l1 l2 => .of_eq (h kV doc pm an cdv ct us ws l1 l2), fun r rz => r.append rz⟩
end RK

namespace RK
open PySem PySem.Spec PyProof.Rows L2 L2H
/-! ### tuples made at run time whose record is known: their methods may be called -/
/-- a tuple, no dictionary -/
def Tpl (H : Hp) (p : Addr) (xs : List V) : Prop := ∃ o : Obj, H p = some (.frz o (.tup xs)) ∧ o.cls = .type "tuple" ∧ o.dict = none
theorem Tpl.sq {K : PySem.W.Frag} {H : Hp} {p : Addr} {xs : List V} (h : Tpl H p xs) : SqT K H p xs := by
  obtain ⟨o, e, _⟩ := h
  exact .inl (.inr ⟨o, e⟩)
theorem Tpl.same {H H' : Hp} {p : Addr} {xs : List V} (h : Tpl H p xs) (s : Same H H') : Tpl H' p xs := by
  obtain ⟨o, e, c, d⟩ := h
  exact ⟨o, s _ _ e, c, d⟩
/-- a list or a tuple -/
def Lt (H : Hp) (p : Addr) (xs : List V) : Prop := H p = some (.lst xs) ∨ Rd H p (.tup xs)
theorem Lt.same {H H' : Hp} {p : Addr} {xs : List V} (h : Lt H p xs) (s : Same H H') : Lt H' p xs := h.imp (s _ _) fun z => z.imp (s _ _) fun ⟨o, e⟩ => ⟨o, s _ _ e⟩
theorem Lt.keep {s : Addr} {H H' : Hp} {p : Addr} {xs : List V} (h : Lt H p xs) (k : Keep s H H') (n : p ≠ s) : Lt H' p xs := h.imp (k _ _ n) fun z => z.imp (k _ _ n) fun ⟨o, e⟩ => ⟨o, k _ _ n e⟩
theorem Lt.l {H : Hp} {p : Addr} {xs : List V} (h : H p = some (.lst xs)) : Lt H p xs := .inl h
theorem Lt.t {H : Hp} {p : Addr} {xs : List V} (h : H p = some (.tup xs)) : Lt H p xs := .inr (.inl h)
/-- a list, or a tuple whose record is known -/
def Lx (H : Hp) (p : Addr) (xs : List V) : Prop := H p = some (.lst xs) ∨ Tpl H p xs
theorem Lx.lt {H : Hp} {p : Addr} {xs : List V} (h : Lx H p xs) : Lt H p xs := h.imp id fun ⟨o, e, _⟩ => .inr ⟨o, e⟩
theorem Lx.same {H H' : Hp} {p : Addr} {xs : List V} (h : Lx H p xs) (s : Same H H') : Lx H' p xs := h.imp (s _ _) fun z => z.same s
theorem Lx.keep {s : Addr} {H H' : Hp} {p : Addr} {xs : List V} (h : Lx H p xs) (k : Keep s H H') (n : p ≠ s) : Lx H' p xs := h.imp (k _ _ n) fun ⟨o, e, c⟩ => ⟨o, k _ _ n e, c⟩
theorem Lt.sq {K : PySem.W.Frag} {H : Hp} {p : Addr} {xs : List V} (h : Lt H p xs) : Sq K H p xs := h.elim Sq.l fun z => .inr (.inl z)
theorem Lt.has {H : Hp} {p q : Addr} {xs : List V} (h : Lt H p xs) (n : H q = none) : p ≠ q := fun z => by
  subst z
  rcases h with h | h | ⟨o, h⟩ <;> (rw [h] at n; cases n)
theorem for_seq {K : PySem.W.Frag} {p : Addr} {xs : List V} {g : TG} {tb : TS} {D : Ends} {σ : L2.St} {H : Hp} (Pv : Nat → L2.St → Hp → Prop) (hp : Lt H p xs) (h0 : Pv 0 σ H) (keep : ∀ i σ H', Pv i σ H' → H' p = H p)
    (hs : ∀ i x σ H', xs[i]? = some x → Pv i σ H' → g x σ H' fun σ2 H2 => tb { D with nx := fun σ' H' => Pv (i + 1) σ' H', ct := fun σ' H' => Pv (i + 1) σ' H', bk := D.nx } σ2 H2) (hd : ∀ σ H', Pv xs.length σ H' → D.nx σ H') :
    (fun (x : V) (H1 : Hp) => ∃ a, x = .ref a ∧ (∃ xs, SqL K H1 a xs) ∧ ∃ W : Nat → Nat → L2.St → Hp → Prop, (∃ m, W 0 m σ H1) ∧ ∀ i m σ H, W i m σ H →
      ((Itl K a).stop i H ∧ D.nx σ H) ∨ ((Itl K a).go i H ∧ ∃ N : L2.St → Hp → Prop, (∀ σ' H', N σ' H' → ∃ m', m' < m ∧ W (i + 1) m' σ' H') ∧ ∀ x H', (Itl K a).yld i H x H' → g x σ H' fun σ2 H2 => tb { D with nx := N, ct := N, bk := D.nx } σ2 H2)) (.ref p) H ∨
    (fun (x : V) (H1 : Hp) => ∃ a, x = .ref a ∧ (∃ xs, SqT K H1 a xs) ∧ ∃ W : Nat → Nat → L2.St → Hp → Prop, (∃ m, W 0 m σ H1) ∧ ∀ i m σ H, W i m σ H →
      ((Itt K a).stop i H ∧ D.nx σ H) ∨ ((Itt K a).go i H ∧ ∃ N : L2.St → Hp → Prop, (∀ σ' H', N σ' H' → ∃ m', m' < m ∧ W (i + 1) m' σ' H') ∧ ∀ x H', (Itt K a).yld i H x H' → g x σ H' fun σ2 H2 => tb { D with nx := N, ct := N, bk := D.nx } σ2 H2)) (.ref p) H := by
  rcases hp with hp | hp
  · exact .inl ⟨p, rfl, ⟨_, SqL.of hp⟩, for_list Pv h0 (fun i σ H' _ q => SqL.of ((keep i σ H' q).trans hp)) hs hd⟩
  · refine .inr ⟨p, rfl, ⟨_, .inl hp⟩, for_tup Pv h0 (fun i σ H' _ q => .inl (hp.imp (fun e => (keep i σ H' q).trans e) fun ⟨o, e⟩ => ⟨o, (keep i σ H' q).trans e⟩)) hs hd⟩
theorem sv_drop (ts : List (List Nat)) (k : Nat) : (sv ts).drop k = sv (ts.drop k) := by unfold sv; rw [List.map_drop]
theorem lc_fmT {K : PySem.W.Frag} {a : Addr} {xs : List V} {j : Nat} {tt : TT} {te : TE} {vs : List Nat} {σ : L2.St} {H1 : Hp} {D : Addr} {Qd : Hp → Prop} (f : V → V) (p : V → Bool) (hx : Rd H1 a (.tup xs)) (hD : H1 D = none) (hz : xs.length ≤ sizeLine)
    (hw : ∀ x : V, wipe ((wipe σ vs).set j (some x)) vs = wipe σ vs)
    (ht : ∀ (x : V) (acc : List V) (Q : Bool → Hp → Prop), x ∈ xs → Q (p x) (upd H1 D (.lst acc)) → tt ((wipe σ vs).set j (some x)) (upd H1 D (.lst acc)) Q)
    (he : ∀ (x : V) (acc : List V) (Q : VK), x ∈ xs → Q (f x) (upd H1 D (.lst acc)) → te ((wipe σ vs).set j (some x)) (upd H1 D (.lst acc)) Q)
    (hd : Qd (upd H1 D (.lst ((xs.filter p).map f)))) :
    ∃ W : Nat → Nat → Hp → Prop, (∃ m, W 0 m (upd H1 D (.lst []))) ∧ ∀ i m H, W i m H →
      ((Itt K a).stop i H ∧ Qd H) ∨ ((Itt K a).go i H ∧ ∃ Nx : Hp → Prop, (∀ H', Nx H' → ∃ m', m' < m ∧ W (i + 1) m' H') ∧ ∀ x H', (Itt K a).yld i H x H' → gName j x (wipe σ vs) H' fun σ2 H2 => wipe σ2 vs = wipe σ vs ∧ tt σ2 H2 fun b H3 =>
        if b = true then te σ2 H3 fun y H4 => ∃ acc, H4 D = some (.lst acc) ∧ acc.length < sizeLine ∧ Nx (upd H4 D (.lst (acc ++ [y]))) else Nx H3) := by
  have keep : ∀ acc, SqT K (upd H1 D (.lst acc)) a xs := fun acc => .inl (hx.imp ((same_new hD) _ _) fun ⟨o, e⟩ => ⟨o, (same_new hD) _ _ e⟩)
  refine lc_tup (xs := xs) (fun i H => H = upd H1 D (.lst (((xs.take i).filter p).map f))) rfl (fun i H _ e => by rw [e]; exact keep _) (fun i x H hi e => ?_) (fun H e => by rw [e, List.take_length]; exact hd)
  subst e
  have hm : x ∈ xs := List.mem_of_getElem? hi
  have hil := (List.getElem?_eq_some_iff.mp hi).1
  have et : xs.take (i + 1) = xs.take i ++ [x] := by rw [List.take_add_one, hi]; rfl
  refine ⟨hw x, ht x _ _ hm ?_⟩
  cases hp : p x with
  | true =>
    rw [if_pos rfl]
    refine he x _ _ hm ⟨_, upd_same, ?_, ?_⟩
    · rw [List.length_map]
      have := List.length_filter_le p (xs.take i)
      rw [List.length_take] at this
      omega
    · rw [upd_upd, et, List.filter_append, List.map_append]
      simp [hp]
  | false =>
    rw [if_neg Bool.false_ne_true, et, List.filter_append]
    simp [hp]

theorem lc_sq {K : PySem.W.Frag} {p : Addr} {xs : List V} {j : Nat} {tt : TT} {te : TE} {vs : List Nat} {σ : L2.St} {H : Hp} {Q : VK} (f : V → V) (c : V → Bool) (hp : Lt H p xs) (hz : xs.length ≤ sizeLine)
    (hw : ∀ x : V, wipe ((wipe σ vs).set j (some x)) vs = wipe σ vs)
    (ht : ∀ (D : Addr), H D = none → ∀ (x : V) (acc : List V) (Q : Bool → Hp → Prop), x ∈ xs → Q (c x) (upd H D (.lst acc)) → tt ((wipe σ vs).set j (some x)) (upd H D (.lst acc)) Q)
    (he : ∀ (D : Addr), H D = none → ∀ (x : V) (acc : List V) (Q : VK), x ∈ xs → Q (f x) (upd H D (.lst acc)) → te ((wipe σ vs).set j (some x)) (upd H D (.lst acc)) Q)
    (hd : ∀ D, H D = none → Q (.ref D) (upd H D (.lst ((xs.filter c).map f)))) :
    (fun (x : V) (H1 : Hp) => ∃ a, x = .ref a ∧ (∃ xs, SqL K H1 a xs) ∧ ∀ D, H1 D = none → ∃ W : Nat → Nat → Hp → Prop, (∃ m, W 0 m (upd H1 D (.lst []))) ∧ ∀ i m H, W i m H →
      ((Itl K a).stop i H ∧ Q (.ref D) H) ∨ ((Itl K a).go i H ∧ ∃ Nx : Hp → Prop, (∀ H', Nx H' → ∃ m', m' < m ∧ W (i + 1) m' H') ∧ ∀ x H', (Itl K a).yld i H x H' → gName j x (wipe σ vs) H' fun σ2 H2 => wipe σ2 vs = wipe σ vs ∧ tt σ2 H2 fun b H3 =>
        if b = true then te σ2 H3 fun y H4 => ∃ acc, H4 D = some (.lst acc) ∧ acc.length < sizeLine ∧ Nx (upd H4 D (.lst (acc ++ [y]))) else Nx H3)) (.ref p) H ∨
    (fun (x : V) (H1 : Hp) => ∃ a, x = .ref a ∧ (∃ xs, SqT K H1 a xs) ∧ ∀ D, H1 D = none → ∃ W : Nat → Nat → Hp → Prop, (∃ m, W 0 m (upd H1 D (.lst []))) ∧ ∀ i m H, W i m H →
      ((Itt K a).stop i H ∧ Q (.ref D) H) ∨ ((Itt K a).go i H ∧ ∃ Nx : Hp → Prop, (∀ H', Nx H' → ∃ m', m' < m ∧ W (i + 1) m' H') ∧ ∀ x H', (Itt K a).yld i H x H' → gName j x (wipe σ vs) H' fun σ2 H2 => wipe σ2 vs = wipe σ vs ∧ tt σ2 H2 fun b H3 =>
        if b = true then te σ2 H3 fun y H4 => ∃ acc, H4 D = some (.lst acc) ∧ acc.length < sizeLine ∧ Nx (upd H4 D (.lst (acc ++ [y]))) else Nx H3)) (.ref p) H := by
  rcases hp with hp | hp
  · exact .inl ⟨p, rfl, ⟨_, SqL.of hp⟩, fun D hD => lc_fm f c (SqL.of hp) hD hz hw (ht D hD) (he D hD) (hd D hD)⟩
  · exact .inr ⟨p, rfl, ⟨_, .inl hp⟩, fun D hD => lc_fmT f c hp hD hz hw (ht D hD) (he D hD) (hd D hD)⟩
end RK

namespace RK
open PySem PySem.Spec PyProof.Rows L2 L2H
section
variable {X : Cx}
theorem call_tupF : CallR X (.type "tuple") (fun xs H Q => ∃ p ys, xs = [.ref p] ∧ SqL X.K H p ys ∧ ∀ l o, H l = none → o.cls = .type "tuple" → o.dict = none → Q (.ref l) (upd H l (.frz o (.tup ys)))) := by
  rintro pn s σ H xs us Q I rv ⟨p, ys, rfl, hs, q⟩
  obtain ⟨u, rfl, ru⟩ := vals1 rv
  cases ru
  obtain ⟨its, ri, pl, few⟩ := I.list hs
  have len := ri.length
  refine call_tuple_list pl.isList (fun h2 kp => ?_) (by rw [List.size_toArray]; omega)
  have J := I.kept (t' := s.toks) kp
  have got := Heap.get?_push_size h2 (o := { cls := .type "tuple", data := .seq its.toArray }) rfl
  refine ⟨.ref h2.objs.size, _, J.laid (t' := s.toks) (o := .frz { cls := .type "tuple", data := .seq its.toArray } (.tup ys)) (fun b o e => Heap.get?_push_of_some _ e) (Nat.le_refl _) ⟨got, few, its, ri, IsTup.new _ _⟩, rfl, q _ _ (J.hok.fresh (Nat.le_refl _)) rfl rfl⟩
/-- t.m(e, ..), t such a tuple -/
def tBMF (r : V → List V → Hp → VK → Prop) (to : TE) (t : TA) : TE := fun σ H Q => to σ H fun x H1 => (∃ p xs, x = .ref p ∧ Tpl H1 p xs) ∧ t σ H1 fun ys H2 => r x ys H2 Q
theorem pe_bmF {o e : Expr} {es : List Expr} {to : TE} {t : TA} {name : Str} {apos cpos : Pos} {id : String} {r : V → List V → Hp → VK → Prop} (slot : Slot "tuple" name id) (hty : typeOf (.builtin id) = pure (.type "method_descriptor")) (hm : MtR X id r) (ho : PE X o to) (ha : PA X (e :: es) t)
    (hbase : attributeBase o name X.env (eval o X.env) = eval o X.env := by rfl)
    (hfew : ((backTo cpos (starEach (e :: es) X.env)).all (fun x => !x.1) && (backToKw cpos (keywordEach [] X.env)).all (fun x => x.1.isSome)
      && decide ((e :: es).length + ([] : List Keyword).length + (if ([] : List Keyword).isEmpty then 0 else 1) < 30)) = true := by rfl)
    (hline : (apos.endLine == cpos.line) = true := by rfl) (hs : starEach (e :: es) X.env = (false, eval e X.env) :: starEach es X.env := by rfl) (plain : (backTo cpos (starEach es X.env)).any (·.1) = false := by rfl) :
    PE X (.Call (.Attribute o name apos) (e :: es) [] cpos) (tBMF r to t) := by
  refine ⟨fun pn s σ H Q I h => wpAny_Call_method_late hbase hfew hline rfl (thn (ho.run pn s σ H _ I h) fun v s1 ⟨x, H1, J, rx, ⟨p, xs, ex, ob, eo, co, dd⟩, q⟩ => ?_)⟩
  subst ex
  cases rx
  have got : s1.heap.get? p = some ob := (J.hok p _ eo).1
  refine ⟨"tuple", id, PySem.F.plainAttrs_tuple, slot, hty, ⟨ob, got, co⟩, fun a e => by cases e; exact ⟨ob, got, dd⟩, ?_⟩
  have hA := ha.run cpos pn s1 σ H1 _ J q
  rw [hs] at hA ⊢
  refine Calls.callWith_builtin (by show (false || (backTo cpos (starEach es X.env)).any (·.1)) = false; rw [plain]; rfl) (Calls.evalArgs_plain ?_)
  exact thn hA fun us s2 ⟨ys, H2, J2, ry, q2⟩ => hm pn s2 σ H2 (.ref p) ys _ us Q J2 rfl ry q2
end

section
variable {X : Cx}
/-- tuple(l), l a list -/
def mTupF (K : PySem.W.Frag) : List V → Hp → VK → Prop := fun vs H Q => match vs with
  | [.ref p] => ∃ ys, SqL K H p ys ∧ ∀ l o, H l = none → o.cls = .type "tuple" → o.dict = none → Q (.ref l) (upd H l (.frz o (.tup ys)))
  | _ => False
theorem xc_tupF : CallR X (.type "tuple") (mTupF X.K) := calImp call_tupF fun xs H Q h => by
  unfold mTupF at h
  split at h
  · obtain ⟨ys, h1, h2⟩ := h
    exact ⟨_, ys, rfl, h1, h2⟩
  · exact h.elim
end

/-! ### slices of lists and tuples alike -/
section
variable {X : Cx}
def mSlA (K : PySem.W.Frag) : V → Option Int → Option Int → Hp → VK → Prop := fun x lo hi H Q => mSl K x lo hi H Q ∨ rSlA K x lo hi H Q
theorem ksla {K : PySem.W.Frag} (h : X.K = K) : SlR X (mSlA K) := h ▸ SlR.or xsl sl_tupA
theorem cut_all {xs : List V} {lo hi : Option Int} (h : HT.sIx xs.length 0 lo = 0 ∧ HT.sIx xs.length xs.length hi = xs.length) : cutV xs lo hi = xs := by
  unfold cutV
  rw [h.1, h.2]
  simp
theorem Lt.cut {K : PySem.W.Frag} {H : Hp} {p : Addr} {xs : List V} {lo hi : Option Int} {Q : VK} (h : Lt H p xs) (q : ∀ r H', Same H H' → Lt H' r (cutV xs lo hi) → Q (.ref r) H') : mSlA K (.ref p) lo hi H Q := by
  rcases h with h | h
  · exact .inl ⟨xs, SqL.of h, fun r hr => q r _ (same_new hr) (.inl upd_same)⟩
  · refine .inr ⟨p, xs, rfl, .inl h, fun w => ?_, fun _ r hr => q r _ (same_new hr) (.inr (.inl upd_same))⟩
    exact q p H (Same.refl _) (by rw [cut_all w]; exact .inr h)
end
end RK

namespace RK
open PySem PySem.Spec PyProof.Rows L2 L2H
/-! ### dict comprehensions whose keys are tuples, too -/
section
variable {X : Cx} {pins : List (Addr × Obj)} {σ : L2.St} {H : Hp} {s : Shared}
/-- a comprehension's d[y] = v -/
theorem dc_store {Hn : Hp} {D : Addr} {y v : V} {u r : Value} {Er : Value → Shared → Prop} {Q : Unit → Shared → Prop} (hu : X.A.units < cLine) (I : Inv X pins σ H s) (g : DPut H D y v Hn) (ry : RelV y u) (rv : RelV v r)
    (go : ∀ t, Inv X pins σ Hn t → Q () t) : wpAny (model X.prog X.w) X.A (dictSet D u r) Q Er s := by
  rcases g with ⟨kvs, k, at_, ek, few, eH⟩ | ⟨kvs, k, b, at_, ek, atb, few, eH⟩
  · subst ek eH
    exact d_dictSet I at_ few ry rv go
  · subst ek eH
    cases (show u = Value.ref b from ry)
    obtain ⟨z, nm, xs, rel, dd⟩ := dt_of I.hok at_
    have z1 : xs.length ≤ sizeLine := by rw [← Paired.length rel]; exact z
    have z2 : (putK kvs k v).length ≤ sizeLine := Nat.le_trans (length_putK kvs k v) few
    refine wpAny_dictSet_heap (hsz := z1) (show (tupleKind (mixKind X.prog X.w)).room X.A from hu) (key_of I.hok atb) dd fun hp da sb => go _ ?_
    obtain ⟨q, es, ep, hq, a2, a3, a4, _, a5⟩ := da
    refine d_write I (by rw [at_]; trivial) sb ⟨q, hq⟩ ⟨z2, nm, _, (rel.put k atb rv).keeps fun c ys ec => ?_, q, es, ep, hq, a2, a3, a4, a5⟩
    rw [upd_ne (ne_of ec at_ (fun y => nomatch y)), ec]
end
/-- {k: v for target in iter if ..}: begun as e0 (no key yet), each pair put -/
def yDc (e0 : HO) (wi : TI) (g : TG) (tt : TT) (tk tv : TE) (vs : List Nat) : TE := fun σ H Q => wi σ H fun J Ha => ∀ D, Ha D = none → ∃ W : Nat → Nat → Hp → Prop, (∃ m, W 0 m (upd Ha D e0)) ∧ ∀ i m Hb, W i m Hb →
  (J.stop i Hb ∧ Q (.ref D) Hb) ∨ (J.go i Hb ∧ ∃ Nx : Hp → Prop, (∀ Hc, Nx Hc → ∃ m', m' < m ∧ W (i + 1) m' Hc) ∧ ∀ x Hc, J.yld i Hb x Hc → g x (wipe σ vs) Hc fun σ2 H2 => wipe σ2 vs = wipe σ vs ∧ tt σ2 H2 fun b H3 =>
    if b = true then tk σ2 H3 fun y H4 => tv σ2 H4 fun z H5 => ∃ H6, DPut H5 D y z H6 ∧ Nx H6 else Nx H3)
section
variable {X : Cx}
theorem pe_dcP {e0 : HO} {kx vx tg iter : Expr} {ifs : List Expr} {scope : Scope} {own : List (Str × Nat)} {pos : Pos} {wi : TI} {g : TG} {tt : TT} {tk tv : TE} (he0 : e0 = .dK [] ∨ e0 = .dT []) (hu : X.A.units < cLine)
    (calm : X.calm = true) (nd : X.N.Nodup) (walk : PI X tg iter wi) (blk : BlkOk X.N X.env.scope scope own)
    (pg : ∀ (t : Shared) (G : Hp) (C : Addr) (cl : List (Str × Addr)) (fp : List Addr), PG (X.blk t G scope (compEnvC scope cl C X.env) fp) tg g)
    (pt : ∀ (t : Shared) (G : Hp) (C : Addr) (cl : List (Str × Addr)) (fp : List Addr), PTs (X.blk t G scope (compEnvC scope cl C X.env) fp) ifs tt)
    (pk : ∀ (t : Shared) (G : Hp) (C : Addr) (cl : List (Str × Addr)) (fp : List Addr), PE (X.blk t G scope (compEnvC scope cl C X.env) fp) kx tk)
    (pv : ∀ (t : Shared) (G : Hp) (C : Addr) (cl : List (Str × Addr)) (fp : List Addr), PE (X.blk t G scope (compEnvC scope cl C X.env) fp) vx tv)
    (fold : ∀ x, foldedSetIterable iter X.env x = pure x := by intro _; rfl) : PE X (.DictComp kx vx [⟨tg, iter, ifs, 0⟩] scope pos) (yDc e0 wi g tt tk tv (own.map (·.2))) := by
  refine ⟨fun pins s σ H Q I q0 => ?_⟩
  rw [arm_eval_DictComp]
  have caps : ∀ y ∈ scope.names, y.2 = .free → ∃ c, X.env.cells.lookup y.1 = some c := fun y hy e => (blk.free y hy e).elim (fun k => I.ok.has _ (.inl k)) fun k => I.ok.has _ (.inr k)
  refine wpAny_comprehension_free rfl fold (closure_ok caps) blk.kind (fun y hy e => by rw [blk.uniq y hy, e]) (thn (walk.run pins s σ H _ I q0) fun xv s1 hx => thn hx fun itv s2 h2 => ?_)
  obtain ⟨it, fp, tn, J, Ha, ei, Ia, T, sta, fpa, q1⟩ := h2
  subst ei
  refine wpAny_newObj_type (newEnv_comp ?_)
  -- the dict begins
  have free0 : Ha s2.heap.objs.size = none := Ia.hok.fresh (Nat.le_refl _)
  obtain ⟨W, ⟨m0, w0⟩, turn⟩ := q1 s2.heap.objs.size free0
  generalize hD : s2.heap.objs.size = D at free0 w0 turn ⊢
  generalize hsD : ({ s2 with heap := s2.heap.push { cls := .type "dict", data := .dict #[] } } : Shared) = sD
  have heapD : sD.heap = s2.heap.push { cls := .type "dict", data := .dict #[] } := by rw [← hsD]
  have ID : Inv X pins σ (upd Ha D e0) sD := by
    rw [← hsD]
    refine Ia.laid (t' := s2.toks) (fun c o e => Heap.get?_push_of_some _ e) (Nat.le_of_eq hD) ?_
    rw [← hD]
    rcases he0 with e | e
    · rw [e]; exact dk_empty s2.heap Ia.big
    · rw [e]; exact dt_empty s2.heap Ia.big
  have below : ∀ c ∈ fp, c < s2.heap.objs.size := fun c hc => let ⟨o, e, _⟩ := T.obj _ _ sta c hc; Heap.lt_size e
  have fpD : ∀ c ∈ fp, FpOk X pins (upd Ha D e0) c ∧ c < sD.heap.objs.size := fun c hc => by
    have lt := below c hc
    refine ⟨⟨?_, (fpa c hc).2⟩, ?_⟩
    · rw [upd_ne (by rw [← hD]; exact Nat.ne_of_lt lt)]; exact (fpa c hc).1
    · rw [heapD, Heap.size_push]; exact Nat.lt_succ_of_lt lt
  have stD : tn 0 sD.heap := T.keep _ _ _ sta fun c _ o e => by rw [heapD]; exact Heap.get?_push_of_some _ e
  have IB := block_start ID blk nd fpD
  have kg := pg sD (upd Ha D e0) sD.heap.objs.size (cellsFrom (sD.heap.objs.size + 1) scope.names (cloFrom X.env.cells scope.names [])) fp
  have kt := pt sD (upd Ha D e0) sD.heap.objs.size (cellsFrom (sD.heap.objs.size + 1) scope.names (cloFrom X.env.cells scope.names [])) fp
  have kk := pk sD (upd Ha D e0) sD.heap.objs.size (cellsFrom (sD.heap.objs.size + 1) scope.names (cloFrom X.env.cells scope.names [])) fp
  have kv := pv sD (upd Ha D e0) sD.heap.objs.size (cellsFrom (sD.heap.objs.size + 1) scope.names (cloFrom X.env.cells scope.names [])) fp
  have quiet : ∀ c ∈ fp, (upd Ha D e0) c = none := fun c hc => (fpD c hc).1.1
  show codeAny _ _ (.compStart (.DictComp kx vx [⟨tg, iter, ifs, 0⟩] scope pos) 0 (.ref it) (.ref D) (compEnvC scope (cellsFrom (sD.heap.objs.size + 1) scope.names (cloFrom X.env.cells scope.names [])) sD.heap.objs.size X.env)) (compPost (model X.prog X.w) X.A X.xe none (EP X pins σ Q) (.ref D) sD.heap.objs.size) { sD with heap := pushCells (sD.heap.push { cls := .type "dict", data := .dict #[] }) scope.names }
  generalize hce : compEnvC scope (cellsFrom (sD.heap.objs.size + 1) scope.names (cloFrom X.env.cells scope.names [])) sD.heap.objs.size X.env = ce at IB kg kt kk kv ⊢
  have place : ce.locals = sD.heap.objs.size := by subst hce; rfl
  generalize hHD : upd Ha D e0 = HD at ID IB kg kt kk kv w0 quiet fpD
  generalize hsB : ({ sD with heap := pushCells (sD.heap.push { cls := .type "dict", data := .dict #[] }) scope.names } : Shared) = sB at IB ⊢
  have stB : tn 0 sB.heap := T.keep _ _ _ stD fun c _ o e => by rw [← hsB]; exact pushCells_keeps _ _ _ _ (Heap.get?_push_of_some _ e)
  -- what the walk looks at stays as it is, from turn to turn
  have calmly : ∀ {σa : L2.St} {Hx : Hp} {sx : Shared}, Inv (X.blk sD HD scope ce fp) [] σa Hx sx → (∀ c ∈ fp, Hx c = none) → ∀ c ∈ fp, FpOk (X.blk sD HD scope ce fp) [] Hx c := fun {σa Hx sx} Ix hn c hc =>
    ⟨hn c hc, (Ix.ok.exf c hc).1, Ix.ok.exfs c hc, .inl hc, fun x d e => (Ix.ok.exf c hc).2 x d e, fun p hp => absurd (show p ∈ ([] : List (Addr × Obj)) ++ [] from hp) (by simp)⟩
  have loop : codeAny (model X.prog X.w) X.A (.compLoop (.DictComp kx vx [⟨tg, iter, ifs, 0⟩] scope pos) 0 (.ref it) (.ref D) ce) (compPost (model X.prog X.w) X.A X.xe none (EP X pins σ Q) (.ref D) sD.heap.objs.size) sB := by
    let Turn : Nat → Shared → Prop := fun n t => ∃ i G, Inv (X.blk sD HD scope ce fp) [] (wipe σ (own.map (·.2))) G t ∧ tn i t.heap ∧ (∀ c ∈ fp, G c = none) ∧ W i n G
    refine compLoop_anyD Turn ?_ m0 ⟨0, HD, IB, stB, quiet, w0⟩
    rintro n t ⟨i, G, It, stt, nt, wt⟩
    rcases turn i n G wt with ⟨stop, over⟩ | ⟨go, Nx, next, step⟩
    · -- no item is left
      have dn := T.done (X.blk sD HD scope ce fp) rfl rfl rfl calm i [] t _ G (fun _ _ => False) It (calmly It nt) stt stop
      refine thnF dn fun r t2 ⟨er, I2⟩ => ?_
      subst er
      have Iout : Inv X pins σ G t2 := ID.call' (ch := fp) I2.os I2.base I2.hok I2.bare fun c hc => ⟨(fpD c hc).1.2.2.2.1, (fpD c hc).1.2.1, (fpD c hc).1.2.2.2.2.1, (fpD c hc).1.2.2.2.2.2⟩
      have gone : G sD.heap.objs.size = none := by
        have y : G ce.locals = none := I2.free
        rwa [place] at y
      obtain ⟨m, names, _⟩ := I2.loc
      have names : t2.heap.Ns ce.locals m := names
      rw [place] at names
      obtain ⟨f0, f1, f2, f3, f4, f5⟩ := ID.fpOk (Nat.le_refl _) gone
      exact ⟨m, names, fun hz sb => ⟨.ref D, G, Iout.turned (t' := t2.toks) (fun c o hc e => (sb.2 c hc).trans e) f0 f1 f3 f4 f5, rfl, over⟩⟩
    · have itm := T.item (X.blk sD HD scope ce fp) rfl rfl rfl calm i [] t _ G (fun _ _ => False) It (calmly It nt) stt go
      refine thnF itm fun r t2 ⟨u, er, rest⟩ => ?_
      subst er
      refine thnF rest fun _ t3 ⟨x, G3, I3, r3, y3, st3, n3⟩ => ?_
      have P3 := I3.pinned (calmly I3 n3) (T.obj _ _ st3)
      refine thnF (kg.run _ t3 _ G3 x u _ P3 r3 (step x G3 y3)) fun _ t4 ⟨σ4, G4, I4, same4, q4⟩ => ?_
      refine thnF (kt.run _ t4 σ4 G4 _ I4 q4) fun b t5 ⟨G5, I5, q5⟩ => ?_
      have on : ∀ {tz : Shared} {Gz : Hp}, Inv (X.blk sD HD scope ce fp) ([] ++ pinsAt fp t3.heap) σ4 Gz tz → Nx Gz → ∃ m, m < n ∧ Turn m tz := fun {tz Gz} Iz nx => by
        obtain ⟨m1, less, w1⟩ := next Gz nx
        have stays : ∀ c ∈ fp, ∀ o, t3.heap.get? c = some o → tz.heap.get? c = some o ∧ Gz c = none := fun c hc o e =>
          let y := Iz.pin (c, o) (List.mem_append_right _ (List.mem_append_right _ (mem_pinsAt hc e)))
          ⟨y.1, y.2.1⟩
        have len : (wipe σ (own.map (·.2))).length = σ4.length := by rw [← same4, wipe_length]
        refine ⟨m1, less, i + 1, Gz, (Iz.unpinned (pins := [])).weak len (fun j v e => ?_), T.keep _ _ _ st3 fun c hc o e => (stays c hc o e).1, fun c hc => ?_, w1⟩
        · rw [← same4] at e; exact (wipe_some e).1
        · obtain ⟨o, e, _⟩ := T.obj _ _ st3 c hc; exact (stays c hc o e).2
      cases b with
      | false => exact on I5 (by simpa using q5)
      | true =>
        have q5 : tk σ4 G5 fun y H4 => tv σ4 H4 fun z H5 => ∃ H6, DPut H5 D y z H6 ∧ Nx H6 := by simpa using q5
        refine thnF (kk.run _ t5 σ4 G5 _ I5 q5) fun z t6 ⟨yk, G6, I6, r6, q6⟩ => ?_
        refine thnF (kv.run _ t6 σ4 G6 _ I6 q6) fun z2 t7 ⟨yv, G7, I7, r7, G8, put, nx⟩ => ?_
        exact dc_store (X := X.blk sD HD scope ce fp) hu I7 put r6 r7 fun t8 I8 => on I8 nx
  exact codeAny_compStart_dict loop (T.self X.A 0 _ _ _ stB loop)
end
end RK

namespace RK
open PySem PySem.Spec PyProof.Rows L2 L2H
/-! ### the head's facts, at written addresses -/
inductive Fl where
  /-- nothing of the module has this name -/
  | free (x : Str)
  | int (x : Str) (i : Int)
  | str (x z : Str)
  /-- the name x stands for the object at a -/
  | glo (x : Str) (a : Addr)
  | tup (a : Addr) (zs : List Str)
  /-- a def at a, its qualified name -/
  | fn (a : Addr) (q : Str)
  /-- a class at a, its line of classes -/
  | cls (a : Addr) (l : List Value)
  /-- an error class at a with an __init__ at i -/
  | err (a i : Addr)
  | nof (a : Addr) (f : Str)
  | base
  /-- a class with instances -/
  | inst (a : Addr)
  | meth (a : Addr) (m : Str) (g : Addr)
  | make (a g : Addr)
  | prop (a : Addr) (f : Str) (p g : Addr)
def eqOB (a b : Option Bool) : Bool := decide (a = b)
def eqVo (a b : Option Value) : Bool := decide (a = b)
def isNon : Value → Bool
  | .none => true
  | _ => false
def Fl.ok (K : PySem.W.Frag) : Fl → Bool
  | .free x => He.eqO (PySem.W.nsIn K mainGlobals x) (some none)
  | .int x i => (match PySem.W.nsIn K mainGlobals x with
    | some (some (.int j _)) => decide (j = i)
    | _ => false)
  | .str x z => (match PySem.W.nsIn K mainGlobals x with
    | some (some (.str y _)) => decide (y = z)
    | _ => false)
  | .glo x a => He.eqO (PySem.W.nsIn K mainGlobals x) (some (some (.ref a)))
  | .tup a zs => (match K.lookup a with
    | some ⟨.type c, _, .seq its _, _⟩ => decide (c = "tuple") && (decide (its.size ≤ sizeLine) && He.relAll (zs.map V.str) its.toList)
    | _ => false)
  | .fn a q => PySem.W.keepIn K (.ref a) && (match K.lookup a with
    | some ⟨_, _, .func u, _⟩ => PySem.W.codeIn K u.code q && isNon u.defaults
    | _ => false)
  | .cls a l => (match PySem.W.clsIn K a with
    | some cd => decide (cd.mro = l)
    | none => false) && (eqVo (PySem.W.typeIn K (.ref a)) (some (.type "type")) && !l.isEmpty)
  | .err a i => (match K.lookup a with
      | some ⟨.type "type", _, .cls cd, sl⟩ => (match cd.mro, sl.toList with
        | .ref C' :: bm, [_, _, _, _, some (.builtin n), _] => C' == a && n == "ValueError.__new__" && !cd.hasDel && cd.hasDict && PySem.HandSPX.refsVE bm
        | _, _ => false)
      | _ => false) &&
    (He.eqO (PySem.W.findIn K (.ref a) "__setattr__") (some (some (.builtin "object.__setattr__"))) &&
    (PySem.W.keepIn K (.ref a) &&
    (He.eqO (PySem.W.findIn K (.ref a) "__init__") (some (some (.ref i))) &&
    (eqVo (PySem.W.typeIn K (.ref i)) (some (.type "function")) &&
    (He.eqO (PySem.W.findIn K (.ref a) "__getattribute__") (some (some (.builtin "BaseException.__getattribute__"))) &&
    (He.eqO (PySem.W.findIn K (.ref a) "__getattr__") (some none) &&
    (He.eqO (PySem.W.findIn K (.ref a) "__class__") (some (some (.builtin "object.__class__"))) &&
    PySem.W.hasDictIn K a)))))))
  | .nof a f => He.eqO (PySem.W.findIn K (.ref a) f) (some none)
  | .base => He.eqO (PySem.W.specialIn K (.builtin "object.__class__") "__get__") (some (some (.builtin "getset_descriptor.__get__"))) && eqOB (PySem.W.takesIn K (.builtin "object.__class__")) (some true)
  | .inst a => PySem.W.plainGet K a Str.empty && (PySem.W.hasDictIn K a && (PySem.W.plainOver K a && He.eqO (PySem.W.findIn K (.ref a) "__setattr__") (some (some (.builtin "object.__setattr__")))))
  | .meth a m g => He.eqO (PySem.W.findIn K (.ref a) m) (some (some (.ref g))) && (PySem.W.isFn K (.ref g) && PySem.W.keepIn K (.ref g))
  | .make a g => PySem.W.makesIn K a && (He.eqO (PySem.W.findIn K (.ref a) "__init__") (some (some (.ref g))) && (PySem.W.isFn K (.ref g) && PySem.W.keepIn K (.ref a)))
  | .prop a f p g => He.eqO (PySem.W.findIn K (.ref a) f) (some (some (.ref p))) && (He.eqO (PySem.W.specialIn K (.ref p) "__get__") (some (some (.builtin "property.__get__"))) &&
      (eqOB (PySem.W.takesIn K (.ref p)) (some true) && (match PySem.W.recIn K p "property" with
        | some (v :: _) => decide (v = .ref g)
        | _ => false)))
section
variable {K : PySem.W.Frag} {h : Heap} {mg : Str → Option Value}
theorem eqOB_ok {a b : Option Bool} (e : eqOB a b = true) : a = b := of_decide_eq_true e
theorem eqVo_ok {a b : Option Value} (e : eqVo a b = true) : a = b := of_decide_eq_true e
theorem Fl.free_ok (X : K.In h) (G : h.Ns mainGlobals mg) {x : Str} (c : (Fl.free x).ok K = true) : mg x = none := PySem.W.mg_none_of X G (He.eqO_ok c)
theorem Fl.int_ok (X : K.In h) (G : h.Ns mainGlobals mg) {x : Str} {i : Int} (c : (Fl.int x i).ok K = true) : ∃ t, mg x = some (.int i t) := He.int_ok X G (x := x) (i := i) c
theorem Fl.str_ok (X : K.In h) (G : h.Ns mainGlobals mg) {x z : Str} (c : (Fl.str x z).ok K = true) : ∃ t, mg x = some (.str z t) := He.str_ok X G (x := x) (z := z) c
theorem Fl.glo_ok (X : K.In h) (G : h.Ns mainGlobals mg) {x : Str} {a : Addr} (c : (Fl.glo x a).ok K = true) : mg x = some (.ref a) := PySem.W.mg_of X G (He.eqO_ok c)
theorem Fl.ca {x : Str} {a : Addr} (c : (Fl.glo x a).ok K = true) : cA K x = a := cA_of (He.eqO_ok c)
theorem Fl.tup_ok {a : Addr} {zs : List Str} (c : (Fl.tup a zs).ok K = true) (H : Hp) : SqT K H a (zs.map V.str) := by
  have c1 : (match K.lookup a with
    | some ⟨.type c, _, .seq its _, _⟩ => decide (c = "tuple") && (decide (its.size ≤ sizeLine) && He.relAll (zs.map V.str) its.toList)
    | _ => false) = true := c
  cases l : K.lookup a with
  | none => rw [l] at c1; cases c1
  | some o =>
    obtain ⟨oc, od, dt, sl⟩ := o
    rw [l] at c1
    cases oc with
    | type n =>
      cases dt with
      | seq its e =>
        obtain ⟨h1, h2⟩ := He.ba (show (decide (n = "tuple") && (decide (its.size ≤ sizeLine) && He.relAll (zs.map V.str) its.toList)) = true from c1)
        obtain ⟨h3, h4⟩ := He.ba h2
        exact .inr ⟨_, its, e, l, congrArg Value.type (of_decide_eq_true h1), rfl, of_decide_eq_true h3, He.relAll_ok h4⟩
      | _ => cases c1
    | _ => cases dt <;> cases c1
def fnA (K : PySem.W.Frag) (a : Addr) : He.FnW := match K.lookup a with
  | some ⟨_, _, .func u, _⟩ => some (u.name, u.qualname, u.params, u.body, u.scope, u.globals, u.closure, u.builtins)
  | _ => none
theorem fun_at {a : Addr} {x q : Str} {st : Stmt} (e : fnA K a = some (x, q, defArgs st, .stmts (defBody st), defScope st, mainGlobals, [], builtinsNs)) (c : (Fl.fn a q).ok K = true) : ∃ fd, Fun K x q st a fd := by
  obtain ⟨kp, c2⟩ := He.ba (show (PySem.W.keepIn K (.ref a) && (match K.lookup a with
    | some ⟨_, _, .func u, _⟩ => PySem.W.codeIn K u.code q && isNon u.defaults
    | _ => false)) = true from c)
  unfold fnA at e
  cases l : K.lookup a with
  | none => rw [l] at c2; cases c2
  | some o =>
    obtain ⟨oc, od, dt, sl⟩ := o
    rw [l] at c2 e
    cases dt with
    | func u =>
      obtain ⟨m1, m2, m3, m4, m5, m6, m7, m8, m9, m10, m11, m12, m13, m14, m15⟩ := u
      have e2 : (some (m1, m2, m3, m4, m5, m6, m7, m15) : He.FnW) = some (x, q, defArgs st, .stmts (defBody st), defScope st, mainGlobals, [], builtinsNs) := e
      simp only [Option.some.injEq, Prod.mk.injEq] at e2
      obtain ⟨z1, z2, z3, z4, z5, z6, z7, z8⟩ := e2
      subst z1 z2 z3 z4 z5 z6 z7 z8
      obtain ⟨k1, k2⟩ := He.ba (show (PySem.W.codeIn K m13 m2 && isNon m8) = true from c2)
      have : m8 = .none := by
        cases m8 <;> first | rfl | cases k2
      subst this
      exact ⟨_, ⟨oc, od, m9, m10, m11, m12, m13, m14, sl, rfl, l, k1⟩, kp⟩
    | _ => cases c2
theorem binds_law {x qual : Str} {st : Stmt} {f : Addr} {fd : FuncData} (F : Fun K x qual st f fd)
    (h : ∀ (kV doc pm : Value) (an : Option Addr) (cdv ct v : Value), bindArgs (PySem.W.fnOf x qual (defArgs st) (defBody st) (defScope st) .none kV doc pm an cdv ct) ⟨[v], []⟩ = pure [(("script" : Str), v)]) : ∀ (s : Shared) (v : Value), BindsTo s fd ⟨[v], []⟩ [("script", v)] := by
  obtain ⟨oc, od, kV, doc, pm, an, cdv, ct, osl, rfl, _, _⟩ := F.ex
  exact fun s v => .of_eq (h _ _ _ _ _ _ _)
/-- the facts of a class -/
structure ClL (K : PySem.W.Frag) (x : Str) (a : Addr) (l : List Value) : Prop where
  e : cA K x = a
  c : ∃ cd, PySem.W.clsIn K a = some cd ∧ cd.mro = l
  t : PySem.W.typeIn K (.ref a) = some (.type "type")
  n : l ≠ []
theorem Fl.cls_ok {x : Str} {a : Addr} {l : List Value} (g : (Fl.glo x a).ok K = true) (c : (Fl.cls a l).ok K = true) : ClL K x a l := by
  obtain ⟨c1, c⟩ := He.ba (show ((match PySem.W.clsIn K a with
    | some cd => decide (cd.mro = l)
    | none => false) && (eqVo (PySem.W.typeIn K (.ref a)) (some (.type "type")) && !l.isEmpty)) = true from c)
  obtain ⟨c2, c3⟩ := He.ba c
  refine ⟨Fl.ca g, ?_, eqVo_ok c2, fun e => by rw [e] at c3; cases c3⟩
  cases q : PySem.W.clsIn K a with
  | none => rw [q] at c1; cases c1
  | some cd => rw [q] at c1; exact ⟨cd, rfl, of_decide_eq_true c1⟩
theorem ClL.sub {x : Str} {a : Addr} {l : List Value} (c : ClL K x a l) (b : Value) : PySem.W.subIn K (.ref (cA K x)) b = some (l.contains b) := by
  obtain ⟨cd, h, e⟩ := c.c
  rw [c.e]
  show (PySem.W.clsIn K a).bind _ = _
  rw [h]
  show (if cd.mro.isEmpty = true then none else some (cd.mro.contains b)) = _
  rw [e, if_neg (by simpa using c.n)]
theorem ClL.at_ {x : Str} {a : Addr} {l : List Value} (c : ClL K x a l) (X : K.In h) (G : h.Ns mainGlobals mg) (g : (Fl.glo x a).ok K = true) : mg x = some (.ref (cA K x)) := by
  rw [c.e]; exact Fl.glo_ok X G g
theorem ClL.kit {x y : Str} {a b : Addr} {l m : List Value} {r : Bool} (c : ClL K x a l) (d : ClL K y b m) (hr : l.contains (.ref b) = r) (hd : (b == a) = true → r = true) : PySem.W.kitOne K (.ref (cA K x)) (.ref (cA K y)) = some r := by
  obtain ⟨cd, h, e⟩ := d.c
  refine kit_own (cd := cd) (by rw [d.e]; exact h) (by rw [d.e]; exact d.t) (by rw [c.sub, d.e, hr]) fun z => hd (by rw [d.e, c.e] at z; simpa using z)
theorem ClL.exm {x y : Str} {a b : Addr} {l m : List Value} {r : Bool} (c : ClL K x a l) (d : ClL K y b m) (hr : l.contains (.ref b) = r) (hm : m.contains (.type "BaseException") = true) : PySem.W.exmOne K (.ref (cA K x)) (.ref (cA K y)) = some r := by
  obtain ⟨cd, h, e⟩ := d.c
  exact exm_own (cd := cd) (by rw [d.sub, hm]) (by rw [d.e]; exact h) (by rw [d.e]; exact d.t) (by rw [c.sub, d.e, hr])
theorem ClL.val {x : Str} {a : Addr} {l : List Value} (c : ClL K x a l) (hv : l.contains (.type "ValueError") = true) (km : PySem.W.kitMeta "ValueError" = true) : PySem.W.kitOne K (.ref (cA K x)) (.type "ValueError") = some true := kit_val km (by rw [c.sub, hv])
/-- the facts of an error class -/
structure ErL (K : PySem.W.Frag) (x : Str) (i : Addr) : Prop where
  ox : OexC K (cA K x)
  er : ErrC K (cA K x)
  ini : PySem.W.findIn K (.ref (cA K x)) "__init__" = some (some (.ref i))
  fn : PySem.W.typeIn K (.ref i) = some (.type "function")
theorem Fl.err_ok {x : Str} {a i : Addr} {l : List Value} (cl : ClL K x a l) (bs : Fl.base.ok K = true) (hb : l.contains (.type "BaseException") = true) (ho : l.contains (.type "object") = true) (c : (Fl.err a i).ok K = true) : ErL K x i := by
  obtain ⟨s1, s2⟩ := He.ba (show (He.eqO (PySem.W.specialIn K (.builtin "object.__class__") "__get__") (some (some (.builtin "getset_descriptor.__get__"))) && eqOB (PySem.W.takesIn K (.builtin "object.__class__")) (some true)) = true from bs)
  obtain ⟨c0, c⟩ := He.ba c
  obtain ⟨c1, c⟩ := He.ba c
  obtain ⟨c3, c⟩ := He.ba c
  obtain ⟨c4, c⟩ := He.ba c
  obtain ⟨c5, c⟩ := He.ba c
  obtain ⟨c6, c⟩ := He.ba c
  obtain ⟨c7, c⟩ := He.ba c
  obtain ⟨c8, c10⟩ := He.ba c
  have sub := cl.sub
  have mr : PySem.W.mroIn K a (.type "object") = some true := by
    have := cl.sub (.type "object")
    rw [cl.e, ho] at this
    exact this
  have sb := sub (.type "BaseException")
  rw [hb] at sb
  have e := cl.e
  obtain ⟨cd, hcd, _⟩ := cl.c
  rw [e] at sb
  refine ⟨?_, ?_, by rw [e]; exact He.eqO_ok c4, eqVo_ok c5⟩
  · rw [e]
    refine ⟨?_, He.eqO_ok c1, sb, cl.t, c3⟩
    split at c0
    · rename_i dd cd sl ho
      split at c0
      · rename_i C' bm k0 k1 k2 k3 n k5 hm hs
        simp only [Bool.and_eq_true, beq_iff_eq, Bool.not_eq_true'] at c0
        obtain ⟨⟨⟨⟨hC, rfl⟩, hdel⟩, hdc⟩, ht⟩ := c0
        subst hC
        obtain ⟨nm, bs, mro, ns, qn, hd, sn, sub, ab, col, del⟩ := cd
        dsimp only at hm hdel hdc
        subst hm hdel hdc
        have hsl : sl = #[k0, k1, k2, k3, some (.builtin "ValueError.__new__"), k5] := by
          obtain ⟨l⟩ := sl
          simp only at hs
          rw [hs]
        subst hsl
        exact ⟨nm, qn, ns, bs, bm, sn, sub, ab, col, dd, k0, k1, k2, k3, k5, ho, ht⟩
      · cases c0
    · cases c0
  · rw [e]
    exact ⟨by rw [hcd]; rfl, He.eqO_ok c6, He.eqO_ok c7, sb, He.eqO_ok c8, He.eqO_ok s1, eqOB_ok s2, mr, c10⟩
theorem Fl.nof_ok {x f : Str} {a : Addr} (e : cA K x = a) (c : (Fl.nof a f).ok K = true) : PySem.W.findIn K (.ref (cA K x)) f = some none := by rw [e]; exact He.eqO_ok c
theorem Fl.noat_ok {x f : Str} {a : Addr} (e : cA K x = a) (c : (Fl.nof a f).ok K = true) : NoAttr K (cA K x) f := Fl.nof_ok e c
theorem Fl.inst_ok {x : Str} {a : Addr} (e : cA K x = a) (c : (Fl.inst a).ok K = true) : Cls K (cA K x) := by
  rw [e]
  obtain ⟨c1, c⟩ := He.ba c
  obtain ⟨c2, c⟩ := He.ba c
  obtain ⟨c3, c4⟩ := He.ba c
  exact ⟨c1, c2, c3, He.eqO_ok c4⟩
theorem Fl.meth_ok {x m : Str} {a g : Addr} (e : cA K x = a) (c : (Fl.meth a m g).ok K = true) : Meth K (cA K x) m g := by
  rw [e]
  obtain ⟨c1, c⟩ := He.ba c
  obtain ⟨c2, c3⟩ := He.ba c
  exact ⟨He.eqO_ok c1, c2, c3⟩
theorem Fl.make_ok {x : Str} {a g : Addr} (e : cA K x = a) (c : (Fl.make a g).ok K = true) : Mk K (cA K x) g := by
  rw [e]
  obtain ⟨c1, c⟩ := He.ba c
  obtain ⟨c2, c⟩ := He.ba c
  obtain ⟨c3, c4⟩ := He.ba c
  exact ⟨c1, He.eqO_ok c2, c3, c4⟩
theorem Fl.prop_ok {x f : Str} {a p g : Addr} (e : cA K x = a) (c : (Fl.prop a f p g).ok K = true) : PropOf K (cA K x) f p g := by
  rw [e]
  obtain ⟨c1, c⟩ := He.ba (show (He.eqO (PySem.W.findIn K (.ref a) f) (some (some (.ref p))) && (He.eqO (PySem.W.specialIn K (.ref p) "__get__") (some (some (.builtin "property.__get__"))) &&
      (eqOB (PySem.W.takesIn K (.ref p)) (some true) && (match PySem.W.recIn K p "property" with
        | some (v :: _) => decide (v = .ref g)
        | _ => false)))) = true from c)
  obtain ⟨c2, c⟩ := He.ba c
  obtain ⟨c3, c4⟩ := He.ba c
  refine ⟨He.eqO_ok c1, He.eqO_ok c2, eqOB_ok c3, ?_⟩
  split at c4
  · rename_i v r e
    rw [of_decide_eq_true c4] at e
    exact ⟨r, e⟩
  · cases c4
end
/-! ### the Hook -/
/-- a def: its address, name, qualified name, statement -/
structure Df where
  a : Addr
  name : Str
  qual : Str
  st : Stmt
def Df.val (d : Df) : He.FnW := some (d.name, d.qual, defArgs d.st, .stmts (defBody d.st), defScope d.st, mainGlobals, [], builtinsNs)
abbrev AlL : Type := Bool × List He.FnW
def obsL (fb : List Fl) (fn : List Df) (K : PySem.W.Frag) : AlL := ((fb.all fun f => f.ok K) && fn.all fun d => (Fl.fn d.a d.qual).ok K, fn.map fun d => fnA K d.a)
def valL (fn : List Df) : AlL := (true, fn.map Df.val)
def SaysL (fb : List Fl) (fn : List Df) (K : PySem.W.Frag) : Prop := obsL fb fn K = valL fn
def obsLG (as : List Addr) (fb : List Fl) (fn : List Df) (g : Addr → Option Obj) : AlL := obsL fb fn (He.frG g as)
def hookL (as : List Addr) (fb : List Fl) (fn : List Df) : PySem.W.Hook where
  α := AlL
  obs := fun s => obsLG as fb fn s.heap.get?
  val := fun _ => valL fn
  says := fun _ h => ∃ K : PySem.W.Frag, K.In h ∧ SaysL fb fn K
  of := fun _ _ e => ⟨_, He.frG_in, e⟩
  keeps := fun _ _ _ ⟨K, hK, c⟩ k => ⟨K, PySem.W.Frag.In.keeps hK k, c⟩
theorem obsLG_eq {as : List Addr} {fb : List Fl} {fn : List Df} {g : Addr → Option Obj} {s : Shared} (h : ∀ a, g a = s.heap.get? a) : obsLG as fb fn g = (hookL as fb fn).obs s := by
  have e : g = s.heap.get? := funext h
  rw [e] <;> rfl
section
variable {fb : List Fl} {fn : List Df} {K : PySem.W.Frag}
theorem SaysL.all (c : SaysL fb fn K) : ((fb.all fun f => f.ok K) && fn.all fun d => (Fl.fn d.a d.qual).ok K) = true := congrArg (fun z : AlL => z.1) c
theorem SaysL.fact (c : SaysL fb fn K) (i : Nat) {f : Fl} (h : fb[i]? = some f := by rfl) : f.ok K = true := List.all_eq_true.mp (He.ba c.all).1 f (List.mem_of_getElem? h)
theorem SaysL.def_ (c : SaysL fb fn K) (i : Nat) {d : Df} (h : fn[i]? = some d := by rfl) : ∃ fd, Fun K d.name d.qual d.st d.a fd := by
  have k := List.all_eq_true.mp (He.ba c.all).2 d (List.mem_of_getElem? h)
  have e : fn.map (fun d => fnA K d.a) = fn.map Df.val := congrArg (fun z : AlL => z.2) c
  have e2 : (fn.map fun d => fnA K d.a)[i]? = (fn.map Df.val)[i]? := by rw [e]
  rw [List.getElem?_map, List.getElem?_map, h] at e2
  exact fun_at (Option.some.inj e2) k
end
/-- a class's j-th statement -/
def clsN (t : Stmt) (j : Nat) : Stmt := match t with
  | .ClassDef (body := b) .. => b.getD j (.Pass ⟨0, 0, 0, 0⟩)
  | _ => .Pass ⟨0, 0, 0, 0⟩
/-- two looks at one run -/
theorem both_looks {α β γ : Type} {o : Option α} {f : α → β} {g : α → γ} {b : β} {c : γ} (h1 : o.map f = some b) (h2 : o.map g = some c) : o.map (fun s => (f s, g s)) = some (b, c) := by
  cases o with
  | none => cases h1
  | some s => cases h1; cases h2; rfl
/-- three looks at one run -/
theorem three_looks {α β γ δ : Type} {o : Option α} {f : α → β} {e : α → δ} {g : α → γ} {b : β} {d : δ} {c : γ} (h1 : o.map (fun s => (f s, e s)) = some (b, d)) (h2 : o.map g = some c) : o.map (fun s => (f s, e s, g s)) = some (b, d, c) := by
  cases o with
  | none => cases h1
  | some s => cases h1; cases h2; rfl
end RK

namespace RK
open PySem PySem.Spec PyProof.Rows L2 L2H SX
def topS (i : Nat) : Stmt := PySem.Challenge.pw_riverkeeps_k02_rank_insert_drop_exchange.main.body.getD i (.Pass ⟨0, 0, 0, 0⟩)
structure Top (K : PySem.W.Frag) (mg : Str → Option Value) where
  a_check_number : Addr
  fd_check_number : FuncData
  F_check_number : Fun K "check_number" "check_number" (topS 39) a_check_number fd_check_number
  g_check_number : mg "check_number" = some (.ref a_check_number)
  b_check_number : Binds K fd_check_number ["number", "low", "high"] []
  a_check_known : Addr
  fd_check_known : FuncData
  F_check_known : Fun K "check_known" "check_known" (topS 41) a_check_known fd_check_known
  g_check_known : mg "check_known" = some (.ref a_check_known)
  b_check_known : Binds K fd_check_known ["known", "thing"] []
  a_rank : Addr
  fd_rank : FuncData
  F_rank : Fun K "rank" "rank" (topS 42) a_rank fd_rank
  g_rank : mg "rank" = some (.ref a_rank)
  b_rank : Binds K fd_rank ["liking", "thing"] []
  a_dropped : Addr
  fd_dropped : FuncData
  F_dropped : Fun K "dropped" "dropped" (topS 43) a_dropped fd_dropped
  g_dropped : mg "dropped" = some (.ref a_dropped)
  b_dropped : Binds K fd_dropped ["liking", "thing"] []
  a_inserted : Addr
  fd_inserted : FuncData
  F_inserted : Fun K "inserted" "inserted" (topS 44) a_inserted fd_inserted
  g_inserted : mg "inserted" = some (.ref a_inserted)
  b_inserted : Binds K fd_inserted ["liking", "thing", "at"] []
  a_exchanged : Addr
  fd_exchanged : FuncData
  F_exchanged : Fun K "exchanged" "exchanged" (topS 45) a_exchanged fd_exchanged
  g_exchanged : mg "exchanged" = some (.ref a_exchanged)
  b_exchanged : Binds K fd_exchanged ["liking", "at"] []
  a__law_store : Addr
  fd__law_store : FuncData
  F__law_store : Fun K "_law_store" "_law_store" (topS 47) a__law_store fd__law_store
  g__law_store : mg "_law_store" = some (.ref a__law_store)
  b__law_store : Binds K fd__law_store ["script"] []
  a__law_mix : Addr
  fd__law_mix : FuncData
  F__law_mix : Fun K "_law_mix" "_law_mix" (topS 48) a__law_mix fd__law_mix
  g__law_mix : mg "_law_mix" = some (.ref a__law_mix)
  b__law_mix : Binds K fd__law_mix ["cell", "turn"] []
  a__law_take : Addr
  fd__law_take : FuncData
  F__law_take : Fun K "_law_take" "_law_take" (topS 49) a__law_take fd__law_take
  g__law_take : mg "_law_take" = some (.ref a__law_take)
  b__law_take : Binds K fd__law_take ["store", "many"] []
  a__law_yes : Addr
  fd__law_yes : FuncData
  F__law_yes : Fun K "_law_yes" "_law_yes" (topS 50) a__law_yes fd__law_yes
  g__law_yes : mg "_law_yes" = some (.ref a__law_yes)
  b__law_yes : Binds K fd__law_yes ["store", "many"] []
  a__law_pick : Addr
  fd__law_pick : FuncData
  F__law_pick : Fun K "_law_pick" "_law_pick" (topS 51) a__law_pick fd__law_pick
  g__law_pick : mg "_law_pick" = some (.ref a__law_pick)
  b__law_pick : Binds K fd__law_pick ["store", "items"] []
  a__law_near : Addr
  fd__law_near : FuncData
  F__law_near : Fun K "_law_near" "_law_near" (topS 52) a__law_near fd__law_near
  g__law_near : mg "_law_near" = some (.ref a__law_near)
  b__law_near : Binds K fd__law_near ["store", "low", "high"] []
  a__law_big : Addr
  fd__law_big : FuncData
  F__law_big : Fun K "_law_big" "_law_big" (topS 53) a__law_big fd__law_big
  g__law_big : mg "_law_big" = some (.ref a__law_big)
  b__law_big : Binds K fd__law_big ["store"] []
  a__law_wrong_number : Addr
  fd__law_wrong_number : FuncData
  F__law_wrong_number : Fun K "_law_wrong_number" "_law_wrong_number" (topS 54) a__law_wrong_number fd__law_wrong_number
  g__law_wrong_number : mg "_law_wrong_number" = some (.ref a__law_wrong_number)
  b__law_wrong_number : Binds K fd__law_wrong_number ["store", "low", "high"] []
  a__law_is_out : Addr
  fd__law_is_out : FuncData
  F__law_is_out : Fun K "_law_is_out" "_law_is_out" (topS 55) a__law_is_out fd__law_is_out
  g__law_is_out : mg "_law_is_out" = some (.ref a__law_is_out)
  b__law_is_out : Binds K fd__law_is_out ["number", "low", "high"] []
  a__law_same : Addr
  fd__law_same : FuncData
  F__law_same : Fun K "_law_same" "_law_same" (topS 56) a__law_same fd__law_same
  g__law_same : mg "_law_same" = some (.ref a__law_same)
  b__law_same : Binds K fd__law_same ["actual", "expected"] []
  a__law_spoil : Addr
  fd__law_spoil : FuncData
  F__law_spoil : Fun K "_law_spoil" "_law_spoil" (topS 57) a__law_spoil fd__law_spoil
  g__law_spoil : mg "_law_spoil" = some (.ref a__law_spoil)
  b__law_spoil : Binds K fd__law_spoil ["value", "depth"] []
  a__law_either : Addr
  fd__law_either : FuncData
  F__law_either : Fun K "_law_either" "_law_either" (topS 58) a__law_either fd__law_either
  g__law_either : mg "_law_either" = some (.ref a__law_either)
  b__law_either : Binds K fd__law_either ["store", "items"] []
  a__law_is_name : Addr
  fd__law_is_name : FuncData
  F__law_is_name : Fun K "_law_is_name" "_law_is_name" (topS 59) a__law_is_name fd__law_is_name
  g__law_is_name : mg "_law_is_name" = some (.ref a__law_is_name)
  b__law_is_name : Binds K fd__law_is_name ["text"] []
  a__law_raw_name : Addr
  fd__law_raw_name : FuncData
  F__law_raw_name : Fun K "_law_raw_name" "_law_raw_name" (topS 60) a__law_raw_name fd__law_raw_name
  g__law_raw_name : mg "_law_raw_name" = some (.ref a__law_raw_name)
  b__law_raw_name : Binds K fd__law_raw_name ["store"] []
  a__law_name : Addr
  fd__law_name : FuncData
  F__law_name : Fun K "_law_name" "_law_name" (topS 61) a__law_name fd__law_name
  g__law_name : mg "_law_name" = some (.ref a__law_name)
  b__law_name : Binds K fd__law_name ["store", "taken"] []
  a__law_names : Addr
  fd__law_names : FuncData
  F__law_names : Fun K "_law_names" "_law_names" (topS 62) a__law_names fd__law_names
  g__law_names : mg "_law_names" = some (.ref a__law_names)
  b__law_names : Binds K fd__law_names ["store", "many"] []
  a__law_bad_name : Addr
  fd__law_bad_name : FuncData
  F__law_bad_name : Fun K "_law_bad_name" "_law_bad_name" (topS 63) a__law_bad_name fd__law_bad_name
  g__law_bad_name : mg "_law_bad_name" = some (.ref a__law_bad_name)
  b__law_bad_name : Binds K fd__law_bad_name ["store"] []
  a__law_other : Addr
  fd__law_other : FuncData
  F__law_other : Fun K "_law_other" "_law_other" (topS 64) a__law_other fd__law_other
  g__law_other : mg "_law_other" = some (.ref a__law_other)
  b__law_other : Binds K fd__law_other ["store", "names"] []
  a__law_strings : Addr
  fd__law_strings : FuncData
  F__law_strings : Fun K "_law_strings" "_law_strings" (topS 65) a__law_strings fd__law_strings
  g__law_strings : mg "_law_strings" = some (.ref a__law_strings)
  b__law_strings : Binds K fd__law_strings ["store", "many"] []
  a__law_classes : Addr
  fd__law_classes : FuncData
  F__law_classes : Fun K "_law_classes" "_law_classes" (topS 66) a__law_classes fd__law_classes
  g__law_classes : mg "_law_classes" = some (.ref a__law_classes)
  b__law_classes : Binds K fd__law_classes ["error"] []
  a__law_refused : Addr
  fd__law_refused : FuncData
  F__law_refused : Fun K "_law_refused" "_law_refused" (topS 67) a__law_refused fd__law_refused
  g__law_refused : mg "_law_refused" = some (.ref a__law_refused)
  b__law_refused : Binds K fd__law_refused ["error"] []
  a__law_tried : Addr
  fd__law_tried : FuncData
  F__law_tried : Fun K "_law_tried" "_law_tried" (topS 68) a__law_tried fd__law_tried
  g__law_tried : mg "_law_tried" = some (.ref a__law_tried)
  b__law_tried : Binds K fd__law_tried ["word", "liking", "thing", "at"] []
  a__law_due : Addr
  fd__law_due : FuncData
  F__law_due : Fun K "_law_due" "_law_due" (topS 69) a__law_due fd__law_due
  g__law_due : mg "_law_due" = some (.ref a__law_due)
  b__law_due : Binds K fd__law_due ["word", "liking", "thing", "at"] []
  a__law_is_right : Addr
  fd__law_is_right : FuncData
  F__law_is_right : Fun K "_law_is_right" "_law_is_right" (topS 70) a__law_is_right fd__law_is_right
  g__law_is_right : mg "_law_is_right" = some (.ref a__law_is_right)
  b__law_is_right : Binds K fd__law_is_right ["store", "word", "liking", "thing", "at"] []
  a__law_leads_back : Addr
  fd__law_leads_back : FuncData
  F__law_leads_back : Fun K "_law_leads_back" "_law_leads_back" (topS 71) a__law_leads_back fd__law_leads_back
  g__law_leads_back : mg "_law_leads_back" = some (.ref a__law_leads_back)
  b__law_leads_back : Binds K fd__law_leads_back ["liking", "other", "at"] []
  a_law : Addr
  fd_law : FuncData
  F_law : Fun K "law" "law" (topS 72) a_law fd_law
  g_law : mg "law" = some (.ref a_law)
  b_law : Binds K fd_law ["script"] []
  kb_dropped : KBn K fd_dropped ["liking", "thing"] 0 ["liking", "thing"] (fun _ ws => ws) (fun _ zs => zs)
  kb_exchanged : KBn K fd_exchanged ["liking", "at"] 0 ["liking", "at"] (fun _ ws => ws) (fun _ zs => zs)
  kb_inserted : KBn K fd_inserted ["liking", "thing", "at"] 0 ["liking", "thing", "at"] (fun _ ws => ws) (fun _ zs => zs)
  kb_rank : KBn K fd_rank ["liking", "thing"] 0 ["liking", "thing"] (fun _ ws => ws) (fun _ zs => zs)
  i_BadNumber : Addr
  fi_BadNumber : FuncData
  Fi_BadNumber : Fun K "__init__" "BadNumber.__init__" (clsS (topS 5)) i_BadNumber fi_BadNumber
  e_BadNumber : Err K mg "BadNumber" "number" (cA K "BadNumber") i_BadNumber fi_BadNumber ["self", "number"]
  i_DuplicateName : Addr
  fi_DuplicateName : FuncData
  Fi_DuplicateName : Fun K "__init__" "DuplicateName.__init__" (clsS (topS 3)) i_DuplicateName fi_DuplicateName
  e_DuplicateName : Err K mg "DuplicateName" "name" (cA K "DuplicateName") i_DuplicateName fi_DuplicateName ["self", "name"]
  i_UnknownThing : Addr
  fi_UnknownThing : FuncData
  Fi_UnknownThing : Fun K "__init__" "UnknownThing.__init__" (clsS (topS 17)) i_UnknownThing fi_UnknownThing
  e_UnknownThing : Err K mg "UnknownThing" "thing" (cA K "UnknownThing") i_UnknownThing fi_UnknownThing ["self", "thing"]
  gc_BadCount : mg "BadCount" = some (.ref (cA K "BadCount"))
  gc_BadKind : mg "BadKind" = some (.ref (cA K "BadKind"))
  gc_BadLiking : mg "BadLiking" = some (.ref (cA K "BadLiking"))
  gc_BadName : mg "BadName" = some (.ref (cA K "BadName"))
  gc_BadNumber : mg "BadNumber" = some (.ref (cA K "BadNumber"))
  gc_BadOrder : mg "BadOrder" = some (.ref (cA K "BadOrder"))
  gc_BadOutlet : mg "BadOutlet" = some (.ref (cA K "BadOutlet"))
  gc_BadPlace : mg "BadPlace" = some (.ref (cA K "BadPlace"))
  gc_BadRoom : mg "BadRoom" = some (.ref (cA K "BadRoom"))
  gc_BadText : mg "BadText" = some (.ref (cA K "BadText"))
  gc_ClaimRefused : mg "ClaimRefused" = some (.ref (cA K "ClaimRefused"))
  gc_DeedRefused : mg "DeedRefused" = some (.ref (cA K "DeedRefused"))
  gc_DuplicateLanding : mg "DuplicateLanding" = some (.ref (cA K "DuplicateLanding"))
  gc_DuplicateName : mg "DuplicateName" = some (.ref (cA K "DuplicateName"))
  gc_LandingError : mg "LandingError" = some (.ref (cA K "LandingError"))
  gc_LogRefused : mg "LogRefused" = some (.ref (cA K "LogRefused"))
  gc_NeverDone : mg "NeverDone" = some (.ref (cA K "NeverDone"))
  gc_NoFit : mg "NoFit" = some (.ref (cA K "NoFit"))
  gc_NoHistory : mg "NoHistory" = some (.ref (cA K "NoHistory"))
  gc_NotAfloat : mg "NotAfloat" = some (.ref (cA K "NotAfloat"))
  gc_NotComparable : mg "NotComparable" = some (.ref (cA K "NotComparable"))
  gc_NotSimple : mg "NotSimple" = some (.ref (cA K "NotSimple"))
  gc_NotStage : mg "NotStage" = some (.ref (cA K "NotStage"))
  gc_NothingToUndo : mg "NothingToUndo" = some (.ref (cA K "NothingToUndo"))
  gc_OrderRefused : mg "OrderRefused" = some (.ref (cA K "OrderRefused"))
  gc_OtherRiver : mg "OtherRiver" = some (.ref (cA K "OtherRiver"))
  gc_Ring : mg "Ring" = some (.ref (cA K "Ring"))
  gc_RiverError : mg "RiverError" = some (.ref (cA K "RiverError"))
  gc_SameLanding : mg "SameLanding" = some (.ref (cA K "SameLanding"))
  gc_ThingAtSea : mg "ThingAtSea" = some (.ref (cA K "ThingAtSea"))
  gc_ThingKept : mg "ThingKept" = some (.ref (cA K "ThingKept"))
  gc_TooMany : mg "TooMany" = some (.ref (cA K "TooMany"))
  gc_TownNeeded : mg "TownNeeded" = some (.ref (cA K "TownNeeded"))
  gc_UnknownLanding : mg "UnknownLanding" = some (.ref (cA K "UnknownLanding"))
  gc_UnknownThing : mg "UnknownThing" = some (.ref (cA K "UnknownThing"))
  gc_UnknownTown : mg "UnknownTown" = some (.ref (cA K "UnknownTown"))
  gc_WrongEnd : mg "WrongEnd" = some (.ref (cA K "WrongEnd"))
  kit_BadNumber_BadCount : PySem.W.kitOne K (.ref (cA K "BadNumber")) (.ref (cA K "BadCount")) = some false
  kit_BadNumber_BadKind : PySem.W.kitOne K (.ref (cA K "BadNumber")) (.ref (cA K "BadKind")) = some false
  kit_BadNumber_BadLiking : PySem.W.kitOne K (.ref (cA K "BadNumber")) (.ref (cA K "BadLiking")) = some false
  kit_BadNumber_BadName : PySem.W.kitOne K (.ref (cA K "BadNumber")) (.ref (cA K "BadName")) = some false
  kit_BadNumber_BadNumber : PySem.W.kitOne K (.ref (cA K "BadNumber")) (.ref (cA K "BadNumber")) = some true
  kit_BadNumber_BadOrder : PySem.W.kitOne K (.ref (cA K "BadNumber")) (.ref (cA K "BadOrder")) = some false
  kit_BadNumber_BadOutlet : PySem.W.kitOne K (.ref (cA K "BadNumber")) (.ref (cA K "BadOutlet")) = some false
  kit_BadNumber_BadPlace : PySem.W.kitOne K (.ref (cA K "BadNumber")) (.ref (cA K "BadPlace")) = some false
  kit_BadNumber_BadRoom : PySem.W.kitOne K (.ref (cA K "BadNumber")) (.ref (cA K "BadRoom")) = some false
  kit_BadNumber_BadText : PySem.W.kitOne K (.ref (cA K "BadNumber")) (.ref (cA K "BadText")) = some false
  kit_BadNumber_ClaimRefused : PySem.W.kitOne K (.ref (cA K "BadNumber")) (.ref (cA K "ClaimRefused")) = some false
  kit_BadNumber_DeedRefused : PySem.W.kitOne K (.ref (cA K "BadNumber")) (.ref (cA K "DeedRefused")) = some false
  kit_BadNumber_DuplicateLanding : PySem.W.kitOne K (.ref (cA K "BadNumber")) (.ref (cA K "DuplicateLanding")) = some false
  kit_BadNumber_DuplicateName : PySem.W.kitOne K (.ref (cA K "BadNumber")) (.ref (cA K "DuplicateName")) = some false
  kit_BadNumber_LandingError : PySem.W.kitOne K (.ref (cA K "BadNumber")) (.ref (cA K "LandingError")) = some false
  kit_BadNumber_LogRefused : PySem.W.kitOne K (.ref (cA K "BadNumber")) (.ref (cA K "LogRefused")) = some false
  kit_BadNumber_NeverDone : PySem.W.kitOne K (.ref (cA K "BadNumber")) (.ref (cA K "NeverDone")) = some false
  kit_BadNumber_NoFit : PySem.W.kitOne K (.ref (cA K "BadNumber")) (.ref (cA K "NoFit")) = some false
  kit_BadNumber_NoHistory : PySem.W.kitOne K (.ref (cA K "BadNumber")) (.ref (cA K "NoHistory")) = some false
  kit_BadNumber_NotAfloat : PySem.W.kitOne K (.ref (cA K "BadNumber")) (.ref (cA K "NotAfloat")) = some false
  kit_BadNumber_NotComparable : PySem.W.kitOne K (.ref (cA K "BadNumber")) (.ref (cA K "NotComparable")) = some false
  kit_BadNumber_NotSimple : PySem.W.kitOne K (.ref (cA K "BadNumber")) (.ref (cA K "NotSimple")) = some false
  kit_BadNumber_NotStage : PySem.W.kitOne K (.ref (cA K "BadNumber")) (.ref (cA K "NotStage")) = some false
  kit_BadNumber_NothingToUndo : PySem.W.kitOne K (.ref (cA K "BadNumber")) (.ref (cA K "NothingToUndo")) = some false
  kit_BadNumber_OrderRefused : PySem.W.kitOne K (.ref (cA K "BadNumber")) (.ref (cA K "OrderRefused")) = some false
  kit_BadNumber_OtherRiver : PySem.W.kitOne K (.ref (cA K "BadNumber")) (.ref (cA K "OtherRiver")) = some false
  kit_BadNumber_Ring : PySem.W.kitOne K (.ref (cA K "BadNumber")) (.ref (cA K "Ring")) = some false
  kit_BadNumber_RiverError : PySem.W.kitOne K (.ref (cA K "BadNumber")) (.ref (cA K "RiverError")) = some true
  kit_BadNumber_SameLanding : PySem.W.kitOne K (.ref (cA K "BadNumber")) (.ref (cA K "SameLanding")) = some false
  kit_BadNumber_ThingAtSea : PySem.W.kitOne K (.ref (cA K "BadNumber")) (.ref (cA K "ThingAtSea")) = some false
  kit_BadNumber_ThingKept : PySem.W.kitOne K (.ref (cA K "BadNumber")) (.ref (cA K "ThingKept")) = some false
  kit_BadNumber_TooMany : PySem.W.kitOne K (.ref (cA K "BadNumber")) (.ref (cA K "TooMany")) = some false
  kit_BadNumber_TownNeeded : PySem.W.kitOne K (.ref (cA K "BadNumber")) (.ref (cA K "TownNeeded")) = some false
  kit_BadNumber_UnknownLanding : PySem.W.kitOne K (.ref (cA K "BadNumber")) (.ref (cA K "UnknownLanding")) = some false
  kit_BadNumber_UnknownThing : PySem.W.kitOne K (.ref (cA K "BadNumber")) (.ref (cA K "UnknownThing")) = some false
  kit_BadNumber_UnknownTown : PySem.W.kitOne K (.ref (cA K "BadNumber")) (.ref (cA K "UnknownTown")) = some false
  kit_BadNumber_WrongEnd : PySem.W.kitOne K (.ref (cA K "BadNumber")) (.ref (cA K "WrongEnd")) = some false
  kitv_BadNumber : PySem.W.kitOne K (.ref (cA K "BadNumber")) (.type "ValueError") = some true
  exm_BadNumber : PySem.W.exmOne K (.ref (cA K "BadNumber")) (.ref (cA K "RiverError")) = some true
  nf_BadNumber_name : PySem.W.findIn K (.ref (cA K "BadNumber")) "name" = some none
  nf_BadNumber_number : PySem.W.findIn K (.ref (cA K "BadNumber")) "number" = some none
  nf_BadNumber_thing : PySem.W.findIn K (.ref (cA K "BadNumber")) "thing" = some none
  kit_DuplicateName_BadCount : PySem.W.kitOne K (.ref (cA K "DuplicateName")) (.ref (cA K "BadCount")) = some false
  kit_DuplicateName_BadKind : PySem.W.kitOne K (.ref (cA K "DuplicateName")) (.ref (cA K "BadKind")) = some false
  kit_DuplicateName_BadLiking : PySem.W.kitOne K (.ref (cA K "DuplicateName")) (.ref (cA K "BadLiking")) = some false
  kit_DuplicateName_BadName : PySem.W.kitOne K (.ref (cA K "DuplicateName")) (.ref (cA K "BadName")) = some false
  kit_DuplicateName_BadNumber : PySem.W.kitOne K (.ref (cA K "DuplicateName")) (.ref (cA K "BadNumber")) = some false
  kit_DuplicateName_BadOrder : PySem.W.kitOne K (.ref (cA K "DuplicateName")) (.ref (cA K "BadOrder")) = some false
  kit_DuplicateName_BadOutlet : PySem.W.kitOne K (.ref (cA K "DuplicateName")) (.ref (cA K "BadOutlet")) = some false
  kit_DuplicateName_BadPlace : PySem.W.kitOne K (.ref (cA K "DuplicateName")) (.ref (cA K "BadPlace")) = some false
  kit_DuplicateName_BadRoom : PySem.W.kitOne K (.ref (cA K "DuplicateName")) (.ref (cA K "BadRoom")) = some false
  kit_DuplicateName_BadText : PySem.W.kitOne K (.ref (cA K "DuplicateName")) (.ref (cA K "BadText")) = some false
  kit_DuplicateName_ClaimRefused : PySem.W.kitOne K (.ref (cA K "DuplicateName")) (.ref (cA K "ClaimRefused")) = some false
  kit_DuplicateName_DeedRefused : PySem.W.kitOne K (.ref (cA K "DuplicateName")) (.ref (cA K "DeedRefused")) = some false
  kit_DuplicateName_DuplicateLanding : PySem.W.kitOne K (.ref (cA K "DuplicateName")) (.ref (cA K "DuplicateLanding")) = some false
  kit_DuplicateName_DuplicateName : PySem.W.kitOne K (.ref (cA K "DuplicateName")) (.ref (cA K "DuplicateName")) = some true
  kit_DuplicateName_LandingError : PySem.W.kitOne K (.ref (cA K "DuplicateName")) (.ref (cA K "LandingError")) = some false
  kit_DuplicateName_LogRefused : PySem.W.kitOne K (.ref (cA K "DuplicateName")) (.ref (cA K "LogRefused")) = some false
  kit_DuplicateName_NeverDone : PySem.W.kitOne K (.ref (cA K "DuplicateName")) (.ref (cA K "NeverDone")) = some false
  kit_DuplicateName_NoFit : PySem.W.kitOne K (.ref (cA K "DuplicateName")) (.ref (cA K "NoFit")) = some false
  kit_DuplicateName_NoHistory : PySem.W.kitOne K (.ref (cA K "DuplicateName")) (.ref (cA K "NoHistory")) = some false
  kit_DuplicateName_NotAfloat : PySem.W.kitOne K (.ref (cA K "DuplicateName")) (.ref (cA K "NotAfloat")) = some false
  kit_DuplicateName_NotComparable : PySem.W.kitOne K (.ref (cA K "DuplicateName")) (.ref (cA K "NotComparable")) = some false
  kit_DuplicateName_NotSimple : PySem.W.kitOne K (.ref (cA K "DuplicateName")) (.ref (cA K "NotSimple")) = some false
  kit_DuplicateName_NotStage : PySem.W.kitOne K (.ref (cA K "DuplicateName")) (.ref (cA K "NotStage")) = some false
  kit_DuplicateName_NothingToUndo : PySem.W.kitOne K (.ref (cA K "DuplicateName")) (.ref (cA K "NothingToUndo")) = some false
  kit_DuplicateName_OrderRefused : PySem.W.kitOne K (.ref (cA K "DuplicateName")) (.ref (cA K "OrderRefused")) = some false
  kit_DuplicateName_OtherRiver : PySem.W.kitOne K (.ref (cA K "DuplicateName")) (.ref (cA K "OtherRiver")) = some false
  kit_DuplicateName_Ring : PySem.W.kitOne K (.ref (cA K "DuplicateName")) (.ref (cA K "Ring")) = some false
  kit_DuplicateName_RiverError : PySem.W.kitOne K (.ref (cA K "DuplicateName")) (.ref (cA K "RiverError")) = some true
  kit_DuplicateName_SameLanding : PySem.W.kitOne K (.ref (cA K "DuplicateName")) (.ref (cA K "SameLanding")) = some false
  kit_DuplicateName_ThingAtSea : PySem.W.kitOne K (.ref (cA K "DuplicateName")) (.ref (cA K "ThingAtSea")) = some false
  kit_DuplicateName_ThingKept : PySem.W.kitOne K (.ref (cA K "DuplicateName")) (.ref (cA K "ThingKept")) = some false
  kit_DuplicateName_TooMany : PySem.W.kitOne K (.ref (cA K "DuplicateName")) (.ref (cA K "TooMany")) = some false
  kit_DuplicateName_TownNeeded : PySem.W.kitOne K (.ref (cA K "DuplicateName")) (.ref (cA K "TownNeeded")) = some false
  kit_DuplicateName_UnknownLanding : PySem.W.kitOne K (.ref (cA K "DuplicateName")) (.ref (cA K "UnknownLanding")) = some false
  kit_DuplicateName_UnknownThing : PySem.W.kitOne K (.ref (cA K "DuplicateName")) (.ref (cA K "UnknownThing")) = some false
  kit_DuplicateName_UnknownTown : PySem.W.kitOne K (.ref (cA K "DuplicateName")) (.ref (cA K "UnknownTown")) = some false
  kit_DuplicateName_WrongEnd : PySem.W.kitOne K (.ref (cA K "DuplicateName")) (.ref (cA K "WrongEnd")) = some false
  kitv_DuplicateName : PySem.W.kitOne K (.ref (cA K "DuplicateName")) (.type "ValueError") = some true
  exm_DuplicateName : PySem.W.exmOne K (.ref (cA K "DuplicateName")) (.ref (cA K "RiverError")) = some true
  nf_DuplicateName_name : PySem.W.findIn K (.ref (cA K "DuplicateName")) "name" = some none
  nf_DuplicateName_number : PySem.W.findIn K (.ref (cA K "DuplicateName")) "number" = some none
  nf_DuplicateName_thing : PySem.W.findIn K (.ref (cA K "DuplicateName")) "thing" = some none
  kit_UnknownThing_BadCount : PySem.W.kitOne K (.ref (cA K "UnknownThing")) (.ref (cA K "BadCount")) = some false
  kit_UnknownThing_BadKind : PySem.W.kitOne K (.ref (cA K "UnknownThing")) (.ref (cA K "BadKind")) = some false
  kit_UnknownThing_BadLiking : PySem.W.kitOne K (.ref (cA K "UnknownThing")) (.ref (cA K "BadLiking")) = some false
  kit_UnknownThing_BadName : PySem.W.kitOne K (.ref (cA K "UnknownThing")) (.ref (cA K "BadName")) = some false
  kit_UnknownThing_BadNumber : PySem.W.kitOne K (.ref (cA K "UnknownThing")) (.ref (cA K "BadNumber")) = some false
  kit_UnknownThing_BadOrder : PySem.W.kitOne K (.ref (cA K "UnknownThing")) (.ref (cA K "BadOrder")) = some false
  kit_UnknownThing_BadOutlet : PySem.W.kitOne K (.ref (cA K "UnknownThing")) (.ref (cA K "BadOutlet")) = some false
  kit_UnknownThing_BadPlace : PySem.W.kitOne K (.ref (cA K "UnknownThing")) (.ref (cA K "BadPlace")) = some false
  kit_UnknownThing_BadRoom : PySem.W.kitOne K (.ref (cA K "UnknownThing")) (.ref (cA K "BadRoom")) = some false
  kit_UnknownThing_BadText : PySem.W.kitOne K (.ref (cA K "UnknownThing")) (.ref (cA K "BadText")) = some false
  kit_UnknownThing_ClaimRefused : PySem.W.kitOne K (.ref (cA K "UnknownThing")) (.ref (cA K "ClaimRefused")) = some false
  kit_UnknownThing_DeedRefused : PySem.W.kitOne K (.ref (cA K "UnknownThing")) (.ref (cA K "DeedRefused")) = some false
  kit_UnknownThing_DuplicateLanding : PySem.W.kitOne K (.ref (cA K "UnknownThing")) (.ref (cA K "DuplicateLanding")) = some false
  kit_UnknownThing_DuplicateName : PySem.W.kitOne K (.ref (cA K "UnknownThing")) (.ref (cA K "DuplicateName")) = some false
  kit_UnknownThing_LandingError : PySem.W.kitOne K (.ref (cA K "UnknownThing")) (.ref (cA K "LandingError")) = some false
  kit_UnknownThing_LogRefused : PySem.W.kitOne K (.ref (cA K "UnknownThing")) (.ref (cA K "LogRefused")) = some false
  kit_UnknownThing_NeverDone : PySem.W.kitOne K (.ref (cA K "UnknownThing")) (.ref (cA K "NeverDone")) = some false
  kit_UnknownThing_NoFit : PySem.W.kitOne K (.ref (cA K "UnknownThing")) (.ref (cA K "NoFit")) = some false
  kit_UnknownThing_NoHistory : PySem.W.kitOne K (.ref (cA K "UnknownThing")) (.ref (cA K "NoHistory")) = some false
  kit_UnknownThing_NotAfloat : PySem.W.kitOne K (.ref (cA K "UnknownThing")) (.ref (cA K "NotAfloat")) = some false
  kit_UnknownThing_NotComparable : PySem.W.kitOne K (.ref (cA K "UnknownThing")) (.ref (cA K "NotComparable")) = some false
  kit_UnknownThing_NotSimple : PySem.W.kitOne K (.ref (cA K "UnknownThing")) (.ref (cA K "NotSimple")) = some false
  kit_UnknownThing_NotStage : PySem.W.kitOne K (.ref (cA K "UnknownThing")) (.ref (cA K "NotStage")) = some false
  kit_UnknownThing_NothingToUndo : PySem.W.kitOne K (.ref (cA K "UnknownThing")) (.ref (cA K "NothingToUndo")) = some false
  kit_UnknownThing_OrderRefused : PySem.W.kitOne K (.ref (cA K "UnknownThing")) (.ref (cA K "OrderRefused")) = some false
  kit_UnknownThing_OtherRiver : PySem.W.kitOne K (.ref (cA K "UnknownThing")) (.ref (cA K "OtherRiver")) = some false
  kit_UnknownThing_Ring : PySem.W.kitOne K (.ref (cA K "UnknownThing")) (.ref (cA K "Ring")) = some false
  kit_UnknownThing_RiverError : PySem.W.kitOne K (.ref (cA K "UnknownThing")) (.ref (cA K "RiverError")) = some true
  kit_UnknownThing_SameLanding : PySem.W.kitOne K (.ref (cA K "UnknownThing")) (.ref (cA K "SameLanding")) = some false
  kit_UnknownThing_ThingAtSea : PySem.W.kitOne K (.ref (cA K "UnknownThing")) (.ref (cA K "ThingAtSea")) = some false
  kit_UnknownThing_ThingKept : PySem.W.kitOne K (.ref (cA K "UnknownThing")) (.ref (cA K "ThingKept")) = some false
  kit_UnknownThing_TooMany : PySem.W.kitOne K (.ref (cA K "UnknownThing")) (.ref (cA K "TooMany")) = some false
  kit_UnknownThing_TownNeeded : PySem.W.kitOne K (.ref (cA K "UnknownThing")) (.ref (cA K "TownNeeded")) = some false
  kit_UnknownThing_UnknownLanding : PySem.W.kitOne K (.ref (cA K "UnknownThing")) (.ref (cA K "UnknownLanding")) = some false
  kit_UnknownThing_UnknownThing : PySem.W.kitOne K (.ref (cA K "UnknownThing")) (.ref (cA K "UnknownThing")) = some true
  kit_UnknownThing_UnknownTown : PySem.W.kitOne K (.ref (cA K "UnknownThing")) (.ref (cA K "UnknownTown")) = some false
  kit_UnknownThing_WrongEnd : PySem.W.kitOne K (.ref (cA K "UnknownThing")) (.ref (cA K "WrongEnd")) = some false
  kitv_UnknownThing : PySem.W.kitOne K (.ref (cA K "UnknownThing")) (.type "ValueError") = some true
  exm_UnknownThing : PySem.W.exmOne K (.ref (cA K "UnknownThing")) (.ref (cA K "RiverError")) = some true
  nf_UnknownThing_name : PySem.W.findIn K (.ref (cA K "UnknownThing")) "name" = some none
  nf_UnknownThing_number : PySem.W.findIn K (.ref (cA K "UnknownThing")) "number" = some none
  nf_UnknownThing_thing : PySem.W.findIn K (.ref (cA K "UnknownThing")) "thing" = some none
  n_ValueError : mg "ValueError" = none
  n_bool : mg "bool" = none
  n_int : mg "int" = none
  n_isinstance : mg "isinstance" = none
  n_len : mg "len" = none
  n_list : mg "list" = none
  n_max : mg "max" = none
  n_range : mg "range" = none
  n_str : mg "str" = none
  n_tuple : mg "tuple" = none
theorem ok_ini_BadNumber {P : Program} {w : World} {K : PySem.W.Frag} {mg : Str → Option Value} {base : Heap} (T : Top K mg) : FnOk P w K mg base CX0 1 T.i_BadNumber T.fi_BadNumber ["self", "number"] (spIni (cA K "BadNumber") "number") :=
  ok_ini T.e_BadNumber T.Fi_BadNumber ⟨rfl, rfl, rfl, by decide +kernel, rfl, by decide +kernel, by decide +kernel⟩ fun X hK hN hs => by
    subst hK
    exact pss_one (ps_ost (xv 0 (by rw [hN]; rfl) (.inl (by rw [hs]; rfl))) (xv 1 (by rw [hN]; rfl) (.inl (by rw [hs]; rfl))))
theorem ok_ini_DuplicateName {P : Program} {w : World} {K : PySem.W.Frag} {mg : Str → Option Value} {base : Heap} (T : Top K mg) : FnOk P w K mg base CX0 1 T.i_DuplicateName T.fi_DuplicateName ["self", "name"] (spIni (cA K "DuplicateName") "name") :=
  ok_ini T.e_DuplicateName T.Fi_DuplicateName ⟨rfl, rfl, rfl, by decide +kernel, rfl, by decide +kernel, by decide +kernel⟩ fun X hK hN hs => by
    subst hK
    exact pss_one (ps_ost (xv 0 (by rw [hN]; rfl) (.inl (by rw [hs]; rfl))) (xv 1 (by rw [hN]; rfl) (.inl (by rw [hs]; rfl))))
theorem ok_ini_UnknownThing {P : Program} {w : World} {K : PySem.W.Frag} {mg : Str → Option Value} {base : Heap} (T : Top K mg) : FnOk P w K mg base CX0 1 T.i_UnknownThing T.fi_UnknownThing ["self", "thing"] (spIni (cA K "UnknownThing") "thing") :=
  ok_ini T.e_UnknownThing T.Fi_UnknownThing ⟨rfl, rfl, rfl, by decide +kernel, rfl, by decide +kernel, by decide +kernel⟩ fun X hK hN hs => by
    subst hK
    exact pss_one (ps_ost (xv 0 (by rw [hN]; rfl) (.inl (by rw [hs]; rfl))) (xv 1 (by rw [hN]; rfl) (.inl (by rw [hs]; rfl))))
inductive Kd | thing | dup | num
def Kd.nm : Kd → Str | .thing => "UnknownThing" | .dup => "DuplicateName" | .num => "BadNumber"
def Kd.fl : Kd → Str | .thing => "thing" | .dup => "name" | .num => "number"
def Kd.isThing : Kd → Bool | .thing => true | _ => false
def Kd.isDup : Kd → Bool | .dup => true | _ => false
def Kd.isNum : Kd → Bool | .num => true | _ => false
section
variable {K : PySem.W.Frag} {mg : Str → Option Value} (T : Top K mg)
include T
theorem Top.er : ∀ kd : Kd, ErrC K (cA K kd.nm) | .thing => T.e_UnknownThing.er | .dup => T.e_DuplicateName.er | .num => T.e_BadNumber.er
theorem Top.nf : ∀ kd fl : Kd, PySem.W.findIn K (.ref (cA K kd.nm)) fl.fl = some none
  | .thing, .thing => T.nf_UnknownThing_thing | .thing, .dup => T.nf_UnknownThing_name | .thing, .num => T.nf_UnknownThing_number
  | .dup, .thing => T.nf_DuplicateName_thing | .dup, .dup => T.nf_DuplicateName_name | .dup, .num => T.nf_DuplicateName_number
  | .num, .thing => T.nf_BadNumber_thing | .num, .dup => T.nf_BadNumber_name | .num, .num => T.nf_BadNumber_number
theorem Top.exm : ∀ kd : Kd, PySem.W.exmOne K (.ref (cA K kd.nm)) (.ref (cA K "RiverError")) = some true | .thing => T.exm_UnknownThing | .dup => T.exm_DuplicateName | .num => T.exm_BadNumber
theorem Top.kv : ∀ kd : Kd, PySem.W.kitOne K (.ref (cA K kd.nm)) (.type "ValueError") = some true | .thing => T.kitv_UnknownThing | .dup => T.kitv_DuplicateName | .num => T.kitv_BadNumber
theorem Top.kt_BadCount : ∀ kd : Kd, PySem.W.kitOne K (.ref (cA K kd.nm)) (.ref (cA K "BadCount")) = some false | .thing => T.kit_UnknownThing_BadCount | .dup => T.kit_DuplicateName_BadCount | .num => T.kit_BadNumber_BadCount
theorem Top.kt_BadKind : ∀ kd : Kd, PySem.W.kitOne K (.ref (cA K kd.nm)) (.ref (cA K "BadKind")) = some false | .thing => T.kit_UnknownThing_BadKind | .dup => T.kit_DuplicateName_BadKind | .num => T.kit_BadNumber_BadKind
theorem Top.kt_BadLiking : ∀ kd : Kd, PySem.W.kitOne K (.ref (cA K kd.nm)) (.ref (cA K "BadLiking")) = some false | .thing => T.kit_UnknownThing_BadLiking | .dup => T.kit_DuplicateName_BadLiking | .num => T.kit_BadNumber_BadLiking
theorem Top.kt_BadName : ∀ kd : Kd, PySem.W.kitOne K (.ref (cA K kd.nm)) (.ref (cA K "BadName")) = some false | .thing => T.kit_UnknownThing_BadName | .dup => T.kit_DuplicateName_BadName | .num => T.kit_BadNumber_BadName
theorem Top.kt_BadNumber : ∀ kd : Kd, PySem.W.kitOne K (.ref (cA K kd.nm)) (.ref (cA K "BadNumber")) = some kd.isNum | .thing => T.kit_UnknownThing_BadNumber | .dup => T.kit_DuplicateName_BadNumber | .num => T.kit_BadNumber_BadNumber
theorem Top.kt_BadOrder : ∀ kd : Kd, PySem.W.kitOne K (.ref (cA K kd.nm)) (.ref (cA K "BadOrder")) = some false | .thing => T.kit_UnknownThing_BadOrder | .dup => T.kit_DuplicateName_BadOrder | .num => T.kit_BadNumber_BadOrder
theorem Top.kt_BadOutlet : ∀ kd : Kd, PySem.W.kitOne K (.ref (cA K kd.nm)) (.ref (cA K "BadOutlet")) = some false | .thing => T.kit_UnknownThing_BadOutlet | .dup => T.kit_DuplicateName_BadOutlet | .num => T.kit_BadNumber_BadOutlet
theorem Top.kt_BadPlace : ∀ kd : Kd, PySem.W.kitOne K (.ref (cA K kd.nm)) (.ref (cA K "BadPlace")) = some false | .thing => T.kit_UnknownThing_BadPlace | .dup => T.kit_DuplicateName_BadPlace | .num => T.kit_BadNumber_BadPlace
theorem Top.kt_BadRoom : ∀ kd : Kd, PySem.W.kitOne K (.ref (cA K kd.nm)) (.ref (cA K "BadRoom")) = some false | .thing => T.kit_UnknownThing_BadRoom | .dup => T.kit_DuplicateName_BadRoom | .num => T.kit_BadNumber_BadRoom
theorem Top.kt_BadText : ∀ kd : Kd, PySem.W.kitOne K (.ref (cA K kd.nm)) (.ref (cA K "BadText")) = some false | .thing => T.kit_UnknownThing_BadText | .dup => T.kit_DuplicateName_BadText | .num => T.kit_BadNumber_BadText
theorem Top.kt_ClaimRefused : ∀ kd : Kd, PySem.W.kitOne K (.ref (cA K kd.nm)) (.ref (cA K "ClaimRefused")) = some false | .thing => T.kit_UnknownThing_ClaimRefused | .dup => T.kit_DuplicateName_ClaimRefused | .num => T.kit_BadNumber_ClaimRefused
theorem Top.kt_DeedRefused : ∀ kd : Kd, PySem.W.kitOne K (.ref (cA K kd.nm)) (.ref (cA K "DeedRefused")) = some false | .thing => T.kit_UnknownThing_DeedRefused | .dup => T.kit_DuplicateName_DeedRefused | .num => T.kit_BadNumber_DeedRefused
theorem Top.kt_DuplicateLanding : ∀ kd : Kd, PySem.W.kitOne K (.ref (cA K kd.nm)) (.ref (cA K "DuplicateLanding")) = some false | .thing => T.kit_UnknownThing_DuplicateLanding | .dup => T.kit_DuplicateName_DuplicateLanding | .num => T.kit_BadNumber_DuplicateLanding
theorem Top.kt_DuplicateName : ∀ kd : Kd, PySem.W.kitOne K (.ref (cA K kd.nm)) (.ref (cA K "DuplicateName")) = some kd.isDup | .thing => T.kit_UnknownThing_DuplicateName | .dup => T.kit_DuplicateName_DuplicateName | .num => T.kit_BadNumber_DuplicateName
theorem Top.kt_LandingError : ∀ kd : Kd, PySem.W.kitOne K (.ref (cA K kd.nm)) (.ref (cA K "LandingError")) = some false | .thing => T.kit_UnknownThing_LandingError | .dup => T.kit_DuplicateName_LandingError | .num => T.kit_BadNumber_LandingError
theorem Top.kt_LogRefused : ∀ kd : Kd, PySem.W.kitOne K (.ref (cA K kd.nm)) (.ref (cA K "LogRefused")) = some false | .thing => T.kit_UnknownThing_LogRefused | .dup => T.kit_DuplicateName_LogRefused | .num => T.kit_BadNumber_LogRefused
theorem Top.kt_NeverDone : ∀ kd : Kd, PySem.W.kitOne K (.ref (cA K kd.nm)) (.ref (cA K "NeverDone")) = some false | .thing => T.kit_UnknownThing_NeverDone | .dup => T.kit_DuplicateName_NeverDone | .num => T.kit_BadNumber_NeverDone
theorem Top.kt_NoFit : ∀ kd : Kd, PySem.W.kitOne K (.ref (cA K kd.nm)) (.ref (cA K "NoFit")) = some false | .thing => T.kit_UnknownThing_NoFit | .dup => T.kit_DuplicateName_NoFit | .num => T.kit_BadNumber_NoFit
theorem Top.kt_NoHistory : ∀ kd : Kd, PySem.W.kitOne K (.ref (cA K kd.nm)) (.ref (cA K "NoHistory")) = some false | .thing => T.kit_UnknownThing_NoHistory | .dup => T.kit_DuplicateName_NoHistory | .num => T.kit_BadNumber_NoHistory
theorem Top.kt_NotAfloat : ∀ kd : Kd, PySem.W.kitOne K (.ref (cA K kd.nm)) (.ref (cA K "NotAfloat")) = some false | .thing => T.kit_UnknownThing_NotAfloat | .dup => T.kit_DuplicateName_NotAfloat | .num => T.kit_BadNumber_NotAfloat
theorem Top.kt_NotComparable : ∀ kd : Kd, PySem.W.kitOne K (.ref (cA K kd.nm)) (.ref (cA K "NotComparable")) = some false | .thing => T.kit_UnknownThing_NotComparable | .dup => T.kit_DuplicateName_NotComparable | .num => T.kit_BadNumber_NotComparable
theorem Top.kt_NotSimple : ∀ kd : Kd, PySem.W.kitOne K (.ref (cA K kd.nm)) (.ref (cA K "NotSimple")) = some false | .thing => T.kit_UnknownThing_NotSimple | .dup => T.kit_DuplicateName_NotSimple | .num => T.kit_BadNumber_NotSimple
theorem Top.kt_NotStage : ∀ kd : Kd, PySem.W.kitOne K (.ref (cA K kd.nm)) (.ref (cA K "NotStage")) = some false | .thing => T.kit_UnknownThing_NotStage | .dup => T.kit_DuplicateName_NotStage | .num => T.kit_BadNumber_NotStage
theorem Top.kt_NothingToUndo : ∀ kd : Kd, PySem.W.kitOne K (.ref (cA K kd.nm)) (.ref (cA K "NothingToUndo")) = some false | .thing => T.kit_UnknownThing_NothingToUndo | .dup => T.kit_DuplicateName_NothingToUndo | .num => T.kit_BadNumber_NothingToUndo
theorem Top.kt_OrderRefused : ∀ kd : Kd, PySem.W.kitOne K (.ref (cA K kd.nm)) (.ref (cA K "OrderRefused")) = some false | .thing => T.kit_UnknownThing_OrderRefused | .dup => T.kit_DuplicateName_OrderRefused | .num => T.kit_BadNumber_OrderRefused
theorem Top.kt_OtherRiver : ∀ kd : Kd, PySem.W.kitOne K (.ref (cA K kd.nm)) (.ref (cA K "OtherRiver")) = some false | .thing => T.kit_UnknownThing_OtherRiver | .dup => T.kit_DuplicateName_OtherRiver | .num => T.kit_BadNumber_OtherRiver
theorem Top.kt_Ring : ∀ kd : Kd, PySem.W.kitOne K (.ref (cA K kd.nm)) (.ref (cA K "Ring")) = some false | .thing => T.kit_UnknownThing_Ring | .dup => T.kit_DuplicateName_Ring | .num => T.kit_BadNumber_Ring
theorem Top.kt_RiverError : ∀ kd : Kd, PySem.W.kitOne K (.ref (cA K kd.nm)) (.ref (cA K "RiverError")) = some true | .thing => T.kit_UnknownThing_RiverError | .dup => T.kit_DuplicateName_RiverError | .num => T.kit_BadNumber_RiverError
theorem Top.kt_SameLanding : ∀ kd : Kd, PySem.W.kitOne K (.ref (cA K kd.nm)) (.ref (cA K "SameLanding")) = some false | .thing => T.kit_UnknownThing_SameLanding | .dup => T.kit_DuplicateName_SameLanding | .num => T.kit_BadNumber_SameLanding
theorem Top.kt_ThingAtSea : ∀ kd : Kd, PySem.W.kitOne K (.ref (cA K kd.nm)) (.ref (cA K "ThingAtSea")) = some false | .thing => T.kit_UnknownThing_ThingAtSea | .dup => T.kit_DuplicateName_ThingAtSea | .num => T.kit_BadNumber_ThingAtSea
theorem Top.kt_ThingKept : ∀ kd : Kd, PySem.W.kitOne K (.ref (cA K kd.nm)) (.ref (cA K "ThingKept")) = some false | .thing => T.kit_UnknownThing_ThingKept | .dup => T.kit_DuplicateName_ThingKept | .num => T.kit_BadNumber_ThingKept
theorem Top.kt_TooMany : ∀ kd : Kd, PySem.W.kitOne K (.ref (cA K kd.nm)) (.ref (cA K "TooMany")) = some false | .thing => T.kit_UnknownThing_TooMany | .dup => T.kit_DuplicateName_TooMany | .num => T.kit_BadNumber_TooMany
theorem Top.kt_TownNeeded : ∀ kd : Kd, PySem.W.kitOne K (.ref (cA K kd.nm)) (.ref (cA K "TownNeeded")) = some false | .thing => T.kit_UnknownThing_TownNeeded | .dup => T.kit_DuplicateName_TownNeeded | .num => T.kit_BadNumber_TownNeeded
theorem Top.kt_UnknownLanding : ∀ kd : Kd, PySem.W.kitOne K (.ref (cA K kd.nm)) (.ref (cA K "UnknownLanding")) = some false | .thing => T.kit_UnknownThing_UnknownLanding | .dup => T.kit_DuplicateName_UnknownLanding | .num => T.kit_BadNumber_UnknownLanding
theorem Top.kt_UnknownThing : ∀ kd : Kd, PySem.W.kitOne K (.ref (cA K kd.nm)) (.ref (cA K "UnknownThing")) = some kd.isThing | .thing => T.kit_UnknownThing_UnknownThing | .dup => T.kit_DuplicateName_UnknownThing | .num => T.kit_BadNumber_UnknownThing
theorem Top.kt_UnknownTown : ∀ kd : Kd, PySem.W.kitOne K (.ref (cA K kd.nm)) (.ref (cA K "UnknownTown")) = some false | .thing => T.kit_UnknownThing_UnknownTown | .dup => T.kit_DuplicateName_UnknownTown | .num => T.kit_BadNumber_UnknownTown
theorem Top.kt_WrongEnd : ∀ kd : Kd, PySem.W.kitOne K (.ref (cA K kd.nm)) (.ref (cA K "WrongEnd")) = some false | .thing => T.kit_UnknownThing_WrongEnd | .dup => T.kit_DuplicateName_WrongEnd | .num => T.kit_BadNumber_WrongEnd
end
abbrev pn (x : Str) (b : Bool) : Str × Bool := (x, b)
/-- a list of pairs: a name, a truth value -/
def Prs (H : Hp) (q : Addr) (l : List (Str × Bool)) : Prop := ∃ rs : List (Addr × Str × Bool), H q = some (.lst (rs.map fun x => V.ref x.1)) ∧ rs.map (·.2) = l ∧ ∀ x ∈ rs, H x.1 = some (.tup [.str x.2.1, .bl x.2.2])
theorem Prs.same {H H' : Hp} {q : Addr} {l : List (Str × Bool)} (h : Prs H q l) (s : Same H H') : Prs H' q l := by
  obtain ⟨rs, h1, h2, h3⟩ := h
  exact ⟨rs, s _ _ h1, h2, fun x hx => s _ _ (h3 x hx)⟩
theorem Prs.one {H : Hp} {q p1 : Addr} {n1 : Str} {b1 : Bool} (h1 : H p1 = some (.tup [.str n1, .bl b1])) (hq : H q = some (.lst [.ref p1])) : Prs H q [(n1, b1)] :=
  ⟨[(p1, n1, b1)], hq, rfl, fun x hx => by cases List.mem_singleton.mp hx; exact h1⟩
theorem Prs.two {H : Hp} {q p1 p2 : Addr} {n1 n2 : Str} {b1 b2 : Bool} (h1 : H p1 = some (.tup [.str n1, .bl b1])) (h2 : H p2 = some (.tup [.str n2, .bl b2])) (hq : H q = some (.lst [.ref p1, .ref p2])) : Prs H q [(n1, b1), (n2, b2)] :=
  ⟨[(p1, n1, b1), (p2, n2, b2)], hq, rfl, fun x hx => by
    rcases List.mem_cons.mp hx with e | e
    · cases e; exact h1
    · cases List.mem_singleton.mp e; exact h2⟩
theorem Prs.cat {H : Hp} {q r s : Addr} {l m : List (Str × Bool)} (h : Prs H q l) (g : Prs H r m) (c : ∀ xs zs, H q = some (.lst xs) → H r = some (.lst zs) → H s = some (.lst (xs ++ zs))) : Prs H s (l ++ m) := by
  obtain ⟨rs, h1, rfl, h3⟩ := h
  obtain ⟨ts, g1, rfl, g3⟩ := g
  exact ⟨rs ++ ts, by rw [c _ _ h1 g1, List.map_append], List.map_append, fun x hx => (List.mem_append.mp hx).elim (h3 x) (g3 x)⟩
theorem Prs.len {H : Hp} {q : Addr} {l : List (Str × Bool)} (h : Prs H q l) : ∃ xs, H q = some (.lst xs) ∧ xs.length = l.length := by
  obtain ⟨rs, h1, rfl, h3⟩ := h
  exact ⟨_, h1, by rw [List.length_map, List.length_map]⟩
def pkN (G : Hp) : V → V := fun v => match v with | .ref a => (match G a with | some (.tup (n :: _)) => n | _ => .non) | _ => .non
def pkB (G : Hp) : V → Bool := fun v => match v with | .ref a => (match G a with | some (.tup [_, .bl b]) => b | _ => false) | _ => false
theorem pick_eq {G : Hp} : ∀ {rs : List (Addr × Str × Bool)}, (∀ x ∈ rs, G x.1 = some (.tup [.str x.2.1, .bl x.2.2])) → ((rs.map fun x => V.ref x.1).filter (pkB G)).map (pkN G) = ((rs.map (·.2)).filter (·.2)).map fun x => V.str x.1
  | [], _ => rfl
  | x :: rs, h => by
    have e := h x List.mem_cons_self
    have ih := pick_eq (rs := rs) fun y hy => h y (List.mem_cons_of_mem _ hy)
    have b : pkB G (.ref x.1) = x.2.2 := by unfold pkB; dsimp only; rw [e]
    have n : pkN G (.ref x.1) = .str x.2.1 := by unfold pkN; dsimp only; rw [e]
    rw [List.map_cons, List.map_cons, List.filter_cons, List.filter_cons, b]
    cases q : x.2.2 with
    | true => simp only [if_true, List.map_cons, n, ih]
    | false => simpa using ih
def Kd.cs : Kd → List Nat
  | .thing => [85, 110, 107, 110, 111, 119, 110, 84, 104, 105, 110, 103]
  | .dup => [68, 117, 112, 108, 105, 99, 97, 116, 101, 78, 97, 109, 101]
  | .num => [66, 97, 100, 78, 117, 109, 98, 101, 114]
theorem Kd.nm_cs : ∀ kd : Kd, kd.nm = S kd.cs | .thing => by decide +kernel | .dup => by decide +kernel | .num => by decide +kernel
def Kd.eqb : Kd → Kd → Bool | .thing, .thing => true | .dup, .dup => true | .num, .num => true | _, _ => false
theorem Kd.eqb_cs (a b : Kd) : decide (([a.cs] : List (List Nat)) = [b.cs]) = a.eqb b := by cases a <;> cases b <;> decide +kernel
theorem Kd.fine : ∀ kd : Kd, Fines [kd.cs] := fun kd t ht => by rw [List.mem_singleton.mp ht]; cases kd <;> exact ⟨by decide, by decide⟩
/-- names == [x], x the name of a class -/
theorem eq_nm {K : PySem.W.Frag} {H : Hp} {r x : Addr} {kd b : Kd} {Q : VK} (h : H r = some (.lst [.str kd.nm])) (n : H x = none) (q : Q (.bl (kd.eqb b)) (upd H x (.lst [.str b.nm]))) : mEq K (.ref r) (.ref x) (upd H x (.lst [.str b.nm])) Q := by
  show rEqD K (.ref r) (.ref x) (upd H x (.lst [.str b.nm])) Q
  have e1 : (upd H x (.lst [.str b.nm])) r = some (.lst (sv [kd.cs])) := by
    rw [same_new n _ _ h]; show some (HO.lst [V.str kd.nm]) = some (HO.lst [V.str (S kd.cs)]); rw [Kd.nm_cs]
  have e2 : (upd H x (.lst [.str b.nm])) x = some (.lst (sv [b.cs])) := by
    rw [upd_same]; show some (HO.lst [V.str b.nm]) = some (HO.lst [V.str (S b.cs)]); rw [Kd.nm_cs]
  refine ⟨.list (dS [kd.cs]), .list (dS [b.cs]), .lst (SqL.of e1) (dp_sv _), .lst (SqL.of e2) (dp_sv _), shaped_dS kd.fine, shaped_dS b.fine, ?_⟩
  rw [eqv_dS, Kd.eqb_cs]
  exact q
theorem ite_t {c : Prop} [Decidable c] {A B : Prop} (h : c) (a : A) : if c then A else B := by rw [if_pos h]; exact a
theorem ite_f {c : Prop} [Decidable c] {A B : Prop} (h : ¬ c) (b : B) : if c then A else B := by rw [if_neg h]; exact b
/-- what is raised: an error of the kind, v kept in it -/
def Er (K : PySem.W.Frag) (E : XK) (H : Hp) (kd : Kd) (v : V) : Prop := ∀ d, H d = none → E (.ref (cA K kd.nm)) (some d) (upd H d (.xd [(kd.fl, v)]))
def NumV (v : V) : Prop := (∃ i, v = .int i) ∨ (∃ b, v = .bl b)
def numOk (v : V) (lo hi : Int) : Prop := ∃ i, v = .int i ∧ lo ≤ i ∧ i ≤ hi
theorem raiseK {K : PySem.W.Frag} {E : XK} {H : Hp} {kd : Kd} {v : V} (h : Er K E H kd v) :
    [v].length ≤ 1000 ∧ ∀ a, H a = none → spIni (cA K kd.nm) kd.fl (.ref a :: ([v] ++ [])) (upd H a (exo a (cA K kd.nm) none)) (fun u H2 => u = .non ∧ ∃ (d : Addr) (fs : List (Str × V)), H2 a = some (exo a (cA K kd.nm) (some d)) ∧ H2 d = some (exd d fs) ∧ H d = none ∧ E (.ref (cA K kd.nm)) (some d) (upd (del H2 a) d (.xd fs))) (fun _ _ _ => False) :=
  raise1_go (W := fun cls d _ H' => E cls d H') (σ := []) h
def flatS (x : V) : Prop := (∃ z, x = .str z) ∨ (∃ i, x = .int i) ∨ (∃ b, x = .bl b)
/-- what is spoilt here: at most the list at u changes -/
inductive Spo (H : Hp) (u : Addr) : V → Prop
  | flat (x : V) (h : flatS x) : Spo H u x
  | lst (xs : List V) (h : H u = some (.lst xs)) (f : ∀ x ∈ xs, flatS x) (l : xs.length ≤ 1000) : Spo H u (.ref u)
  | tup (p : Addr) (xs : List V) (h : H p = some (.tup xs)) (f : ∀ x ∈ xs, flatS x) : Spo H u (.ref p)
  | pair (p : Addr) (a : V) (xs : List V) (h : H p = some (.tup [a, .ref u])) (g : flatS a) (hu : H u = some (.lst xs)) (f : ∀ x ∈ xs, flatS x) (l : xs.length ≤ 1000) : Spo H u (.ref p)
theorem flat_ref {p : Addr} (h : flatS (.ref p)) : False := by rcases h with ⟨_, e⟩ | ⟨_, e⟩ | ⟨_, e⟩ <;> cases e
theorem no_eq {ts : List (List Nat)} {t : List Nat} {i m : Nat} {z : V} (h : ∀ j, j < i → ts[j]? ≠ some t) (hm : m < i) (hz : (sv ts)[m]? = some z) : eqV z (.str (S t)) = false := by
  unfold sv at hz
  rw [List.getElem?_map] at hz
  cases e : ts[m]? with
  | none => rw [e] at hz; cases hz
  | some u =>
    rw [e] at hz
    cases hz
    rw [str_eqv]
    exact decide_eq_false fun z => h m hm (z ▸ e)
theorem idx_S : ∀ {ts : List (List Nat)} {i : Nat} {t : List Nat}, ts[i]? = some t → (∀ j, j < i → ts[j]? ≠ some t) → (ts.map S).idxOf (S t) = i
  | [], i, t, h, _ => by cases h
  | u :: ts, 0, t, h, _ => by
    cases h
    simp
  | u :: ts, i + 1, t, h, g => by
    have ne : u ≠ t := fun z => g 0 (by omega) (by rw [z]; rfl)
    have ne' : S u ≠ S t := fun z => ne (S_inj z)
    have ih := idx_S (ts := ts) (i := i) (t := t) h fun j hj => g (j + 1) (by omega)
    rw [List.map_cons, List.idxOf_cons]
    have b : (S u == S t) = false := by simpa using ne'
    rw [b, ih]; rfl
inductive Od
  | int (i : Nat)
  | lst (ls : List (List Nat))
  | err (kd : Kd) (v : V)
inductive W4 | rank | dropped | inserted | exchanged
def W4.cs : W4 → List Nat
  | .rank => [114, 97, 110, 107]
  | .dropped => [100, 114, 111, 112, 112, 101, 100]
  | .inserted => [105, 110, 115, 101, 114, 116, 101, 100]
  | .exchanged => [101, 120, 99, 104, 97, 110, 103, 101, 100]
theorem lit_rank : Str.ofString "rank" = S W4.rank.cs := by decide +kernel
theorem lit_dropped : Str.ofString "dropped" = S W4.dropped.cs := by decide +kernel
theorem lit_inserted : Str.ofString "inserted" = S W4.inserted.cs := by decide +kernel
theorem lit_exchanged : Str.ofString "exchanged" = S W4.exchanged.cs := by decide +kernel
/-- what a call leads to -/
def due (ts : List (List Nat)) (t : List Nat) (n : V) : W4 → Od → Prop
  | .rank, o => (t ∉ ts ∧ o = .err .thing (.str (S t))) ∨ ∃ i, ts[i]? = some t ∧ (∀ j < i, ts[j]? ≠ some t) ∧ o = .int i
  | .dropped, o => (t ∉ ts ∧ o = .err .thing (.str (S t))) ∨ (t ∈ ts ∧ o = .lst (ts.filter fun u => !decide (u = t)))
  | .inserted, o => (t ∈ ts ∧ o = .err .dup (.str (S t))) ∨ (t ∉ ts ∧ ¬ numOk n 0 (ts.length : Nat) ∧ o = .err .num n) ∨ ∃ m : Nat, t ∉ ts ∧ n = .int m ∧ m ≤ ts.length ∧ o = .lst (ts.take m ++ [t] ++ ts.drop m)
  | .exchanged, o => (¬ numOk n 0 ((ts.length : Nat) - 2) ∧ o = .err .num n) ∨ ∃ (m : Nat) (a b : List Nat), n = .int m ∧ ts[m]? = some a ∧ ts[m + 1]? = some b ∧ o = .lst (ts.take m ++ [b, a] ++ ts.drop (m + 2))
def Shown (H : Hp) (r : Addr) : Od → Prop
  | .int i => H r = some (.tup [.str "told", .int i])
  | .lst ls => ∃ u, H r = some (.tup [.str "told", .ref u]) ∧ H u = some (.lst (sv ls))
  | .err kd v => H r = some (.tup [.str "refused", .str kd.nm, v])
theorem at_hd {x : V} {xs : List V} : atI (x :: xs) 0 = some x := at_int (j := 0) rfl rfl
theorem nodup_cut : ∀ {ts : List (List Nat)} {i : Nat} {t : List Nat}, ts.Nodup → ts[i]? = some t → ts.take i ++ ts.drop (i + 1) = ts.filter fun u => !decide (u = t)
  | [], i, t, _, h => by cases h
  | u :: ts, 0, t, nd, h => by
    cases h
    have n : ∀ v ∈ ts, v ≠ u := fun v hv z => (List.nodup_cons.mp nd).1 (z ▸ hv)
    rw [List.take_zero, List.nil_append, List.drop_succ_cons, List.drop_zero, List.filter_cons]
    simp only [decide_true, Bool.not_true, Bool.false_eq_true, if_false]
    exact (List.filter_eq_self.mpr fun v hv => by simp [n v hv]).symm
  | u :: ts, i + 1, t, nd, h => by
    have nd' := List.nodup_cons.mp nd
    have ih := nodup_cut (ts := ts) (i := i) nd'.2 h
    have ne : u ≠ t := fun z => nd'.1 (z ▸ List.mem_of_getElem? h)
    rw [List.take_succ_cons, List.drop_succ_cons, List.cons_append, ih, List.filter_cons]
    simp [ne]
theorem due_fun {ts : List (List Nat)} {t : List Nat} {n : V} {w : W4} {o o' : Od} (h : due ts t n w o) (g : due ts t n w o') : o = o' := by
  cases w with
  | rank =>
    rcases h with ⟨a, rfl⟩ | ⟨i, a, b, rfl⟩ <;> rcases g with ⟨c, rfl⟩ | ⟨j, c, d, rfl⟩
    · rfl
    · exact absurd (List.mem_of_getElem? c) a
    · exact absurd (List.mem_of_getElem? a) c
    · have : i = j := by
        rcases Nat.lt_trichotomy i j with z | z | z
        · exact absurd a (d i z)
        · exact z
        · exact absurd c (b j z)
      rw [this]
  | dropped =>
    rcases h with ⟨a, rfl⟩ | ⟨a, rfl⟩ <;> rcases g with ⟨c, rfl⟩ | ⟨c, rfl⟩
    · rfl
    · exact absurd c a
    · exact absurd a c
    · rfl
  | inserted =>
    rcases h with ⟨a, rfl⟩ | ⟨a, b, rfl⟩ | ⟨m, a, b, l, rfl⟩ <;> rcases g with ⟨c, rfl⟩ | ⟨c, d, rfl⟩ | ⟨k, c, d, l2, rfl⟩
    · rfl
    · exact absurd a c
    · exact absurd a c
    · exact absurd c a
    · rfl
    · exact absurd ⟨k, d, by omega, by omega⟩ b
    · exact absurd c a
    · exact absurd ⟨m, b, by omega, by omega⟩ d
    · rw [b] at d
      have : m = k := by cases d; rfl
      rw [this]
  | exchanged =>
    rcases h with ⟨a, rfl⟩ | ⟨m, x, y, a, b, c, rfl⟩ <;> rcases g with ⟨d, rfl⟩ | ⟨k, x2, y2, d, e, f, rfl⟩
    · rfl
    · have := (List.getElem?_eq_some_iff.mp f).1
      exact absurd ⟨k, d, by omega, by omega⟩ a
    · have := (List.getElem?_eq_some_iff.mp c).1
      exact absurd ⟨m, a, by omega, by omega⟩ d
    · rw [a] at d
      have : m = k := by cases d; rfl
      subst this
      rw [b] at e; rw [c] at f
      cases e; cases f; rfl
theorem rep_flat {H : Hp} {v : V} (h : flatS v) (n : Nat) : Rep H n v v := by
  rcases h with ⟨z, rfl⟩ | ⟨z, rfl⟩ | ⟨z, rfl⟩ <;> cases n <;> exact rfl
theorem rep_tup {H : Hp} {a b : Addr} {xs ys : List V} {n : Nat} (ha : H a = some (.tup xs)) (hb : H b = some (.tup ys)) (el : xs.length = ys.length) (hz : ys.length ≤ 1000000) (r : ∀ (k : Nat) x y, xs[k]? = some x → ys[k]? = some y → Rep H n x y) : Rep H (n + 1) (.ref a) (.ref b) := .inr ⟨xs, ys, ha, hb, el, hz, r⟩
theorem rep_sv {H : Hp} {a b : Addr} {ls : List (List Nat)} {n : Nat} (ha : H a = some (.lst (sv ls))) (hb : H b = some (.lst (sv ls))) (hz : ls.length ≤ 1000000) : Rep H (n + 1) (.ref a) (.ref b) := .inl ⟨_, _, ha, hb, rfl, by rw [sv_len]; exact hz, fun k x y hx hy => by
  rw [hx] at hy
  cases hy
  obtain ⟨t, _, rfl⟩ := sv_mem (List.mem_of_getElem? hx)
  exact rep_flat (.inl ⟨_, rfl⟩) n⟩
/-- the values that are shown are flat, the lists not long -/
def Od.ok : Od → Prop
  | .int _ => True
  | .lst ls => ls.length ≤ 1000
  | .err _ v => flatS v
theorem num_flat {v : V} (h : NumV v) : flatS v := h.elim (fun ⟨i, e⟩ => .inr (.inl ⟨i, e⟩)) fun ⟨b, e⟩ => .inr (.inr ⟨b, e⟩)
theorem due_ok {ts : List (List Nat)} {t : List Nat} {n : V} {w : W4} {o : Od} (nv : NumV n) (hl : ts.length ≤ 990) (h : due ts t n w o) : o.ok := by
  cases w with
  | rank =>
    rcases h with ⟨_, rfl⟩ | ⟨i, _, _, rfl⟩
    · exact .inl ⟨_, rfl⟩
    · exact True.intro
  | dropped =>
    rcases h with ⟨_, rfl⟩ | ⟨_, rfl⟩
    · exact .inl ⟨_, rfl⟩
    · exact Nat.le_trans (List.length_filter_le _ _) (by omega)
  | inserted =>
    rcases h with ⟨_, rfl⟩ | ⟨_, _, rfl⟩ | ⟨m, _, _, l, rfl⟩
    · exact .inl ⟨_, rfl⟩
    · exact num_flat nv
    · show (ts.take m ++ [t] ++ ts.drop m).length ≤ 1000
      rw [List.length_append, List.length_append, List.length_take, List.length_drop]
      show _ + 1 + _ ≤ _
      omega
  | exchanged =>
    rcases h with ⟨_, rfl⟩ | ⟨m, a, b, _, _, _, rfl⟩
    · exact num_flat nv
    · show (ts.take m ++ [b, a] ++ ts.drop (m + 2)).length ≤ 1000
      rw [List.length_append, List.length_append, List.length_take, List.length_drop]
      show _ + 2 + _ ≤ _
      omega
theorem Shown.same {H H' : Hp} {r : Addr} {o : Od} (h : Shown H r o) (s : Same H H') : Shown H' r o := by
  cases o with
  | int i => exact s _ _ h
  | lst ls => obtain ⟨u, h1, h2⟩ := h; exact ⟨u, s _ _ h1, s _ _ h2⟩
  | err kd v => exact s _ _ h
theorem Shown.rep {H : Hp} {a b : Addr} {o : Od} (ok : o.ok) (ha : Shown H a o) (hb : Shown H b o) : Rep H 7 (.ref a) (.ref b) := by
  cases o with
  | int i =>
    refine rep_tup ha hb rfl (Nat.le_of_ble_eq_true rfl) fun k x y hx hy => ?_
    rw [hx] at hy; cases hy
    rcases List.mem_cons.mp (List.mem_of_getElem? hx) with rfl | z
    · exact rep_flat (.inl ⟨_, rfl⟩) 6
    · rw [List.mem_singleton.mp z]; exact rep_flat (.inr (.inl ⟨_, rfl⟩)) 6
  | lst ls =>
    obtain ⟨u, h1, h2⟩ := ha
    obtain ⟨v, g1, g2⟩ := hb
    refine rep_tup h1 g1 rfl (Nat.le_of_ble_eq_true rfl) fun k x y hx hy => ?_
    match k, hx, hy with
    | 0, hx, hy => cases hx; cases hy; exact rep_flat (.inl ⟨_, rfl⟩) 6
    | 1, hx, hy => cases hx; cases hy; exact rep_sv h2 g2 (Nat.le_trans ok (by decide))
    | k + 2, hx, hy => cases hx
  | err kd v =>
    refine rep_tup ha hb rfl (Nat.le_of_ble_eq_true rfl) fun k x y hx hy => ?_
    rw [hx] at hy; cases hy
    match k, hx with
    | 0, hx => cases hx; exact rep_flat (.inl ⟨_, rfl⟩) 6
    | 1, hx => cases hx; exact rep_flat (.inl ⟨_, rfl⟩) 6
    | 2, hx => cases hx; exact rep_flat ok 6
    | k + 3, hx => cases hx
theorem flat_sv {ls : List (List Nat)} : ∀ x ∈ sv ls, flatS x := fun x hx => by
  obtain ⟨t, _, rfl⟩ := sv_mem hx
  exact .inl ⟨_, rfl⟩
theorem Shown.spo {H0 H : Hp} {r : Addr} {o : Od} (ok : o.ok) (h : Shown H r o) (fr : H0 r = none) (fu : ∀ ls u, o = .lst ls → H r = some (.tup [.str "told", .ref u]) → H0 u = none) : ∃ u, Spo H u (.ref r) ∧ H0 u = none := by
  cases o with
  | int i => exact ⟨r, .tup r _ h (fun x hx => by
      rcases List.mem_cons.mp hx with rfl | z
      · exact .inl ⟨_, rfl⟩
      · rw [List.mem_singleton.mp z]; exact .inr (.inl ⟨_, rfl⟩)), fr⟩
  | lst ls =>
    obtain ⟨u, h1, h2⟩ := h
    exact ⟨u, .pair r _ _ h1 (.inl ⟨_, rfl⟩) h2 flat_sv (by rw [sv_len]; exact ok), fu ls u rfl h1⟩
  | err kd v => exact ⟨r, .tup r _ h (fun x hx => by
      rcases List.mem_cons.mp hx with rfl | hx
      · exact .inl ⟨_, rfl⟩
      · rcases List.mem_cons.mp hx with rfl | z
        · exact .inl ⟨_, rfl⟩
        · rw [List.mem_singleton.mp z]; exact ok), fr⟩
theorem Keep.to_same {u : Addr} {H H' : Hp} (k : Keep u H H') {H0 : Hp} (s : Same H0 H) (n : H0 u = none) : Same H0 H' := fun b o e => k b o (ne_of_none e n) (s b o e)
theorem ins_back {ts : List (List Nat)} {k : Nat} {t : List Nat} (h : ts[k]? = some t) : (ts.take k ++ ts.drop (k + 1)).take k ++ [t] ++ (ts.take k ++ ts.drop (k + 1)).drop k = ts := by
  have hk := (List.getElem?_eq_some_iff.mp h).1
  have l : (ts.take k).length = k := by rw [List.length_take]; omega
  rw [List.take_append_of_le_length (by omega), List.take_of_length_le (by omega), List.drop_append_of_le_length (by omega), List.drop_of_length_le (by omega), List.nil_append, List.append_assoc]
  have e : ts.drop k = t :: ts.drop (k + 1) := by
    rw [List.drop_eq_getElem_cons hk]
    congr 1
    exact (List.getElem?_eq_some_iff.mp h).2
  show ts.take k ++ (t :: ts.drop (k + 1)) = ts
  rw [← e, List.take_append_drop]
theorem two_drop {ts : List (List Nat)} {k : Nat} {a b : List Nat} (ha : ts[k]? = some a) (hb : ts[k + 1]? = some b) : ts.drop k = a :: b :: ts.drop (k + 2) := by
  have hk := (List.getElem?_eq_some_iff.mp ha).1
  have hk2 := (List.getElem?_eq_some_iff.mp hb).1
  rw [List.drop_eq_getElem_cons hk, List.drop_eq_getElem_cons hk2, (List.getElem?_eq_some_iff.mp ha).2, (List.getElem?_eq_some_iff.mp hb).2]
theorem swap_at {ts : List (List Nat)} {k : Nat} {a b : List Nat} (ha : ts[k]? = some a) (hb : ts[k + 1]? = some b) : (ts.take k ++ [b, a] ++ ts.drop (k + 2))[k]? = some b ∧ (ts.take k ++ [b, a] ++ ts.drop (k + 2))[k + 1]? = some a := by
  have hk := (List.getElem?_eq_some_iff.mp ha).1
  have l : (ts.take k).length = k := by rw [List.length_take]; omega
  rw [List.append_assoc]
  constructor
  · rw [List.getElem?_append_right (by omega), l, Nat.sub_self]; rfl
  · rw [List.getElem?_append_right (by omega), l, show k + 1 - k = 1 by omega]; rfl
theorem swap_back {ts : List (List Nat)} {k : Nat} {a b : List Nat} (ha : ts[k]? = some a) (hb : ts[k + 1]? = some b) :
    (ts.take k ++ [b, a] ++ ts.drop (k + 2)).take k ++ [a, b] ++ (ts.take k ++ [b, a] ++ ts.drop (k + 2)).drop (k + 2) = ts := by
  have hk := (List.getElem?_eq_some_iff.mp ha).1
  have l : (ts.take k).length = k := by rw [List.length_take]; omega
  have l2 : (ts.take k ++ [b, a]).length = k + 2 := by rw [List.length_append, l]; rfl
  have d1 : ∀ D, (ts.take k ++ [b, a] ++ D).drop (k + 2) = D := fun D => by rw [List.drop_append_of_le_length (by omega), List.drop_of_length_le (by omega), List.nil_append]
  have t1 : ∀ D, (ts.take k ++ [b, a] ++ D).take k = ts.take k := fun D => by rw [List.append_assoc, List.take_append_of_le_length (by omega), List.take_of_length_le (by omega)]
  rw [d1, t1, List.append_assoc]
  show ts.take k ++ (a :: b :: ts.drop (k + 2)) = ts
  rw [← two_drop ha hb, List.take_append_drop]
theorem long_at {ts : List (List Nat)} {m i : Nat} {o : List Nat} (no : o ∉ ts) (hm : m ≤ ts.length) (h : (ts.take m ++ [o] ++ ts.drop m)[i]? = some o) : i = m := by
  have l : (ts.take m).length = m := by rw [List.length_take]; omega
  rcases Nat.lt_trichotomy i m with z | z | z
  · rw [List.append_assoc, List.getElem?_append_left (by omega)] at h
    exact absurd (List.mem_of_mem_take (List.mem_of_getElem? h)) no
  · exact z
  · have l2 : (ts.take m ++ [o]).length = m + 1 := by rw [List.length_append, l]; rfl
    rw [List.getElem?_append_right (by omega)] at h
    exact absurd (List.mem_of_mem_drop (List.mem_of_getElem? h)) no
theorem long_drop {ts : List (List Nat)} {m : Nat} {o : List Nat} (no : o ∉ ts) : (ts.take m ++ [o] ++ ts.drop m).filter (fun u => !decide (u = o)) = ts := by
  have f : ∀ l : List (List Nat), (∀ u ∈ l, u ∈ ts) → l.filter (fun u => !decide (u = o)) = l := fun l hl => List.filter_eq_self.mpr fun u hu => by
    have : u ≠ o := fun z => no (z ▸ hl u hu)
    simp [this]
  rw [List.filter_append, List.filter_append, f _ (fun u hu => List.mem_of_mem_take hu), f _ (fun u hu => List.mem_of_mem_drop hu)]
  simp
/-- the pairs that are asked -/
def Prz (H : Hp) (q : Addr) (N : Nat) : Prop := ∃ rs : List Addr, H q = some (.lst (rs.map V.ref)) ∧ rs.length ≤ N ∧ ∀ r ∈ rs, ∃ t n, H r = some (.tup [.str (S t), n]) ∧ NumV n
theorem Prz.keep {s : Addr} {H H' : Hp} {q : Addr} {N : Nat} (h : Prz H q N) (k : Keep s H H') (n : q ≠ s) (m : ∀ r xs, H r = some (.tup xs) → r ≠ s) : Prz H' q N := by
  obtain ⟨rs, h1, h2, h3⟩ := h
  refine ⟨rs, k _ _ n h1, h2, fun r hr => ?_⟩
  obtain ⟨t, v, e, nv⟩ := h3 r hr
  exact ⟨t, v, k _ _ (m r _ e) e, nv⟩
theorem Sto.tupne {s cl : Addr} {n : Nat} {H : Hp} (S : Sto s cl n H) : ∀ r xs, H r = some (.tup xs) → r ≠ s := fun r xs e z => by
  subst z
  obtain ⟨ns, i, d, b, v, h1, _⟩ := S.ex
  rw [h1] at e
  cases e
theorem W4.all {x : V} (h : x ∈ ([.str (S W4.rank.cs), .str (S W4.dropped.cs), .str (S W4.inserted.cs), .str (S W4.exchanged.cs)] : List V)) : ∃ w : W4, x = .str (S w.cs) := by
  simp only [List.mem_cons, List.not_mem_nil, or_false] at h
  rcases h with rfl | rfl | rfl | rfl
  · exact ⟨.rank, rfl⟩
  · exact ⟨.dropped, rfl⟩
  · exact ⟨.inserted, rfl⟩
  · exact ⟨.exchanged, rfl⟩
def sp__law_store (K : PySem.W.Frag) : Sp := fun vs H Q _ => ∃ (a : Addr) (ns : List Int), vs = [.ref a] ∧ SqL K H a (ns.map V.int) ∧ ns.length ≤ 63 ∧ ∀ s cl H', Same H H' → H s = none → Sto s cl 0 H' → Q (.ref s) H'
theorem sc__law_store : FnScope ["script", "cells", "cell", "base"] ["script"] (defScope (topS 47)) := ⟨rfl, rfl, rfl, by decide +kernel, rfl, by decide +kernel, by decide +kernel⟩
theorem ok__law_store {P : Program} {w : World} {K : PySem.W.Frag} {mg : Str → Option Value} {base : Heap} (T : Top K mg) : FnOk P w K mg base CX0 1 T.a__law_store T.fd__law_store ["script"] (sp__law_store K) := by
  refine T.F__law_store.ok (k := 0) sc__law_store (fun vs H Q E h => ?_) (fun cdv A outer s0 H vs Q E hr h => ?_)
  · obtain ⟨a, ns, rfl, _⟩ := h; rfl
  · have sc := sc__law_store
    refine ⟨_, (pss_cons (ps_setLc (i := 1) (own := [("cell", 2)]) (g := gName 2) rfl sc.nd rfl rfl (sw_true rfl rfl rfl (by decide +kernel)) (ki_seq (K := K) rfl (xv 0)) (blkOk_by (N := ["script", "cells", "cell", "base"]) (sc := defScope (topS 47)) (by decide +kernel)) (fun _ _ _ _ _ => (pg_name (i := 2) sc.nd rfl (by first | exact Or.inl rfl | exact Or.inr rfl))) (fun _ _ _ _ _ => pts_nil) (fun _ _ _ _ _ => (pe_callTy xc_int (by rfl) T.n_int (by decide +kernel) (pa_cons (xv 2) pa_nil))))
      (pss_cons (ps_set (i := 3) sc.nd rfl (by first | exact Or.inl rfl | exact Or.inr rfl) pe_int)
      (pss_cons (ps_for PassesOwn.never rfl (ki_seq (K := K) rfl (xv 1)) (pg_name (i := 2) sc.nd rfl (by first | exact Or.inl rfl | exact Or.inr rfl)) (pss_one (ps_set (i := 3) sc.nd rfl (by first | exact Or.inl rfl | exact Or.inr rfl) (pe_op xo_mod (pe_callTy xc_int (by rfl) T.n_int (by decide +kernel) (pa_cons (pe_op (ko_add (K := K) rfl) (pe_op (ko_add (K := K) rfl) (pe_op xo_mul (xv 3) pe_int) (pe_op xo_mod (pe_callTy xc_int (by rfl) T.n_int (by decide +kernel) (pa_cons (xv 2) pa_nil)) pe_int)) pe_int) pa_nil)) pe_int))))
      (pss_one (ps_ret (pe_lst (pa_cons (xv 1) (pa_cons pe_int (pa_cons pe_int (pa_cons pe_int (pa_cons (xv 3) pa_nil))))))))))), ?_⟩
    obtain ⟨a, ns, rfl, hS, hl, q⟩ := h
    have hz : (ns.map V.int).length ≤ sizeLine := by rw [List.length_map, sl_big]; omega
    refine .inl ⟨a, rfl, ⟨_, hS⟩, fun D hD => ?_⟩
    refine lc_f (xs := ns.map V.int) id hS hD hz (fun _ => rfl) (fun x acc Q hx q => ?_) ?_
    · obtain ⟨i, _, rfl⟩ := List.mem_map.mp hx
      exact q
    rw [List.map_id]
    refine .inl ⟨D, rfl, ⟨_, SqL.of upd_same⟩, for_list (xs := ns.map V.int) (fun _ σ H1 => H1 = upd H D (.lst (ns.map V.int)) ∧ ∃ b y, σ = [some (.ref a), some (.ref D), y, some (.int b)]) ⟨rfl, 1, none, rfl⟩ (fun i σ H1 _ e => by rw [e.1]; exact SqL.of upd_same) (fun i x σ H1 hi e => ?_) (fun σ H1 e => ?_)⟩
    · obtain ⟨rfl, b, y, rfl⟩ := e
      obtain ⟨j, _, rfl⟩ := List.mem_map.mp (List.mem_of_getElem? hi)
      refine ⟨.inr ⟨by decide, by decide⟩, by decide, by decide, rfl, _, _, rfl⟩
    · obtain ⟨rfl, b, y, rfl⟩ := e
      refine ⟨sl_of (n := 5) rfl, fun s hs => q s D _ ?_ ?_ ⟨ns, 0, 0, 0, b, upd_same, ?_, ?_, Nat.zero_le _, hl, by decide, by decide⟩⟩
      · exact (same_new hD).trans (same_new hs)
      · exact (same_new hD).free hs
      · rw [upd_ne (ne_of_none upd_same hs)]; exact upd_same
      · exact ne_of_none upd_same hs
def sp__law_mix (K : PySem.W.Frag) : Sp := fun vs H Q _ => ∃ (c t : Int), vs = [.int c, .int t] ∧ 0 ≤ t ∧ t ≤ 1000000000005 ∧ ∀ (r : Int), 0 ≤ r → Q (.int r) H
theorem sc__law_mix : FnScope ["cell", "turn", "one"] ["cell", "turn"] (defScope (topS 48)) := ⟨rfl, rfl, rfl, by decide +kernel, rfl, by decide +kernel, by decide +kernel⟩
theorem ok__law_mix {P : Program} {w : World} {K : PySem.W.Frag} {mg : Str → Option Value} {base : Heap} (T : Top K mg) : FnOk P w K mg base CX0 1 T.a__law_mix T.fd__law_mix ["cell", "turn"] (sp__law_mix K) := by
  refine T.F__law_mix.ok (k := 0) sc__law_mix (fun vs H Q E h => ?_) (fun cdv A outer s0 H vs Q E hr h => ?_)
  · obtain ⟨c, t, rfl, _⟩ := h; rfl
  · have sc := sc__law_mix
    refine ⟨_, (pss_cons (ps_set (i := 2) sc.nd rfl (by first | exact Or.inl rfl | exact Or.inr rfl) (pe_op (ko_add (K := K) rfl) (pe_op (ko_add (K := K) rfl) (pe_op xo_mod (pe_callTy xc_int (by rfl) T.n_int (by decide +kernel) (pa_cons (xv 0) pa_nil)) pe_int) (pe_op xo_mul pe_int (xv 1))) pe_int))
      (pss_cons (ps_set (i := 2) sc.nd rfl (by first | exact Or.inl rfl | exact Or.inr rfl) (pe_op xo_mod (pe_callTy xc_int (by rfl) T.n_int (by decide +kernel) (pa_cons (pe_op (ko_add (K := K) rfl) (pe_op xo_mul (xv 2) (xv 2)) (xv 1)) pa_nil)) pe_int))
      (pss_one (ps_ret (pe_op xo_mod (pe_callTy xc_int (by rfl) T.n_int (by decide +kernel) (pa_cons (pe_op (ko_add (K := K) rfl) (pe_op xo_mul (xv 2) (pe_op (ko_add (K := K) rfl) (xv 2) pe_int)) (pe_op xo_mul pe_int (xv 1))) pa_nil)) pe_int))))), ?_⟩
    obtain ⟨c, t, rfl, h0, h1, q⟩ := h
    have e0 : 0 ≤ c.fmod 99989 := Int.fmod_nonneg_of_pos _ (by decide)
    have e1 : c.fmod 99989 < 99989 := Int.fmod_lt_of_pos _ (by decide)
    refine ⟨by decide, .inl ⟨by decide, by decide⟩, .inl ⟨by omega, by omega⟩, by decide, ?_⟩
    have f0 : 0 ≤ ((c.fmod 99989 + 331 * t + 17) * (c.fmod 99989 + 331 * t + 17) + t).fmod 99989 := Int.fmod_nonneg_of_pos _ (by decide)
    have f1 : ((c.fmod 99989 + 331 * t + 17) * (c.fmod 99989 + 331 * t + 17) + t).fmod 99989 < 99989 := Int.fmod_lt_of_pos _ (by decide)
    refine ⟨.inl ⟨by omega, by omega⟩, .inl ⟨by decide, by decide⟩, by decide, ?_⟩
    exact q _ (Int.fmod_nonneg_of_pos _ (by decide))
def sp__law_is_out (K : PySem.W.Frag) : Sp := fun vs H Q _ => ∃ (v : V) (lo hi : Int), vs = [v, .int lo, .int hi] ∧ NumV v ∧ ∀ b, (b = false ↔ numOk v lo hi) → Q (.bl b) H
theorem sc__law_is_out : FnScope ["number", "low", "high"] ["number", "low", "high"] (defScope (topS 55)) := ⟨rfl, rfl, rfl, by decide +kernel, rfl, by decide +kernel, by decide +kernel⟩
theorem ok__law_is_out {P : Program} {w : World} {K : PySem.W.Frag} {mg : Str → Option Value} {base : Heap} (T : Top K mg) : FnOk P w K mg base CX0 1 T.a__law_is_out T.fd__law_is_out ["number", "low", "high"] (sp__law_is_out K) := by
  refine T.F__law_is_out.ok (k := 0) sc__law_is_out (fun vs H Q E h => ?_) (fun cdv A outer s0 H vs Q E hr h => ?_)
  · obtain ⟨v, lo, hi, rfl, _⟩ := h; rfl
  · have sc := sc__law_is_out
    refine ⟨_, (pss_one (ps_ret (xe_or (pe_callB (xc_isi .bool) (by rfl) T.n_isinstance (by decide +kernel) (pa_cons (xv 0) (pa_cons (pe_bltn (v := .ty "bool") (by rfl) T.n_bool (by decide +kernel) rfl) pa_nil))) (xe_or (pe_cmpR xo_lt (xv 0) (xv 1) (nomark _)) (pe_one (pe_cmpR xo_gt (xv 0) (xv 2) (nomark _))))))), ?_⟩
    obtain ⟨v, lo, hi, rfl, nv, q⟩ := h
    rcases nv with ⟨i, rfl⟩ | ⟨b, rfl⟩
    · refine ⟨rfl, no_ft, fun _ => ⟨fun c => ?_, fun c => ?_⟩⟩
      · have h : i < lo := of_decide_eq_true c
        exact q true ⟨no_tf, fun ⟨j, e, a, _⟩ => by cases e; omega⟩
      · have h : ¬ i < lo := of_decide_eq_false c
        refine q _ ⟨fun z => ?_, fun ⟨j, e, a, b⟩ => ?_⟩
        · have h2 : ¬ i > hi := of_decide_eq_false z
          exact ⟨i, rfl, by omega, by omega⟩
        · cases e
          exact decide_eq_false (by omega)
    · exact ⟨rfl, fun _ => q true ⟨no_tf, fun ⟨j, e, _⟩ => by cases e⟩, no_tf⟩
def sp__law_is_name (K : PySem.W.Frag) : Sp := fun vs H Q _ => ∃ (l : List Nat), vs = [.str (S l)] ∧ l.length ≤ sizeLine ∧ ∀ H', Same H H' → Q (.bl (nameL l)) H'
theorem sc__law_is_name : FnScope ["text", "sign"] ["text"] (defScope (topS 59)) := ⟨rfl, rfl, rfl, by decide +kernel, rfl, by decide +kernel, by decide +kernel⟩
theorem ok__law_is_name {P : Program} {w : World} {K : PySem.W.Frag} {mg : Str → Option Value} {base : Heap} (T : Top K mg) : FnOk P w K mg base CX0 1 T.a__law_is_name T.fd__law_is_name ["text"] (sp__law_is_name K) := by
  refine T.F__law_is_name.ok (k := 0) sc__law_is_name (fun vs H Q E h => ?_) (fun cdv A outer s0 H vs Q E hr h => ?_)
  · obtain ⟨l, rfl, _⟩ := h; rfl
  · have sc := sc__law_is_name
    refine ⟨_, (pss_cons (xs_if (PW.pt (xw_or (xtc (ko_eq (K := K) rfl hr.units) (xv 0) pe_str (nomark _)) (xw_or (xtc (ko_eq (K := K) rfl hr.units) (xv 0) pe_str (nomark _)) (xw_or (xtc xo_lt (pe_callB (kc_len (K := K) rfl) (by rfl) T.n_len (by decide +kernel) (pa_cons (xv 0) pa_nil)) pe_int (nomark _)) (pw_or1 (xtc xo_gt (pe_callB (kc_len (K := K) rfl) (by rfl) T.n_len (by decide +kernel) (pa_cons (xv 0) pa_nil)) pe_int (nomark _))))))) (pss_one (ps_ret pe_bl)) pss_nil)
      (pss_cons (xs_if (xtc (ko_notin (K := K) rfl) (pe_ix (kix (K := K) rfl) (xv 0) pe_int (fun _ _ => rfl)) pe_str (by rfl)) (pss_one (ps_ret pe_bl)) pss_nil)
      (pss_one (ps_ret (pe_cmpR (ko_eq (K := K) rfl hr.units) (pe_callB (kc_len (K := K) rfl) (by rfl) T.n_len (by decide +kernel) (pa_cons (pe_lc (own := [("sign", 1)]) (g := gName 1) rfl sc.nd (pi_str (xv 0)) (blkOk_by (N := ["text", "sign"]) (sc := defScope (topS 59)) (by decide +kernel)) (fun _ _ _ _ _ => (pg_name (i := 1) sc.nd rfl (by first | exact Or.inl rfl | exact Or.inr rfl))) (fun _ _ _ _ _ => (pts_one (xtc (ko_notin (K := K) rfl) (xv 1) pe_str (by rfl)))) (fun _ _ _ _ _ => (xv 1))) pa_nil)) pe_int (nomark _)))))), ?_⟩
    obtain ⟨l, rfl, hl, q⟩ := h
    have hz : (S l).length ≤ sizeLine := by rw [S_len]; exact hl
    have no : nameL l = false → Q (.bl false) H := fun e => by have := q H (Same.refl H); rwa [e] at this
    have bad : ¬ IsNm l → nameL l = false := fun h => by
      cases e : nameL l with
      | false => rfl
      | true => exact absurd (nameL_iff.mp e) h
    refine ⟨fun c => ⟨fun _ => ?_, no_tf⟩, fun c1 => ⟨fun c => ⟨fun _ => ?_, no_tf⟩, fun c2 => ⟨hz, fun c => ⟨fun _ => ?_, no_tf⟩, fun c3 => ⟨hz, fun c => ?_, fun c4 => ?_⟩⟩⟩⟩
    · rw [dec_S lit_sea] at c
      exact no (bad fun h => h.ns (of_decide_eq_true c))
    · rw [dec_S lit_it] at c
      exact no (bad fun h => h.ni (of_decide_eq_true c))
    · rw [S_len] at c
      have := of_decide_eq_true c
      exact no (bad fun h => by have := List.length_pos_iff.mpr h.ne; omega)
    · rw [S_len] at c
      have := of_decide_eq_true c
      exact no (bad fun h => by have := h.l1; omega)
    rw [dec_S lit_sea] at c1
    rw [dec_S lit_it] at c2
    rw [S_len] at c3 c4
    have d1 := of_decide_eq_false c1
    have d2 := of_decide_eq_false c2
    have d3 := of_decide_eq_false c3
    have d4 := of_decide_eq_false c4
    obtain ⟨a, t, rfl⟩ : ∃ a t, l = a :: t := by
      cases l with
      | nil => exact absurd (by decide) d3
      | cons a t => exact ⟨a, t, rfl⟩
    refine ⟨hz, a, atI_nat (j := 0) rfl, ?_⟩
    rw [lit_az]
    refine ⟨a, rfl, fun c => ?_, fun c => ?_⟩
    · have c' : ¬ a ∈ aZ := by simpa using c
      refine no (bad fun h => c' (mem_az.mpr ?_))
      have := h.w
      unfold word at this
      exact (Bool.and_eq_true _ _ ▸ this).1
    have ca : low a = true := mem_az.mp (by simpa using c)
    refine ⟨_, rfl, fun D hD => ?_⟩
    refine lc_str (l := a :: t) (fun x => .str (S [x])) (fun x => !decide (x ∈ aZ9)) hl (fun _ => rfl) (fun x acc Q' _ q' => ?_) (fun x acc Q' _ q' => q') ?_
    · rw [lit_az9]
      exact ⟨x, rfl, q'⟩
    refine ⟨_, Sq.l upd_same, ?_⟩
    rw [List.length_map]
    have e : decide (((((a :: t).filter fun x => !decide (x ∈ aZ9)).length : Nat) : Int) = 0) = nameL (a :: t) := by
      rw [Bool.eq_iff_iff, decide_eq_true_iff, nameL_iff]
      have e1 : (((((a :: t).filter fun x => !decide (x ∈ aZ9)).length : Nat) : Int) = 0) ↔ ((a :: t).filter fun x => !decide (x ∈ aZ9)).length = 0 := by omega
      rw [e1, filter_nil_iff]
      constructor
      · intro h
        refine ⟨?_, by omega, d1, d2⟩
        unfold word
        rw [Bool.and_eq_true]
        exact ⟨ca, List.all_eq_true.mpr fun x hx => mem_az9.mp (by simpa using h x hx)⟩
      · intro h x hx
        simpa using mem_az9.mpr (word_all h.w x hx)
    have z := fun o : HO => q _ (same_new (o := o) hD)
    rw [← e] at z
    exact z _
def sp__law_classes (K : PySem.W.Frag) : SpE := fun a cls d vs H Q _ => vs = [.ref a] ∧ ∃ (kd : Kd) (dd : Addr) (fs : List (Str × V)), cls = .ref (cA K kd.nm) ∧ d = some dd ∧ H dd = some (.xd fs) ∧ ∀ r H', Same H H' → H r = none → H' r = some (.lst [.str kd.nm]) → Q (.ref r) H'
theorem sc__law_classes : FnScope ["error", "pairs", "pair"] ["error"] (defScope (topS 66)) := ⟨rfl, rfl, rfl, by decide +kernel, rfl, by decide +kernel, by decide +kernel⟩
theorem ok__law_classes {P : Program} {w : World} {K : PySem.W.Frag} {mg : Str → Option Value} {base : Heap} (T : Top K mg) : FnE P w K mg base CX0 1 T.a__law_classes T.fd__law_classes ["error"] (atE (sp__law_classes K)) := by
  refine okE T.F__law_classes (k := 0) sc__law_classes (fun a cls d vs H Q E h => ?_) (fun cdv p A outer s0 H vs Q E hot hr h => ?_)
  · obtain ⟨rfl, _⟩ := h; rfl
  · have sc := sc__law_classes
    obtain ⟨rfl, kd, dd, fs, ec, ed, hd, q⟩ := h
    have eC := T.er kd
    have eT : IsErr p (cA K kd.nm) dd := ⟨ec, ed, hot.2.imp fun _ z => z.1⟩
    refine ⟨_, (xss_cut (ps_set (i := 1) sc.nd rfl (by first | exact Or.inl rfl | exact Or.inr rfl) (pe_lst (pa_cons (pe_tup (pa_cons pe_str (pa_cons (pe_callB (call_isNm eC eT List.mem_cons_self) (by rfl) T.n_isinstance bb_isi (pa_cons (xv 0) (pa_cons (pe_glob (v := .ref (cA K "NotAfloat")) (u := .ref (cA K "NotAfloat")) (by rfl) T.gc_NotAfloat rfl) pa_nil))) pa_nil))) (pa_cons (pe_tup (pa_cons pe_str (pa_cons (pe_callB (call_isNm eC eT List.mem_cons_self) (by rfl) T.n_isinstance bb_isi (pa_cons (xv 0) (pa_cons (pe_glob (v := .ref (cA K "LandingError")) (u := .ref (cA K "LandingError")) (by rfl) T.gc_LandingError rfl) pa_nil))) pa_nil))) pa_nil))))
      (xss_cut (ps_set (i := 1) sc.nd rfl (by first | exact Or.inl rfl | exact Or.inr rfl) (pe_op (ko_add (K := K) rfl) (xv 1) (pe_lst (pa_cons (pe_tup (pa_cons pe_str (pa_cons (pe_callB (call_isNm eC eT List.mem_cons_self) (by rfl) T.n_isinstance bb_isi (pa_cons (xv 0) (pa_cons (pe_glob (v := .ref (cA K "BadName")) (u := .ref (cA K "BadName")) (by rfl) T.gc_BadName rfl) pa_nil))) pa_nil))) (pa_cons (pe_tup (pa_cons pe_str (pa_cons (pe_callB (call_isNm eC eT List.mem_cons_self) (by rfl) T.n_isinstance bb_isi (pa_cons (xv 0) (pa_cons (pe_glob (v := .ref (cA K "DuplicateName")) (u := .ref (cA K "DuplicateName")) (by rfl) T.gc_DuplicateName rfl) pa_nil))) pa_nil))) pa_nil)))))
      (xss_cut (ps_set (i := 1) sc.nd rfl (by first | exact Or.inl rfl | exact Or.inr rfl) (pe_op (ko_add (K := K) rfl) (xv 1) (pe_lst (pa_cons (pe_tup (pa_cons pe_str (pa_cons (pe_callB (call_isNm eC eT List.mem_cons_self) (by rfl) T.n_isinstance bb_isi (pa_cons (xv 0) (pa_cons (pe_glob (v := .ref (cA K "BadCount")) (u := .ref (cA K "BadCount")) (by rfl) T.gc_BadCount rfl) pa_nil))) pa_nil))) (pa_cons (pe_tup (pa_cons pe_str (pa_cons (pe_callB (call_isNm eC eT List.mem_cons_self) (by rfl) T.n_isinstance bb_isi (pa_cons (xv 0) (pa_cons (pe_glob (v := .ref (cA K "BadNumber")) (u := .ref (cA K "BadNumber")) (by rfl) T.gc_BadNumber rfl) pa_nil))) pa_nil))) pa_nil)))))
      (xss_cut (ps_set (i := 1) sc.nd rfl (by first | exact Or.inl rfl | exact Or.inr rfl) (pe_op (ko_add (K := K) rfl) (xv 1) (pe_lst (pa_cons (pe_tup (pa_cons pe_str (pa_cons (pe_callB (call_isNm eC eT List.mem_cons_self) (by rfl) T.n_isinstance bb_isi (pa_cons (xv 0) (pa_cons (pe_glob (v := .ref (cA K "BadKind")) (u := .ref (cA K "BadKind")) (by rfl) T.gc_BadKind rfl) pa_nil))) pa_nil))) (pa_cons (pe_tup (pa_cons pe_str (pa_cons (pe_callB (call_isNm eC eT List.mem_cons_self) (by rfl) T.n_isinstance bb_isi (pa_cons (xv 0) (pa_cons (pe_glob (v := .ref (cA K "BadRoom")) (u := .ref (cA K "BadRoom")) (by rfl) T.gc_BadRoom rfl) pa_nil))) pa_nil))) pa_nil)))))
      (xss_cut (ps_set (i := 1) sc.nd rfl (by first | exact Or.inl rfl | exact Or.inr rfl) (pe_op (ko_add (K := K) rfl) (xv 1) (pe_lst (pa_cons (pe_tup (pa_cons pe_str (pa_cons (pe_callB (call_isNm eC eT List.mem_cons_self) (by rfl) T.n_isinstance bb_isi (pa_cons (xv 0) (pa_cons (pe_glob (v := .ref (cA K "BadLiking")) (u := .ref (cA K "BadLiking")) (by rfl) T.gc_BadLiking rfl) pa_nil))) pa_nil))) (pa_cons (pe_tup (pa_cons pe_str (pa_cons (pe_callB (call_isNm eC eT List.mem_cons_self) (by rfl) T.n_isinstance bb_isi (pa_cons (xv 0) (pa_cons (pe_glob (v := .ref (cA K "Ring")) (u := .ref (cA K "Ring")) (by rfl) T.gc_Ring rfl) pa_nil))) pa_nil))) pa_nil)))))
      (xss_cut (ps_set (i := 1) sc.nd rfl (by first | exact Or.inl rfl | exact Or.inr rfl) (pe_op (ko_add (K := K) rfl) (xv 1) (pe_lst (pa_cons (pe_tup (pa_cons pe_str (pa_cons (pe_callB (call_isNm eC eT List.mem_cons_self) (by rfl) T.n_isinstance bb_isi (pa_cons (xv 0) (pa_cons (pe_glob (v := .ref (cA K "TownNeeded")) (u := .ref (cA K "TownNeeded")) (by rfl) T.gc_TownNeeded rfl) pa_nil))) pa_nil))) (pa_cons (pe_tup (pa_cons pe_str (pa_cons (pe_callB (call_isNm eC eT List.mem_cons_self) (by rfl) T.n_isinstance bb_isi (pa_cons (xv 0) (pa_cons (pe_glob (v := .ref (cA K "BadOutlet")) (u := .ref (cA K "BadOutlet")) (by rfl) T.gc_BadOutlet rfl) pa_nil))) pa_nil))) pa_nil)))))
      (xss_cut (ps_set (i := 1) sc.nd rfl (by first | exact Or.inl rfl | exact Or.inr rfl) (pe_op (ko_add (K := K) rfl) (xv 1) (pe_lst (pa_cons (pe_tup (pa_cons pe_str (pa_cons (pe_callB (call_isNm eC eT List.mem_cons_self) (by rfl) T.n_isinstance bb_isi (pa_cons (xv 0) (pa_cons (pe_glob (v := .ref (cA K "NotComparable")) (u := .ref (cA K "NotComparable")) (by rfl) T.gc_NotComparable rfl) pa_nil))) pa_nil))) pa_nil))))
      (xss_cut (ps_set (i := 1) sc.nd rfl (by first | exact Or.inl rfl | exact Or.inr rfl) (pe_op (ko_add (K := K) rfl) (xv 1) (pe_lst (pa_cons (pe_tup (pa_cons pe_str (pa_cons (pe_callB (call_isNm eC eT List.mem_cons_self) (by rfl) T.n_isinstance bb_isi (pa_cons (xv 0) (pa_cons (pe_glob (v := .ref (cA K "OtherRiver")) (u := .ref (cA K "OtherRiver")) (by rfl) T.gc_OtherRiver rfl) pa_nil))) pa_nil))) pa_nil))))
      (xss_cut (ps_set (i := 1) sc.nd rfl (by first | exact Or.inl rfl | exact Or.inr rfl) (pe_op (ko_add (K := K) rfl) (xv 1) (pe_lst (pa_cons (pe_tup (pa_cons pe_str (pa_cons (pe_callB (call_isNm eC eT List.mem_cons_self) (by rfl) T.n_isinstance bb_isi (pa_cons (xv 0) (pa_cons (pe_glob (v := .ref (cA K "NothingToUndo")) (u := .ref (cA K "NothingToUndo")) (by rfl) T.gc_NothingToUndo rfl) pa_nil))) pa_nil))) pa_nil))))
      (xss_cut (ps_set (i := 1) sc.nd rfl (by first | exact Or.inl rfl | exact Or.inr rfl) (pe_op (ko_add (K := K) rfl) (xv 1) (pe_lst (pa_cons (pe_tup (pa_cons pe_str (pa_cons (pe_callB (call_isNm eC eT List.mem_cons_self) (by rfl) T.n_isinstance bb_isi (pa_cons (xv 0) (pa_cons (pe_glob (v := .ref (cA K "ClaimRefused")) (u := .ref (cA K "ClaimRefused")) (by rfl) T.gc_ClaimRefused rfl) pa_nil))) pa_nil))) pa_nil))))
      (xss_cut (ps_set (i := 1) sc.nd rfl (by first | exact Or.inl rfl | exact Or.inr rfl) (pe_op (ko_add (K := K) rfl) (xv 1) (pe_lst (pa_cons (pe_tup (pa_cons pe_str (pa_cons (pe_callB (call_isNm eC eT List.mem_cons_self) (by rfl) T.n_isinstance bb_isi (pa_cons (xv 0) (pa_cons (pe_glob (v := .ref (cA K "UnknownTown")) (u := .ref (cA K "UnknownTown")) (by rfl) T.gc_UnknownTown rfl) pa_nil))) pa_nil))) pa_nil))))
      (xss_cut (ps_set (i := 1) sc.nd rfl (by first | exact Or.inl rfl | exact Or.inr rfl) (pe_op (ko_add (K := K) rfl) (xv 1) (pe_lst (pa_cons (pe_tup (pa_cons pe_str (pa_cons (pe_callB (call_isNm eC eT List.mem_cons_self) (by rfl) T.n_isinstance bb_isi (pa_cons (xv 0) (pa_cons (pe_glob (v := .ref (cA K "UnknownThing")) (u := .ref (cA K "UnknownThing")) (by rfl) T.gc_UnknownThing rfl) pa_nil))) pa_nil))) (pa_cons (pe_tup (pa_cons pe_str (pa_cons (pe_callB (call_isNm eC eT List.mem_cons_self) (by rfl) T.n_isinstance bb_isi (pa_cons (xv 0) (pa_cons (pe_glob (v := .ref (cA K "BadPlace")) (u := .ref (cA K "BadPlace")) (by rfl) T.gc_BadPlace rfl) pa_nil))) pa_nil))) pa_nil)))))
      (xss_cut (ps_set (i := 1) sc.nd rfl (by first | exact Or.inl rfl | exact Or.inr rfl) (pe_op (ko_add (K := K) rfl) (xv 1) (pe_lst (pa_cons (pe_tup (pa_cons pe_str (pa_cons (pe_callB (call_isNm eC eT List.mem_cons_self) (by rfl) T.n_isinstance bb_isi (pa_cons (xv 0) (pa_cons (pe_glob (v := .ref (cA K "BadText")) (u := .ref (cA K "BadText")) (by rfl) T.gc_BadText rfl) pa_nil))) pa_nil))) (pa_cons (pe_tup (pa_cons pe_str (pa_cons (pe_callB (call_isNm eC eT List.mem_cons_self) (by rfl) T.n_isinstance bb_isi (pa_cons (xv 0) (pa_cons (pe_glob (v := .ref (cA K "BadOrder")) (u := .ref (cA K "BadOrder")) (by rfl) T.gc_BadOrder rfl) pa_nil))) pa_nil))) pa_nil)))))
      (xss_cut (ps_set (i := 1) sc.nd rfl (by first | exact Or.inl rfl | exact Or.inr rfl) (pe_op (ko_add (K := K) rfl) (xv 1) (pe_lst (pa_cons (pe_tup (pa_cons pe_str (pa_cons (pe_callB (call_isNm eC eT List.mem_cons_self) (by rfl) T.n_isinstance bb_isi (pa_cons (xv 0) (pa_cons (pe_glob (v := .ref (cA K "TooMany")) (u := .ref (cA K "TooMany")) (by rfl) T.gc_TooMany rfl) pa_nil))) pa_nil))) (pa_cons (pe_tup (pa_cons pe_str (pa_cons (pe_callB (call_isNm eC eT List.mem_cons_self) (by rfl) T.n_isinstance bb_isi (pa_cons (xv 0) (pa_cons (pe_glob (v := .ref (cA K "DeedRefused")) (u := .ref (cA K "DeedRefused")) (by rfl) T.gc_DeedRefused rfl) pa_nil))) pa_nil))) pa_nil)))))
      (xss_cut (ps_set (i := 1) sc.nd rfl (by first | exact Or.inl rfl | exact Or.inr rfl) (pe_op (ko_add (K := K) rfl) (xv 1) (pe_lst (pa_cons (pe_tup (pa_cons pe_str (pa_cons (pe_callB (call_isNm eC eT List.mem_cons_self) (by rfl) T.n_isinstance bb_isi (pa_cons (xv 0) (pa_cons (pe_glob (v := .ref (cA K "OrderRefused")) (u := .ref (cA K "OrderRefused")) (by rfl) T.gc_OrderRefused rfl) pa_nil))) pa_nil))) (pa_cons (pe_tup (pa_cons pe_str (pa_cons (pe_callB (call_isNm eC eT List.mem_cons_self) (by rfl) T.n_isinstance bb_isi (pa_cons (xv 0) (pa_cons (pe_glob (v := .ref (cA K "LogRefused")) (u := .ref (cA K "LogRefused")) (by rfl) T.gc_LogRefused rfl) pa_nil))) pa_nil))) pa_nil)))))
      (xss_cut (ps_set (i := 1) sc.nd rfl (by first | exact Or.inl rfl | exact Or.inr rfl) (pe_op (ko_add (K := K) rfl) (xv 1) (pe_lst (pa_cons (pe_tup (pa_cons pe_str (pa_cons (pe_callB (call_isNm eC eT List.mem_cons_self) (by rfl) T.n_isinstance bb_isi (pa_cons (xv 0) (pa_cons (pe_glob (v := .ref (cA K "NoFit")) (u := .ref (cA K "NoFit")) (by rfl) T.gc_NoFit rfl) pa_nil))) pa_nil))) (pa_cons (pe_tup (pa_cons pe_str (pa_cons (pe_callB (call_isNm eC eT List.mem_cons_self) (by rfl) T.n_isinstance bb_isi (pa_cons (xv 0) (pa_cons (pe_glob (v := .ref (cA K "NotSimple")) (u := .ref (cA K "NotSimple")) (by rfl) T.gc_NotSimple rfl) pa_nil))) pa_nil))) pa_nil)))))
      (xss_cut (ps_set (i := 1) sc.nd rfl (by first | exact Or.inl rfl | exact Or.inr rfl) (pe_op (ko_add (K := K) rfl) (xv 1) (pe_lst (pa_cons (pe_tup (pa_cons pe_str (pa_cons (pe_callB (call_isNm eC eT List.mem_cons_self) (by rfl) T.n_isinstance bb_isi (pa_cons (xv 0) (pa_cons (pe_glob (v := .ref (cA K "ThingKept")) (u := .ref (cA K "ThingKept")) (by rfl) T.gc_ThingKept rfl) pa_nil))) pa_nil))) (pa_cons (pe_tup (pa_cons pe_str (pa_cons (pe_callB (call_isNm eC eT List.mem_cons_self) (by rfl) T.n_isinstance bb_isi (pa_cons (xv 0) (pa_cons (pe_glob (v := .ref (cA K "ThingAtSea")) (u := .ref (cA K "ThingAtSea")) (by rfl) T.gc_ThingAtSea rfl) pa_nil))) pa_nil))) pa_nil)))))
      (xss_cut (ps_set (i := 1) sc.nd rfl (by first | exact Or.inl rfl | exact Or.inr rfl) (pe_op (ko_add (K := K) rfl) (xv 1) (pe_lst (pa_cons (pe_tup (pa_cons pe_str (pa_cons (pe_callB (call_isNm eC eT List.mem_cons_self) (by rfl) T.n_isinstance bb_isi (pa_cons (xv 0) (pa_cons (pe_glob (v := .ref (cA K "UnknownLanding")) (u := .ref (cA K "UnknownLanding")) (by rfl) T.gc_UnknownLanding rfl) pa_nil))) pa_nil))) pa_nil))))
      (xss_cut (ps_set (i := 1) sc.nd rfl (by first | exact Or.inl rfl | exact Or.inr rfl) (pe_op (ko_add (K := K) rfl) (xv 1) (pe_lst (pa_cons (pe_tup (pa_cons pe_str (pa_cons (pe_callB (call_isNm eC eT List.mem_cons_self) (by rfl) T.n_isinstance bb_isi (pa_cons (xv 0) (pa_cons (pe_glob (v := .ref (cA K "DuplicateLanding")) (u := .ref (cA K "DuplicateLanding")) (by rfl) T.gc_DuplicateLanding rfl) pa_nil))) pa_nil))) pa_nil))))
      (xss_cut (ps_set (i := 1) sc.nd rfl (by first | exact Or.inl rfl | exact Or.inr rfl) (pe_op (ko_add (K := K) rfl) (xv 1) (pe_lst (pa_cons (pe_tup (pa_cons pe_str (pa_cons (pe_callB (call_isNm eC eT List.mem_cons_self) (by rfl) T.n_isinstance bb_isi (pa_cons (xv 0) (pa_cons (pe_glob (v := .ref (cA K "NotStage")) (u := .ref (cA K "NotStage")) (by rfl) T.gc_NotStage rfl) pa_nil))) pa_nil))) (pa_cons (pe_tup (pa_cons pe_str (pa_cons (pe_callB (call_isNm eC eT List.mem_cons_self) (by rfl) T.n_isinstance bb_isi (pa_cons (xv 0) (pa_cons (pe_glob (v := .ref (cA K "NoHistory")) (u := .ref (cA K "NoHistory")) (by rfl) T.gc_NoHistory rfl) pa_nil))) pa_nil))) pa_nil)))))
      (xss_cut (ps_set (i := 1) sc.nd rfl (by first | exact Or.inl rfl | exact Or.inr rfl) (pe_op (ko_add (K := K) rfl) (xv 1) (pe_lst (pa_cons (pe_tup (pa_cons pe_str (pa_cons (pe_callB (call_isNm eC eT List.mem_cons_self) (by rfl) T.n_isinstance bb_isi (pa_cons (xv 0) (pa_cons (pe_glob (v := .ref (cA K "NeverDone")) (u := .ref (cA K "NeverDone")) (by rfl) T.gc_NeverDone rfl) pa_nil))) pa_nil))) (pa_cons (pe_tup (pa_cons pe_str (pa_cons (pe_callB (call_isNm eC eT List.mem_cons_self) (by rfl) T.n_isinstance bb_isi (pa_cons (xv 0) (pa_cons (pe_glob (v := .ref (cA K "SameLanding")) (u := .ref (cA K "SameLanding")) (by rfl) T.gc_SameLanding rfl) pa_nil))) pa_nil))) pa_nil)))))
      (xss_cut (ps_set (i := 1) sc.nd rfl (by first | exact Or.inl rfl | exact Or.inr rfl) (pe_op (ko_add (K := K) rfl) (xv 1) (pe_lst (pa_cons (pe_tup (pa_cons pe_str (pa_cons (pe_callB (call_isNm eC eT List.mem_cons_self) (by rfl) T.n_isinstance bb_isi (pa_cons (xv 0) (pa_cons (pe_glob (v := .ref (cA K "WrongEnd")) (u := .ref (cA K "WrongEnd")) (by rfl) T.gc_WrongEnd rfl) pa_nil))) pa_nil))) pa_nil))))
      (pss_one (ps_ret (hot_lc (own := [("pair", 2)]) (g := gName 2) ⟨p, hot, List.mem_cons_self⟩ sc.nd (hot_itL (xv 1)) (blkOk_by (N := ["error", "pairs", "pair"]) (sc := defScope (topS 66)) (by decide +kernel)) (fun _ _ _ _ _ => (pg_name (i := 2) sc.nd rfl (by first | exact Or.inl rfl | exact Or.inr rfl))) (fun _ _ _ _ _ => (pts_one (xt (pe_ix (kix (K := K) rfl) (xv 2) pe_int (fun _ _ => rfl))))) (fun _ _ _ _ _ => (pe_ix (kix (K := K) rfl) (xv 2) pe_int (fun _ _ => rfl)))))))))))))))))))))))))))), ?_⟩
    refine ⟨fun σ2 H2 => ∃ r : Addr, σ2 = [some (.ref p.1), some (.ref r), none] ∧ Same H H2 ∧ Prs H2 r ([pn "NotAfloat" false, pn "LandingError" false] : List (Str × Bool)), ?_, ?_⟩
    · refine ⟨rfl, ⟨fs, hd⟩, _, T.kt_NotAfloat kd, sl_of (n := 2) rfl, fun p1 n1 => ⟨rfl, ⟨fs, same_new n1 _ _ hd⟩, _, T.kt_LandingError kd, sl_of (n := 2) rfl, fun p2 n2 => ⟨sl_of (n := 2) rfl, fun p3 n3 => ?_⟩⟩⟩
      exact ⟨p3, rfl, ((same_new n1).trans (same_new n2)).trans (same_new (o := .lst [.ref p1, .ref p2]) n3), Prs.two (((same_new n2).trans (same_new (o := .lst [.ref p1, .ref p2]) n3)) _ _ upd_same) (same_new (o := .lst [.ref p1, .ref p2]) n3 _ _ upd_same) upd_same⟩
    rintro σ2 G ⟨r, rfl, sg, pg⟩
    have hg := sg _ _ hd
    refine ⟨fun σ2 H2 => ∃ r : Addr, σ2 = [some (.ref p.1), some (.ref r), none] ∧ Same H H2 ∧ Prs H2 r ([pn "NotAfloat" false, pn "LandingError" false, pn "BadName" false, pn "DuplicateName" kd.isDup] : List (Str × Bool)), ?_, ?_⟩
    · refine ⟨rfl, ⟨fs, hg⟩, _, T.kt_BadName kd, sl_of (n := 2) rfl, fun p1 n1 => ⟨rfl, ⟨fs, same_new n1 _ _ hg⟩, _, T.kt_DuplicateName kd, sl_of (n := 2) rfl, fun p2 n2 => ⟨sl_of (n := 2) rfl, fun p3 n3 => ?_⟩⟩⟩
      have sm := ((same_new n1).trans (same_new n2)).trans (same_new (o := .lst [.ref p1, .ref p2]) n3)
      have pr := Prs.two (((same_new n2).trans (same_new (o := .lst [.ref p1, .ref p2]) n3)) _ _ upd_same) (same_new (o := .lst [.ref p1, .ref p2]) n3 _ _ upd_same) upd_same
      have pg := pg.same sm
      obtain ⟨xs, hx, lx⟩ := pg.len
      obtain ⟨zs, hz, lz⟩ := pr.len
      refine .inl ⟨xs, zs, hx, hz, by rw [lx, lz, sl_big]; exact Nat.le_of_ble_eq_true rfl, fun p4 n4 => ⟨p4, rfl, (sg.trans sm).trans (same_new (o := .lst (xs ++ zs)) n4), ?_⟩⟩
      exact (pg.same (same_new (o := .lst (xs ++ zs)) n4)).cat (pr.same (same_new n4)) fun as bs ha hb => by
        rw [same_new n4 _ _ hx] at ha; rw [same_new n4 _ _ hz] at hb; cases ha; cases hb; exact upd_same
    clear pg sg hg
    rintro σ2 G ⟨r, rfl, sg, pg⟩
    have hg := sg _ _ hd
    refine ⟨fun σ2 H2 => ∃ r : Addr, σ2 = [some (.ref p.1), some (.ref r), none] ∧ Same H H2 ∧ Prs H2 r ([pn "NotAfloat" false, pn "LandingError" false, pn "BadName" false, pn "DuplicateName" kd.isDup, pn "BadCount" false, pn "BadNumber" kd.isNum] : List (Str × Bool)), ?_, ?_⟩
    · refine ⟨rfl, ⟨fs, hg⟩, _, T.kt_BadCount kd, sl_of (n := 2) rfl, fun p1 n1 => ⟨rfl, ⟨fs, same_new n1 _ _ hg⟩, _, T.kt_BadNumber kd, sl_of (n := 2) rfl, fun p2 n2 => ⟨sl_of (n := 2) rfl, fun p3 n3 => ?_⟩⟩⟩
      have sm := ((same_new n1).trans (same_new n2)).trans (same_new (o := .lst [.ref p1, .ref p2]) n3)
      have pr := Prs.two (((same_new n2).trans (same_new (o := .lst [.ref p1, .ref p2]) n3)) _ _ upd_same) (same_new (o := .lst [.ref p1, .ref p2]) n3 _ _ upd_same) upd_same
      have pg := pg.same sm
      obtain ⟨xs, hx, lx⟩ := pg.len
      obtain ⟨zs, hz, lz⟩ := pr.len
      refine .inl ⟨xs, zs, hx, hz, by rw [lx, lz, sl_big]; exact Nat.le_of_ble_eq_true rfl, fun p4 n4 => ⟨p4, rfl, (sg.trans sm).trans (same_new (o := .lst (xs ++ zs)) n4), ?_⟩⟩
      exact (pg.same (same_new (o := .lst (xs ++ zs)) n4)).cat (pr.same (same_new n4)) fun as bs ha hb => by
        rw [same_new n4 _ _ hx] at ha; rw [same_new n4 _ _ hz] at hb; cases ha; cases hb; exact upd_same
    clear pg sg hg
    rintro σ2 G ⟨r, rfl, sg, pg⟩
    have hg := sg _ _ hd
    refine ⟨fun σ2 H2 => ∃ r : Addr, σ2 = [some (.ref p.1), some (.ref r), none] ∧ Same H H2 ∧ Prs H2 r ([pn "NotAfloat" false, pn "LandingError" false, pn "BadName" false, pn "DuplicateName" kd.isDup, pn "BadCount" false, pn "BadNumber" kd.isNum, pn "BadKind" false, pn "BadRoom" false] : List (Str × Bool)), ?_, ?_⟩
    · refine ⟨rfl, ⟨fs, hg⟩, _, T.kt_BadKind kd, sl_of (n := 2) rfl, fun p1 n1 => ⟨rfl, ⟨fs, same_new n1 _ _ hg⟩, _, T.kt_BadRoom kd, sl_of (n := 2) rfl, fun p2 n2 => ⟨sl_of (n := 2) rfl, fun p3 n3 => ?_⟩⟩⟩
      have sm := ((same_new n1).trans (same_new n2)).trans (same_new (o := .lst [.ref p1, .ref p2]) n3)
      have pr := Prs.two (((same_new n2).trans (same_new (o := .lst [.ref p1, .ref p2]) n3)) _ _ upd_same) (same_new (o := .lst [.ref p1, .ref p2]) n3 _ _ upd_same) upd_same
      have pg := pg.same sm
      obtain ⟨xs, hx, lx⟩ := pg.len
      obtain ⟨zs, hz, lz⟩ := pr.len
      refine .inl ⟨xs, zs, hx, hz, by rw [lx, lz, sl_big]; exact Nat.le_of_ble_eq_true rfl, fun p4 n4 => ⟨p4, rfl, (sg.trans sm).trans (same_new (o := .lst (xs ++ zs)) n4), ?_⟩⟩
      exact (pg.same (same_new (o := .lst (xs ++ zs)) n4)).cat (pr.same (same_new n4)) fun as bs ha hb => by
        rw [same_new n4 _ _ hx] at ha; rw [same_new n4 _ _ hz] at hb; cases ha; cases hb; exact upd_same
    clear pg sg hg
    rintro σ2 G ⟨r, rfl, sg, pg⟩
    have hg := sg _ _ hd
    refine ⟨fun σ2 H2 => ∃ r : Addr, σ2 = [some (.ref p.1), some (.ref r), none] ∧ Same H H2 ∧ Prs H2 r ([pn "NotAfloat" false, pn "LandingError" false, pn "BadName" false, pn "DuplicateName" kd.isDup, pn "BadCount" false, pn "BadNumber" kd.isNum, pn "BadKind" false, pn "BadRoom" false, pn "BadLiking" false, pn "Ring" false] : List (Str × Bool)), ?_, ?_⟩
    · refine ⟨rfl, ⟨fs, hg⟩, _, T.kt_BadLiking kd, sl_of (n := 2) rfl, fun p1 n1 => ⟨rfl, ⟨fs, same_new n1 _ _ hg⟩, _, T.kt_Ring kd, sl_of (n := 2) rfl, fun p2 n2 => ⟨sl_of (n := 2) rfl, fun p3 n3 => ?_⟩⟩⟩
      have sm := ((same_new n1).trans (same_new n2)).trans (same_new (o := .lst [.ref p1, .ref p2]) n3)
      have pr := Prs.two (((same_new n2).trans (same_new (o := .lst [.ref p1, .ref p2]) n3)) _ _ upd_same) (same_new (o := .lst [.ref p1, .ref p2]) n3 _ _ upd_same) upd_same
      have pg := pg.same sm
      obtain ⟨xs, hx, lx⟩ := pg.len
      obtain ⟨zs, hz, lz⟩ := pr.len
      refine .inl ⟨xs, zs, hx, hz, by rw [lx, lz, sl_big]; exact Nat.le_of_ble_eq_true rfl, fun p4 n4 => ⟨p4, rfl, (sg.trans sm).trans (same_new (o := .lst (xs ++ zs)) n4), ?_⟩⟩
      exact (pg.same (same_new (o := .lst (xs ++ zs)) n4)).cat (pr.same (same_new n4)) fun as bs ha hb => by
        rw [same_new n4 _ _ hx] at ha; rw [same_new n4 _ _ hz] at hb; cases ha; cases hb; exact upd_same
    clear pg sg hg
    rintro σ2 G ⟨r, rfl, sg, pg⟩
    have hg := sg _ _ hd
    refine ⟨fun σ2 H2 => ∃ r : Addr, σ2 = [some (.ref p.1), some (.ref r), none] ∧ Same H H2 ∧ Prs H2 r ([pn "NotAfloat" false, pn "LandingError" false, pn "BadName" false, pn "DuplicateName" kd.isDup, pn "BadCount" false, pn "BadNumber" kd.isNum, pn "BadKind" false, pn "BadRoom" false, pn "BadLiking" false, pn "Ring" false, pn "TownNeeded" false, pn "BadOutlet" false] : List (Str × Bool)), ?_, ?_⟩
    · refine ⟨rfl, ⟨fs, hg⟩, _, T.kt_TownNeeded kd, sl_of (n := 2) rfl, fun p1 n1 => ⟨rfl, ⟨fs, same_new n1 _ _ hg⟩, _, T.kt_BadOutlet kd, sl_of (n := 2) rfl, fun p2 n2 => ⟨sl_of (n := 2) rfl, fun p3 n3 => ?_⟩⟩⟩
      have sm := ((same_new n1).trans (same_new n2)).trans (same_new (o := .lst [.ref p1, .ref p2]) n3)
      have pr := Prs.two (((same_new n2).trans (same_new (o := .lst [.ref p1, .ref p2]) n3)) _ _ upd_same) (same_new (o := .lst [.ref p1, .ref p2]) n3 _ _ upd_same) upd_same
      have pg := pg.same sm
      obtain ⟨xs, hx, lx⟩ := pg.len
      obtain ⟨zs, hz, lz⟩ := pr.len
      refine .inl ⟨xs, zs, hx, hz, by rw [lx, lz, sl_big]; exact Nat.le_of_ble_eq_true rfl, fun p4 n4 => ⟨p4, rfl, (sg.trans sm).trans (same_new (o := .lst (xs ++ zs)) n4), ?_⟩⟩
      exact (pg.same (same_new (o := .lst (xs ++ zs)) n4)).cat (pr.same (same_new n4)) fun as bs ha hb => by
        rw [same_new n4 _ _ hx] at ha; rw [same_new n4 _ _ hz] at hb; cases ha; cases hb; exact upd_same
    clear pg sg hg
    rintro σ2 G ⟨r, rfl, sg, pg⟩
    have hg := sg _ _ hd
    refine ⟨fun σ2 H2 => ∃ r : Addr, σ2 = [some (.ref p.1), some (.ref r), none] ∧ Same H H2 ∧ Prs H2 r ([pn "NotAfloat" false, pn "LandingError" false, pn "BadName" false, pn "DuplicateName" kd.isDup, pn "BadCount" false, pn "BadNumber" kd.isNum, pn "BadKind" false, pn "BadRoom" false, pn "BadLiking" false, pn "Ring" false, pn "TownNeeded" false, pn "BadOutlet" false, pn "NotComparable" false] : List (Str × Bool)), ?_, ?_⟩
    · refine ⟨rfl, ⟨fs, hg⟩, _, T.kt_NotComparable kd, sl_of (n := 2) rfl, fun p1 n1 => ⟨sl_of (n := 1) rfl, fun p3 n3 => ?_⟩⟩
      have sm := (same_new n1).trans (same_new (o := .lst [.ref p1]) n3)
      have pr := Prs.one (same_new (o := .lst [.ref p1]) n3 _ _ upd_same) upd_same
      have pg := pg.same sm
      obtain ⟨xs, hx, lx⟩ := pg.len
      obtain ⟨zs, hz, lz⟩ := pr.len
      refine .inl ⟨xs, zs, hx, hz, by rw [lx, lz, sl_big]; exact Nat.le_of_ble_eq_true rfl, fun p4 n4 => ⟨p4, rfl, (sg.trans sm).trans (same_new (o := .lst (xs ++ zs)) n4), ?_⟩⟩
      exact (pg.same (same_new (o := .lst (xs ++ zs)) n4)).cat (pr.same (same_new n4)) fun as bs ha hb => by
        rw [same_new n4 _ _ hx] at ha; rw [same_new n4 _ _ hz] at hb; cases ha; cases hb; exact upd_same
    clear pg sg hg
    rintro σ2 G ⟨r, rfl, sg, pg⟩
    have hg := sg _ _ hd
    refine ⟨fun σ2 H2 => ∃ r : Addr, σ2 = [some (.ref p.1), some (.ref r), none] ∧ Same H H2 ∧ Prs H2 r ([pn "NotAfloat" false, pn "LandingError" false, pn "BadName" false, pn "DuplicateName" kd.isDup, pn "BadCount" false, pn "BadNumber" kd.isNum, pn "BadKind" false, pn "BadRoom" false, pn "BadLiking" false, pn "Ring" false, pn "TownNeeded" false, pn "BadOutlet" false, pn "NotComparable" false, pn "OtherRiver" false] : List (Str × Bool)), ?_, ?_⟩
    · refine ⟨rfl, ⟨fs, hg⟩, _, T.kt_OtherRiver kd, sl_of (n := 2) rfl, fun p1 n1 => ⟨sl_of (n := 1) rfl, fun p3 n3 => ?_⟩⟩
      have sm := (same_new n1).trans (same_new (o := .lst [.ref p1]) n3)
      have pr := Prs.one (same_new (o := .lst [.ref p1]) n3 _ _ upd_same) upd_same
      have pg := pg.same sm
      obtain ⟨xs, hx, lx⟩ := pg.len
      obtain ⟨zs, hz, lz⟩ := pr.len
      refine .inl ⟨xs, zs, hx, hz, by rw [lx, lz, sl_big]; exact Nat.le_of_ble_eq_true rfl, fun p4 n4 => ⟨p4, rfl, (sg.trans sm).trans (same_new (o := .lst (xs ++ zs)) n4), ?_⟩⟩
      exact (pg.same (same_new (o := .lst (xs ++ zs)) n4)).cat (pr.same (same_new n4)) fun as bs ha hb => by
        rw [same_new n4 _ _ hx] at ha; rw [same_new n4 _ _ hz] at hb; cases ha; cases hb; exact upd_same
    clear pg sg hg
    rintro σ2 G ⟨r, rfl, sg, pg⟩
    have hg := sg _ _ hd
    refine ⟨fun σ2 H2 => ∃ r : Addr, σ2 = [some (.ref p.1), some (.ref r), none] ∧ Same H H2 ∧ Prs H2 r ([pn "NotAfloat" false, pn "LandingError" false, pn "BadName" false, pn "DuplicateName" kd.isDup, pn "BadCount" false, pn "BadNumber" kd.isNum, pn "BadKind" false, pn "BadRoom" false, pn "BadLiking" false, pn "Ring" false, pn "TownNeeded" false, pn "BadOutlet" false, pn "NotComparable" false, pn "OtherRiver" false, pn "NothingToUndo" false] : List (Str × Bool)), ?_, ?_⟩
    · refine ⟨rfl, ⟨fs, hg⟩, _, T.kt_NothingToUndo kd, sl_of (n := 2) rfl, fun p1 n1 => ⟨sl_of (n := 1) rfl, fun p3 n3 => ?_⟩⟩
      have sm := (same_new n1).trans (same_new (o := .lst [.ref p1]) n3)
      have pr := Prs.one (same_new (o := .lst [.ref p1]) n3 _ _ upd_same) upd_same
      have pg := pg.same sm
      obtain ⟨xs, hx, lx⟩ := pg.len
      obtain ⟨zs, hz, lz⟩ := pr.len
      refine .inl ⟨xs, zs, hx, hz, by rw [lx, lz, sl_big]; exact Nat.le_of_ble_eq_true rfl, fun p4 n4 => ⟨p4, rfl, (sg.trans sm).trans (same_new (o := .lst (xs ++ zs)) n4), ?_⟩⟩
      exact (pg.same (same_new (o := .lst (xs ++ zs)) n4)).cat (pr.same (same_new n4)) fun as bs ha hb => by
        rw [same_new n4 _ _ hx] at ha; rw [same_new n4 _ _ hz] at hb; cases ha; cases hb; exact upd_same
    clear pg sg hg
    rintro σ2 G ⟨r, rfl, sg, pg⟩
    have hg := sg _ _ hd
    refine ⟨fun σ2 H2 => ∃ r : Addr, σ2 = [some (.ref p.1), some (.ref r), none] ∧ Same H H2 ∧ Prs H2 r ([pn "NotAfloat" false, pn "LandingError" false, pn "BadName" false, pn "DuplicateName" kd.isDup, pn "BadCount" false, pn "BadNumber" kd.isNum, pn "BadKind" false, pn "BadRoom" false, pn "BadLiking" false, pn "Ring" false, pn "TownNeeded" false, pn "BadOutlet" false, pn "NotComparable" false, pn "OtherRiver" false, pn "NothingToUndo" false, pn "ClaimRefused" false] : List (Str × Bool)), ?_, ?_⟩
    · refine ⟨rfl, ⟨fs, hg⟩, _, T.kt_ClaimRefused kd, sl_of (n := 2) rfl, fun p1 n1 => ⟨sl_of (n := 1) rfl, fun p3 n3 => ?_⟩⟩
      have sm := (same_new n1).trans (same_new (o := .lst [.ref p1]) n3)
      have pr := Prs.one (same_new (o := .lst [.ref p1]) n3 _ _ upd_same) upd_same
      have pg := pg.same sm
      obtain ⟨xs, hx, lx⟩ := pg.len
      obtain ⟨zs, hz, lz⟩ := pr.len
      refine .inl ⟨xs, zs, hx, hz, by rw [lx, lz, sl_big]; exact Nat.le_of_ble_eq_true rfl, fun p4 n4 => ⟨p4, rfl, (sg.trans sm).trans (same_new (o := .lst (xs ++ zs)) n4), ?_⟩⟩
      exact (pg.same (same_new (o := .lst (xs ++ zs)) n4)).cat (pr.same (same_new n4)) fun as bs ha hb => by
        rw [same_new n4 _ _ hx] at ha; rw [same_new n4 _ _ hz] at hb; cases ha; cases hb; exact upd_same
    clear pg sg hg
    rintro σ2 G ⟨r, rfl, sg, pg⟩
    have hg := sg _ _ hd
    refine ⟨fun σ2 H2 => ∃ r : Addr, σ2 = [some (.ref p.1), some (.ref r), none] ∧ Same H H2 ∧ Prs H2 r ([pn "NotAfloat" false, pn "LandingError" false, pn "BadName" false, pn "DuplicateName" kd.isDup, pn "BadCount" false, pn "BadNumber" kd.isNum, pn "BadKind" false, pn "BadRoom" false, pn "BadLiking" false, pn "Ring" false, pn "TownNeeded" false, pn "BadOutlet" false, pn "NotComparable" false, pn "OtherRiver" false, pn "NothingToUndo" false, pn "ClaimRefused" false, pn "UnknownTown" false] : List (Str × Bool)), ?_, ?_⟩
    · refine ⟨rfl, ⟨fs, hg⟩, _, T.kt_UnknownTown kd, sl_of (n := 2) rfl, fun p1 n1 => ⟨sl_of (n := 1) rfl, fun p3 n3 => ?_⟩⟩
      have sm := (same_new n1).trans (same_new (o := .lst [.ref p1]) n3)
      have pr := Prs.one (same_new (o := .lst [.ref p1]) n3 _ _ upd_same) upd_same
      have pg := pg.same sm
      obtain ⟨xs, hx, lx⟩ := pg.len
      obtain ⟨zs, hz, lz⟩ := pr.len
      refine .inl ⟨xs, zs, hx, hz, by rw [lx, lz, sl_big]; exact Nat.le_of_ble_eq_true rfl, fun p4 n4 => ⟨p4, rfl, (sg.trans sm).trans (same_new (o := .lst (xs ++ zs)) n4), ?_⟩⟩
      exact (pg.same (same_new (o := .lst (xs ++ zs)) n4)).cat (pr.same (same_new n4)) fun as bs ha hb => by
        rw [same_new n4 _ _ hx] at ha; rw [same_new n4 _ _ hz] at hb; cases ha; cases hb; exact upd_same
    clear pg sg hg
    rintro σ2 G ⟨r, rfl, sg, pg⟩
    have hg := sg _ _ hd
    refine ⟨fun σ2 H2 => ∃ r : Addr, σ2 = [some (.ref p.1), some (.ref r), none] ∧ Same H H2 ∧ Prs H2 r ([pn "NotAfloat" false, pn "LandingError" false, pn "BadName" false, pn "DuplicateName" kd.isDup, pn "BadCount" false, pn "BadNumber" kd.isNum, pn "BadKind" false, pn "BadRoom" false, pn "BadLiking" false, pn "Ring" false, pn "TownNeeded" false, pn "BadOutlet" false, pn "NotComparable" false, pn "OtherRiver" false, pn "NothingToUndo" false, pn "ClaimRefused" false, pn "UnknownTown" false, pn "UnknownThing" kd.isThing, pn "BadPlace" false] : List (Str × Bool)), ?_, ?_⟩
    · refine ⟨rfl, ⟨fs, hg⟩, _, T.kt_UnknownThing kd, sl_of (n := 2) rfl, fun p1 n1 => ⟨rfl, ⟨fs, same_new n1 _ _ hg⟩, _, T.kt_BadPlace kd, sl_of (n := 2) rfl, fun p2 n2 => ⟨sl_of (n := 2) rfl, fun p3 n3 => ?_⟩⟩⟩
      have sm := ((same_new n1).trans (same_new n2)).trans (same_new (o := .lst [.ref p1, .ref p2]) n3)
      have pr := Prs.two (((same_new n2).trans (same_new (o := .lst [.ref p1, .ref p2]) n3)) _ _ upd_same) (same_new (o := .lst [.ref p1, .ref p2]) n3 _ _ upd_same) upd_same
      have pg := pg.same sm
      obtain ⟨xs, hx, lx⟩ := pg.len
      obtain ⟨zs, hz, lz⟩ := pr.len
      refine .inl ⟨xs, zs, hx, hz, by rw [lx, lz, sl_big]; exact Nat.le_of_ble_eq_true rfl, fun p4 n4 => ⟨p4, rfl, (sg.trans sm).trans (same_new (o := .lst (xs ++ zs)) n4), ?_⟩⟩
      exact (pg.same (same_new (o := .lst (xs ++ zs)) n4)).cat (pr.same (same_new n4)) fun as bs ha hb => by
        rw [same_new n4 _ _ hx] at ha; rw [same_new n4 _ _ hz] at hb; cases ha; cases hb; exact upd_same
    clear pg sg hg
    rintro σ2 G ⟨r, rfl, sg, pg⟩
    have hg := sg _ _ hd
    refine ⟨fun σ2 H2 => ∃ r : Addr, σ2 = [some (.ref p.1), some (.ref r), none] ∧ Same H H2 ∧ Prs H2 r ([pn "NotAfloat" false, pn "LandingError" false, pn "BadName" false, pn "DuplicateName" kd.isDup, pn "BadCount" false, pn "BadNumber" kd.isNum, pn "BadKind" false, pn "BadRoom" false, pn "BadLiking" false, pn "Ring" false, pn "TownNeeded" false, pn "BadOutlet" false, pn "NotComparable" false, pn "OtherRiver" false, pn "NothingToUndo" false, pn "ClaimRefused" false, pn "UnknownTown" false, pn "UnknownThing" kd.isThing, pn "BadPlace" false, pn "BadText" false, pn "BadOrder" false] : List (Str × Bool)), ?_, ?_⟩
    · refine ⟨rfl, ⟨fs, hg⟩, _, T.kt_BadText kd, sl_of (n := 2) rfl, fun p1 n1 => ⟨rfl, ⟨fs, same_new n1 _ _ hg⟩, _, T.kt_BadOrder kd, sl_of (n := 2) rfl, fun p2 n2 => ⟨sl_of (n := 2) rfl, fun p3 n3 => ?_⟩⟩⟩
      have sm := ((same_new n1).trans (same_new n2)).trans (same_new (o := .lst [.ref p1, .ref p2]) n3)
      have pr := Prs.two (((same_new n2).trans (same_new (o := .lst [.ref p1, .ref p2]) n3)) _ _ upd_same) (same_new (o := .lst [.ref p1, .ref p2]) n3 _ _ upd_same) upd_same
      have pg := pg.same sm
      obtain ⟨xs, hx, lx⟩ := pg.len
      obtain ⟨zs, hz, lz⟩ := pr.len
      refine .inl ⟨xs, zs, hx, hz, by rw [lx, lz, sl_big]; exact Nat.le_of_ble_eq_true rfl, fun p4 n4 => ⟨p4, rfl, (sg.trans sm).trans (same_new (o := .lst (xs ++ zs)) n4), ?_⟩⟩
      exact (pg.same (same_new (o := .lst (xs ++ zs)) n4)).cat (pr.same (same_new n4)) fun as bs ha hb => by
        rw [same_new n4 _ _ hx] at ha; rw [same_new n4 _ _ hz] at hb; cases ha; cases hb; exact upd_same
    clear pg sg hg
    rintro σ2 G ⟨r, rfl, sg, pg⟩
    have hg := sg _ _ hd
    refine ⟨fun σ2 H2 => ∃ r : Addr, σ2 = [some (.ref p.1), some (.ref r), none] ∧ Same H H2 ∧ Prs H2 r ([pn "NotAfloat" false, pn "LandingError" false, pn "BadName" false, pn "DuplicateName" kd.isDup, pn "BadCount" false, pn "BadNumber" kd.isNum, pn "BadKind" false, pn "BadRoom" false, pn "BadLiking" false, pn "Ring" false, pn "TownNeeded" false, pn "BadOutlet" false, pn "NotComparable" false, pn "OtherRiver" false, pn "NothingToUndo" false, pn "ClaimRefused" false, pn "UnknownTown" false, pn "UnknownThing" kd.isThing, pn "BadPlace" false, pn "BadText" false, pn "BadOrder" false, pn "TooMany" false, pn "DeedRefused" false] : List (Str × Bool)), ?_, ?_⟩
    · refine ⟨rfl, ⟨fs, hg⟩, _, T.kt_TooMany kd, sl_of (n := 2) rfl, fun p1 n1 => ⟨rfl, ⟨fs, same_new n1 _ _ hg⟩, _, T.kt_DeedRefused kd, sl_of (n := 2) rfl, fun p2 n2 => ⟨sl_of (n := 2) rfl, fun p3 n3 => ?_⟩⟩⟩
      have sm := ((same_new n1).trans (same_new n2)).trans (same_new (o := .lst [.ref p1, .ref p2]) n3)
      have pr := Prs.two (((same_new n2).trans (same_new (o := .lst [.ref p1, .ref p2]) n3)) _ _ upd_same) (same_new (o := .lst [.ref p1, .ref p2]) n3 _ _ upd_same) upd_same
      have pg := pg.same sm
      obtain ⟨xs, hx, lx⟩ := pg.len
      obtain ⟨zs, hz, lz⟩ := pr.len
      refine .inl ⟨xs, zs, hx, hz, by rw [lx, lz, sl_big]; exact Nat.le_of_ble_eq_true rfl, fun p4 n4 => ⟨p4, rfl, (sg.trans sm).trans (same_new (o := .lst (xs ++ zs)) n4), ?_⟩⟩
      exact (pg.same (same_new (o := .lst (xs ++ zs)) n4)).cat (pr.same (same_new n4)) fun as bs ha hb => by
        rw [same_new n4 _ _ hx] at ha; rw [same_new n4 _ _ hz] at hb; cases ha; cases hb; exact upd_same
    clear pg sg hg
    rintro σ2 G ⟨r, rfl, sg, pg⟩
    have hg := sg _ _ hd
    refine ⟨fun σ2 H2 => ∃ r : Addr, σ2 = [some (.ref p.1), some (.ref r), none] ∧ Same H H2 ∧ Prs H2 r ([pn "NotAfloat" false, pn "LandingError" false, pn "BadName" false, pn "DuplicateName" kd.isDup, pn "BadCount" false, pn "BadNumber" kd.isNum, pn "BadKind" false, pn "BadRoom" false, pn "BadLiking" false, pn "Ring" false, pn "TownNeeded" false, pn "BadOutlet" false, pn "NotComparable" false, pn "OtherRiver" false, pn "NothingToUndo" false, pn "ClaimRefused" false, pn "UnknownTown" false, pn "UnknownThing" kd.isThing, pn "BadPlace" false, pn "BadText" false, pn "BadOrder" false, pn "TooMany" false, pn "DeedRefused" false, pn "OrderRefused" false, pn "LogRefused" false] : List (Str × Bool)), ?_, ?_⟩
    · refine ⟨rfl, ⟨fs, hg⟩, _, T.kt_OrderRefused kd, sl_of (n := 2) rfl, fun p1 n1 => ⟨rfl, ⟨fs, same_new n1 _ _ hg⟩, _, T.kt_LogRefused kd, sl_of (n := 2) rfl, fun p2 n2 => ⟨sl_of (n := 2) rfl, fun p3 n3 => ?_⟩⟩⟩
      have sm := ((same_new n1).trans (same_new n2)).trans (same_new (o := .lst [.ref p1, .ref p2]) n3)
      have pr := Prs.two (((same_new n2).trans (same_new (o := .lst [.ref p1, .ref p2]) n3)) _ _ upd_same) (same_new (o := .lst [.ref p1, .ref p2]) n3 _ _ upd_same) upd_same
      have pg := pg.same sm
      obtain ⟨xs, hx, lx⟩ := pg.len
      obtain ⟨zs, hz, lz⟩ := pr.len
      refine .inl ⟨xs, zs, hx, hz, by rw [lx, lz, sl_big]; exact Nat.le_of_ble_eq_true rfl, fun p4 n4 => ⟨p4, rfl, (sg.trans sm).trans (same_new (o := .lst (xs ++ zs)) n4), ?_⟩⟩
      exact (pg.same (same_new (o := .lst (xs ++ zs)) n4)).cat (pr.same (same_new n4)) fun as bs ha hb => by
        rw [same_new n4 _ _ hx] at ha; rw [same_new n4 _ _ hz] at hb; cases ha; cases hb; exact upd_same
    clear pg sg hg
    rintro σ2 G ⟨r, rfl, sg, pg⟩
    have hg := sg _ _ hd
    refine ⟨fun σ2 H2 => ∃ r : Addr, σ2 = [some (.ref p.1), some (.ref r), none] ∧ Same H H2 ∧ Prs H2 r ([pn "NotAfloat" false, pn "LandingError" false, pn "BadName" false, pn "DuplicateName" kd.isDup, pn "BadCount" false, pn "BadNumber" kd.isNum, pn "BadKind" false, pn "BadRoom" false, pn "BadLiking" false, pn "Ring" false, pn "TownNeeded" false, pn "BadOutlet" false, pn "NotComparable" false, pn "OtherRiver" false, pn "NothingToUndo" false, pn "ClaimRefused" false, pn "UnknownTown" false, pn "UnknownThing" kd.isThing, pn "BadPlace" false, pn "BadText" false, pn "BadOrder" false, pn "TooMany" false, pn "DeedRefused" false, pn "OrderRefused" false, pn "LogRefused" false, pn "NoFit" false, pn "NotSimple" false] : List (Str × Bool)), ?_, ?_⟩
    · refine ⟨rfl, ⟨fs, hg⟩, _, T.kt_NoFit kd, sl_of (n := 2) rfl, fun p1 n1 => ⟨rfl, ⟨fs, same_new n1 _ _ hg⟩, _, T.kt_NotSimple kd, sl_of (n := 2) rfl, fun p2 n2 => ⟨sl_of (n := 2) rfl, fun p3 n3 => ?_⟩⟩⟩
      have sm := ((same_new n1).trans (same_new n2)).trans (same_new (o := .lst [.ref p1, .ref p2]) n3)
      have pr := Prs.two (((same_new n2).trans (same_new (o := .lst [.ref p1, .ref p2]) n3)) _ _ upd_same) (same_new (o := .lst [.ref p1, .ref p2]) n3 _ _ upd_same) upd_same
      have pg := pg.same sm
      obtain ⟨xs, hx, lx⟩ := pg.len
      obtain ⟨zs, hz, lz⟩ := pr.len
      refine .inl ⟨xs, zs, hx, hz, by rw [lx, lz, sl_big]; exact Nat.le_of_ble_eq_true rfl, fun p4 n4 => ⟨p4, rfl, (sg.trans sm).trans (same_new (o := .lst (xs ++ zs)) n4), ?_⟩⟩
      exact (pg.same (same_new (o := .lst (xs ++ zs)) n4)).cat (pr.same (same_new n4)) fun as bs ha hb => by
        rw [same_new n4 _ _ hx] at ha; rw [same_new n4 _ _ hz] at hb; cases ha; cases hb; exact upd_same
    clear pg sg hg
    rintro σ2 G ⟨r, rfl, sg, pg⟩
    have hg := sg _ _ hd
    refine ⟨fun σ2 H2 => ∃ r : Addr, σ2 = [some (.ref p.1), some (.ref r), none] ∧ Same H H2 ∧ Prs H2 r ([pn "NotAfloat" false, pn "LandingError" false, pn "BadName" false, pn "DuplicateName" kd.isDup, pn "BadCount" false, pn "BadNumber" kd.isNum, pn "BadKind" false, pn "BadRoom" false, pn "BadLiking" false, pn "Ring" false, pn "TownNeeded" false, pn "BadOutlet" false, pn "NotComparable" false, pn "OtherRiver" false, pn "NothingToUndo" false, pn "ClaimRefused" false, pn "UnknownTown" false, pn "UnknownThing" kd.isThing, pn "BadPlace" false, pn "BadText" false, pn "BadOrder" false, pn "TooMany" false, pn "DeedRefused" false, pn "OrderRefused" false, pn "LogRefused" false, pn "NoFit" false, pn "NotSimple" false, pn "ThingKept" false, pn "ThingAtSea" false] : List (Str × Bool)), ?_, ?_⟩
    · refine ⟨rfl, ⟨fs, hg⟩, _, T.kt_ThingKept kd, sl_of (n := 2) rfl, fun p1 n1 => ⟨rfl, ⟨fs, same_new n1 _ _ hg⟩, _, T.kt_ThingAtSea kd, sl_of (n := 2) rfl, fun p2 n2 => ⟨sl_of (n := 2) rfl, fun p3 n3 => ?_⟩⟩⟩
      have sm := ((same_new n1).trans (same_new n2)).trans (same_new (o := .lst [.ref p1, .ref p2]) n3)
      have pr := Prs.two (((same_new n2).trans (same_new (o := .lst [.ref p1, .ref p2]) n3)) _ _ upd_same) (same_new (o := .lst [.ref p1, .ref p2]) n3 _ _ upd_same) upd_same
      have pg := pg.same sm
      obtain ⟨xs, hx, lx⟩ := pg.len
      obtain ⟨zs, hz, lz⟩ := pr.len
      refine .inl ⟨xs, zs, hx, hz, by rw [lx, lz, sl_big]; exact Nat.le_of_ble_eq_true rfl, fun p4 n4 => ⟨p4, rfl, (sg.trans sm).trans (same_new (o := .lst (xs ++ zs)) n4), ?_⟩⟩
      exact (pg.same (same_new (o := .lst (xs ++ zs)) n4)).cat (pr.same (same_new n4)) fun as bs ha hb => by
        rw [same_new n4 _ _ hx] at ha; rw [same_new n4 _ _ hz] at hb; cases ha; cases hb; exact upd_same
    clear pg sg hg
    rintro σ2 G ⟨r, rfl, sg, pg⟩
    have hg := sg _ _ hd
    refine ⟨fun σ2 H2 => ∃ r : Addr, σ2 = [some (.ref p.1), some (.ref r), none] ∧ Same H H2 ∧ Prs H2 r ([pn "NotAfloat" false, pn "LandingError" false, pn "BadName" false, pn "DuplicateName" kd.isDup, pn "BadCount" false, pn "BadNumber" kd.isNum, pn "BadKind" false, pn "BadRoom" false, pn "BadLiking" false, pn "Ring" false, pn "TownNeeded" false, pn "BadOutlet" false, pn "NotComparable" false, pn "OtherRiver" false, pn "NothingToUndo" false, pn "ClaimRefused" false, pn "UnknownTown" false, pn "UnknownThing" kd.isThing, pn "BadPlace" false, pn "BadText" false, pn "BadOrder" false, pn "TooMany" false, pn "DeedRefused" false, pn "OrderRefused" false, pn "LogRefused" false, pn "NoFit" false, pn "NotSimple" false, pn "ThingKept" false, pn "ThingAtSea" false, pn "UnknownLanding" false] : List (Str × Bool)), ?_, ?_⟩
    · refine ⟨rfl, ⟨fs, hg⟩, _, T.kt_UnknownLanding kd, sl_of (n := 2) rfl, fun p1 n1 => ⟨sl_of (n := 1) rfl, fun p3 n3 => ?_⟩⟩
      have sm := (same_new n1).trans (same_new (o := .lst [.ref p1]) n3)
      have pr := Prs.one (same_new (o := .lst [.ref p1]) n3 _ _ upd_same) upd_same
      have pg := pg.same sm
      obtain ⟨xs, hx, lx⟩ := pg.len
      obtain ⟨zs, hz, lz⟩ := pr.len
      refine .inl ⟨xs, zs, hx, hz, by rw [lx, lz, sl_big]; exact Nat.le_of_ble_eq_true rfl, fun p4 n4 => ⟨p4, rfl, (sg.trans sm).trans (same_new (o := .lst (xs ++ zs)) n4), ?_⟩⟩
      exact (pg.same (same_new (o := .lst (xs ++ zs)) n4)).cat (pr.same (same_new n4)) fun as bs ha hb => by
        rw [same_new n4 _ _ hx] at ha; rw [same_new n4 _ _ hz] at hb; cases ha; cases hb; exact upd_same
    clear pg sg hg
    rintro σ2 G ⟨r, rfl, sg, pg⟩
    have hg := sg _ _ hd
    refine ⟨fun σ2 H2 => ∃ r : Addr, σ2 = [some (.ref p.1), some (.ref r), none] ∧ Same H H2 ∧ Prs H2 r ([pn "NotAfloat" false, pn "LandingError" false, pn "BadName" false, pn "DuplicateName" kd.isDup, pn "BadCount" false, pn "BadNumber" kd.isNum, pn "BadKind" false, pn "BadRoom" false, pn "BadLiking" false, pn "Ring" false, pn "TownNeeded" false, pn "BadOutlet" false, pn "NotComparable" false, pn "OtherRiver" false, pn "NothingToUndo" false, pn "ClaimRefused" false, pn "UnknownTown" false, pn "UnknownThing" kd.isThing, pn "BadPlace" false, pn "BadText" false, pn "BadOrder" false, pn "TooMany" false, pn "DeedRefused" false, pn "OrderRefused" false, pn "LogRefused" false, pn "NoFit" false, pn "NotSimple" false, pn "ThingKept" false, pn "ThingAtSea" false, pn "UnknownLanding" false, pn "DuplicateLanding" false] : List (Str × Bool)), ?_, ?_⟩
    · refine ⟨rfl, ⟨fs, hg⟩, _, T.kt_DuplicateLanding kd, sl_of (n := 2) rfl, fun p1 n1 => ⟨sl_of (n := 1) rfl, fun p3 n3 => ?_⟩⟩
      have sm := (same_new n1).trans (same_new (o := .lst [.ref p1]) n3)
      have pr := Prs.one (same_new (o := .lst [.ref p1]) n3 _ _ upd_same) upd_same
      have pg := pg.same sm
      obtain ⟨xs, hx, lx⟩ := pg.len
      obtain ⟨zs, hz, lz⟩ := pr.len
      refine .inl ⟨xs, zs, hx, hz, by rw [lx, lz, sl_big]; exact Nat.le_of_ble_eq_true rfl, fun p4 n4 => ⟨p4, rfl, (sg.trans sm).trans (same_new (o := .lst (xs ++ zs)) n4), ?_⟩⟩
      exact (pg.same (same_new (o := .lst (xs ++ zs)) n4)).cat (pr.same (same_new n4)) fun as bs ha hb => by
        rw [same_new n4 _ _ hx] at ha; rw [same_new n4 _ _ hz] at hb; cases ha; cases hb; exact upd_same
    clear pg sg hg
    rintro σ2 G ⟨r, rfl, sg, pg⟩
    have hg := sg _ _ hd
    refine ⟨fun σ2 H2 => ∃ r : Addr, σ2 = [some (.ref p.1), some (.ref r), none] ∧ Same H H2 ∧ Prs H2 r ([pn "NotAfloat" false, pn "LandingError" false, pn "BadName" false, pn "DuplicateName" kd.isDup, pn "BadCount" false, pn "BadNumber" kd.isNum, pn "BadKind" false, pn "BadRoom" false, pn "BadLiking" false, pn "Ring" false, pn "TownNeeded" false, pn "BadOutlet" false, pn "NotComparable" false, pn "OtherRiver" false, pn "NothingToUndo" false, pn "ClaimRefused" false, pn "UnknownTown" false, pn "UnknownThing" kd.isThing, pn "BadPlace" false, pn "BadText" false, pn "BadOrder" false, pn "TooMany" false, pn "DeedRefused" false, pn "OrderRefused" false, pn "LogRefused" false, pn "NoFit" false, pn "NotSimple" false, pn "ThingKept" false, pn "ThingAtSea" false, pn "UnknownLanding" false, pn "DuplicateLanding" false, pn "NotStage" false, pn "NoHistory" false] : List (Str × Bool)), ?_, ?_⟩
    · refine ⟨rfl, ⟨fs, hg⟩, _, T.kt_NotStage kd, sl_of (n := 2) rfl, fun p1 n1 => ⟨rfl, ⟨fs, same_new n1 _ _ hg⟩, _, T.kt_NoHistory kd, sl_of (n := 2) rfl, fun p2 n2 => ⟨sl_of (n := 2) rfl, fun p3 n3 => ?_⟩⟩⟩
      have sm := ((same_new n1).trans (same_new n2)).trans (same_new (o := .lst [.ref p1, .ref p2]) n3)
      have pr := Prs.two (((same_new n2).trans (same_new (o := .lst [.ref p1, .ref p2]) n3)) _ _ upd_same) (same_new (o := .lst [.ref p1, .ref p2]) n3 _ _ upd_same) upd_same
      have pg := pg.same sm
      obtain ⟨xs, hx, lx⟩ := pg.len
      obtain ⟨zs, hz, lz⟩ := pr.len
      refine .inl ⟨xs, zs, hx, hz, by rw [lx, lz, sl_big]; exact Nat.le_of_ble_eq_true rfl, fun p4 n4 => ⟨p4, rfl, (sg.trans sm).trans (same_new (o := .lst (xs ++ zs)) n4), ?_⟩⟩
      exact (pg.same (same_new (o := .lst (xs ++ zs)) n4)).cat (pr.same (same_new n4)) fun as bs ha hb => by
        rw [same_new n4 _ _ hx] at ha; rw [same_new n4 _ _ hz] at hb; cases ha; cases hb; exact upd_same
    clear pg sg hg
    rintro σ2 G ⟨r, rfl, sg, pg⟩
    have hg := sg _ _ hd
    refine ⟨fun σ2 H2 => ∃ r : Addr, σ2 = [some (.ref p.1), some (.ref r), none] ∧ Same H H2 ∧ Prs H2 r ([pn "NotAfloat" false, pn "LandingError" false, pn "BadName" false, pn "DuplicateName" kd.isDup, pn "BadCount" false, pn "BadNumber" kd.isNum, pn "BadKind" false, pn "BadRoom" false, pn "BadLiking" false, pn "Ring" false, pn "TownNeeded" false, pn "BadOutlet" false, pn "NotComparable" false, pn "OtherRiver" false, pn "NothingToUndo" false, pn "ClaimRefused" false, pn "UnknownTown" false, pn "UnknownThing" kd.isThing, pn "BadPlace" false, pn "BadText" false, pn "BadOrder" false, pn "TooMany" false, pn "DeedRefused" false, pn "OrderRefused" false, pn "LogRefused" false, pn "NoFit" false, pn "NotSimple" false, pn "ThingKept" false, pn "ThingAtSea" false, pn "UnknownLanding" false, pn "DuplicateLanding" false, pn "NotStage" false, pn "NoHistory" false, pn "NeverDone" false, pn "SameLanding" false] : List (Str × Bool)), ?_, ?_⟩
    · refine ⟨rfl, ⟨fs, hg⟩, _, T.kt_NeverDone kd, sl_of (n := 2) rfl, fun p1 n1 => ⟨rfl, ⟨fs, same_new n1 _ _ hg⟩, _, T.kt_SameLanding kd, sl_of (n := 2) rfl, fun p2 n2 => ⟨sl_of (n := 2) rfl, fun p3 n3 => ?_⟩⟩⟩
      have sm := ((same_new n1).trans (same_new n2)).trans (same_new (o := .lst [.ref p1, .ref p2]) n3)
      have pr := Prs.two (((same_new n2).trans (same_new (o := .lst [.ref p1, .ref p2]) n3)) _ _ upd_same) (same_new (o := .lst [.ref p1, .ref p2]) n3 _ _ upd_same) upd_same
      have pg := pg.same sm
      obtain ⟨xs, hx, lx⟩ := pg.len
      obtain ⟨zs, hz, lz⟩ := pr.len
      refine .inl ⟨xs, zs, hx, hz, by rw [lx, lz, sl_big]; exact Nat.le_of_ble_eq_true rfl, fun p4 n4 => ⟨p4, rfl, (sg.trans sm).trans (same_new (o := .lst (xs ++ zs)) n4), ?_⟩⟩
      exact (pg.same (same_new (o := .lst (xs ++ zs)) n4)).cat (pr.same (same_new n4)) fun as bs ha hb => by
        rw [same_new n4 _ _ hx] at ha; rw [same_new n4 _ _ hz] at hb; cases ha; cases hb; exact upd_same
    clear pg sg hg
    rintro σ2 G ⟨r, rfl, sg, pg⟩
    have hg := sg _ _ hd
    refine ⟨fun σ2 H2 => ∃ r : Addr, σ2 = [some (.ref p.1), some (.ref r), none] ∧ Same H H2 ∧ Prs H2 r ([pn "NotAfloat" false, pn "LandingError" false, pn "BadName" false, pn "DuplicateName" kd.isDup, pn "BadCount" false, pn "BadNumber" kd.isNum, pn "BadKind" false, pn "BadRoom" false, pn "BadLiking" false, pn "Ring" false, pn "TownNeeded" false, pn "BadOutlet" false, pn "NotComparable" false, pn "OtherRiver" false, pn "NothingToUndo" false, pn "ClaimRefused" false, pn "UnknownTown" false, pn "UnknownThing" kd.isThing, pn "BadPlace" false, pn "BadText" false, pn "BadOrder" false, pn "TooMany" false, pn "DeedRefused" false, pn "OrderRefused" false, pn "LogRefused" false, pn "NoFit" false, pn "NotSimple" false, pn "ThingKept" false, pn "ThingAtSea" false, pn "UnknownLanding" false, pn "DuplicateLanding" false, pn "NotStage" false, pn "NoHistory" false, pn "NeverDone" false, pn "SameLanding" false, pn "WrongEnd" false] : List (Str × Bool)), ?_, ?_⟩
    · refine ⟨rfl, ⟨fs, hg⟩, _, T.kt_WrongEnd kd, sl_of (n := 2) rfl, fun p1 n1 => ⟨sl_of (n := 1) rfl, fun p3 n3 => ?_⟩⟩
      have sm := (same_new n1).trans (same_new (o := .lst [.ref p1]) n3)
      have pr := Prs.one (same_new (o := .lst [.ref p1]) n3 _ _ upd_same) upd_same
      have pg := pg.same sm
      obtain ⟨xs, hx, lx⟩ := pg.len
      obtain ⟨zs, hz, lz⟩ := pr.len
      refine .inl ⟨xs, zs, hx, hz, by rw [lx, lz, sl_big]; exact Nat.le_of_ble_eq_true rfl, fun p4 n4 => ⟨p4, rfl, (sg.trans sm).trans (same_new (o := .lst (xs ++ zs)) n4), ?_⟩⟩
      exact (pg.same (same_new (o := .lst (xs ++ zs)) n4)).cat (pr.same (same_new n4)) fun as bs ha hb => by
        rw [same_new n4 _ _ hx] at ha; rw [same_new n4 _ _ hz] at hb; cases ha; cases hb; exact upd_same
    clear pg sg hg
    rintro σ2 G ⟨r, rfl, sg, pg⟩
    have hg := sg _ _ hd
    obtain ⟨rs, hp, hl, hr⟩ := pg
    refine ⟨_, rfl, ⟨_, SqL.of hp⟩, fun D hD => ?_⟩
    have len : rs.length = 36 := by rw [← List.length_map (f := (·.2)), hl]; rfl
    refine lc_fm (xs := rs.map fun x => V.ref x.1) (pkN G) (pkB G) (SqL.of hp) hD (by rw [List.length_map, len, sl_big]; decide) (fun _ => rfl) (fun x ac Q hx q => ?_) (fun x ac Q hx q => ?_) ?_
    · obtain ⟨y, hy, rfl⟩ := List.mem_map.mp hx
      have e := hr y hy
      have b : pkB G (.ref y.1) = y.2.2 := by unfold pkB; dsimp only; rw [e]
      rw [b] at q
      exact ⟨_, _, Sq.t (same_new hD _ _ e), rfl, q⟩
    · obtain ⟨y, hy, rfl⟩ := List.mem_map.mp hx
      have e := hr y hy
      have n : pkN G (.ref y.1) = .str y.2.1 := by unfold pkN; dsimp only; rw [e]
      rw [n] at q
      exact ⟨_, _, Sq.t (same_new hD _ _ e), rfl, q⟩
    refine q D _ (sg.trans (same_new hD)) (sg.free hD) ?_
    rw [upd_same, pick_eq hr, hl]
    cases kd <;> rfl
def sp__law_take (K : PySem.W.Frag) : Sp := fun vs H Q _ => ∃ (s cl : Addr) (n : Nat) (m : Int), vs = [.ref s, .int m] ∧ Sto s cl n H ∧ n < 1000000000000 ∧ m < 536870912 ∧
  ∀ (r : Nat) H', ((r : Int) < m ∨ r = 0) → Keep s H H' → Sto s cl (n + 1) H' → Q (.int (r : Nat)) H'
theorem sc__law_take : FnScope ["store", "many", "rest", "cell"] ["store", "many"] (defScope (topS 49)) := ⟨rfl, rfl, rfl, by decide +kernel, rfl, by decide +kernel, by decide +kernel⟩
theorem ok__law_take {P : Program} {w : World} {K : PySem.W.Frag} {mg : Str → Option Value} {base : Heap} (T : Top K mg) : FnOk P w K mg base CX0 2 T.a__law_take T.fd__law_take ["store", "many"] (sp__law_take K) := by
  refine T.F__law_take.ok (k := 1) sc__law_take (fun vs H Q E h => ?_) (fun cdv A outer s0 H vs Q E hr h => ?_)
  · obtain ⟨s, cl, n, m, rfl, _⟩ := h; rfl
  · have sc := sc__law_take
    refine ⟨_, (pss_cons (xs_if (xtc xo_lt (xv 1) pe_int (nomark _)) (pss_one (ps_ret pe_int)) pss_nil)
      (pss_cons (ps_asg (pe_op (ko_add (K := K) rfl) (pe_ix (kix (K := K) rfl) (xv 0) pe_int (fun _ _ => rfl)) pe_int) (pg_sub (xv 0) pe_int xset))
      (xss_cut (xs_if (PW.pt (xw_and (xtc (ko_eq (K := K) rfl hr.units) (pe_ix (kix (K := K) rfl) (xv 0) pe_int (fun _ _ => rfl)) pe_int (nomark _)) (xw_and (xtc xo_lt (pe_ix (kix (K := K) rfl) (xv 0) pe_int (fun _ _ => rfl)) (pe_callB (kc_len (K := K) rfl) (by rfl) T.n_len (by decide +kernel) (pa_cons (pe_ix (kix (K := K) rfl) (xv 0) pe_int (fun _ _ => rfl)) pa_nil)) (nomark _)) (pw_and1 (xtc xo_ge (pe_ix (kix (K := K) rfl) (pe_ix (kix (K := K) rfl) (xv 0) pe_int (fun _ _ => rfl)) (pe_ix (kix (K := K) rfl) (xv 0) pe_int (fun _ _ => rfl)) (fun _ _ => rfl)) (pe_op xo_pow pe_int pe_int) (nomark _)))))) (pss_cons (ps_asg (pe_ix (kix (K := K) rfl) (pe_ix (kix (K := K) rfl) (xv 0) pe_int (fun _ _ => rfl)) (pe_ix (kix (K := K) rfl) (xv 0) pe_int (fun _ _ => rfl)) (fun _ _ => rfl)) (pg_sub (xv 0) pe_int xset))
      (pss_one (ps_asg (pe_op (ko_add (K := K) rfl) (pe_ix (kix (K := K) rfl) (xv 0) pe_int (fun _ _ => rfl)) pe_int) (pg_sub (xv 0) pe_int xset)))) pss_nil)
      (pss_cons (xs_if (xtc xo_gt (pe_ix (kix (K := K) rfl) (xv 0) pe_int (fun _ _ => rfl)) pe_int (nomark _)) (pss_cons (ps_set (i := 2) sc.nd rfl (by first | exact Or.inl rfl | exact Or.inr rfl) (pe_ix (kix (K := K) rfl) (xv 0) pe_int (fun _ _ => rfl)))
      (pss_cons (ps_asg (pe_op xo_div (xv 2) (xv 1)) (pg_sub (xv 0) pe_int xset))
      (pss_one (ps_ret (pe_op xo_mod (pe_callTy xc_int (by rfl) T.n_int (by decide +kernel) (pa_cons (xv 2) pa_nil)) (xv 1)))))) pss_nil)
      (pss_cons (ps_set (i := 3) sc.nd rfl (by first | exact Or.inl rfl | exact Or.inr rfl) (pe_ix (kix (K := K) rfl) (xv 0) pe_int (fun _ _ => rfl)))
      (xss_cut (xs_if (xtc xo_lt (pe_ix (kix (K := K) rfl) (xv 0) pe_int (fun _ _ => rfl)) (pe_callB (kc_len (K := K) rfl) (by rfl) T.n_len (by decide +kernel) (pa_cons (pe_ix (kix (K := K) rfl) (xv 0) pe_int (fun _ _ => rfl)) pa_nil)) (nomark _)) (pss_cons (ps_set (i := 3) sc.nd rfl (by first | exact Or.inl rfl | exact Or.inr rfl) (pe_ix (kix (K := K) rfl) (pe_ix (kix (K := K) rfl) (xv 0) pe_int (fun _ _ => rfl)) (pe_ix (kix (K := K) rfl) (xv 0) pe_int (fun _ _ => rfl)) (fun _ _ => rfl)))
      (pss_one (ps_asg (pe_op (ko_add (K := K) rfl) (pe_ix (kix (K := K) rfl) (xv 0) pe_int (fun _ _ => rfl)) pe_int) (pg_sub (xv 0) pe_int xset)))) pss_nil)
      (pss_one (ps_ret (pe_op xo_mod (pe_callTy xc_int (by rfl) T.n_int (by decide +kernel) (pa_cons (pe_call (ok__law_mix T) (hr.mono (by decide)) (by rfl) T.g__law_mix T.F__law_mix.kp T.b__law_mix .nil pass0 (pa_cons (xv 3) (pa_cons (pe_ix (kix (K := K) rfl) (xv 0) pe_int (fun _ _ => rfl)) pa_nil))) pa_nil)) (xv 1)))))))))), ?_⟩
    obtain ⟨s, cl, n, m, rfl, S, hn, hm, q⟩ := h
    refine ⟨fun c => ?_, fun c => ?_⟩
    · exact q 0 H (.inr rfl) Keep.refl (S.mono (by omega))
    have c2 : ¬ m < 2 := of_decide_eq_false c
    obtain ⟨ns, i, d, b, e, h1, h2, h3, h4, h5, h6, h7⟩ := S.ex
    have hc : (ns.map V.int).length ≤ sizeLine := by rw [List.length_map, sl_big]; omega
    -- store[3] = store[3] + 1
    refine ⟨_, _, Sq.l h1, rfl, _, 3, h1, rfl, ?_⟩
    have k2 : ∀ H', Keep s (upd H s (sRow cl i (d + 1) b e)) H' → Keep s H H' := fun H' k => Keep.put.trans k
    -- the state of the row
    have row : ∀ {H' : Hp} {i' : Nat} {b' : Int}, Keep s H H' → H' s = some (sRow cl i' (d + 1) b' e) → i' ≤ ns.length → 0 ≤ b' → Sto s cl (n + 1) H' := fun {H' i' b'} k e1 e2 e3 => ⟨ns, i', d + 1, b', e, e1, k _ _ h3 h2, h3, e2, h5, e3, by omega⟩
    refine ⟨fun σ' H' => σ' = [some (.ref s), some (.int m), none, none] ∧ Keep s H H' ∧ ∃ (i' : Nat) (b' : Int), H' s = some (sRow cl i' (d + 1) b' e) ∧ i' ≤ ns.length ∧ 0 ≤ b', ?_, ?_⟩
    · have H1s : (upd H s (.lst [.ref cl, .int i, .int b, .int (d + 1), .int e])) s = some (.lst [.ref cl, .int i, .int b, .int (d + 1), .int e]) := upd_same
      have H1a : (upd H s (.lst [.ref cl, .int i, .int b, .int (d + 1), .int e])  ) cl = some (.lst (ns.map V.int)) := by rw [upd_ne h3]; exact h2
      have stay : (fun σ' H' => σ' = [some (V.ref s), some (V.int m), none, none] ∧ Keep s H H' ∧ ∃ (i' : Nat) (b' : Int), H' s = some (sRow cl i' (d + 1) b' e) ∧ i' ≤ ns.length ∧ 0 ≤ b') [some (V.ref s), some (V.int m), none, none] (upd H s (.lst [.ref cl, .int i, .int b, .int (d + 1), .int e])) :=
        ⟨rfl, Keep.put, i, b, upd_same, h4, h6⟩
      refine ⟨_, _, Sq.l H1s, rfl, fun c => ?_, fun c => ⟨no_ft, fun _ => stay⟩⟩
      refine ⟨_, _, Sq.l H1s, rfl, ?_⟩
      refine ⟨_, _, Sq.l H1s, rfl, _, Sq.l H1a, fun c => ?_, fun c => ⟨no_ft, fun _ => stay⟩⟩
      have ci : (i : Int) < ((ns.map V.int).length : Nat) := of_decide_eq_true c
      rw [List.length_map] at ci
      have hi : i < ns.length := by omega
      have g : (ns.map V.int)[i]? = some (.int ns[i]) := by rw [List.getElem?_map, List.getElem?_eq_getElem hi]; rfl
      refine ⟨_, _, Sq.l H1s, rfl, _, _, Sq.l H1s, rfl, _, _, Sq.l H1a, atI_nat g, ⟨by decide, by decide, by decide⟩, fun c => ?_, fun _ => stay⟩
      have cb := of_decide_eq_true c
      have cb0 : 0 ≤ ns[i] := Int.le_trans (by decide) cb
      refine ⟨_, _, Sq.l H1s, rfl, _, _, Sq.l H1s, rfl, _, _, Sq.l H1a, atI_nat g, _, 2, H1s, rfl, ?_⟩
      have H2s : ∀ o, (upd (upd H s (.lst [.ref cl, .int i, .int b, .int (d + 1), .int e])) s o) s = some o := fun o => upd_same
      refine ⟨_, _, Sq.l upd_same, rfl, _, 1, upd_same, rfl, ?_⟩
      exact ⟨rfl, Keep.put.trans (Keep.put.trans Keep.put), i + 1, ns[i], upd_same, hi, cb0⟩
    rintro σ' H1 ⟨rfl, kp, i', b', r1, r2, r3⟩
    have H1a : H1 cl = some (.lst (ns.map V.int)) := kp _ _ h3 h2
    refine ⟨_, _, Sq.l r1, rfl, fun c => ?_, fun c => ?_⟩
    · -- store[2] > 0
      have cb := of_decide_eq_true c
      refine ⟨_, _, Sq.l r1, rfl, ⟨by omega, by omega⟩, _, 2, r1, rfl, by omega, ?_⟩
      have z0 : 0 ≤ b'.fmod m := Int.fmod_nonneg_of_pos _ (by omega)
      have z1 : b'.fmod m < m := Int.fmod_lt_of_pos _ (by omega)
      have z2 : 0 ≤ b'.fdiv m := Int.fdiv_nonneg r3 (by omega)
      have z3 := q (b'.fmod m).toNat (upd H1 s (sRow cl i' (d + 1) (b'.fdiv m) e)) (.inl (by omega)) (kp.trans Keep.put) (row (kp.trans Keep.put) upd_same r2 z2)
      rw [Int.toNat_of_nonneg z0] at z3
      exact z3
    · have fin : ∀ (H2 : Hp) (x : Int) (i2 : Nat), Keep s H H2 → H2 s = some (sRow cl i2 (d + 1) b' e) → i2 ≤ ns.length → ∀ (g : ∀ r : Int, 0 ≤ r → Q (.int (r.fmod m)) H2), True := fun _ _ _ _ _ _ _ => trivial
      refine ⟨_, _, Sq.l r1, rfl, ?_⟩
      have out : ∀ (H2 : Hp) (i2 : Nat) (r : Int), Keep s H H2 → H2 s = some (sRow cl i2 (d + 1) b' e) → i2 ≤ ns.length → 0 ≤ r → Q (.int (r.fmod m)) H2 := fun H2 i2 r k1 k3 k4 hr => by
        have z0 : 0 ≤ r.fmod m := Int.fmod_nonneg_of_pos _ (by omega)
        have z1 : r.fmod m < m := Int.fmod_lt_of_pos _ (by omega)
        have z3 := q (r.fmod m).toNat H2 (.inl (by omega)) k1 (row k1 k3 k4 r3)
        rw [Int.toNat_of_nonneg z0] at z3
        exact z3
      refine ⟨fun σ' H' => (∃ x : Int, σ' = [some (.ref s), some (.int m), none, some (.int x)]) ∧ Keep s H H' ∧ ∃ (i' : Nat), H' s = some (sRow cl i' (d + 1) b' e) ∧ i' ≤ ns.length, ?_, ?_⟩
      · refine ⟨_, _, Sq.l r1, rfl, _, _, Sq.l r1, rfl, _, Sq.l H1a, fun c => ?_, fun c => ⟨⟨_, rfl⟩, kp, i', r1, r2⟩⟩
        have ci : (i' : Int) < ((ns.map V.int).length : Nat) := of_decide_eq_true c
        rw [List.length_map] at ci
        have hi : i' < ns.length := by omega
        have g : (ns.map V.int)[i']? = some (.int ns[i']) := by rw [List.getElem?_map, List.getElem?_eq_getElem hi]; rfl
        refine ⟨_, _, Sq.l r1, rfl, _, _, Sq.l r1, rfl, _, _, Sq.l H1a, atI_nat g, _, _, Sq.l r1, rfl, _, 1, r1, rfl, ?_⟩
        exact ⟨⟨_, rfl⟩, kp.trans Keep.put, i' + 1, upd_same, hi⟩
      rintro σ' H2 ⟨⟨x, rfl⟩, k1, i2, k3, k4⟩
      refine ⟨_, _, Sq.l k3, rfl, x, ((d + 1 : Nat) : Int), rfl, by omega, by omega, fun r hr => ⟨by omega, ?_⟩⟩
      exact out H2 i2 r k1 k3 k4 hr
def sp__law_refused (K : PySem.W.Frag) : SpE := fun a cls d vs H Q _ => vs = [.ref a] ∧ ∃ (kd : Kd) (dd : Addr) (v : V), cls = .ref (cA K kd.nm) ∧ d = some dd ∧ H dd = some (.xd [(kd.fl, v)]) ∧
  ∀ r H', Same H H' → H r = none → H' r = some (.tup [.str "refused", .str kd.nm, v]) → Q (.ref r) H'
theorem sc__law_refused : FnScope ["error", "names"] ["error"] (defScope (topS 67)) := ⟨rfl, rfl, rfl, by decide +kernel, rfl, by decide +kernel, by decide +kernel⟩
theorem ok__law_refused {P : Program} {w : World} {K : PySem.W.Frag} {mg : Str → Option Value} {base : Heap} (T : Top K mg) : FnE P w K mg base CX0 2 T.a__law_refused T.fd__law_refused ["error"] (atE (sp__law_refused K)) := by
  refine okE T.F__law_refused (k := 1) sc__law_refused (fun a cls d vs H Q E h => ?_) (fun cdv p A outer s0 H vs Q E hot hr h => ?_)
  · obtain ⟨rfl, _⟩ := h; rfl
  · have sc := sc__law_refused
    obtain ⟨rfl, kd, dd, v, ec, ed, hd, q⟩ := h
    have eC := T.er kd
    have eT : IsErr p (cA K kd.nm) dd := ⟨ec, ed, hot.2.imp fun _ z => z.1⟩
    have eF := T.nf kd
    refine ⟨_, (pss_cons (ps_set (i := 1) sc.nd rfl (by first | exact Or.inl rfl | exact Or.inr rfl) (pe_callE (p := p) (E := fun _ _ _ _ => False) (ok__law_classes T) (hr.mono (by decide)) hot List.mem_cons_self (by rfl) T.g__law_classes T.F__law_classes.kp T.b__law_classes (fun _ _ _ _ _ _ _ z => z.elim) (pa_cons (xv 0) pa_nil)))
      (pss_cons (xs_if (PW.pt (xw_or (xtc (ko_ne (K := K) rfl hr.units) (pe_callB (kc_len (K := K) rfl) (by rfl) T.n_len (by decide +kernel) (pa_cons (xv 1) pa_nil)) pe_int (nomark _)) (xw_or (pt_not (xt (pe_callB (call_isNm eC eT List.mem_cons_self) (by rfl) T.n_isinstance bb_isi (pa_cons (xv 0) (pa_cons (pe_glob (v := .ref (cA K "RiverError")) (u := .ref (cA K "RiverError")) (by rfl) T.gc_RiverError rfl) pa_nil))))) (pw_or1 (pt_not (xt (pe_callB (call_isNm eC eT List.mem_cons_self) (by rfl) T.n_isinstance bb_isi (pa_cons (xv 0) (pa_cons (pe_bltn (v := .ty "ValueError") (by rfl) T.n_ValueError (by decide +kernel) rfl) pa_nil))))))))) (pss_one (ps_ret (pe_tup (pa_cons pe_str pa_nil)))) pss_nil)
      (pss_cons (xs_if (xtc (ko_eq (K := K) rfl hr.units) (xv 1) (pe_lst (pa_cons pe_str pa_nil)) (nomark _)) (pss_one (ps_ret (pe_tup (pa_cons pe_str (pa_cons pe_str (pa_cons (pe_errF eC eT List.mem_cons_self (eF .thing) (xv 0)) pa_nil)))))) pss_nil)
      (pss_cons (xs_if (xtc (ko_eq (K := K) rfl hr.units) (xv 1) (pe_lst (pa_cons pe_str pa_nil)) (nomark _)) (pss_one (ps_ret (pe_tup (pa_cons pe_str (pa_cons pe_str (pa_cons (pe_errF eC eT List.mem_cons_self (eF .dup) (xv 0)) pa_nil)))))) pss_nil)
      (pss_cons (xs_if (xtc (ko_eq (K := K) rfl hr.units) (xv 1) (pe_lst (pa_cons pe_str pa_nil)) (nomark _)) (pss_one (ps_ret (pe_tup (pa_cons pe_str (pa_cons pe_str (pa_cons (pe_errF eC eT List.mem_cons_self (eF .num) (xv 0)) pa_nil)))))) pss_nil)
      (pss_one (ps_ret (pe_tup (pa_cons pe_str pa_nil))))))))), ?_⟩
    refine ⟨rfl, kd, dd, _, ec, ed, hd, fun r1 H1 s1 f1 h1 => ?_⟩
    have hd1 := s1 _ _ hd
    refine ⟨_, Sq.l h1, fun c => no_ft c, fun _ => ⟨rfl, ⟨_, hd1⟩, _, T.kt_RiverError kd, no_ft, fun _ => ⟨rfl, ⟨_, hd1⟩, _, T.kv kd, no_ft, fun _ => ?_⟩⟩⟩
    have fin : ∀ {Hn : Hp}, Same H1 Hn → ∀ w, Hn w = none → Q (.ref w) (upd Hn w (.tup [.str "refused", .str kd.nm, v])) := fun {Hn} sn w nw => q w _ ((s1.trans sn).trans (same_new nw)) ((s1.trans sn).free nw) upd_same
    refine ⟨sl_of (n := 1) rfl, fun x1 n1 => ?_⟩
    refine eq_nm (b := .thing) h1 n1 ?_
    refine ⟨fun c => ?_, fun c => ?_⟩
    · cases kd with
      | thing => exact ⟨rfl, _, _, same_new n1 _ _ hd1, rfl, sl_of (n := 3) rfl, fun w nw => fin (same_new n1) w nw⟩
      | dup => exact no_ft c
      | num => exact no_ft c
    have h2 := same_new (o := .lst [.str Kd.thing.nm]) n1 _ _ h1
    have hd2 := same_new (o := .lst [.str Kd.thing.nm]) n1 _ _ hd1
    refine ⟨sl_of (n := 1) rfl, fun x2 n2 => ?_⟩
    refine eq_nm (b := .dup) h2 n2 ?_
    refine ⟨fun c2 => ?_, fun c2 => ?_⟩
    · cases kd with
      | thing => exact no_tf c
      | dup => exact ⟨rfl, _, _, same_new n2 _ _ hd2, rfl, sl_of (n := 3) rfl, fun w nw => fin ((same_new n1).trans (same_new n2)) w nw⟩
      | num => exact no_ft c2
    have h3 := same_new (o := .lst [.str Kd.dup.nm]) n2 _ _ h2
    have hd3 := same_new (o := .lst [.str Kd.dup.nm]) n2 _ _ hd2
    refine ⟨sl_of (n := 1) rfl, fun x3 n3 => ?_⟩
    refine eq_nm (b := .num) h3 n3 ?_
    refine ⟨fun c3 => ?_, fun c3 => ?_⟩
    · cases kd with
      | thing => exact no_tf c
      | dup => exact no_tf c2
      | num => exact ⟨rfl, _, _, same_new n3 _ _ hd3, rfl, sl_of (n := 3) rfl, fun w nw => fin (((same_new n1).trans (same_new n2)).trans (same_new n3)) w nw⟩
    · cases kd with
      | thing => exact no_tf c
      | dup => exact no_tf c2
      | num => exact no_tf c3
def sp__law_due (K : PySem.W.Frag) : Sp := fun vs H Q E => ∃ (w : W4) (p : Addr) (ts : List (List Nat)) (t : List Nat) (n : V), vs = [.str (S w.cs), .ref p, .str (S t), n] ∧ H p = some (.lst (sv ts)) ∧ ts.length ≤ 1000 ∧ ts.Nodup ∧ NumV n ∧
  ∀ o r H', due ts t n w o → Shown H' r o → Same H H' → H r = none → Q (.ref r) H'
theorem sc__law_due : FnScope ["word", "liking", "thing", "at", "spots", "k"] ["word", "liking", "thing", "at"] (defScope (topS 69)) := ⟨rfl, rfl, rfl, by decide +kernel, rfl, by decide +kernel, by decide +kernel⟩
theorem ok__law_due {P : Program} {w : World} {K : PySem.W.Frag} {mg : Str → Option Value} {base : Heap} (T : Top K mg) : FnOk P w K mg base CX0 2 T.a__law_due T.fd__law_due ["word", "liking", "thing", "at"] (sp__law_due K) := by
  refine T.F__law_due.ok (k := 1) sc__law_due (fun vs H Q E h => ?_) (fun cdv A outer s0 H vs Q E hr h => ?_)
  · obtain ⟨w, p, ts, t, n, rfl, _⟩ := h; rfl
  · have sc := sc__law_due
    refine ⟨_, (pss_cons (ps_setLc (i := 4) (own := [("k", 5)]) (g := gName 5) rfl sc.nd rfl rfl (sw_true rfl rfl rfl (by decide +kernel)) (pi_range1 (by rfl) T.n_range (pa_cons (pe_callB (kc_len (K := K) rfl) (by rfl) T.n_len (by decide +kernel) (pa_cons (xv 1) pa_nil)) pa_nil)) (blkOk_by (N := ["word", "liking", "thing", "at", "spots", "k"]) (sc := defScope (topS 69)) (by decide +kernel)) (fun _ _ _ _ _ => (pg_name (i := 5) sc.nd rfl (by first | exact Or.inl rfl | exact Or.inr rfl))) (fun _ _ _ _ _ => (pts_one (xtc (ko_eq (K := K) rfl hr.units) (pe_ix (kix (K := K) rfl) (xv 1) (xv 5) (fun _ _ => rfl)) (xv 2) (nomark _)))) (fun _ _ _ _ _ => (xv 5)))
      (pss_cons (xs_if (PW.pt (xw_or (xtc (ko_eq (K := K) rfl hr.units) (xv 0) pe_str (nomark _)) (pw_or1 (xtc (ko_eq (K := K) rfl hr.units) (xv 0) pe_str (nomark _))))) (pss_cons (xs_if (xtc (ko_eq (K := K) rfl hr.units) (pe_callB (kc_len (K := K) rfl) (by rfl) T.n_len (by decide +kernel) (pa_cons (xv 4) pa_nil)) pe_int (nomark _)) (pss_one (ps_ret (pe_tup (pa_cons pe_str (pa_cons pe_str (pa_cons (xv 2) pa_nil)))))) pss_nil)
      (pss_cons (xs_if (xtc (ko_eq (K := K) rfl hr.units) (xv 0) pe_str (nomark _)) (pss_one (ps_ret (pe_tup (pa_cons pe_str (pa_cons (pe_ix (kix (K := K) rfl) (xv 4) pe_int (fun _ _ => rfl)) pa_nil))))) pss_nil)
      (pss_one (ps_ret (pe_tup (pa_cons pe_str (pa_cons (pe_op (ko_add (K := K) rfl) (pe_slice (ksl (K := K) rfl) (xv 1) po_none (po_some (pe_ix (kix (K := K) rfl) (xv 4) pe_int (fun _ _ => rfl)))) (pe_slice (ksl (K := K) rfl) (xv 1) (po_some (pe_op (ko_add (K := K) rfl) (pe_ix (kix (K := K) rfl) (xv 4) pe_int (fun _ _ => rfl)) pe_int)) po_none)) pa_nil))))))) pss_nil)
      (xss_cut (xs_if (PW.pt (xw_and (xtc (ko_eq (K := K) rfl hr.units) (xv 0) pe_str (nomark _)) (pw_and1 (xtc xo_gt (pe_callB (kc_len (K := K) rfl) (by rfl) T.n_len (by decide +kernel) (pa_cons (xv 4) pa_nil)) pe_int (nomark _))))) (pss_one (ps_ret (pe_tup (pa_cons pe_str (pa_cons pe_str (pa_cons (xv 2) pa_nil)))))) pss_nil)
      (pss_cons (xs_if (xt (pe_call (ok__law_is_out T) (hr.mono (by decide)) (by rfl) T.g__law_is_out T.F__law_is_out.kp T.b__law_is_out .nil pass0 (pa_cons (xv 3) (pa_cons pe_int (pa_cons (xe_if (xtc (ko_eq (K := K) rfl hr.units) (xv 0) pe_str (nomark _)) (pe_callB (kc_len (K := K) rfl) (by rfl) T.n_len (by decide +kernel) (pa_cons (xv 1) pa_nil)) (pe_op xo_sub (pe_callB (kc_len (K := K) rfl) (by rfl) T.n_len (by decide +kernel) (pa_cons (xv 1) pa_nil)) pe_int)) pa_nil))))) (pss_one (ps_ret (pe_tup (pa_cons pe_str (pa_cons pe_str (pa_cons (xv 3) pa_nil)))))) pss_nil)
      (pss_cons (xs_if (xtc (ko_eq (K := K) rfl hr.units) (xv 0) pe_str (nomark _)) (pss_one (ps_ret (pe_tup (pa_cons pe_str (pa_cons (pe_op (ko_add (K := K) rfl) (pe_op (ko_add (K := K) rfl) (pe_slice (ksl (K := K) rfl) (xv 1) po_none (po_some (xv 3))) (pe_lst (pa_cons (xv 2) pa_nil))) (pe_slice (ksl (K := K) rfl) (xv 1) (po_some (xv 3)) po_none)) pa_nil))))) pss_nil)
      (pss_one (ps_ret (pe_tup (pa_cons pe_str (pa_cons (pe_op (ko_add (K := K) rfl) (pe_op (ko_add (K := K) rfl) (pe_slice (ksl (K := K) rfl) (xv 1) po_none (po_some (xv 3))) (pe_lst (pa_cons (pe_ix (kix (K := K) rfl) (xv 1) (pe_op (ko_add (K := K) rfl) (xv 3) pe_int) (fun _ _ => rfl)) (pa_cons (pe_ix (kix (K := K) rfl) (xv 1) (xv 3) (fun _ _ => rfl)) pa_nil)))) (pe_slice (ksl (K := K) rfl) (xv 1) (po_some (pe_op (ko_add (K := K) rfl) (xv 3) pe_int)) po_none)) pa_nil)))))))))), ?_⟩
    obtain ⟨w, p, ts, t, n, rfl, hp, hl, nd, nv, q⟩ := h
    rw [lit_rank, lit_dropped, lit_inserted]
    refine ⟨_, Sq.l hp, _, rfl, by rw [sv_len]; omega, by rw [sv_len]; omega, fun D hD => ?_⟩
    rw [Int.toNat_natCast, sv_len]
    refine lc_range (lo := 0) (n := ts.length) (fun i H' => ∃ sp : List Nat, H' = upd H D (.lst (sp.map fun k => V.int (k : Nat))) ∧ sp.length ≤ i ∧ ((sp = [] ∧ ∀ j < i, ts[j]? ≠ some t) ∨ ∃ k rest, sp = k :: rest ∧ k < i ∧ ts[k]? = some t ∧ ∀ j < k, ts[j]? ≠ some t)) ⟨[], rfl, Nat.le_refl _, .inl ⟨rfl, fun j hj => by omega⟩⟩ (fun i H' hi hW => ?_) (fun H' hW => ?_)
    · obtain ⟨sp, rfl, l, alt⟩ := hW
      have gi : ts[i]? = some ts[i] := List.getElem?_eq_getElem hi
      have hp' := same_new (o := .lst (sp.map fun k => V.int (k : Nat))) hD _ _ hp
      refine ⟨rfl, _, _, Sq.l hp', at_int (by omega) (sv_get gi), ?_⟩
      show ite (decide (S ts[i] = S t) = true) _ _
      by_cases e : ts[i] = t
      · rw [if_pos (decide_eq_true (by rw [e]))]
        refine ⟨_, upd_same, by rw [List.length_map, sl_big]; omega, sp ++ [i], ?_, by rw [List.length_append]; show _ + 1 ≤ _; omega, .inr ?_⟩
        · rw [upd_upd, List.map_append]; simp
        · rcases alt with ⟨rfl, no⟩ | ⟨k, rest, rfl, k1, k2, k3⟩
          · exact ⟨i, [], rfl, by omega, by rw [gi, e], no⟩
          · exact ⟨k, rest ++ [i], rfl, by omega, k2, k3⟩
      · rw [if_neg (by rw [decide_eq_false fun z => e (S_inj z)]; decide)]
        refine ⟨sp, rfl, by omega, ?_⟩
        rcases alt with ⟨rfl, no⟩ | ⟨k, rest, rfl, k1, k2, k3⟩
        · refine .inl ⟨rfl, fun j hj z => ?_⟩
          by_cases ej : j = i
          · subst ej; rw [gi] at z; exact e (Option.some.inj z)
          · exact no j (by omega) z
        · exact .inr ⟨k, rest, rfl, by omega, k2, k3⟩
    obtain ⟨sp, rfl, l, alt⟩ := hW
    have sD := same_new (o := .lst (sp.map fun k => V.int (k : Nat))) hD
    have hp' := sD _ _ hp
    have hs : (upd H D (.lst (sp.map fun k => V.int (k : Nat)))) D = some (.lst (sp.map fun k => V.int (k : Nat))) := upd_same
    have nin : sp = [] → t ∉ ts := fun z ht => by
      obtain ⟨k, gk⟩ := List.getElem?_of_mem ht
      rcases alt with ⟨_, no⟩ | ⟨k, rest, e, _⟩
      · exact no k (List.getElem?_eq_some_iff.mp gk).1 gk
      · rw [e] at z; cases z
    have bad : ∀ (kd : Kd) (v : V), due ts t n w (.err kd v) → ∀ r, (upd H D (.lst (sp.map fun k => V.int (k : Nat)))) r = none → Q (.ref r) (upd (upd H D (.lst (sp.map fun k => V.int (k : Nat)))) r (.tup [.str "refused", .str kd.nm, v])) := fun kd v d r hr =>
      q (.err kd v) r _ d upd_same (sD.trans (same_new hr)) (sD.free hr)
    have told : ∀ {ls u H1}, due ts t n w (.lst ls) → Same H H1 → H1 u = some (.lst (sv ls)) → ∀ r, H1 r = none → Q (.ref r) (upd H1 r (.tup [.str "told", .ref u])) := fun {ls u H1} d s hu r hr =>
      q (.lst ls) r _ d ⟨u, upd_same, same_new hr _ _ hu⟩ (s.trans (same_new hr)) (s.free hr)
    cases w with
    | rank =>
      refine ⟨fun c => ⟨fun _ => ⟨_, Sq.l hs, fun c => ?_, fun c => ?_⟩, no_tf⟩, fun c => absurd c (by decide)⟩
      · have e : sp = [] := by
          have z : (((sp.map fun k => V.int (k : Nat)).length : Nat) : Int) = 0 := of_decide_eq_true c
          rw [List.length_map] at z
          exact List.length_eq_zero_iff.mp (by omega)
        exact ⟨sl_of (n := 3) rfl, fun r hr => bad .thing _ (.inl ⟨nin e, rfl⟩) r hr⟩
      · have z : ¬ (((sp.map fun k => V.int (k : Nat)).length : Nat) : Int) = 0 := of_decide_eq_false c
        rcases alt with ⟨rfl, _⟩ | ⟨k, rest, rfl, k1, k2, k3⟩
        · exact absurd rfl z
        refine ⟨fun _ => ⟨_, _, Sq.l hs, at_hd, sl_of (n := 2) rfl, fun r hr => ?_⟩, fun c => absurd c (by decide)⟩
        exact q (.int k) r _ (.inr ⟨k, k2, k3, rfl⟩) upd_same (sD.trans (same_new hr)) (sD.free hr)
    | dropped =>
      refine ⟨fun c => absurd c (by decide), fun c => ⟨fun _ => ⟨_, Sq.l hs, fun c => ?_, fun c => ?_⟩, fun c => absurd c (by decide)⟩⟩
      · have e : sp = [] := by
          have z : (((sp.map fun k => V.int (k : Nat)).length : Nat) : Int) = 0 := of_decide_eq_true c
          rw [List.length_map] at z
          exact List.length_eq_zero_iff.mp (by omega)
        exact ⟨sl_of (n := 3) rfl, fun r hr => bad .thing _ (.inl ⟨nin e, rfl⟩) r hr⟩
      · have z : ¬ (((sp.map fun k => V.int (k : Nat)).length : Nat) : Int) = 0 := of_decide_eq_false c
        rcases alt with ⟨rfl, _⟩ | ⟨k, rest, rfl, k1, k2, k3⟩
        · exact absurd rfl z
        refine ⟨fun c => absurd c (by decide), fun _ => ⟨_, _, Sq.l hs, at_hd, _, rfl, sv ts, SqL.of hp', fun l1 n1 => ?_⟩⟩
        rw [cutV_to, sv_take]
        refine ⟨_, _, Sq.l (same_new n1 _ _ hs), at_hd, _, rfl, sv ts, SqL.of (same_new n1 _ _ hp'), fun l2 n2 => ?_⟩
        rw [show ((k : Nat) : Int) + 1 = ((k + 1 : Nat) : Int) by omega, cutV_from, sv_drop]
        refine .inl ⟨_, _, same_new n2 _ _ upd_same, upd_same, by rw [sv_len, sv_len, List.length_take, List.length_drop, sl_big]; omega, fun l3 n3 => ⟨sl_of (n := 2) rfl, fun r hr => ?_⟩⟩
        refine told (.inr ⟨List.mem_of_getElem? k2, rfl⟩) (((sD.trans (same_new n1)).trans (same_new n2)).trans (same_new n3)) ?_ r hr
        rw [upd_same, ← sv_app, nodup_cut nd k2]
    | inserted =>
      refine ⟨fun c => absurd c (by decide), fun c => ⟨fun c => absurd c (by decide), fun _ => ?_⟩⟩
      refine ⟨fun σ' H' => σ' = [some (.str (S W4.inserted.cs)), some (.ref p), some (.str (S t)), some n, some (.ref D), none] ∧ H' = upd H D (.lst (sp.map fun k => V.int (k : Nat))) ∧ sp = [], ⟨fun _ => ⟨_, Sq.l hs, fun c => ?_, fun c => ?_⟩, fun c => absurd c (by decide)⟩, ?_⟩
      · have z : (((sp.map fun k => V.int (k : Nat)).length : Nat) : Int) > 0 := of_decide_eq_true c
        rcases alt with ⟨rfl, _⟩ | ⟨k, rest, rfl, k1, k2, k3⟩
        · exact absurd z (by decide)
        exact ⟨sl_of (n := 3) rfl, fun r hr => bad .dup _ (.inl ⟨List.mem_of_getElem? k2, rfl⟩) r hr⟩
      · have z : ¬ (((sp.map fun k => V.int (k : Nat)).length : Nat) : Int) > 0 := of_decide_eq_false c
        rw [List.length_map] at z
        exact ⟨rfl, rfl, List.length_eq_zero_iff.mp (by omega)⟩
      rintro σ' H' ⟨rfl, rfl, e⟩
      have nt := nin e
      refine ⟨fun _ => ⟨_, Sq.l hp', n, 0, _, rfl, nv, fun b hb => ⟨fun c => ?_, fun c => ?_⟩⟩, fun c => absurd c (by decide)⟩
      · subst c
        rw [sv_len] at hb
        exact ⟨sl_of (n := 3) rfl, fun r hr => bad .num _ (.inr (.inl ⟨nt, fun z => Bool.noConfusion (hb.mpr z), rfl⟩)) r hr⟩
      · subst c
        rw [sv_len] at hb
        obtain ⟨i, rfl, i0, i1⟩ := hb.mp rfl
        obtain ⟨m, rfl⟩ : ∃ m : Nat, i = m := ⟨i.toNat, by omega⟩
        refine ⟨fun _ => ⟨_, rfl, sv ts, SqL.of hp', fun l1 n1 => ?_⟩, fun c => absurd c (by decide)⟩
        rw [cutV_to, sv_take]
        refine ⟨sl_of (n := 1) rfl, fun l2 n2 => .inl ⟨_, _, same_new n2 _ _ upd_same, upd_same, by rw [sv_len, List.length_take, sl_big]; show _ + 1 ≤ _; omega, fun l3 n3 => ?_⟩⟩
        have s3 := ((sD.trans (same_new (o := .lst (sv (ts.take m))) n1)).trans (same_new (o := .lst [.str (S t)]) n2)).trans (same_new (o := .lst (sv (ts.take m) ++ [.str (S t)])) n3)
        refine ⟨_, rfl, sv ts, SqL.of (s3 _ _ hp), fun l4 n4 => ?_⟩
        rw [cutV_from, sv_drop]
        refine .inl ⟨_, _, same_new n4 _ _ upd_same, upd_same, by rw [List.length_append, sv_len, sv_len, List.length_take, List.length_drop, sl_big]; show _ + 1 + _ ≤ _; omega, fun l5 n5 => ⟨sl_of (n := 2) rfl, fun r hr => ?_⟩⟩
        refine told (.inr (.inr ⟨m, nt, rfl, by omega, rfl⟩)) ((s3.trans (same_new n4)).trans (same_new n5)) ?_ r hr
        rw [upd_same, sv_one, ← sv_app, ← sv_app]
    | exchanged =>
      refine ⟨fun c => absurd c (by decide), fun c => ⟨fun c => absurd c (by decide), fun _ => ?_⟩⟩
      refine ⟨fun σ' H' => σ' = [some (.str (S W4.exchanged.cs)), some (.ref p), some (.str (S t)), some n, some (.ref D), none] ∧ H' = upd H D (.lst (sp.map fun k => V.int (k : Nat))), ⟨fun c => absurd c (by decide), fun _ => ⟨no_ft, fun _ => ⟨rfl, rfl⟩⟩⟩, ?_⟩
      rintro σ' H' ⟨rfl, rfl⟩
      refine ⟨fun c => absurd c (by decide), fun _ => ⟨_, Sq.l hp', n, 0, _, rfl, nv, fun b hb => ⟨fun c => ?_, fun c => ?_⟩⟩⟩
      · subst c
        rw [sv_len] at hb
        exact ⟨sl_of (n := 3) rfl, fun r hr => bad .num _ (.inl ⟨fun z => Bool.noConfusion (hb.mpr z), rfl⟩) r hr⟩
      · subst c
        rw [sv_len] at hb
        obtain ⟨i, rfl, i0, i1⟩ := hb.mp rfl
        obtain ⟨m, rfl⟩ : ∃ m : Nat, i = m := ⟨i.toNat, by omega⟩
        have ga : ts[m]? = some ts[m] := List.getElem?_eq_getElem (by omega)
        have gb : ts[m + 1]? = some ts[m + 1] := List.getElem?_eq_getElem (by omega)
        refine ⟨fun c => absurd c (by decide), fun _ => ⟨_, rfl, sv ts, SqL.of hp', fun l1 n1 => ?_⟩⟩
        rw [cutV_to, sv_take]
        have s1 := sD.trans (same_new (o := .lst (sv (ts.take m))) n1)
        refine ⟨_, _, Sq.l (s1 _ _ hp), at_int (by omega) (sv_get gb), _, _, Sq.l (s1 _ _ hp), at_int (by omega) (sv_get ga), sl_of (n := 2) rfl, fun l2 n2 => .inl ⟨_, _, same_new n2 _ _ upd_same, upd_same, by rw [sv_len, List.length_take, sl_big]; show _ + 2 ≤ _; omega, fun l3 n3 => ?_⟩⟩
        have s3 := (s1.trans (same_new (o := .lst [.str (S ts[m + 1]), .str (S ts[m])]) n2)).trans (same_new (o := .lst (sv (ts.take m) ++ [.str (S ts[m + 1]), .str (S ts[m])])) n3)
        refine ⟨_, rfl, sv ts, SqL.of (s3 _ _ hp), fun l4 n4 => ?_⟩
        rw [show ((m : Nat) : Int) + 2 = ((m + 2 : Nat) : Int) by omega, cutV_from, sv_drop]
        refine .inl ⟨_, _, same_new n4 _ _ upd_same, upd_same, by rw [List.length_append, sv_len, sv_len, List.length_take, List.length_drop, sl_big]; show _ + 2 + _ ≤ _; omega, fun l5 n5 => ⟨sl_of (n := 2) rfl, fun r hr => ?_⟩⟩
        refine told (.inr ⟨m, _, _, rfl, ga, gb, rfl⟩) ((s3.trans (same_new n4)).trans (same_new n5)) ?_ r hr
        rw [upd_same, show ([.str (S ts[m + 1]), .str (S ts[m])] : List V) = sv [ts[m + 1], ts[m]] from rfl, ← sv_app, ← sv_app]
def sp_check_number (K : PySem.W.Frag) : Sp := fun vs H Q E => ∃ (v : V) (lo hi : Int), vs = [v, .int lo, .int hi] ∧ NumV v ∧ (numOk v lo hi → Q .non H) ∧ (¬ numOk v lo hi → Er K E H .num v)
theorem sc_check_number : FnScope ["number", "low", "high"] ["number", "low", "high"] (defScope (topS 39)) := ⟨rfl, rfl, rfl, by decide +kernel, rfl, by decide +kernel, by decide +kernel⟩
theorem ok_check_number {P : Program} {w : World} {K : PySem.W.Frag} {mg : Str → Option Value} {base : Heap} (T : Top K mg) : FnOk P w K mg base (L2N.CX P w) 3 T.a_check_number T.fd_check_number ["number", "low", "high"] (sp_check_number K) := by
  refine okN T.F_check_number (k := 2) sc_check_number (fun vs H Q E h => ?_) (fun cdv A outer s0 H vs Q E hr tk h => ?_)
  · obtain ⟨v, lo, hi, rfl, _⟩ := h; rfl
  · have sc := sc_check_number
    refine ⟨_, (pss_one (xs_if (PW.pt (xw_or (xt (pe_callB (xc_isi .bool) (by rfl) T.n_isinstance (by decide +kernel) (pa_cons (xv 0) (pa_cons (pe_bltn (v := .ty "bool") (by rfl) T.n_bool (by decide +kernel) rfl) pa_nil)))) (pw_or1 (pt_not (pt_chain xo_le xo_le (xv 1) (xv 0) (xv 2)))))) (pss_one (ps_raise1 T.e_BadNumber (ok_ini_BadNumber T) (hr.mono (by decide)) rfl tk (by rfl) (xv 0))) pss_nil)), ?_⟩
    obtain ⟨v, lo, hi, rfl, nv, yes, no⟩ := h
    rcases nv with ⟨i, rfl⟩ | ⟨b, rfl⟩
    · refine ⟨rfl, no_ft, fun _ => ⟨_, rfl, ?_⟩⟩
      by_cases h1 : lo ≤ i
      · refine ite_t (decide_eq_true h1) ⟨_, rfl, fun c => ?_, fun c => ?_⟩
        · have h2 : ¬ i ≤ hi := fun z => by
            have c' : (!decide (i ≤ hi)) = true := c
            rw [decide_eq_true z] at c'
            cases c'
          exact raiseK (kd := .num) (no fun ⟨j, e, _, z⟩ => h2 (by cases e; exact z))
        · have h2 : i ≤ hi := Decidable.byContradiction fun z => by
            have c' : (!decide (i ≤ hi)) = false := c
            rw [decide_eq_false z] at c'
            cases c'
          exact yes ⟨i, rfl, h1, h2⟩
      · refine ite_f (fun z => h1 (of_decide_eq_true z)) ⟨_, rfl, fun _ => ?_, no_tf⟩
        exact raiseK (kd := .num) (no fun ⟨j, e, z, _⟩ => h1 (by cases e; exact z))
    · exact ⟨rfl, fun _ => ⟨fun _ => raiseK (kd := .num) (no fun ⟨j, e, _⟩ => by cases e), no_tf⟩, no_tf⟩
def sp_check_known (K : PySem.W.Frag) : Sp := fun vs H Q E => ∃ (p : Addr) (ts : List (List Nat)) (t : List Nat), vs = [.ref p, .str (S t)] ∧ Sq K H p (sv ts) ∧ (t ∈ ts → Q .non H) ∧ (t ∉ ts → Er K E H .thing (.str (S t)))
theorem sc_check_known : FnScope ["known", "thing"] ["known", "thing"] (defScope (topS 41)) := ⟨rfl, rfl, rfl, by decide +kernel, rfl, by decide +kernel, by decide +kernel⟩
theorem ok_check_known {P : Program} {w : World} {K : PySem.W.Frag} {mg : Str → Option Value} {base : Heap} (T : Top K mg) : FnOk P w K mg base (L2N.CX P w) 3 T.a_check_known T.fd_check_known ["known", "thing"] (sp_check_known K) := by
  refine okN T.F_check_known (k := 2) sc_check_known (fun vs H Q E h => ?_) (fun cdv A outer s0 H vs Q E hr tk h => ?_)
  · obtain ⟨p, ts, t, rfl, _⟩ := h; rfl
  · have sc := sc_check_known
    refine ⟨_, (pss_one (xs_if (xtc (ko_notin (K := K) rfl) (xv 1) (xv 0) (by rfl)) (pss_one (ps_raise1 T.e_UnknownThing (ok_ini_UnknownThing T) (hr.mono (by decide)) rfl tk (by rfl) (xv 1))) pss_nil)), ?_⟩
    obtain ⟨p, ts, t, rfl, hp, yes, no⟩ := h
    refine ⟨_, hp, rfl, sv_flat ts, fun c => ?_, fun c => ?_⟩
    · have c' : (!inV (.str (S t)) (sv ts)) = true := c
      rw [inV_sv] at c'
      exact raiseK (kd := .thing) (no fun z => by rw [decide_eq_true z] at c'; cases c')
    · have c' : (!inV (.str (S t)) (sv ts)) = false := c
      rw [inV_sv] at c'
      exact yes (Decidable.byContradiction fun z => by rw [decide_eq_false z] at c'; cases c')
def sp__law_yes (K : PySem.W.Frag) : Sp := fun vs H Q _ => ∃ (s cl : Addr) (n : Nat) (m : Int), vs = [.ref s, .int m] ∧ Sto s cl n H ∧ n < 1000000000000 ∧ m < 536870912 ∧
  ∀ (b : Bool) H', Keep s H H' → Sto s cl (n + 1) H' → Q (.bl b) H'
theorem sc__law_yes : FnScope ["store", "many"] ["store", "many"] (defScope (topS 50)) := ⟨rfl, rfl, rfl, by decide +kernel, rfl, by decide +kernel, by decide +kernel⟩
theorem ok__law_yes {P : Program} {w : World} {K : PySem.W.Frag} {mg : Str → Option Value} {base : Heap} (T : Top K mg) : FnOk P w K mg base CX0 3 T.a__law_yes T.fd__law_yes ["store", "many"] (sp__law_yes K) := by
  refine T.F__law_yes.ok (k := 2) sc__law_yes (fun vs H Q E h => ?_) (fun cdv A outer s0 H vs Q E hr h => ?_)
  · obtain ⟨s, cl, n, m, rfl, _⟩ := h; rfl
  · have sc := sc__law_yes
    refine ⟨_, (pss_one (ps_ret (pe_cmpR (ko_eq (K := K) rfl hr.units) (pe_call (ok__law_take T) (hr.mono (by decide)) (by rfl) T.g__law_take T.F__law_take.kp T.b__law_take .nil pass0 (pa_cons (xv 0) (pa_cons (xv 1) pa_nil))) pe_int (nomark _)))), ?_⟩
    obtain ⟨s, cl, n, m, rfl, S, hn, hm, q⟩ := h
    refine ⟨s, cl, n, m, rfl, S, hn, hm, fun r H1 _ k S1 => ?_⟩
    exact q _ _ k S1
def sp__law_pick (K : PySem.W.Frag) : Sp := fun vs H Q _ => ∃ (s cl : Addr) (n : Nat), Sto s cl n H ∧ n < 1000000000000 ∧
  ((∃ l : List Nat, vs = [.ref s, .str (S l)] ∧ l ≠ [] ∧ l.length ≤ 1000 ∧ ∀ c H', c ∈ l → Keep s H H' → Sto s cl (n + 1) H' → Q (.str (S [c])) H') ∨
   (∃ p xs, vs = [.ref s, .ref p] ∧ H p = some (.lst xs) ∧ p ≠ s ∧ xs ≠ [] ∧ xs.length ≤ 1000 ∧ ∀ v H', v ∈ xs → Keep s H H' → Sto s cl (n + 1) H' → Q v H'))
theorem sc__law_pick : FnScope ["store", "items"] ["store", "items"] (defScope (topS 51)) := ⟨rfl, rfl, rfl, by decide +kernel, rfl, by decide +kernel, by decide +kernel⟩
theorem ok__law_pick {P : Program} {w : World} {K : PySem.W.Frag} {mg : Str → Option Value} {base : Heap} (T : Top K mg) : FnOk P w K mg base CX0 3 T.a__law_pick T.fd__law_pick ["store", "items"] (sp__law_pick K) := by
  refine T.F__law_pick.ok (k := 2) sc__law_pick (fun vs H Q E h => ?_) (fun cdv A outer s0 H vs Q E hr h => ?_)
  · obtain ⟨s, cl, n, S, hn, ⟨l, rfl, _⟩ | ⟨p, xs, rfl, _⟩⟩ := h <;> rfl
  · have sc := sc__law_pick
    refine ⟨_, (pss_one (ps_ret (pe_ix (kix (K := K) rfl) (xv 1) (pe_call (ok__law_take T) (hr.mono (by decide)) (by rfl) T.g__law_take T.F__law_take.kp T.b__law_take .nil pass0 (pa_cons (xv 0) (pa_cons (pe_callB (kc_len (K := K) rfl) (by rfl) T.n_len (by decide +kernel) (pa_cons (xv 1) pa_nil)) pa_nil))) (fun _ _ => rfl)))), ?_⟩
    obtain ⟨s, cl, n, St, hn, ⟨l, rfl, h0, hl, q⟩ | ⟨p, xs, rfl, hp, ps, h0, hl, q⟩⟩ := h
    · have hz : (S l).length ≤ sizeLine := by rw [S_len, sl_big]; omega
      have h1 := List.length_pos_iff.mpr h0
      refine ⟨hz, s, cl, n, _, rfl, St, hn, by rw [S_len]; omega, fun r H1 hr k S1 => ?_⟩
      rw [S_len] at hr
      have hr' : r < l.length := by omega
      refine ⟨hz, l[r], atI_nat (List.getElem?_eq_getElem hr'), ?_⟩
      exact q _ _ (List.getElem_mem hr') k S1
    · have h1 := List.length_pos_iff.mpr h0
      refine ⟨xs, Sq.l hp, s, cl, n, _, rfl, St, hn, by omega, fun r H1 hr k S1 => ?_⟩
      have hr' : r < xs.length := by omega
      refine ⟨xs, xs[r], Sq.l (k _ _ ps hp), atI_nat (List.getElem?_eq_getElem hr'), ?_⟩
      exact q _ _ (List.getElem_mem hr') k S1
def sp__law_near (K : PySem.W.Frag) : Sp := fun vs H Q _ => ∃ (s cl : Addr) (n : Nat) (lo hi : Int), vs = [.ref s, .int lo, .int hi] ∧ Sto s cl n H ∧ n + 2 < 1000000000000 ∧ 0 ≤ lo ∧ lo ≤ hi ∧ hi ≤ 100000000 ∧
  ∀ (r : Nat) H', lo ≤ (r : Int) → (r : Int) ≤ hi → Keep s H H' → Sto s cl (n + 2) H' → Q (.int (r : Nat)) H'
theorem sc__law_near : FnScope ["store", "low", "high", "style"] ["store", "low", "high"] (defScope (topS 52)) := ⟨rfl, rfl, rfl, by decide +kernel, rfl, by decide +kernel, by decide +kernel⟩
theorem ok__law_near {P : Program} {w : World} {K : PySem.W.Frag} {mg : Str → Option Value} {base : Heap} (T : Top K mg) : FnOk P w K mg base CX0 3 T.a__law_near T.fd__law_near ["store", "low", "high"] (sp__law_near K) := by
  refine T.F__law_near.ok (k := 2) sc__law_near (fun vs H Q E h => ?_) (fun cdv A outer s0 H vs Q E hr h => ?_)
  · obtain ⟨s, cl, n, lo, hi, rfl, _⟩ := h; rfl
  · have sc := sc__law_near
    refine ⟨_, (pss_cons (ps_set (i := 3) sc.nd rfl (by first | exact Or.inl rfl | exact Or.inr rfl) (pe_call (ok__law_take T) (hr.mono (by decide)) (by rfl) T.g__law_take T.F__law_take.kp T.b__law_take .nil pass0 (pa_cons (xv 0) (pa_cons pe_int pa_nil))))
      (pss_cons (xs_if (xtc (ko_eq (K := K) rfl hr.units) (xv 3) pe_int (nomark _)) (pss_one (ps_ret (xv 1))) pss_nil)
      (pss_cons (xs_if (xtc (ko_eq (K := K) rfl hr.units) (xv 3) pe_int (nomark _)) (pss_one (ps_ret (xv 2))) pss_nil)
      (pss_one (ps_ret (pe_op (ko_add (K := K) rfl) (xv 1) (pe_call (ok__law_take T) (hr.mono (by decide)) (by rfl) T.g__law_take T.F__law_take.kp T.b__law_take .nil pass0 (pa_cons (xv 0) (pa_cons (pe_op (ko_add (K := K) rfl) (pe_op xo_sub (xv 2) (xv 1)) pe_int) pa_nil))))))))), ?_⟩
    obtain ⟨s, cl, n, lo, hi, rfl, St, hn, h0, h1, h2, q⟩ := h
    refine ⟨s, cl, n, _, rfl, St, by omega, by decide, fun r H1 hr k S1 => ?_⟩
    refine ⟨fun c => ?_, fun c => ⟨fun c => ?_, fun c => ?_⟩⟩
    · have e := q lo.toNat H1 (by omega) (by omega) k (S1.mono (by omega))
      rw [Int.toNat_of_nonneg h0] at e
      exact e
    · have e := q hi.toNat H1 (by omega) (by omega) k (S1.mono (by omega))
      rw [Int.toNat_of_nonneg (by omega)] at e
      exact e
    · refine ⟨s, cl, n + 1, _, rfl, S1, by omega, by omega, fun r2 H2 hr2 k2 S2 => ?_⟩
      have e := q (lo + r2).toNat H2 (by omega) (by omega) (k.trans k2) S2
      rw [Int.toNat_of_nonneg (by omega)] at e
      exact e
def sp__law_big (K : PySem.W.Frag) : Sp := fun vs H Q _ => ∃ (s cl : Addr) (n : Nat), vs = [.ref s] ∧ Sto s cl n H ∧ n + 30 < 1000000000000 ∧ ∀ (r : Nat) H', r < 1000 ^ 19 → Keep s H H' → Sto s cl (n + 30) H' → Q (.int (r : Nat)) H'
theorem sc__law_big : FnScope ["store", "number", "turn"] ["store"] (defScope (topS 53)) := ⟨rfl, rfl, rfl, by decide +kernel, rfl, by decide +kernel, by decide +kernel⟩
theorem ok__law_big {P : Program} {w : World} {K : PySem.W.Frag} {mg : Str → Option Value} {base : Heap} (T : Top K mg) : FnOk P w K mg base CX0 3 T.a__law_big T.fd__law_big ["store"] (sp__law_big K) := by
  refine T.F__law_big.ok (k := 2) sc__law_big (fun vs H Q E h => ?_) (fun cdv A outer s0 H vs Q E hr h => ?_)
  · obtain ⟨s, cl, n, rfl, _⟩ := h; rfl
  · have sc := sc__law_big
    refine ⟨_, (pss_cons (ps_set (i := 1) sc.nd rfl (by first | exact Or.inl rfl | exact Or.inr rfl) pe_int)
      (pss_cons (ps_for PassesOwn.never rfl (pi_range1 (by rfl) T.n_range (pa_cons (pe_op (ko_add (K := K) rfl) pe_int (pe_call (ok__law_take T) (hr.mono (by decide)) (by rfl) T.g__law_take T.F__law_take.kp T.b__law_take .nil pass0 (pa_cons (xv 0) (pa_cons pe_int pa_nil)))) pa_nil)) (pg_name (i := 2) sc.nd rfl (by first | exact Or.inl rfl | exact Or.inr rfl)) (pss_one (ps_set (i := 1) sc.nd rfl (by first | exact Or.inl rfl | exact Or.inr rfl) (pe_op (ko_add (K := K) rfl) (pe_op xo_mul (xv 1) pe_int) (pe_call (ok__law_take T) (hr.mono (by decide)) (by rfl) T.g__law_take T.F__law_take.kp T.b__law_take .nil pass0 (pa_cons (xv 0) (pa_cons pe_int pa_nil)))))))
      (pss_one (ps_ret (xv 1))))), ?_⟩
    obtain ⟨s, cl, n, rfl, St, hn, q⟩ := h
    refine ⟨s, cl, n, _, rfl, St, by omega, by decide, fun k H1 hk k1 S1 => ?_⟩
    have hk' : k < 19 := by rcases hk with h | h <;> omega
    refine ⟨_, rfl, by omega, by omega, ?_⟩
    rw [show ((1 : Int) + (k : Nat)).toNat = 1 + k by omega]
    refine for_range (lo := 0) (n := 1 + k) (fun i σ H' => ∃ (v : Nat) (y : Option V), σ = [some (.ref s), some (.int v), y] ∧ v < 1000 ^ i ∧ Keep s H1 H' ∧ Sto s cl (n + 1 + i) H') ⟨0, none, rfl, by decide, Keep.refl, S1⟩ (fun i σ H' hi hW => ?_) (fun σ H' hW => ?_)
    · obtain ⟨v, y, rfl, lv, kW, SW⟩ := hW
      refine ⟨.inr ⟨by decide, by decide⟩, s, cl, n + 1 + i, _, rfl, SW, by omega, by decide, fun r H2 hr k2 S2 => ?_⟩
      have r9 : r < 1000 := by rcases hr with h | h <;> omega
      refine ⟨v * 1000 + r, _, rfl, ?_, kW.trans k2, S2⟩
      rw [Nat.pow_succ]; omega
    · obtain ⟨v, y, rfl, lv, kW, SW⟩ := hW
      refine q v H' (Nat.lt_of_lt_of_le lv (Nat.pow_le_pow_right (by decide) (by omega))) (k1.trans kW) (SW.mono (by omega))
def sp_rank (K : PySem.W.Frag) : Sp := fun vs H Q E => ∃ (p : Addr) (ts : List (List Nat)) (t : List Nat), vs = [.ref p, .str (S t)] ∧ Lx H p (sv ts) ∧ ts.length ≤ 1000 ∧ (∀ i : Nat, ts[i]? = some t → (∀ j < i, ts[j]? ≠ some t) → Q (.int (i : Nat)) H) ∧ (t ∉ ts → Er K E H .thing (.str (S t)))
theorem sc_rank : FnScope ["liking", "thing"] ["liking", "thing"] (defScope (topS 42)) := ⟨rfl, rfl, rfl, by decide +kernel, rfl, by decide +kernel, by decide +kernel⟩
theorem ok_rank {P : Program} {w : World} {K : PySem.W.Frag} {mg : Str → Option Value} {base : Heap} (T : Top K mg) : FnOk P w K mg base (L2N.CX P w) 4 T.a_rank T.fd_rank ["liking", "thing"] (sp_rank K) := by
  refine okN T.F_rank (k := 3) sc_rank (fun vs H Q E h => ?_) (fun cdv A outer s0 H vs Q E hr tk h => ?_)
  · obtain ⟨p, ts, t, rfl, _⟩ := h; rfl
  · have sc := sc_rank
    refine ⟨_, (pss_cons (ps_expr (pe_callS (ok_check_known T) (hr.mono (by decide)) (by rfl) T.g_check_known T.F_check_known.kp T.b_check_known (fun σ => L2N.passAt tk σ) (pa_cons (xv 0) (pa_cons (xv 1) pa_nil))))
      (pss_one (ps_ret (peOr (ke_bm (K := K) rfl PySem.F.plainAttrs_list PySem.F.slot_list_index PySem.F.type_list_index (km_index (K := K) rfl) (xv 0) (pa_cons (xv 1) pa_nil)) (pe_bmF PySem.F.slot_tuple_index PySem.F.type_tuple_index mt_indexT (xv 0) (pa_cons (xv 1) pa_nil)))))), ?_⟩
    obtain ⟨p, ts, t, rfl, hp, hl, yes, no⟩ := h
    refine ⟨p, ts, t, rfl, hp.lt.sq, fun ht => ?_, fun ht => ?_⟩
    · obtain ⟨k, gk⟩ := List.getElem?_of_mem ht
      obtain ⟨i, i1, i2, i3⟩ := first_at gk
      have zs := sv_get i2
      rcases hp with hp | hp
      · exact .inl ⟨tyL hp, sv ts, i, _, SqL.of hp, rfl, sv_flat ts, zs, by rw [str_eqv]; exact decide_eq_true rfl, fun m z' hm hz => no_eq i3 hm hz, yes i i2 i3⟩
      · refine .inr ⟨⟨p, _, rfl, hp⟩, ts.map S, by rw [List.map_map]; exact hp.sq, List.mem_map.mpr ⟨t, ht, rfl⟩, ?_⟩
        rw [idx_S i2 i3]
        exact yes i i2 i3
    · exact no ht
def sp_dropped (K : PySem.W.Frag) : Sp := fun vs H Q E => ∃ (p : Addr) (ts : List (List Nat)) (t : List Nat), vs = [.ref p, .str (S t)] ∧ Lt H p (sv ts) ∧ ts.length ≤ 1000 ∧ (t ∈ ts → ∀ r H', Same H H' → H r = none → H' r = some (.lst (sv (ts.filter fun u => !decide (u = t)))) → Q (.ref r) H') ∧ (t ∉ ts → Er K E H .thing (.str (S t)))
theorem sc_dropped : FnScope ["liking", "thing", "item"] ["liking", "thing"] (defScope (topS 43)) := ⟨rfl, rfl, rfl, by decide +kernel, rfl, by decide +kernel, by decide +kernel⟩
theorem ok_dropped {P : Program} {w : World} {K : PySem.W.Frag} {mg : Str → Option Value} {base : Heap} (T : Top K mg) : FnOk P w K mg base (L2N.CX P w) 4 T.a_dropped T.fd_dropped ["liking", "thing"] (sp_dropped K) := by
  refine okN T.F_dropped (k := 3) sc_dropped (fun vs H Q E h => ?_) (fun cdv A outer s0 H vs Q E hr tk h => ?_)
  · obtain ⟨p, ts, t, rfl, _⟩ := h; rfl
  · have sc := sc_dropped
    refine ⟨_, (pss_cons (ps_expr (pe_callS (ok_check_known T) (hr.mono (by decide)) (by rfl) T.g_check_known T.F_check_known.kp T.b_check_known (fun σ => L2N.passAt tk σ) (pa_cons (xv 0) (pa_cons (xv 1) pa_nil))))
      (pss_one (ps_ret (pe_lc (own := [("item", 2)]) (g := gName 2) rfl sc.nd (ki_seq (K := K) rfl (xv 0)) (blkOk_by (N := ["liking", "thing", "item"]) (sc := defScope (topS 43)) (by decide +kernel)) (fun _ _ _ _ _ => (pg_name (i := 2) sc.nd rfl (by first | exact Or.inl rfl | exact Or.inr rfl))) (fun _ _ _ _ _ => (pts_one (xtc (ko_ne (K := K) rfl hr.units) (xv 2) (xv 1) (nomark _)))) (fun _ _ _ _ _ => (xv 2)))))), ?_⟩
    obtain ⟨p, ts, t, rfl, hp, hl, yes, no⟩ := h
    refine ⟨p, ts, t, rfl, hp.sq, fun ht => ?_, fun ht => no ht⟩
    refine lc_sq (xs := sv ts) id (onP fun u => !decide (u = t)) hp (by rw [sv_len, sl_big]; omega) (fun _ => rfl) (fun D hD x acc Q' hx q' => ?_) (fun D hD x acc Q' hx q' => q') (fun D hD => ?_)
    · obtain ⟨u, hu, rfl⟩ := sv_mem hx
      have e : onP (fun u => !decide (u = t)) (.str (S u)) = !decide (S u = S t) := by
        show (!decide (u = t)) = _
        rw [decide_eq_decide.mpr ⟨fun z => by rw [z], fun z => S_inj z⟩]
      rw [e] at q'
      exact q'
    · refine yes ht D _ (same_new hD) hD ?_
      rw [upd_same, List.map_id, sv_filter]
def sp_inserted (K : PySem.W.Frag) : Sp := fun vs H Q E => ∃ (p : Addr) (ts : List (List Nat)) (t : List Nat) (n : V), vs = [.ref p, .str (S t), n] ∧ Lt H p (sv ts) ∧ ts.length ≤ 1000 ∧ NumV n ∧
  (t ∉ ts → ∀ m : Nat, n = .int m → m ≤ ts.length → ∀ r H', Same H H' → H r = none → H' r = some (.lst (sv (ts.take m ++ [t] ++ ts.drop m))) → Q (.ref r) H') ∧ (t ∈ ts → Er K E H .dup (.str (S t))) ∧ (t ∉ ts → ¬ numOk n 0 (ts.length : Nat) → Er K E H .num n)
theorem sc_inserted : FnScope ["liking", "thing", "at"] ["liking", "thing", "at"] (defScope (topS 44)) := ⟨rfl, rfl, rfl, by decide +kernel, rfl, by decide +kernel, by decide +kernel⟩
theorem ok_inserted {P : Program} {w : World} {K : PySem.W.Frag} {mg : Str → Option Value} {base : Heap} (T : Top K mg) : FnOk P w K mg base (L2N.CX P w) 4 T.a_inserted T.fd_inserted ["liking", "thing", "at"] (sp_inserted K) := by
  refine okN T.F_inserted (k := 3) sc_inserted (fun vs H Q E h => ?_) (fun cdv A outer s0 H vs Q E hr tk h => ?_)
  · obtain ⟨p, ts, t, n, rfl, _⟩ := h; rfl
  · have sc := sc_inserted
    refine ⟨_, (pss_cons (xs_if (xtc (ko_in (K := K) rfl) (xv 1) (xv 0) (by rfl)) (pss_one (ps_raise1 T.e_DuplicateName (ok_ini_DuplicateName T) (hr.mono (by decide)) rfl tk (by rfl) (xv 1))) pss_nil)
      (pss_cons (ps_expr (pe_callS (ok_check_number T) (hr.mono (by decide)) (by rfl) T.g_check_number T.F_check_number.kp T.b_check_number (fun σ => L2N.passAt tk σ) (pa_cons (xv 2) (pa_cons pe_int (pa_cons (pe_callB (kc_len (K := K) rfl) (by rfl) T.n_len (by decide +kernel) (pa_cons (xv 0) pa_nil)) pa_nil)))))
      (pss_one (ps_ret (pe_op (ko_add (K := K) rfl) (pe_op (ko_add (K := K) rfl) (pe_callTy (kc_list (K := K) rfl rfl) (by rfl) T.n_list (by decide +kernel) (pa_cons (pe_slice (ksla (K := K) rfl) (xv 0) po_none (po_some (xv 2))) pa_nil)) (pe_lst (pa_cons (xv 1) pa_nil))) (pe_callTy (kc_list (K := K) rfl rfl) (by rfl) T.n_list (by decide +kernel) (pa_cons (pe_slice (ksla (K := K) rfl) (xv 0) (po_some (xv 2)) po_none) pa_nil))))))), ?_⟩
    obtain ⟨p, ts, t, n, rfl, hp, hl, nv, good, dup, num⟩ := h
    refine ⟨_, hp.sq, rfl, sv_flat ts, fun c => ?_, fun c => ?_⟩
    · have c' : inV (.str (S t)) (sv ts) = true := c
      rw [inV_sv] at c'
      exact raiseK (kd := .dup) (dup (of_decide_eq_true c'))
    have c' : inV (.str (S t)) (sv ts) = false := c
    rw [inV_sv] at c'
    have nt := of_decide_eq_false c'
    refine ⟨_, hp.sq, n, 0, _, rfl, nv, fun ok => ?_, fun no => num nt (by rw [sv_len] at no; exact no)⟩
    rw [sv_len] at ok
    obtain ⟨i, rfl, i0, i1⟩ := ok
    obtain ⟨m, rfl⟩ : ∃ m : Nat, i = m := ⟨i.toNat, by omega⟩
    refine ⟨_, rfl, hp.cut fun r1 H1 s1 e1 => ?_⟩
    rw [cutV_to, sv_take] at e1
    refine ⟨_, e1.sq, fun l1 n1 => ⟨sl_of (n := 1) rfl, fun l2 n2 => ?_⟩⟩
    have g1 := same_new (o := .lst [.str (S t)]) n2 _ _ (upd_same (H := H1) (a := l1) (o := .lst (sv (ts.take m))))
    refine .inl ⟨_, _, g1, upd_same, by rw [sv_len, List.length_take, sl_big]; show _ + 1 ≤ _; omega, fun l3 n3 => ?_⟩
    have s3 : Same H (upd (upd (upd H1 l1 (.lst (sv (ts.take m)))) l2 (.lst [.str (S t)])) l3 (.lst (sv (ts.take m) ++ [.str (S t)]))) := ((s1.trans (same_new n1)).trans (same_new n2)).trans (same_new n3)
    refine ⟨_, rfl, (hp.same s3).cut fun r4 H4 s4 e4 => ?_⟩
    rw [cutV_from, sv_drop] at e4
    refine ⟨_, e4.sq, fun l5 n5 => .inl ⟨_, _, same_new n5 _ _ (s4 _ _ upd_same), upd_same, by rw [List.length_append, sv_len, sv_len, List.length_take, List.length_drop, sl_big]; show _ + 1 + _ ≤ _; omega, fun l6 n6 => ?_⟩⟩
    have s6 := (((s3.trans s4).trans (same_new (o := .lst (sv (ts.drop m))) n5)))
    refine good nt m rfl (by omega) l6 _ (s6.trans (same_new n6)) (s6.free n6) ?_
    rw [upd_same, sv_one, ← sv_app, ← sv_app]
def sp_exchanged (K : PySem.W.Frag) : Sp := fun vs H Q E => ∃ (p : Addr) (ts : List (List Nat)) (n : V), vs = [.ref p, n] ∧ Lt H p (sv ts) ∧ ts.length ≤ 1000 ∧ NumV n ∧
  (∀ (m : Nat) (a b : List Nat), n = .int m → ts[m]? = some a → ts[m + 1]? = some b → ∀ r H', Same H H' → H r = none → H' r = some (.lst (sv (ts.take m ++ [b, a] ++ ts.drop (m + 2)))) → Q (.ref r) H') ∧ (¬ numOk n 0 ((ts.length : Nat) - 2) → Er K E H .num n)
theorem sc_exchanged : FnScope ["liking", "at"] ["liking", "at"] (defScope (topS 45)) := ⟨rfl, rfl, rfl, by decide +kernel, rfl, by decide +kernel, by decide +kernel⟩
theorem ok_exchanged {P : Program} {w : World} {K : PySem.W.Frag} {mg : Str → Option Value} {base : Heap} (T : Top K mg) : FnOk P w K mg base (L2N.CX P w) 4 T.a_exchanged T.fd_exchanged ["liking", "at"] (sp_exchanged K) := by
  refine okN T.F_exchanged (k := 3) sc_exchanged (fun vs H Q E h => ?_) (fun cdv A outer s0 H vs Q E hr tk h => ?_)
  · obtain ⟨p, ts, n, rfl, _⟩ := h; rfl
  · have sc := sc_exchanged
    refine ⟨_, (pss_cons (ps_expr (pe_callS (ok_check_number T) (hr.mono (by decide)) (by rfl) T.g_check_number T.F_check_number.kp T.b_check_number (fun σ => L2N.passAt tk σ) (pa_cons (xv 1) (pa_cons pe_int (pa_cons (pe_op xo_sub (pe_callB (kc_len (K := K) rfl) (by rfl) T.n_len (by decide +kernel) (pa_cons (xv 0) pa_nil)) pe_int) pa_nil)))))
      (pss_one (ps_ret (pe_op (ko_add (K := K) rfl) (pe_op (ko_add (K := K) rfl) (pe_callTy (kc_list (K := K) rfl rfl) (by rfl) T.n_list (by decide +kernel) (pa_cons (pe_slice (ksla (K := K) rfl) (xv 0) po_none (po_some (xv 1))) pa_nil)) (pe_lst (pa_cons (pe_ix (kix (K := K) rfl) (xv 0) (pe_op (ko_add (K := K) rfl) (xv 1) pe_int) (fun _ _ => rfl)) (pa_cons (pe_ix (kix (K := K) rfl) (xv 0) (xv 1) (fun _ _ => rfl)) pa_nil)))) (pe_callTy (kc_list (K := K) rfl rfl) (by rfl) T.n_list (by decide +kernel) (pa_cons (pe_slice (ksla (K := K) rfl) (xv 0) (po_some (pe_op (ko_add (K := K) rfl) (xv 1) pe_int)) po_none) pa_nil)))))), ?_⟩
    obtain ⟨p, ts, n, rfl, hp, hl, nv, good, num⟩ := h
    refine ⟨_, hp.sq, n, 0, _, rfl, nv, fun ok => ?_, fun no => num (by rw [sv_len] at no; exact no)⟩
    rw [sv_len] at ok
    obtain ⟨i, rfl, i0, i1⟩ := ok
    obtain ⟨m, rfl⟩ : ∃ m : Nat, i = m := ⟨i.toNat, by omega⟩
    have ga : ts[m]? = some ts[m] := List.getElem?_eq_getElem (by omega)
    have gb : ts[m + 1]? = some ts[m + 1] := List.getElem?_eq_getElem (by omega)
    refine ⟨_, rfl, hp.cut fun r1 H1 s1 e1 => ?_⟩
    rw [cutV_to, sv_take] at e1
    refine ⟨_, e1.sq, fun l1 n1 => ?_⟩
    have s2 := s1.trans (same_new (o := .lst (sv (ts.take m))) n1)
    refine ⟨_, _, (hp.same s2).sq, at_int (by omega) (sv_get gb), _, _, (hp.same s2).sq, at_int (by omega) (sv_get ga), sl_of (n := 2) rfl, fun l2 n2 => ?_⟩
    have g1 := same_new (o := .lst [.str (S ts[m + 1]), .str (S ts[m])]) n2 _ _ (upd_same (H := H1) (a := l1) (o := .lst (sv (ts.take m))))
    refine .inl ⟨_, _, g1, upd_same, by rw [sv_len, List.length_take, sl_big]; show _ + 2 ≤ _; omega, fun l3 n3 => ?_⟩
    have s3 := (s2.trans (same_new (o := .lst [.str (S ts[m + 1]), .str (S ts[m])]) n2)).trans (same_new (o := .lst (sv (ts.take m) ++ [.str (S ts[m + 1]), .str (S ts[m])])) n3)
    refine ⟨_, rfl, (hp.same s3).cut fun r4 H4 s4 e4 => ?_⟩
    rw [show ((m : Nat) : Int) + 2 = ((m + 2 : Nat) : Int) by omega, cutV_from, sv_drop] at e4
    refine ⟨_, e4.sq, fun l5 n5 => .inl ⟨_, _, same_new n5 _ _ (s4 _ _ upd_same), upd_same, by rw [List.length_append, sv_len, sv_len, List.length_take, List.length_drop, sl_big]; show _ + 2 + _ ≤ _; omega, fun l6 n6 => ?_⟩⟩
    have s6 := (((s3.trans s4).trans (same_new (o := .lst (sv (ts.drop (m + 2)))) n5)))
    refine good m _ _ rfl ga gb l6 _ (s6.trans (same_new n6)) (s6.free n6) ?_
    rw [upd_same, show ([.str (S ts[m + 1]), .str (S ts[m])] : List V) = sv [ts[m + 1], ts[m]] from rfl, ← sv_app, ← sv_app]
def sp__law_wrong_number (K : PySem.W.Frag) : Sp := fun vs H Q _ => ∃ (s cl : Addr) (n : Nat) (lo hi : Int), vs = [.ref s, .int lo, .int hi] ∧ Sto s cl n H ∧ n + 31 < 1000000000000 ∧ -1000000 ≤ lo ∧ lo ≤ 1000000 ∧ -1000000 ≤ hi ∧ hi ≤ 1000000 ∧
  ∀ (v : V) H', NumV v → ¬ numOk v lo hi → Keep s H H' → Sto s cl (n + 31) H' → Q v H'
theorem sc__law_wrong_number : FnScope ["store", "low", "high", "style"] ["store", "low", "high"] (defScope (topS 54)) := ⟨rfl, rfl, rfl, by decide +kernel, rfl, by decide +kernel, by decide +kernel⟩
theorem ok__law_wrong_number {P : Program} {w : World} {K : PySem.W.Frag} {mg : Str → Option Value} {base : Heap} (T : Top K mg) : FnOk P w K mg base CX0 4 T.a__law_wrong_number T.fd__law_wrong_number ["store", "low", "high"] (sp__law_wrong_number K) := by
  refine T.F__law_wrong_number.ok (k := 3) sc__law_wrong_number (fun vs H Q E h => ?_) (fun cdv A outer s0 H vs Q E hr h => ?_)
  · obtain ⟨s, cl, n, lo, hi, rfl, _⟩ := h; rfl
  · have sc := sc__law_wrong_number
    refine ⟨_, (pss_cons (ps_set (i := 3) sc.nd rfl (by first | exact Or.inl rfl | exact Or.inr rfl) (pe_call (ok__law_take T) (hr.mono (by decide)) (by rfl) T.g__law_take T.F__law_take.kp T.b__law_take .nil pass0 (pa_cons (xv 0) (pa_cons pe_int pa_nil))))
      (pss_cons (xs_if (xtc (ko_eq (K := K) rfl hr.units) (xv 3) pe_int (nomark _)) (pss_one (ps_ret (pe_op xo_sub (xv 1) pe_int))) pss_nil)
      (pss_cons (xs_if (xtc (ko_eq (K := K) rfl hr.units) (xv 3) pe_int (nomark _)) (pss_one (ps_ret (pe_callB (xc_max rfl) (by rfl) T.n_max (by decide +kernel) (pa_cons (xv 1) (pa_cons (pe_op (ko_add (K := K) rfl) (xv 2) pe_int) pa_nil))))) pss_nil)
      (pss_cons (xs_if (xtc (ko_eq (K := K) rfl hr.units) (xv 3) pe_int (nomark _)) (pss_one (ps_ret pe_bl)) pss_nil)
      (pss_cons (xs_if (xtc (ko_eq (K := K) rfl hr.units) (xv 3) pe_int (nomark _)) (pss_one (ps_ret pe_bl)) pss_nil)
      (pss_cons (xs_if (xtc (ko_eq (K := K) rfl hr.units) (xv 3) pe_int (nomark _)) (pss_one (ps_ret (pe_op xo_sub (pe_op xo_sub (xv 1) pe_int) (pe_call (ok__law_big T) (hr.mono (by decide)) (by rfl) T.g__law_big T.F__law_big.kp T.b__law_big .nil pass0 (pa_cons (xv 0) pa_nil))))) pss_nil)
      (pss_cons (xs_if (xtc (ko_eq (K := K) rfl hr.units) (xv 3) pe_int (nomark _)) (pss_one (ps_ret (pe_op (ko_add (K := K) rfl) (pe_callB (xc_max rfl) (by rfl) T.n_max (by decide +kernel) (pa_cons (xv 1) (pa_cons (pe_op (ko_add (K := K) rfl) (xv 2) pe_int) pa_nil))) (pe_call (ok__law_big T) (hr.mono (by decide)) (by rfl) T.g__law_big T.F__law_big.kp T.b__law_big .nil pass0 (pa_cons (xv 0) pa_nil))))) pss_nil)
      (pss_cons (xs_if (xtc (ko_eq (K := K) rfl hr.units) (xv 3) pe_int (nomark _)) (pss_one (ps_ret (pe_op xo_sub (pe_op xo_pow pe_int pe_int) pe_int))) pss_nil)
      (pss_one (ps_ret (pe_op xo_sub pe_int (pe_op xo_pow pe_int pe_int)))))))))))), ?_⟩
    obtain ⟨s, cl, n, lo, hi, rfl, St, hn, l1, l2, h1, h2, q⟩ := h
    refine ⟨s, cl, n, _, rfl, St, by omega, by decide, fun sty H1 _ k1 S1 => ?_⟩
    have out : ∀ {i : Int} {H' : Hp}, i < lo ∨ hi < i → Keep s H1 H' → Sto s cl (n + 31) H' → Q (.int i) H' := fun {i H'} h k S => q (.int i) H' (.inl ⟨i, rfl⟩) (fun ⟨j, e, a, b⟩ => by cases e; omega) (k1.trans k) S
    have wr : ∀ (b : Bool), Q (.bl b) H1 := fun b => q _ _ (.inr ⟨b, rfl⟩) (fun ⟨j, e, _⟩ => by cases e) k1 (S1.mono (by omega))
    refine ⟨fun c => ?_, fun c => ?_⟩
    · exact out (.inl (by omega)) Keep.refl (S1.mono (by omega))
    refine ⟨fun c1 => ?_, fun c1 => ?_⟩
    · show Q (.int (if hi + 1 > lo then hi + 1 else lo)) H1
      refine out (.inr ?_) Keep.refl (S1.mono (by omega))
      split <;> omega
    refine ⟨fun c2 => wr true, fun c2 => ⟨fun c3 => wr false, fun c3 => ?_⟩⟩
    refine ⟨fun c4 => ?_, fun c4 => ⟨fun c5 => ?_, fun c5 => ⟨fun c6 => ?_, fun c6 => ?_⟩⟩⟩
    · refine ⟨s, cl, n + 1, rfl, S1, by omega, fun r H2 hr k2 S2 => ?_⟩
      exact out (.inl (by omega)) k2 (S2.mono (by omega))
    · refine ⟨s, cl, n + 1, rfl, S1, by omega, fun r H2 hr k2 S2 => ?_⟩
      show Q (.int ((if hi + 1 > lo then hi + 1 else lo) + (r : Nat))) H2
      refine out (.inr ?_) k2 (S2.mono (by omega))
      split <;> omega
    · refine ⟨⟨by decide, by decide, by decide⟩, ?_⟩
      show Q (.int (10 ^ 60 - 1)) H1
      exact out (.inr (by omega)) Keep.refl (S1.mono (by omega))
    · refine ⟨⟨by decide, by decide, by decide⟩, ?_⟩
      show Q (.int (1 - 10 ^ 60)) H1
      exact out (.inl (by omega)) Keep.refl (S1.mono (by omega))
def sp__law_either (K : PySem.W.Frag) : Sp := fun vs H Q _ => ∃ (s cl : Addr) (n : Nat) (p : Addr) (xs : List V), vs = [.ref s, .ref p] ∧ Sto s cl n H ∧ n < 1000000000000 ∧ H p = some (.lst xs) ∧ p ≠ s ∧
  ∀ (r : Addr) H', Keep s H H' → Sto s cl (n + 1) H' → H r = none → Lx H' r xs → Q (.ref r) H'
theorem sc__law_either : FnScope ["store", "items"] ["store", "items"] (defScope (topS 58)) := ⟨rfl, rfl, rfl, by decide +kernel, rfl, by decide +kernel, by decide +kernel⟩
theorem ok__law_either {P : Program} {w : World} {K : PySem.W.Frag} {mg : Str → Option Value} {base : Heap} (T : Top K mg) : FnOk P w K mg base CX0 4 T.a__law_either T.fd__law_either ["store", "items"] (sp__law_either K) := by
  refine T.F__law_either.ok (k := 3) sc__law_either (fun vs H Q E h => ?_) (fun cdv A outer s0 H vs Q E hr h => ?_)
  · obtain ⟨s, cl, n, p, xs, rfl, _⟩ := h; rfl
  · have sc := sc__law_either
    refine ⟨_, (pss_cons (xs_if (xt (pe_call (ok__law_yes T) (hr.mono (by decide)) (by rfl) T.g__law_yes T.F__law_yes.kp T.b__law_yes .nil pass0 (pa_cons (xv 0) (pa_cons pe_int pa_nil)))) (pss_one (ps_ret (pe_callTy (kc_list (K := K) rfl rfl) (by rfl) T.n_list (by decide +kernel) (pa_cons (xv 1) pa_nil)))) pss_nil)
      (pss_one (ps_ret (pe_callTy xc_tupF (by rfl) T.n_tuple (by decide +kernel) (pa_cons (xv 1) pa_nil))))), ?_⟩
    obtain ⟨s, cl, n, p, xs, rfl, St, hn, hp, ps, q⟩ := h
    refine ⟨s, cl, n, _, rfl, St, hn, by decide, fun b H1 k S1 => ⟨fun _ => ?_, fun _ => ?_⟩⟩
    · refine ⟨xs, Sq.l (k _ _ ps hp), fun r hr => ?_⟩
      exact q r _ (k.trans (Keep.new hr)) (S1.new hr) (k.free (S1.ne hr) hr) (.inl upd_same)
    · refine ⟨xs, SqL.of (k _ _ ps hp), fun r o hr c d => ?_⟩
      exact q r _ (k.trans (Keep.new hr)) (S1.new hr) (k.free (S1.ne hr) hr) (.inr ⟨o, upd_same, c, d⟩)
def sp__law_raw_name (K : PySem.W.Frag) : Sp := fun vs H Q _ => ∃ (s cl : Addr) (n : Nat), vs = [.ref s] ∧ Sto s cl n H ∧ n + 9 < 1000000000000 ∧
  ∀ (l : List Nat) H', IsNm l → Keep s H H' → Sto s cl (n + 9) H' → Q (.str (S l)) H'
theorem sc__law_raw_name : FnScope ["store", "name", "turn"] ["store"] (defScope (topS 60)) := ⟨rfl, rfl, rfl, by decide +kernel, rfl, by decide +kernel, by decide +kernel⟩
theorem ok__law_raw_name {P : Program} {w : World} {K : PySem.W.Frag} {mg : Str → Option Value} {base : Heap} (T : Top K mg) : FnOk P w K mg base CX0 4 T.a__law_raw_name T.fd__law_raw_name ["store"] (sp__law_raw_name K) := by
  refine T.F__law_raw_name.ok (k := 3) sc__law_raw_name (fun vs H Q E h => ?_) (fun cdv A outer s0 H vs Q E hr h => ?_)
  · obtain ⟨s, cl, n, rfl, _⟩ := h; rfl
  · have sc := sc__law_raw_name
    refine ⟨_, (pss_cons (ps_set (i := 1) sc.nd rfl (by first | exact Or.inl rfl | exact Or.inr rfl) (pe_call (ok__law_pick T) (hr.mono (by decide)) (by rfl) T.g__law_pick T.F__law_pick.kp T.b__law_pick .nil pass0 (pa_cons (xv 0) (pa_cons pe_str pa_nil))))
      (pss_cons (ps_for PassesOwn.never rfl (pi_range1 (by rfl) T.n_range (pa_cons (pe_call (ok__law_take T) (hr.mono (by decide)) (by rfl) T.g__law_take T.F__law_take.kp T.b__law_take .nil pass0 (pa_cons (xv 0) (pa_cons pe_int pa_nil))) pa_nil)) (pg_name (i := 2) sc.nd rfl (by first | exact Or.inl rfl | exact Or.inr rfl)) (pss_one (ps_set (i := 1) sc.nd rfl (by first | exact Or.inl rfl | exact Or.inr rfl) (pe_op (ko_add (K := K) rfl) (xv 1) (pe_call (ok__law_pick T) (hr.mono (by decide)) (by rfl) T.g__law_pick T.F__law_pick.kp T.b__law_pick .nil pass0 (pa_cons (xv 0) (pa_cons pe_str pa_nil)))))))
      (pss_cons (xs_if (PW.pt (xw_or (xtc (ko_eq (K := K) rfl hr.units) (xv 1) pe_str (nomark _)) (pw_or1 (xtc (ko_eq (K := K) rfl hr.units) (xv 1) pe_str (nomark _))))) (pss_one (ps_ret (pe_op (ko_add (K := K) rfl) (xv 1) pe_str))) pss_nil)
      (pss_one (ps_ret (xv 1)))))), ?_⟩
    obtain ⟨s, cl, n, rfl, St, hn, q⟩ := h
    rw [lit_az, lit_az9, lit_0]
    refine ⟨s, cl, n, St, by omega, .inl ⟨aZ, rfl, by decide, by decide, fun c H1 hc k1 S1 => ?_⟩⟩
    have w0 : word [c] = true := by
      show (low c && [c].all lowD) = true
      rw [mem_az.mp hc]
      simp [low_lowD (mem_az.mp hc)]
    refine ⟨s, cl, n + 1, _, rfl, S1, by omega, by decide, fun r H2 hr k2 S2 => ?_⟩
    refine ⟨r, rfl, by omega, by omega, ?_⟩
    refine for_range (lo := 0) (n := (r : Int).toNat) (fun i σ H3 => ∃ l y, σ = [some (.ref s), some (.str (S l)), y] ∧ word l = true ∧ l.length = i + 1 ∧ Keep s H H3 ∧ Sto s cl (n + 2 + i) H3) ⟨[c], none, rfl, w0, rfl, k1.trans k2, S2⟩ (fun i σ H3 hi hW => ?_) (fun σ H3 hW => ?_)
    · obtain ⟨l, y, rfl, w1, e1, k3, S3⟩ := hW
      refine ⟨s, cl, n + 2 + i, S3, by omega, .inl ⟨aZ9, rfl, by decide, by decide, fun c H4 hc k4 S4 => ?_⟩⟩
      refine ⟨by rw [S_len, S_len, sl_big]; show l.length + 1 ≤ _; omega, ?_⟩
      rw [S_cat]
      exact ⟨l ++ [c], some (.int (0 + i)), rfl, word_app w1 (fun x hx => by rw [List.mem_singleton.mp hx]; exact mem_az9.mp hc), by rw [List.length_append, e1]; rfl, k3.trans k4, S4⟩
    · obtain ⟨l, y, rfl, w1, e1, k3, S3⟩ := hW
      have hr7 : (r : Int).toNat ≤ 7 := by omega
      have Sf := S3.mono (show n + 2 + (r : Int).toNat ≤ n + 9 by omega)
      have sub : (l = [115, 101, 97] ∨ l = [105, 116]) → IsNm (l ++ [48]) := by
        rintro (rfl | rfl)
        · exact nameL_iff.mp (by decide)
        · exact nameL_iff.mp (by decide)
      have two : (l = [115, 101, 97] ∨ l = [105, 116]) → (S l).length + (S [48]).length ≤ sizeLine := by
        rintro (rfl | rfl) <;> (rw [sl_big]; decide)
      refine ⟨fun c => ⟨fun _ => ?_, no_tf⟩, fun c1 => ⟨fun c => ?_, fun c2 => ?_⟩⟩
      · rw [dec_S lit_sea] at c
        have e := of_decide_eq_true c
        refine ⟨two (.inl e), ?_⟩
        rw [S_cat]
        exact q _ _ (sub (.inl e)) k3 Sf
      · rw [dec_S lit_it] at c
        have e := of_decide_eq_true c
        refine ⟨two (.inr e), ?_⟩
        rw [S_cat]
        exact q _ _ (sub (.inr e)) k3 Sf
      · rw [dec_S lit_sea] at c1
        rw [dec_S lit_it] at c2
        exact q _ _ ⟨w1, by omega, of_decide_eq_false c1, of_decide_eq_false c2⟩ k3 Sf
def sp__law_name (K : PySem.W.Frag) : Sp := fun vs H Q _ => ∃ (s cl : Addr) (n : Nat) (p : Addr) (ts : List (List Nat)), vs = [.ref s, .ref p] ∧ Sto s cl n H ∧ n + 10 < 1000000000000 ∧ H p = some (.lst (sv ts)) ∧ p ≠ s ∧ ts.length ≤ 250 ∧ Fines ts ∧
  ∀ (l : List Nat) H', l ∉ ts → l.length ≤ 8 → Fine l → ((∀ t ∈ ts, word t = true) → IsNm l) → Keep s H H' → Sto s cl (n + 10) H' → Q (.str (S l)) H'
theorem sc__law_name : FnScope ["store", "taken", "style", "words", "name", "k", "other"] ["store", "taken"] (defScope (topS 61)) := ⟨rfl, rfl, rfl, by decide +kernel, rfl, by decide +kernel, by decide +kernel⟩
theorem ok__law_name {P : Program} {w : World} {K : PySem.W.Frag} {mg : Str → Option Value} {base : Heap} (T : Top K mg) : FnOk P w K mg base CX0 5 T.a__law_name T.fd__law_name ["store", "taken"] (sp__law_name K) := by
  refine T.F__law_name.ok (k := 4) sc__law_name (fun vs H Q E h => ?_) (fun cdv A outer s0 H vs Q E hr h => ?_)
  · obtain ⟨s, cl, n, p, ts, rfl, _⟩ := h; rfl
  · have sc := sc__law_name
    refine ⟨_, (pss_cons (ps_set (i := 2) sc.nd rfl (by first | exact Or.inl rfl | exact Or.inr rfl) (pe_call (ok__law_take T) (hr.mono (by decide)) (by rfl) T.g__law_take T.F__law_take.kp T.b__law_take .nil pass0 (pa_cons (xv 0) (pa_cons pe_int pa_nil))))
      (pss_cons (ps_set (i := 3) sc.nd rfl (by first | exact Or.inl rfl | exact Or.inr rfl) (pe_lst (pa_cons pe_str (pa_cons pe_str (pa_cons pe_str (pa_cons pe_str (pa_cons pe_str (pa_cons pe_str (pa_cons pe_str (pa_cons pe_str (pa_cons pe_str (pa_cons pe_str (pa_cons pe_str (pa_cons pe_str pa_nil))))))))))))))
      (xss_cut (xs_if (xtc (ko_eq (K := K) rfl hr.units) (xv 2) pe_int (nomark _)) (pss_one (ps_set (i := 4) sc.nd rfl (by first | exact Or.inl rfl | exact Or.inr rfl) (pe_call (ok__law_pick T) (hr.mono (by decide)) (by rfl) T.g__law_pick T.F__law_pick.kp T.b__law_pick .nil pass0 (pa_cons (xv 0) (pa_cons (pe_op (ko_add (K := K) rfl) (xv 3) (pe_lst (pa_cons pe_str (pa_cons pe_str (pa_cons pe_str (pa_cons pe_str (pa_cons pe_str (pa_cons pe_str (pa_cons pe_str (pa_cons pe_str (pa_cons pe_str pa_nil))))))))))) pa_nil))))) (pss_one (xs_if (PW.pt (xw_and (xtc (ko_eq (K := K) rfl hr.units) (xv 2) pe_int (nomark _)) (pw_and1 (xtc xo_gt (pe_callB (kc_len (K := K) rfl) (by rfl) T.n_len (by decide +kernel) (pa_cons (xv 1) pa_nil)) pe_int (nomark _))))) (pss_one (ps_set (i := 4) sc.nd rfl (by first | exact Or.inl rfl | exact Or.inr rfl) (pe_op (ko_add (K := K) rfl) (pe_slice (ksl (K := K) rfl) (pe_call (ok__law_pick T) (hr.mono (by decide)) (by rfl) T.g__law_pick T.F__law_pick.kp T.b__law_pick .nil pass0 (pa_cons (xv 0) (pa_cons (xv 1) pa_nil))) po_none (po_some pe_int)) (pe_call (ok__law_pick T) (hr.mono (by decide)) (by rfl) T.g__law_pick T.F__law_pick.kp T.b__law_pick .nil pass0 (pa_cons (xv 0) (pa_cons pe_str pa_nil)))))) (pss_one (ps_set (i := 4) sc.nd rfl (by first | exact Or.inl rfl | exact Or.inr rfl) (pe_call (ok__law_raw_name T) (hr.mono (by decide)) (by rfl) T.g__law_raw_name T.F__law_raw_name.kp T.b__law_raw_name .nil pass0 (pa_cons (xv 0) pa_nil)))))))
      (xss_cut (xs_if (PW.pt (xw_and (xt (pe_call (ok__law_is_name T) (hr.mono (by decide)) (by rfl) T.g__law_is_name T.F__law_is_name.kp T.b__law_is_name .nil pass0 (pa_cons (xv 4) pa_nil))) (pw_and1 (xtc (ko_notin (K := K) rfl) (xv 4) (xv 1) (by rfl))))) (pss_one (ps_ret (xv 4))) pss_nil)
      (pss_cons (ps_for PassesOwn.never rfl (pi_range1 (by rfl) T.n_range (pa_cons (pe_op (ko_add (K := K) rfl) (pe_callB (kc_len (K := K) rfl) (by rfl) T.n_len (by decide +kernel) (pa_cons (xv 1) pa_nil)) pe_int) pa_nil)) (pg_name (i := 5) sc.nd rfl (by first | exact Or.inl rfl | exact Or.inr rfl)) (pss_cons (ps_set (i := 6) sc.nd rfl (by first | exact Or.inl rfl | exact Or.inr rfl) (pe_op (ko_add (K := K) rfl) (pe_slice (ksl (K := K) rfl) (xv 4) po_none (po_some pe_int)) (pe_callTy xc_str (by rfl) T.n_str (by decide +kernel) (pa_cons (xv 5) pa_nil))))
      (pss_one (xs_if (xtc (ko_notin (K := K) rfl) (xv 6) (xv 1) (by rfl)) (pss_one (ps_ret (xv 6))) pss_nil))))
      (pss_one (ps_ret (xv 4)))))))), ?_⟩
    obtain ⟨s, cl, n, p, ts, rfl, St, hn, hp, ps, hl, hf, q⟩ := h
    rw [lit_a09]
    refine ⟨s, cl, n, _, rfl, St, by omega, by decide, fun st H1 _ k1 S1 => ?_⟩
    refine ⟨sl_of (n := 12) rfl, fun w hw => ?_⟩
    refine ⟨fun σ' H' => ∃ l w', σ' = [some (.ref s), some (.ref p), some (.int (st : Nat)), some w', some (.str (S l)), none, none] ∧ l.length ≤ 8 ∧ Fine l ∧ ((∀ t ∈ ts, word t = true) → word l = true) ∧ Keep s H H' ∧ Sto s cl (n + 10) H', ?_, ?_⟩
    · have k2 := fun o : HO => k1.trans (Keep.new (s := s) (o := o) hw)
      refine ⟨fun c => ?_, fun c => ⟨fun c2 => ⟨_, Sq.l (k2 _ _ _ ps hp), fun c3 => ?_, fun c3 => ?_⟩, fun c2 => ⟨no_ft, fun _ => ?_⟩⟩⟩
      · refine ⟨sl_of (n := 9) rfl, fun w2 hw2 => .inl ⟨_, _, (upd_ne (ne_of_none upd_same hw2)).trans upd_same, upd_same, by rw [sl_big]; decide, fun w3 hw3 => ?_⟩⟩
        refine ⟨s, cl, n + 1, ((S1.new hw).new hw2).new hw3, by omega, .inr ⟨w3, _, rfl, upd_same, (((S1.new hw).new hw2)).ne hw3, (by intro e; cases e), by decide, fun v H4 hv k4 S4 => ?_⟩⟩
        have hv' : v ∈ sv W21 := words_eq ▸ hv
        obtain ⟨l, hl', rfl⟩ := sv_mem hv'
        have nm := w21_nm l hl'
        exact ⟨l, _, rfl, nm.l1, nm.fine, fun _ => nm.w, (k2 _).trans ((Keep.new hw2).trans ((Keep.new hw3).trans k4)), S4.mono (by omega)⟩
      · have c3' : (0 : Int) < ((sv ts).length : Nat) := of_decide_eq_true c3
        rw [sv_len] at c3'
        have ne : sv ts ≠ [] := fun e => by
          have := congrArg List.length e
          rw [sv_len] at this
          simp at this
          rw [this] at c3'
          simp at c3'
        refine ⟨s, cl, n + 1, S1.new hw, by omega, .inr ⟨p, sv ts, rfl, k2 _ _ _ ps hp, ps, ne, by rw [sv_len]; omega, fun v H4 hv k4 S4 => ?_⟩⟩
        obtain ⟨t, ht, rfl⟩ := sv_mem hv
        have ft := hf t ht
        refine ⟨7, rfl, by rw [S_len, sl_big]; have := ft.l; omega, ?_⟩
        rw [cut7]
        refine ⟨s, cl, n + 2, S4, by omega, .inl ⟨_, rfl, by decide, by decide, fun c' H5 hc' k5 S5 => ?_⟩⟩
        have l7 : (t.take 7).length ≤ 7 := by rw [List.length_take]; omega
        refine ⟨by rw [S_len, S_len, sl_big]; show _ + 1 ≤ _; omega, ?_⟩
        rw [S_cat]
        have hc'' : lowD c' = true := by
          have : ∀ x ∈ ([97, 48, 57, 122, 116] : List Nat), lowD x = true := by decide
          exact this c' hc'
        refine ⟨t.take 7 ++ [c'], _, rfl, by rw [List.length_append]; show _ + 1 ≤ _; omega, ⟨by rw [List.length_append]; show _ + 1 ≤ _; omega, fun x hx => ?_⟩, fun h => word_app (word_take (h t ht) (by decide)) (fun x hx => by rw [List.mem_singleton.mp hx]; exact hc''), (k2 _).trans (k4.trans k5), S5.mono (by omega)⟩
        rcases List.mem_append.mp hx with hx | hx
        · exact ft.a x (List.mem_of_mem_take hx)
        · rw [List.mem_singleton.mp hx]; have := lowD_lt hc''; omega
      · exact ⟨s, cl, n + 1, rfl, S1.new hw, by omega, fun l H4 nm k4 S4 => ⟨l, _, rfl, nm.l1, nm.fine, fun _ => nm.w, (k2 _).trans k4, S4.mono (by omega)⟩⟩
      · exact ⟨s, cl, n + 1, rfl, S1.new hw, by omega, fun l H4 nm k4 S4 => ⟨l, _, rfl, nm.l1, nm.fine, fun _ => nm.w, (k2 _).trans k4, S4.mono (by omega)⟩⟩
    rintro σ' H3 ⟨l, w', rfl, l8, fl, wl, k3, S3⟩
    refine ⟨fun σ' H' => σ' = [some (.ref s), some (.ref p), some (.int (st : Nat)), some w', some (.str (S l)), none, none] ∧ Keep s H H' ∧ Sto s cl (n + 10) H', ?_, ?_⟩
    · refine ⟨l, rfl, by rw [sl_big]; omega, fun H4 sm => ⟨fun c1 => ?_, fun c1 => ⟨no_ft, fun _ => ⟨rfl, k3.trans (Same.keep sm), S3.same sm⟩⟩⟩⟩
      refine ⟨sv ts, Sq.l (sm _ _ (k3 _ _ ps hp)), rfl, sv_flat ts, fun c2 => ?_, fun c2 => ⟨rfl, k3.trans (Same.keep sm), S3.same sm⟩⟩
      have c2' : (!inV (.str (S l)) (sv ts)) = true := c2
      rw [inV_sv] at c2'
      exact q l H4 (by simpa using c2') l8 fl (fun _ => nameL_iff.mp c1) (k3.trans (Same.keep sm)) (S3.same sm)
    rintro σ' H4 ⟨rfl, k4, S4⟩
    refine ⟨_, Sq.l (k4 _ _ ps hp), _, rfl, by omega, by rw [sv_len]; omega, ?_⟩
    rw [sv_len, show (((ts.length : Nat) : Int) + 1).toNat = ts.length + 1 by omega]
    refine for_range (lo := 0) (n := ts.length + 1) (fun i σ H5 => ∃ a b, σ = [some (.ref s), some (.ref p), some (.int (st : Nat)), some w', some (.str (S l)), a, b] ∧ Keep s H H5 ∧ Sto s cl (n + 10) H5 ∧ ∀ j, j < i → (l.take 5 ++ TL.numL j) ∈ ts) ⟨none, none, rfl, k4, S4, fun j hj => absurd hj (Nat.not_lt_zero j)⟩ (fun i σ H5 hi hW => ?_) (fun σ H5 hW => ?_)
    · obtain ⟨a, b, rfl, k5, S5, al⟩ := hW
      have l5 : (l.take 5).length ≤ 5 := by rw [List.length_take]; omega
      have d3 := TL.numL_len (n := i) (k := 3) (by decide) (by omega)
      refine ⟨5, rfl, by rw [S_len, sl_big]; omega, log_ok (by omega), ?_⟩
      rw [cut5, num_S0]
      refine ⟨by rw [S_len, S_len, sl_big]; omega, ?_⟩
      rw [S_cat]
      refine ⟨sv ts, Sq.l (k5 _ _ ps hp), rfl, sv_flat ts, fun c => ?_, fun c => ?_⟩
      · have c2 : (!inV (.str (S (l.take 5 ++ TL.numL i))) (sv ts)) = true := c
        rw [inV_sv] at c2
        refine q _ H5 (by simpa using c2) (by rw [List.length_append]; omega) ⟨by rw [List.length_append]; omega, fun x hx => ?_⟩ (fun h => nm_dig (word_take (wl h) (by decide)) l5 (by omega)) k5 S5
        rcases List.mem_append.mp hx with hx | hx
        · exact fl.a x (List.mem_of_mem_take hx)
        · have := lowD_lt (num_fine x hx); omega
      · have c2 : (!inV (.str (S (l.take 5 ++ TL.numL i))) (sv ts)) = false := c
        rw [inV_sv] at c2
        refine ⟨_, _, rfl, k5, S5, fun j hj => ?_⟩
        by_cases e : j = i
        · rw [e]; simpa using c2
        · exact al j (by omega)
    · obtain ⟨a, b, rfl, k5, S5, al⟩ := hW
      exact (pigeon al).elim
def sp__law_bad_name (K : PySem.W.Frag) : Sp := fun vs H Q _ => ∃ (s cl : Addr) (n : Nat), vs = [.ref s] ∧ Sto s cl n H ∧ n + 12 < 1000000000000 ∧
  ∀ (l : List Nat) H', ¬ IsNm l → Fine l → Keep s H H' → Sto s cl (n + 12) H' → Q (.str (S l)) H'
theorem sc__law_bad_name : FnScope ["store", "style", "name", "at"] ["store"] (defScope (topS 63)) := ⟨rfl, rfl, rfl, by decide +kernel, rfl, by decide +kernel, by decide +kernel⟩
theorem ok__law_bad_name {P : Program} {w : World} {K : PySem.W.Frag} {mg : Str → Option Value} {base : Heap} (T : Top K mg) : FnOk P w K mg base CX0 5 T.a__law_bad_name T.fd__law_bad_name ["store"] (sp__law_bad_name K) := by
  refine T.F__law_bad_name.ok (k := 4) sc__law_bad_name (fun vs H Q E h => ?_) (fun cdv A outer s0 H vs Q E hr h => ?_)
  · obtain ⟨s, cl, n, rfl, _⟩ := h; rfl
  · have sc := sc__law_bad_name
    refine ⟨_, (pss_cons (ps_set (i := 1) sc.nd rfl (by first | exact Or.inl rfl | exact Or.inr rfl) (pe_call (ok__law_take T) (hr.mono (by decide)) (by rfl) T.g__law_take T.F__law_take.kp T.b__law_take .nil pass0 (pa_cons (xv 0) (pa_cons pe_int pa_nil))))
      (pss_cons (ps_set (i := 2) sc.nd rfl (by first | exact Or.inl rfl | exact Or.inr rfl) (pe_call (ok__law_raw_name T) (hr.mono (by decide)) (by rfl) T.g__law_raw_name T.F__law_raw_name.kp T.b__law_raw_name .nil pass0 (pa_cons (xv 0) pa_nil)))
      (pss_cons (xs_if (xtc xo_lt (xv 1) pe_int (nomark _)) (pss_one (ps_ret (pe_ix (kix (K := K) rfl) (pe_lst (pa_cons pe_str (pa_cons pe_str (pa_cons pe_str pa_nil)))) (xv 1) (fun _ _ => rfl)))) pss_nil)
      (pss_cons (xs_if (xtc (ko_eq (K := K) rfl hr.units) (xv 1) pe_int (nomark _)) (pss_one (ps_ret (pe_op (ko_add (K := K) rfl) (pe_call (ok__law_pick T) (hr.mono (by decide)) (by rfl) T.g__law_pick T.F__law_pick.kp T.b__law_pick .nil pass0 (pa_cons (xv 0) (pa_cons pe_str pa_nil))) (pe_slice (ksl (K := K) rfl) (xv 2) po_none (po_some pe_int))))) pss_nil)
      (pss_cons (xs_if (xtc (ko_eq (K := K) rfl hr.units) (xv 1) pe_int (nomark _)) (pss_one (ps_ret (pe_slice (ksl (K := K) rfl) (pe_op xo_mul (xv 2) pe_int) po_none (po_some pe_int)))) pss_nil)
      (pss_cons (xs_if (xtc (ko_eq (K := K) rfl hr.units) (xv 1) pe_int (nomark _)) (pss_one (ps_ret (pe_slice (ksl (K := K) rfl) (pe_op xo_mul (xv 2) pe_int) po_none (po_some (pe_op (ko_add (K := K) rfl) pe_int (pe_call (ok__law_take T) (hr.mono (by decide)) (by rfl) T.g__law_take T.F__law_take.kp T.b__law_take .nil pass0 (pa_cons (xv 0) (pa_cons pe_int pa_nil)))))))) pss_nil)
      (pss_cons (xs_if (xtc (ko_eq (K := K) rfl hr.units) (xv 1) pe_int (nomark _)) (pss_one (ps_ret (pe_upper (xv 2)))) pss_nil)
      (pss_cons (ps_set (i := 3) sc.nd rfl (by first | exact Or.inl rfl | exact Or.inr rfl) (pe_call (ok__law_take T) (hr.mono (by decide)) (by rfl) T.g__law_take T.F__law_take.kp T.b__law_take .nil pass0 (pa_cons (xv 0) (pa_cons (pe_op (ko_add (K := K) rfl) (pe_callB (kc_len (K := K) rfl) (by rfl) T.n_len (by decide +kernel) (pa_cons (xv 2) pa_nil)) pe_int) pa_nil))))
      (pss_one (ps_ret (pe_op (ko_add (K := K) rfl) (pe_op (ko_add (K := K) rfl) (pe_slice (ksl (K := K) rfl) (xv 2) po_none (po_some (xv 3))) (pe_call (ok__law_pick T) (hr.mono (by decide)) (by rfl) T.g__law_pick T.F__law_pick.kp T.b__law_pick .nil pass0 (pa_cons (xv 0) (pa_cons pe_str pa_nil)))) (pe_slice (ksl (K := K) rfl) (xv 2) (po_some (xv 3)) po_none)))))))))))), ?_⟩
    obtain ⟨s, cl, n, rfl, St, hn, q⟩ := h
    rw [lit_e, lit_sea, lit_it, lit_dg, lit_bad]
    refine ⟨s, cl, n, _, rfl, St, by omega, by decide, fun sty H1 _ k1 S1 => ?_⟩
    refine ⟨s, cl, n + 1, rfl, S1, by omega, fun l H2 nm k2 S2 => ?_⟩
    have k12 := k1.trans k2
    have l8 := nm.l1
    have fl := nm.fine
    have lp := List.length_pos_iff.mpr nm.ne
    have sz : (S l).length ≤ sizeLine := by rw [S_len, sl_big]; omega
    refine ⟨fun c => ?_, fun c1 => ⟨fun c => ?_, fun c2 => ⟨fun c => ?_, fun c3 => ⟨fun c => ?_, fun c4 => ⟨fun c => ?_, fun c5 => ?_⟩⟩⟩⟩⟩
    · have c' : (sty : Int) < 3 := of_decide_eq_true c
      refine ⟨sl_of (n := 3) rfl, fun w hw => ?_⟩
      have kk : ∀ o, Keep s H (upd H2 w o) := fun o => k12.trans (Keep.new hw)
      have SS : ∀ o, Sto s cl (n + 12) (upd H2 w o) := fun o => (S2.new hw).mono (by omega)
      have : sty = 0 ∨ sty = 1 ∨ sty = 2 := by omega
      rcases this with rfl | rfl | rfl
      · refine ⟨_, _, Sq.l upd_same, atI_nat (j := 0) rfl, ?_⟩
        exact q [] _ (fun z => z.ne rfl) ⟨by decide, by simp⟩ (kk _) (SS _)
      · refine ⟨_, _, Sq.l upd_same, atI_nat (j := 1) rfl, ?_⟩
        exact q _ _ (fun z => z.ns rfl) ⟨by decide, by decide⟩ (kk _) (SS _)
      · refine ⟨_, _, Sq.l upd_same, atI_nat (j := 2) rfl, ?_⟩
        exact q _ _ (fun z => z.ni rfl) ⟨by decide, by decide⟩ (kk _) (SS _)
    · refine ⟨s, cl, n + 10, S2, by omega, .inl ⟨_, rfl, by decide, by decide, fun c' H3 hc' k3 S3 => ?_⟩⟩
      have dg : 48 ≤ c' ∧ c' ≤ 57 := by
        have : ∀ x ∈ ([48, 49, 50, 51, 52, 53, 54, 55, 56, 57] : List Nat), 48 ≤ x ∧ x ≤ 57 := by decide
        exact this c' hc'
      refine ⟨7, rfl, sz, ?_⟩
      rw [cut7]
      have tl : (l.take 7).length ≤ 7 := by rw [List.length_take]; omega
      refine ⟨by rw [S_len, S_len, sl_big]; show 1 + _ ≤ _; omega, ?_⟩
      rw [S_cat]
      refine q _ _ (not_word_head (by unfold low; rw [decide_eq_false (by omega : ¬ 97 ≤ c')]; rfl)) ⟨by show (l.take 7).length + 1 ≤ _; omega, fun x hx => ?_⟩ (k12.trans k3) (S3.mono (by omega))
      rcases List.mem_cons.mp hx with e | hx
      · omega
      · exact fl.a x (List.mem_of_mem_take hx)
    · refine ⟨mul_ok l 9 (by decide) (by rw [sl_big]; omega), ?_⟩
      rw [show PySem.Txt.mul (S l) 9 = S (rep 9 l) from mul_S l 9]
      refine ⟨9, rfl, by rw [S_len, rep_len, sl_big]; omega, ?_⟩
      rw [cut9]
      have tl : ((rep 9 l).take 9).length = 9 := by rw [List.length_take, rep_len]; omega
      exact q _ _ (fun z => by have := z.l1; omega) ⟨by omega, fun x hx => fl.a x (rep_sub (List.mem_of_mem_take hx))⟩ k12 (S2.mono (by omega))
    · refine ⟨mul_ok l 100 (by decide) (by rw [sl_big]; omega), ?_⟩
      rw [show PySem.Txt.mul (S l) 100 = S (rep 100 l) from mul_S l 100]
      refine ⟨s, cl, n + 10, _, rfl, S2, by omega, by decide, fun r H3 hr k3 S3 => ?_⟩
      refine ⟨_, rfl, by rw [S_len, rep_len, sl_big]; omega, ?_⟩
      rw [show (9 : Int) + (r : Nat) = ((9 + r : Nat) : Int) by omega, cut_to]
      have tl : ((rep 100 l).take (9 + r)).length = min (9 + r) (100 * l.length) := by rw [List.length_take, rep_len]
      exact q _ _ (fun z => by have := z.l1; omega) ⟨by omega, fun x hx => fl.a x (rep_sub (List.mem_of_mem_take hx))⟩ (k12.trans k3) (S3.mono (by omega))
    · refine ⟨⟨_, rfl⟩, _, rfl, rfl, by rw [S_len]; omega, ?_⟩
      rw [upper_S fl.all]
      exact q _ _ (up_not nm) (up_fine fl) k12 (S2.mono (by omega))
    · refine ⟨sz, s, cl, n + 10, _, rfl, S2, by omega, by rw [S_len]; omega, fun a H3 ha k3 S3 => ?_⟩
      refine ⟨_, rfl, sz, ?_⟩
      rw [cut_to]
      refine ⟨s, cl, n + 11, S3, by omega, .inl ⟨badL, rfl, by decide, by decide, fun c' H4 hc' k4 S4 => ?_⟩⟩
      have tl1 : (l.take a).length ≤ 8 := by rw [List.length_take]; omega
      have tl2 : (l.drop a).length ≤ 8 := by rw [List.length_drop]; omega
      refine ⟨by rw [S_len, S_len, sl_big]; show _ + 1 ≤ _; omega, ?_⟩
      rw [S_cat]
      refine ⟨_, rfl, sz, ?_⟩
      rw [cut_from]
      refine ⟨by rw [S_len, S_len, List.length_append, sl_big]; show _ + 1 + _ ≤ _; omega, ?_⟩
      rw [S_cat]
      have hb : lowD c' = false ∧ c' < 128 := by
        have : ∀ x ∈ badL, lowD x = false ∧ x < 128 := by decide
        exact this c' hc'
      refine q _ _ (not_nm_bad (c := c') (by simp) hb.1) ⟨by rw [List.length_append, List.length_append]; show _ + 1 + _ ≤ _; omega, fun x hx => ?_⟩ (k12.trans (k3.trans k4)) (S4.mono (by omega))
      rcases List.mem_append.mp hx with hx | hx
      · rcases List.mem_append.mp hx with hx | hx
        · exact fl.a x (List.mem_of_mem_take hx)
        · rw [List.mem_singleton.mp hx]; exact hb.2
      · exact fl.a x (List.mem_of_mem_drop hx)
theorem caught {K : PySem.W.Frag} {H : Hp} {kd : Kd} {v : V} {i : Nat} {Wout : WX} {D : Ends} {σ : L2.St} (hi : i < σ.length) (x : PySem.W.exmOne K (.ref (cA K kd.nm)) (.ref (cA K "RiverError")) = some true)
    (q : ∀ r H2, Same H H2 → H r = none → H2 r = some (.tup [.str "refused", .str kd.nm, v]) → D.rt (.ref r) H2) : Er K (WE (wAs K (.ref (cA K "RiverError")) i (tTold (sp__law_refused K) i) Wout D) σ) H kd v := by
  intro d hd
  refine ⟨true, x, fun _ a ha => ?_, fun c => by cases c⟩
  have e : (σ.set i (some (.ref a)))[i]? = some (some (V.ref a)) := by simp [hi]
  show xV i _ _ _
  unfold xV
  rw [e]
  exact ⟨rfl, kd, d, v, rfl, rfl, upd_same, fun r H2 s2 fr hr => q r H2 ((same_new hd).trans s2) ((same_new hd).free fr) hr⟩
def sp__law_tried (K : PySem.W.Frag) : Sp := fun vs H Q E => ∃ (w : W4) (p : Addr) (ts : List (List Nat)) (t : List Nat) (n : V), vs = [.str (S w.cs), .ref p, .str (S t), n] ∧ Lx H p (sv ts) ∧ ts.length ≤ 1000 ∧ NumV n ∧
  ∀ o r H', due ts t n w o → (∀ ls u, o = .lst ls → H' r = some (.tup [.str "told", .ref u]) → H u = none) → Shown H' r o → Same H H' → H r = none → Q (.ref r) H'
theorem sc__law_tried : FnScope ["word", "liking", "thing", "at", "e"] ["word", "liking", "thing", "at"] (defScope (topS 68)) := ⟨rfl, rfl, rfl, by decide +kernel, rfl, by decide +kernel, by decide +kernel⟩
theorem ok__law_tried {P : Program} {w : World} {K : PySem.W.Frag} {mg : Str → Option Value} {base : Heap} (T : Top K mg) : FnOk P w K mg base CX0 5 T.a__law_tried T.fd__law_tried ["word", "liking", "thing", "at"] (sp__law_tried K) := by
  refine T.F__law_tried.ok (k := 4) sc__law_tried (fun vs H Q E h => ?_) (fun cdv A outer s0 H vs Q E hr h => ?_)
  · obtain ⟨w, p, ts, t, n, rfl, _⟩ := h; rfl
  · have sc := sc__law_tried
    refine ⟨_, (pss_one (ps_tried (i := 4) (c := .ref (cA K "RiverError")) (Wout := fun _ _ _ _ => False) rfl rfl sc.nd rfl rfl ⟨by rfl, by decide, .inl T.gc_RiverError⟩ takesN0 (fun W pn xe tk => (pss_cons (xs_if (xtc (ko_eq (K := K) rfl hr.units) (xv 0) pe_str (nomark _)) (pss_one (ps_ret (pe_tup (pa_cons pe_str (pa_cons (pe_callS (ok_rank T) (hr.mono (by decide)) (by rfl) T.g_rank T.F_rank.kp T.b_rank (fun σ => L2N.passAt tk σ) (pa_cons (xv 1) (pa_cons (xv 2) pa_nil))) pa_nil))))) pss_nil)
      (pss_cons (xs_if (xtc (ko_eq (K := K) rfl hr.units) (xv 0) pe_str (nomark _)) (pss_one (ps_ret (pe_tup (pa_cons pe_str (pa_cons (pe_callS (ok_dropped T) (hr.mono (by decide)) (by rfl) T.g_dropped T.F_dropped.kp T.b_dropped (fun σ => L2N.passAt tk σ) (pa_cons (xv 1) (pa_cons (xv 2) pa_nil))) pa_nil))))) pss_nil)
      (pss_cons (xs_if (xtc (ko_eq (K := K) rfl hr.units) (xv 0) pe_str (nomark _)) (pss_one (ps_ret (pe_tup (pa_cons pe_str (pa_cons (pe_callS (ok_inserted T) (hr.mono (by decide)) (by rfl) T.g_inserted T.F_inserted.kp T.b_inserted (fun σ => L2N.passAt tk σ) (pa_cons (xv 1) (pa_cons (xv 2) (pa_cons (xv 3) pa_nil)))) pa_nil))))) pss_nil)
      (pss_one (ps_ret (pe_tup (pa_cons pe_str (pa_cons (pe_callS (ok_exchanged T) (hr.mono (by decide)) (by rfl) T.g_exchanged T.F_exchanged.kp T.b_exchanged (fun σ => L2N.passAt tk σ) (pa_cons (xv 1) (pa_cons (xv 3) pa_nil))) pa_nil))))))))) (ok__law_refused T) (roomH_of (hr.mono (by decide))) (by rfl) T.g__law_refused T.F__law_refused.kp T.b__law_refused)), ?_⟩
    obtain ⟨w, p, ts, t, n, rfl, hp, hl, nv, q⟩ := h
    rw [lit_rank, lit_dropped, lit_inserted]
    have err : ∀ (Wout : WX) (σ : L2.St) (kd : Kd) (v : V), 4 < σ.length → due ts t n w (.err kd v) → Er K (WE (wAs K (.ref (cA K "RiverError")) 4 (tTold (sp__law_refused K) 4) Wout { nx := fun _ H' => Q .non H', rt := Q }) σ) H kd v := fun Wout σ kd v hs d =>
      caught hs (T.exm kd) fun r H2 s2 fr hr => q (.err kd v) r H2 d (fun _ _ z => by cases z) hr s2 fr
    have lst : ∀ {ls u H1}, due ts t n w (.lst ls) → Same H H1 → H u = none → H1 u = some (.lst (sv ls)) → ∀ r, H1 r = none → Q (.ref r) (upd H1 r (.tup [.str "told", .ref u])) := fun {ls u H1} d s fu hu r hr =>
      q (.lst ls) r _ d (fun _ u2 _ z => by rw [upd_same] at z; cases z; exact fu) ⟨u, upd_same, same_new hr _ _ hu⟩ (s.trans (same_new hr)) (s.free hr)
    cases w with
    | rank =>
      refine ⟨fun c => ?_, fun c => absurd c (by decide)⟩
      refine ⟨p, ts, t, rfl, hp, hl, fun i gi fi => ⟨sl_of (n := 2) rfl, fun r hr => ?_⟩, fun no => err _ _ .thing _ (Nat.le_of_ble_eq_true rfl) (.inl ⟨no, rfl⟩)⟩
      exact q (.int i) r _ (.inr ⟨i, gi, fi, rfl⟩) (fun _ _ z => by cases z) upd_same (same_new hr) hr
    | dropped =>
      refine ⟨fun c => absurd c (by decide), fun c => ⟨fun c => ?_, fun c => absurd c (by decide)⟩⟩
      exact ⟨p, ts, t, rfl, hp.lt, hl, fun y u H1 s fu hu => ⟨sl_of (n := 2) rfl, fun r hr => lst (.inr ⟨y, rfl⟩) s fu hu r hr⟩, fun no => err _ _ .thing _ (Nat.le_of_ble_eq_true rfl) (.inl ⟨no, rfl⟩)⟩
    | inserted =>
      refine ⟨fun c => absurd c (by decide), fun c => ⟨fun c => absurd c (by decide), fun c => ⟨fun c => ?_, fun c => absurd c (by decide)⟩⟩⟩
      exact ⟨p, ts, t, n, rfl, hp.lt, hl, nv, fun no m e l u H1 s fu hu => ⟨sl_of (n := 2) rfl, fun r hr => lst (.inr (.inr ⟨m, no, e, l, rfl⟩)) s fu hu r hr⟩, fun y => err _ _ .dup _ (Nat.le_of_ble_eq_true rfl) (.inl ⟨y, rfl⟩), fun no bad => err _ _ .num _ (Nat.le_of_ble_eq_true rfl) (.inr (.inl ⟨no, bad, rfl⟩))⟩
    | exchanged =>
      refine ⟨fun c => absurd c (by decide), fun c => ⟨fun c => absurd c (by decide), fun c => ⟨fun c => absurd c (by decide), fun c => ?_⟩⟩⟩
      exact ⟨p, ts, n, rfl, hp.lt, hl, nv, fun m a b e ga gb u H1 s fu hu => ⟨sl_of (n := 2) rfl, fun r hr => lst (.inr ⟨m, a, b, e, ga, gb, rfl⟩) s fu hu r hr⟩, fun bad => err _ _ .num _ (Nat.le_of_ble_eq_true rfl) (.inl ⟨bad, rfl⟩)⟩
def sp__law_names (K : PySem.W.Frag) : Sp := fun vs H Q _ => ∃ (s cl : Addr) (n : Nat) (m : Nat), vs = [.ref s, .int (m : Nat)] ∧ Sto s cl n H ∧ n + 300 < 1000000000000 ∧ m ≤ 26 ∧
  ∀ (p : Addr) (ts : List (List Nat)) H', ts.length = m → ts.Nodup → (∀ t ∈ ts, IsNm t) → H p = none → H' p = some (.lst (sv ts)) → Keep s H H' → Sto s cl (n + 300) H' → Q (.ref p) H'
theorem sc__law_names : FnScope ["store", "many", "style", "letters", "names", "stem", "at", "k", "letter"] ["store", "many"] (defScope (topS 62)) := ⟨rfl, rfl, rfl, by decide +kernel, rfl, by decide +kernel, by decide +kernel⟩
theorem ok__law_names {P : Program} {w : World} {K : PySem.W.Frag} {mg : Str → Option Value} {base : Heap} (T : Top K mg) : FnOk P w K mg base CX0 6 T.a__law_names T.fd__law_names ["store", "many"] (sp__law_names K) := by
  refine T.F__law_names.ok (k := 5) sc__law_names (fun vs H Q E h => ?_) (fun cdv A outer s0 H vs Q E hr h => ?_)
  · obtain ⟨s, cl, n, m, rfl, _⟩ := h; rfl
  · have sc := sc__law_names
    refine ⟨_, (pss_cons (ps_set (i := 2) sc.nd rfl (by first | exact Or.inl rfl | exact Or.inr rfl) (pe_call (ok__law_take T) (hr.mono (by decide)) (by rfl) T.g__law_take T.F__law_take.kp T.b__law_take .nil pass0 (pa_cons (xv 0) (pa_cons pe_int pa_nil))))
      (pss_cons (ps_set (i := 3) sc.nd rfl (by first | exact Or.inl rfl | exact Or.inr rfl) (pe_callTy (kc_list (K := K) rfl rfl) (by rfl) T.n_list (by decide +kernel) (pa_cons pe_str pa_nil)))
      (pss_cons (ps_set (i := 4) sc.nd rfl (by first | exact Or.inl rfl | exact Or.inr rfl) (pe_lst pa_nil))
      (pss_cons (ps_set (i := 5) sc.nd rfl (by first | exact Or.inl rfl | exact Or.inr rfl) pe_str)
      (pss_cons (ps_set (i := 6) sc.nd rfl (by first | exact Or.inl rfl | exact Or.inr rfl) pe_int)
      (xss_cut (xs_if (xtc (ko_eq (K := K) rfl hr.units) (xv 2) pe_int (nomark _)) (pss_cons (ps_set (i := 5) sc.nd rfl (by first | exact Or.inl rfl | exact Or.inr rfl) (pe_slice (ksl (K := K) rfl) (pe_op (ko_add (K := K) rfl) (pe_call (ok__law_raw_name T) (hr.mono (by decide)) (by rfl) T.g__law_raw_name T.F__law_raw_name.kp T.b__law_raw_name .nil pass0 (pa_cons (xv 0) pa_nil)) pe_str) po_none (po_some (pe_op (ko_add (K := K) rfl) pe_int (pe_call (ok__law_take T) (hr.mono (by decide)) (by rfl) T.g__law_take T.F__law_take.kp T.b__law_take .nil pass0 (pa_cons (xv 0) (pa_cons pe_int pa_nil)))))))
      (pss_one (ps_set (i := 6) sc.nd rfl (by first | exact Or.inl rfl | exact Or.inr rfl) (pe_call (ok__law_take T) (hr.mono (by decide)) (by rfl) T.g__law_take T.F__law_take.kp T.b__law_take .nil pass0 (pa_cons (xv 0) (pa_cons (pe_op (ko_add (K := K) rfl) (pe_callB (kc_len (K := K) rfl) (by rfl) T.n_len (by decide +kernel) (pa_cons (xv 5) pa_nil)) pe_int) pa_nil)))))) pss_nil)
      (pss_cons (ps_for PassesOwn.never rfl (pi_range1 (by rfl) T.n_range (pa_cons (xv 1) pa_nil)) (pg_name (i := 7) sc.nd rfl (by first | exact Or.inl rfl | exact Or.inr rfl)) (pss_one (xs_if (xtc xo_gt (xv 2) pe_int (nomark _)) (pss_one (ps_expr (ke_bm (K := K) rfl PySem.F.plainAttrs_list PySem.F.slot_list_append PySem.F.type_list_append xm_append (xv 4) (pa_cons (pe_call (ok__law_name T) (hr.mono (by decide)) (by rfl) T.g__law_name T.F__law_name.kp T.b__law_name .nil pass0 (pa_cons (xv 0) (pa_cons (xv 4) pa_nil))) pa_nil)))) (pss_cons (ps_set (i := 8) sc.nd rfl (by first | exact Or.inl rfl | exact Or.inr rfl) (ke_bm (K := K) rfl PySem.F.plainAttrs_list PySem.F.slot_list_pop PySem.F.type_list_pop xm_pop (xv 3) (pa_cons (pe_call (ok__law_take T) (hr.mono (by decide)) (by rfl) T.g__law_take T.F__law_take.kp T.b__law_take .nil pass0 (pa_cons (xv 0) (pa_cons (pe_callB (kc_len (K := K) rfl) (by rfl) T.n_len (by decide +kernel) (pa_cons (xv 3) pa_nil)) pa_nil))) pa_nil)))
      (xss_cut (xs_if (xtc (ko_eq (K := K) rfl hr.units) (xv 2) pe_int (nomark _)) (pss_one (ps_set (i := 8) sc.nd rfl (by first | exact Or.inl rfl | exact Or.inr rfl) (pe_op xo_mul (xv 8) (pe_op (ko_add (K := K) rfl) pe_int (pe_call (ok__law_take T) (hr.mono (by decide)) (by rfl) T.g__law_take T.F__law_take.kp T.b__law_take .nil pass0 (pa_cons (xv 0) (pa_cons pe_int pa_nil))))))) pss_nil)
      (pss_one (ps_expr (ke_bm (K := K) rfl PySem.F.plainAttrs_list PySem.F.slot_list_append PySem.F.type_list_append xm_append (xv 4) (pa_cons (pe_op (ko_add (K := K) rfl) (pe_op (ko_add (K := K) rfl) (pe_slice (ksl (K := K) rfl) (xv 5) po_none (po_some (xv 6))) (xv 8)) (pe_slice (ksl (K := K) rfl) (xv 5) (po_some (xv 6)) po_none)) pa_nil)))))))))
      (pss_one (ps_ret (xv 4)))))))))), ?_⟩
    obtain ⟨s, cl, n, m, rfl, St, hn, hm, q⟩ := h
    rw [lit_az, lit_quays, lit_e]
    refine ⟨s, cl, n, _, rfl, St, by omega, by decide, fun sty H1 _ k1 S1 => ?_⟩
    refine ⟨by rw [S_len, sl_big]; decide, fun la hla => ?_⟩
    rw [signs_S]
    refine ⟨sl_of (n := 0) rfl, fun na hna => ?_⟩
    have k2 : Keep s H (upd (upd H1 la (.lst (sv (aZ.map fun c => [c])))) na (.lst [])) := k1.trans ((Keep.new hla).trans (Keep.new hna))
    have S2 : Sto s cl (n + 1) (upd (upd H1 la (.lst (sv (aZ.map fun c => [c])))) na (.lst [])) := (S1.new hla).new hna
    have las : la ≠ s := S1.ne hla
    have lac : la ≠ cl := S1.nec hla
    have nas : na ≠ s := (S1.new hla).ne hna
    have nac : na ≠ cl := (S1.new hla).nec hna
    have lna : la ≠ na := ne_of_none upd_same hna
    have hna0 : H na = none := k1.free nas ((same_new hla).free hna)
    have hla0 : H la = none := k1.free las hla
    -- what is written to them is not seen from before
    have kput : ∀ {H' : Hp} {o : HO}, Keep s H H' → Keep s H (upd H' na o) := fun {H' o} k b u ne e => (upd_ne (ne_of_none e hna0)).trans (k b u ne e)
    have kputl : ∀ {H' : Hp} {o : HO}, Keep s H H' → Keep s H (upd H' la o) := fun {H' o} k b u ne e => (upd_ne (ne_of_none e hla0)).trans (k b u ne e)
    refine ⟨fun σ' H' => ∃ (st : List Nat) (a : Nat), σ' = [some (.ref s), some (.int (m : Nat)), some (.int (sty : Nat)), some (.ref la), some (.ref na), some (.str (S st)), some (.int (a : Nat)), none, none] ∧ (sty = 3 → word st = true ∧ 4 ≤ st.length ∧ st.length ≤ 7) ∧ (sty ≠ 3 → st = []) ∧
      H' la = some (.lst (sv (aZ.map fun c => [c]))) ∧ H' na = some (.lst []) ∧ Keep s H H' ∧ Sto s cl (n + 12) H', ?_, ?_⟩
    · refine ⟨fun c => ?_, fun c => ?_⟩
      · have c3 : (sty : Int) = 3 := of_decide_eq_true c
        refine ⟨s, cl, n + 1, rfl, S2, by omega, fun l H3 nm k3 S3 => ?_⟩
        have l8 := nm.l1
        have lp := List.length_pos_iff.mpr nm.ne
        refine ⟨by rw [S_len, S_len, sl_big]; show _ + 5 ≤ _; omega, ?_⟩
        rw [S_cat]
        refine ⟨s, cl, n + 10, _, rfl, S3, by omega, by decide, fun r H4 hr k4 S4 => ?_⟩
        have ll : (l ++ [113, 117, 97, 121, 115]).length = l.length + 5 := by rw [List.length_append]; rfl
        refine ⟨_, rfl, by rw [S_len, sl_big, ll]; omega, ?_⟩
        rw [show (4 : Int) + (r : Nat) = ((4 + r : Nat) : Int) by omega, cut_to]
        have wl : word (l ++ [113, 117, 97, 121, 115]) = true := word_app nm.w (by decide)
        have tl : ((l ++ [113, 117, 97, 121, 115]).take (4 + r)).length = min (4 + r) (l.length + 5) := by rw [List.length_take, ll]
        refine ⟨by rw [S_len, tl, sl_big]; omega, s, cl, n + 11, _, rfl, S4, by omega, by rw [S_len, tl]; omega, fun a H5 ha k5 S5 => ?_⟩
        refine ⟨_, a, rfl, fun _ => ⟨word_take wl (by omega), by rw [tl]; omega, by rw [tl]; omega⟩, fun h => absurd (by omega) h, ?_, ?_, k2.trans (k3.trans (k4.trans k5)), S5⟩
        · exact k5 _ _ las (k4 _ _ las (k3 _ _ las ((upd_ne lna).trans upd_same)))
        · exact k5 _ _ nas (k4 _ _ nas (k3 _ _ nas upd_same))
      · have c3 : ¬ (sty : Int) = 3 := of_decide_eq_false c
        exact ⟨[], 0, rfl, fun h => absurd (by omega) c3, fun _ => rfl, (upd_ne lna).trans upd_same, upd_same, k2, S2.mono (by omega)⟩
    rintro σ' H3 ⟨st, a, rfl, hst, hst', hl3, hn3, k3, S3⟩
    refine ⟨(m : Nat), rfl, by omega, by omega, ?_⟩
    rw [Int.toNat_natCast]
    refine for_range (lo := 0) (n := m) (fun i σ H4 => ∃ (x y : Option V) (ts : List (List Nat)) (ls : List Nat), σ = [some (.ref s), some (.int (m : Nat)), some (.int (sty : Nat)), some (.ref la), some (.ref na), some (.str (S st)), some (.int (a : Nat)), x, y] ∧
      ts.length = i ∧ ts.Nodup ∧ (∀ t ∈ ts, IsNm t) ∧ H4 na = some (.lst (sv ts)) ∧ Keep s H H4 ∧ Sto s cl (n + 12 + 11 * i) H4 ∧
      (sty ≤ 3 → H4 la = some (.lst (sv (ls.map fun c => [c]))) ∧ ls.length = 26 - i ∧ ls.Nodup ∧ (∀ c ∈ ls, low c = true) ∧ ∀ t ∈ ts, ∃ c r, c ∉ ls ∧ 1 ≤ r ∧ t = st.take a ++ rep r [c] ++ st.drop a))
      ⟨none, none, [], aZ, rfl, rfl, List.nodup_nil, (fun t ht => by simp at ht), hn3, k3, S3, fun _ => ⟨hl3, by decide, by decide, (fun c hc => mem_az.mp hc), fun t ht => by simp at ht⟩⟩ (fun i σ H4 hi hW => ?_) (fun σ H4 hW => ?_)
    · obtain ⟨x, y, ts, ls, rfl, e1, nd, nm, hn4, k4, S4, more⟩ := hW
      have hfin : Fines ts := fun t ht => (nm t ht).fine
      refine ⟨fun c => ?_, fun c => ?_⟩
      · have c3 : (3 : Int) < (sty : Nat) := of_decide_eq_true c
        refine ⟨tyL hn4, s, cl, n + 12 + 11 * i, na, ts, rfl, S4, by omega, hn4, nas, by omega, hfin, fun l H5 hno l8 fl isn k5 S5 => ?_⟩
        have nml := isn fun t ht => (nm t ht).w
        refine ⟨_, k5 _ _ nas hn4, by rw [sv_len, sl_big]; omega, ?_⟩
        refine ⟨_, _, ts ++ [l], ls, rfl, by rw [List.length_append, e1]; rfl, ?_, ?_, upd_same.trans (by rw [sv_app]; rfl), kput (k4.trans k5), (S5.put nas nac).mono (by omega), fun h => absurd h (by omega)⟩
        · exact List.nodup_append.mpr ⟨nd, (by simp), fun u hu v hv e => hno (by rw [List.mem_singleton.mp hv] at e; exact e ▸ hu)⟩
        · intro t ht
          rcases List.mem_append.mp ht with ht | ht
          · exact nm t ht
          · rw [List.mem_singleton.mp ht]; exact nml
      · have c3 : ¬ (3 : Int) < (sty : Nat) := of_decide_eq_false c
        obtain ⟨hl4, lsl, lnd, low', made⟩ := more (by omega)
        refine ⟨tyL hl4, _, Sq.l hl4, s, cl, n + 12 + 11 * i, _, rfl, S4, by omega, by rw [one_len]; omega, fun r H5 hr k5 S5 => ?_⟩
        rw [one_len] at hr
        have hr' : r < ls.length := by omega
        obtain ⟨c, hc⟩ : ∃ c, ls[r]? = some c := ⟨_, List.getElem?_eq_getElem hr'⟩
        have cl' : low c = true := low' c (List.mem_of_getElem? hc)
        obtain ⟨cno, lnd', lsub⟩ := nd_erase lnd hc
        refine ⟨_, r, _, k5 _ _ las hl4, rfl, by omega, one_get hc, ?_⟩
        rw [one_erase]
        have lsl' : (ls.eraseIdx r).length = 26 - (i + 1) := by rw [List.length_eraseIdx_of_lt hr', lsl]; omega
        have stw : (st = [] ∨ (word st = true ∧ 4 ≤ st.length ∧ st.length ≤ 7)) := by
          by_cases z : sty = 3
          · exact .inr (hst z)
          · exact .inl (hst' z)
        have st7 : st.length ≤ 7 := by rcases stw with rfl | ⟨_, _, h⟩; · exact Nat.zero_le _
                                       · exact h
        refine ⟨fun σ' H' => ∃ (q' : Nat) (x : Option V), σ' = [some (.ref s), some (.int (m : Nat)), some (.int (sty : Nat)), some (.ref la), some (.ref na), some (.str (S st)), some (.int (a : Nat)), x, some (.str (S (rep q' [c])))] ∧ 1 ≤ q' ∧ q' ≤ 8 ∧ (sty ≠ 2 → q' = 1) ∧
          H' la = some (.lst (sv ((ls.eraseIdx r).map fun c => [c]))) ∧ H' na = some (.lst (sv ts)) ∧ Keep s H H' ∧ Sto s cl (n + 12 + 11 * i + 2) H', ?_, ?_⟩
        · have hna5 : (upd H5 la (.lst (sv ((ls.eraseIdx r).map fun c => [c])))) na = some (.lst (sv ts)) := (upd_ne (Ne.symm lna)).trans (k5 _ _ nas hn4)
          have kk : Keep s H (upd H5 la (.lst (sv ((ls.eraseIdx r).map fun c => [c])))) := kputl (k4.trans k5)
          have SS : Sto s cl (n + 12 + 11 * i + 1) (upd H5 la (.lst (sv ((ls.eraseIdx r).map fun c => [c])))) := S5.put las lac
          refine ⟨fun c2 => ?_, fun c2 => ?_⟩
          · refine ⟨s, cl, n + 12 + 11 * i + 1, _, rfl, SS, by omega, by decide, fun r2 H6 hr2 k6 S6 => ?_⟩
            have e12 : (1 : Int) + (r2 : Nat) = ((1 + r2 : Nat) : Int) := by omega
            refine ⟨by rw [e12]; exact mul_ok _ _ (by omega) (by rw [sl_big]; show 1 * _ ≤ _; omega), ?_⟩
            rw [e12, mul_S]
            exact ⟨1 + r2, _, rfl, by omega, by omega, fun h => absurd (by have := of_decide_eq_true c2; omega) h, k6 _ _ las upd_same, k6 _ _ nas hna5, kk.trans k6, S6⟩
          · exact ⟨1, _, rfl, by omega, by omega, fun _ => rfl, upd_same, hna5, kk, SS.mono (by omega)⟩
        rintro σ' H6 ⟨q', x', rfl, q1, q8, qs, hl6, hn6, k6, S6⟩
        have rl : (rep q' [c]).length = q' := by rw [rep_len]; show q' * 1 = q'; omega
        have tl1 : (st.take a).length ≤ 7 := by rw [List.length_take]; omega
        have tl2 : (st.drop a).length ≤ 7 := by rw [List.length_drop]; omega
        have sz : (S st).length ≤ sizeLine := by rw [S_len, sl_big]; omega
        refine ⟨tyL hn6, _, rfl, sz, ?_⟩
        rw [cut_to]
        refine ⟨by rw [S_len, S_len, rl, sl_big]; omega, ?_⟩
        rw [S_cat]
        refine ⟨_, rfl, sz, ?_⟩
        rw [cut_from]
        refine ⟨by rw [S_len, S_len, List.length_append, rl, sl_big]; omega, ?_⟩
        rw [S_cat]
        refine ⟨_, hn6, by rw [sv_len, sl_big]; omega, ?_⟩
        have nml : IsNm (st.take a ++ rep q' [c] ++ st.drop a) := mid_nm (by
          rcases stw with h | ⟨h1, h2, h3⟩
          · exact .inl ⟨h, q1, q8⟩
          · refine .inr ⟨h1, h2, h3, qs fun e => ?_⟩
            have := hst' (by omega)
            rw [this] at h2
            simp at h2) cl'
        have old : ∀ t ∈ ts, ∃ c0 r0, c0 ∉ ls.eraseIdx r ∧ 1 ≤ r0 ∧ t = st.take a ++ rep r0 [c0] ++ st.drop a := fun t ht => by
          obtain ⟨c0, r0, h1, h2, h3⟩ := made t ht
          exact ⟨c0, r0, fun hm => h1 (lsub _ hm), h2, h3⟩
        have hno : (st.take a ++ rep q' [c] ++ st.drop a) ∉ ts := fun hm => by
          obtain ⟨c0, r0, h1, h2, h3⟩ := made _ hm
          have := mid_ne q1 h2 h3
          exact h1 (this ▸ List.mem_of_getElem? hc)
        refine ⟨_, _, ts ++ [st.take a ++ rep q' [c] ++ st.drop a], ls.eraseIdx r, rfl, by rw [List.length_append, e1]; rfl, ?_, ?_, upd_same.trans (by rw [sv_app]; rfl), kput k6, (S6.put nas nac).mono (by omega), fun h => ⟨(upd_ne lna).trans hl6, lsl', lnd', fun x hx => low' x (lsub x hx), ?_⟩⟩
        · exact List.nodup_append.mpr ⟨nd, (by simp), fun u hu v hv e => hno (by rw [List.mem_singleton.mp hv] at e; exact e ▸ hu)⟩
        · intro t ht
          rcases List.mem_append.mp ht with ht | ht
          · exact nm t ht
          · rw [List.mem_singleton.mp ht]; exact nml
        · intro t ht
          rcases List.mem_append.mp ht with ht | ht
          · exact old t ht
          · rw [List.mem_singleton.mp ht]; exact ⟨c, q', cno, q1, rfl⟩
    · obtain ⟨x, y, ts, ls, rfl, e1, nd, nm, hn4, k4, S4, more⟩ := hW
      exact q na ts H4 e1 nd nm hna0 hn4 k4 (S4.mono (by omega))
def sp__law_other (K : PySem.W.Frag) : Sp := fun vs H Q _ => ∃ (s cl : Addr) (n : Nat) (p : Addr) (ts : List (List Nat)), vs = [.ref s, .ref p] ∧ Sto s cl n H ∧ n + 14 < 1000000000000 ∧ H p = some (.lst (sv ts)) ∧ p ≠ s ∧ ts.length ≤ 250 ∧ (∀ t ∈ ts, t.length ≤ 200) ∧ Fines ts ∧
  ∀ (l : List Nat) H', Fine l → ((∀ t ∈ ts, IsNm t) → l ∉ ts) → Keep s H H' → Sto s cl (n + 14) H' → Q (.str (S l)) H'
theorem sc__law_other : FnScope ["store", "names", "style"] ["store", "names"] (defScope (topS 64)) := ⟨rfl, rfl, rfl, by decide +kernel, rfl, by decide +kernel, by decide +kernel⟩
theorem ok__law_other {P : Program} {w : World} {K : PySem.W.Frag} {mg : Str → Option Value} {base : Heap} (T : Top K mg) : FnOk P w K mg base CX0 6 T.a__law_other T.fd__law_other ["store", "names"] (sp__law_other K) := by
  refine T.F__law_other.ok (k := 5) sc__law_other (fun vs H Q E h => ?_) (fun cdv A outer s0 H vs Q E hr h => ?_)
  · obtain ⟨s, cl, n, p, ts, rfl, _⟩ := h; rfl
  · have sc := sc__law_other
    refine ⟨_, (pss_cons (ps_set (i := 2) sc.nd rfl (by first | exact Or.inl rfl | exact Or.inr rfl) (pe_call (ok__law_take T) (hr.mono (by decide)) (by rfl) T.g__law_take T.F__law_take.kp T.b__law_take .nil pass0 (pa_cons (xv 0) (pa_cons pe_int pa_nil))))
      (pss_cons (xs_if (xtc (ko_eq (K := K) rfl hr.units) (xv 2) pe_int (nomark _)) (pss_one (ps_ret (pe_call (ok__law_bad_name T) (hr.mono (by decide)) (by rfl) T.g__law_bad_name T.F__law_bad_name.kp T.b__law_bad_name .nil pass0 (pa_cons (xv 0) pa_nil)))) pss_nil)
      (xss_cut (xs_if (PW.pt (xw_and (xtc (ko_eq (K := K) rfl hr.units) (xv 2) pe_int (nomark _)) (pw_and1 (xtc xo_gt (pe_callB (kc_len (K := K) rfl) (by rfl) T.n_len (by decide +kernel) (pa_cons (xv 1) pa_nil)) pe_int (nomark _))))) (pss_one (ps_ret (pe_upper (pe_call (ok__law_pick T) (hr.mono (by decide)) (by rfl) T.g__law_pick T.F__law_pick.kp T.b__law_pick .nil pass0 (pa_cons (xv 0) (pa_cons (xv 1) pa_nil)))))) pss_nil)
      (xss_cut (xs_if (PW.pt (xw_and (xtc (ko_eq (K := K) rfl hr.units) (xv 2) pe_int (nomark _)) (pw_and1 (xtc xo_gt (pe_callB (kc_len (K := K) rfl) (by rfl) T.n_len (by decide +kernel) (pa_cons (xv 1) pa_nil)) pe_int (nomark _))))) (pss_one (ps_ret (pe_op (ko_add (K := K) rfl) (pe_call (ok__law_pick T) (hr.mono (by decide)) (by rfl) T.g__law_pick T.F__law_pick.kp T.b__law_pick .nil pass0 (pa_cons (xv 0) (pa_cons (xv 1) pa_nil))) pe_str))) pss_nil)
      (pss_one (ps_ret (pe_call (ok__law_name T) (hr.mono (by decide)) (by rfl) T.g__law_name T.F__law_name.kp T.b__law_name .nil pass0 (pa_cons (xv 0) (pa_cons (xv 1) pa_nil))))))))), ?_⟩
    obtain ⟨s, cl, n, p, ts, rfl, St, hn, hp, ps, hl, h200, hf, q⟩ := h
    rw [lit_nl]
    refine ⟨s, cl, n, _, rfl, St, by omega, by decide, fun sty H1 _ k1 S1 => ?_⟩
    refine ⟨fun c => ?_, fun c0 => ?_⟩
    · exact ⟨s, cl, n + 1, rfl, S1, by omega, fun l H2 no fl k2 S2 => q l H2 fl (fun al hm => no (al l hm)) (k1.trans k2) (S2.mono (by omega))⟩
    refine ⟨fun σ' H' => σ' = [some (.ref s), some (.ref p), some (.int (sty : Nat))] ∧ H' = H1, ?_, ?_⟩
    · refine ⟨fun c => ⟨_, Sq.l (k1 _ _ ps hp), fun c2 => ?_, fun _ => ⟨rfl, rfl⟩⟩, fun c => ⟨no_ft, fun _ => ⟨rfl, rfl⟩⟩⟩
      refine ⟨s, cl, n + 1, S1, by omega, .inr ⟨p, sv ts, rfl, k1 _ _ ps hp, ps, sv_nonempty (of_decide_eq_true c2), by rw [sv_len]; omega, fun v H2 hv k2 S2 => ?_⟩⟩
      obtain ⟨t, ht, rfl⟩ := sv_mem hv
      have ft := hf t ht
      have := ft.l
      refine ⟨⟨_, rfl⟩, _, rfl, rfl, by rw [S_len]; omega, ?_⟩
      rw [upper_S ft.all]
      exact q _ _ (up_fine ft) (fun al hm => up_not (al t ht) (al _ hm)) (k1.trans k2) (S2.mono (by omega))
    rintro σ' H2 ⟨rfl, rfl⟩
    refine ⟨fun σ' H' => σ' = [some (.ref s), some (.ref p), some (.int (sty : Nat))] ∧ H' = H2, ?_, ?_⟩
    · refine ⟨fun c => ⟨_, Sq.l (k1 _ _ ps hp), fun c2 => ?_, fun _ => ⟨rfl, rfl⟩⟩, fun c => ⟨no_ft, fun _ => ⟨rfl, rfl⟩⟩⟩
      refine ⟨s, cl, n + 1, S1, by omega, .inr ⟨p, sv ts, rfl, k1 _ _ ps hp, ps, sv_nonempty (of_decide_eq_true c2), by rw [sv_len]; omega, fun v H3 hv k2 S2 => ?_⟩⟩
      obtain ⟨t, ht, rfl⟩ := sv_mem hv
      have ft := hf t ht
      have t200 := h200 t ht
      refine ⟨by rw [S_len, S_len, sl_big]; show _ + 1 ≤ _; omega, ?_⟩
      rw [S_cat]
      refine q _ _ ⟨by rw [List.length_append]; show _ + 1 ≤ _; omega, fun x hx => ?_⟩ (fun al hm => not_nm_bad (c := 10) (by simp) (by decide) (al _ hm)) (k1.trans k2) (S2.mono (by omega))
      rcases List.mem_append.mp hx with hx | hx
      · exact ft.a x hx
      · rw [List.mem_singleton.mp hx]; decide
    rintro σ' H3 ⟨rfl, rfl⟩
    exact ⟨s, cl, n + 1, p, ts, rfl, S1, by omega, k1 _ _ ps hp, ps, hl, hf, fun l H4 no _ fl _ k2 S2 => q l H4 fl (fun _ => no) (k1.trans k2) (S2.mono (by omega))⟩
def sp__law_strings (K : PySem.W.Frag) : Sp := fun vs H Q _ => ∃ (s cl : Addr) (n : Nat) (m : Nat), vs = [.ref s, .int (m : Nat)] ∧ Sto s cl n H ∧ n + 302 < 1000000000000 ∧ m ≤ 26 ∧
  ∀ (p : Addr) (ts : List (List Nat)) H', ts.length = m → ts.Nodup → (∀ t ∈ ts, t.length ≤ 9) → Fines ts → H p = none → H' p = some (.lst (sv ts)) → Keep s H H' → Sto s cl (n + 302) H' → Q (.ref p) H'
theorem sc__law_strings : FnScope ["store", "many", "names", "style", "name"] ["store", "many"] (defScope (topS 65)) := ⟨rfl, rfl, rfl, by decide +kernel, rfl, by decide +kernel, by decide +kernel⟩
theorem ok__law_strings {P : Program} {w : World} {K : PySem.W.Frag} {mg : Str → Option Value} {base : Heap} (T : Top K mg) : FnOk P w K mg base CX0 7 T.a__law_strings T.fd__law_strings ["store", "many"] (sp__law_strings K) := by
  refine T.F__law_strings.ok (k := 6) sc__law_strings (fun vs H Q E h => ?_) (fun cdv A outer s0 H vs Q E hr h => ?_)
  · obtain ⟨s, cl, n, m, rfl, _⟩ := h; rfl
  · have sc := sc__law_strings
    refine ⟨_, (pss_cons (ps_set (i := 2) sc.nd rfl (by first | exact Or.inl rfl | exact Or.inr rfl) (pe_call (ok__law_names T) (hr.mono (by decide)) (by rfl) T.g__law_names T.F__law_names.kp T.b__law_names .nil pass0 (pa_cons (xv 0) (pa_cons (xv 1) pa_nil))))
      (pss_cons (ps_set (i := 3) sc.nd rfl (by first | exact Or.inl rfl | exact Or.inr rfl) (pe_call (ok__law_take T) (hr.mono (by decide)) (by rfl) T.g__law_take T.F__law_take.kp T.b__law_take .nil pass0 (pa_cons (xv 0) (pa_cons pe_int pa_nil))))
      (pss_cons (xs_if (xtc (ko_eq (K := K) rfl hr.units) (xv 3) pe_int (nomark _)) (pss_one (ps_ret (pe_lc (own := [("name", 4)]) (g := gName 4) rfl sc.nd (ki_seq (K := K) rfl (xv 2)) (blkOk_by (N := ["store", "many", "names", "style", "name"]) (sc := defScope (topS 65)) (by decide +kernel)) (fun _ _ _ _ _ => (pg_name (i := 4) sc.nd rfl (by first | exact Or.inl rfl | exact Or.inr rfl))) (fun _ _ _ _ _ => pts_nil) (fun _ _ _ _ _ => (pe_op (ko_add (K := K) rfl) pe_str (xv 4)))))) pss_nil)
      (pss_cons (xs_if (xtc (ko_eq (K := K) rfl hr.units) (xv 3) pe_int (nomark _)) (pss_one (ps_ret (pe_lc (own := [("name", 4)]) (g := gName 4) rfl sc.nd (ki_seq (K := K) rfl (xv 2)) (blkOk_by (N := ["store", "many", "names", "style", "name"]) (sc := defScope (topS 65)) (by decide +kernel)) (fun _ _ _ _ _ => (pg_name (i := 4) sc.nd rfl (by first | exact Or.inl rfl | exact Or.inr rfl))) (fun _ _ _ _ _ => pts_nil) (fun _ _ _ _ _ => (pe_upper (xv 4)))))) pss_nil)
      (xss_cut (xs_if (PW.pt (xw_and (xtc (ko_eq (K := K) rfl hr.units) (xv 3) pe_int (nomark _)) (pw_and1 (xtc xo_gt (xv 1) pe_int (nomark _))))) (pss_one (ps_asg pe_str (pg_sub (xv 2) (pe_call (ok__law_take T) (hr.mono (by decide)) (by rfl) T.g__law_take T.F__law_take.kp T.b__law_take .nil pass0 (pa_cons (xv 0) (pa_cons (xv 1) pa_nil))) xset))) pss_nil)
      (pss_one (ps_ret (xv 2)))))))), ?_⟩
    obtain ⟨s, cl, n, m, rfl, St, hn, hm, q⟩ := h
    rw [lit_sp, lit_e]
    refine ⟨s, cl, n, m, rfl, St, by omega, hm, fun p ts H1 e1 nd nm fp hp k1 S1 => ?_⟩
    have ps : p ≠ s := fun e => by obtain ⟨o, z⟩ := St.got; rw [← e, fp] at z; cases z
    have pc : p ≠ cl := St.nec fp
    refine ⟨s, cl, n + 300, _, rfl, S1, by omega, by decide, fun sty H2 _ k2 S2 => ?_⟩
    have hp2 := k2 _ _ ps hp
    have k12 := k1.trans k2
    have lz : (sv ts).length ≤ sizeLine := by rw [sv_len, sl_big]; omega
    refine ⟨fun c => ?_, fun c1 => ⟨fun c => ?_, fun c2 => ?_⟩⟩
    · refine .inl ⟨p, rfl, ⟨_, SqL.of hp2⟩, fun D hD => ?_⟩
      refine lc_f (xs := sv ts) (onS fun t => 32 :: t) (SqL.of hp2) hD lz (fun _ => rfl) (fun x acc Q' hx q' => ?_) ?_
      · obtain ⟨t, ht, rfl⟩ := sv_mem hx
        have := (nm t ht).l1
        refine ⟨by rw [S_len, S_len, sl_big]; show 1 + _ ≤ _; omega, ?_⟩
        rw [S_cat]
        exact q'
      · rw [sv_on]
        refine q D _ _ (by rw [List.length_map]; exact e1) (nd_map nd fun a _ b _ e => (List.cons.inj e).2) (fun t ht => ?_) (fun t ht => ?_) (k12.free (S2.ne hD) hD) upd_same (k12.trans (Keep.new hD)) ((S2.new hD).mono (by omega))
        · obtain ⟨u, hu, rfl⟩ := List.mem_map.mp ht
          have := (nm u hu).l1
          show u.length + 1 ≤ 9
          omega
        · obtain ⟨u, hu, rfl⟩ := List.mem_map.mp ht
          have := (nm u hu).l1
          refine ⟨by show u.length + 1 ≤ _; omega, fun x hx => ?_⟩
          rcases List.mem_cons.mp hx with e | hx
          · omega
          · exact (nm u hu).fine.a x hx
    · refine .inl ⟨p, rfl, ⟨_, SqL.of hp2⟩, fun D hD => ?_⟩
      refine lc_f (xs := sv ts) (onS fun t => t.map up1) (SqL.of hp2) hD lz (fun _ => rfl) (fun x acc Q' hx q' => ?_) ?_
      · obtain ⟨t, ht, rfl⟩ := sv_mem hx
        have := (nm t ht).l1
        refine ⟨⟨_, rfl⟩, _, rfl, rfl, by rw [S_len]; omega, ?_⟩
        rw [upper_S (nm t ht).fine.all]
        exact q'
      · rw [sv_on]
        refine q D _ _ (by rw [List.length_map]; exact e1) (nd_map nd fun a ha b hb e => up_inj (word_all (nm a ha).w) (word_all (nm b hb).w) e) (fun t ht => ?_) (fun t ht => ?_) (k12.free (S2.ne hD) hD) upd_same (k12.trans (Keep.new hD)) ((S2.new hD).mono (by omega))
        · obtain ⟨u, hu, rfl⟩ := List.mem_map.mp ht
          have := (nm u hu).l1
          rw [List.length_map]
          omega
        · obtain ⟨u, hu, rfl⟩ := List.mem_map.mp ht
          exact up_fine (nm u hu).fine
    refine ⟨fun σ' H' => ∃ us : List (List Nat), σ' = [some (.ref s), some (.int (m : Nat)), some (.ref p), some (.int (sty : Nat)), none] ∧ us.length = m ∧ us.Nodup ∧ (∀ t ∈ us, t.length ≤ 9) ∧ Fines us ∧ H' p = some (.lst (sv us)) ∧ Keep s H H' ∧ Sto s cl (n + 302) H', ?_, ?_⟩
    · have t9 : ∀ t ∈ ts, t.length ≤ 9 := fun t ht => Nat.le_trans (nm t ht).l1 (by decide)
      refine ⟨fun c => ⟨fun c3 => ?_, fun _ => ⟨ts, rfl, e1, nd, t9, nm_fines nm, hp2, k12, S2.mono (by omega)⟩⟩, fun c => ⟨no_ft, fun _ => ⟨ts, rfl, e1, nd, t9, nm_fines nm, hp2, k12, S2.mono (by omega)⟩⟩⟩
      have c3' : (0 : Int) < (m : Nat) := of_decide_eq_true c3
      refine ⟨s, cl, n + 301, _, rfl, S2, by omega, by omega, fun r H3 hr k3 S3 => ?_⟩
      have hp3 := k3 _ _ ps hp2
      refine ⟨_, r, hp3, by rw [sv_len, e1]; exact ixN_nat (by omega), ?_⟩
      rw [sv_set]
      have kk : Keep s H (upd H3 p (.lst (sv (ts.set r [])))) := fun b u ne e => (upd_ne (ne_of_none e fp)).trans ((k12.trans k3) b u ne e)
      refine ⟨_, rfl, by rw [List.length_set]; exact e1, nd_set nd (fun t ht => (nm t ht).ne), fun t ht => ?_, fun t ht => ?_, upd_same, kk, S3.put ps pc⟩
      · rcases List.mem_or_eq_of_mem_set ht with ht | e
        · exact t9 t ht
        · rw [e]; decide
      · rcases List.mem_or_eq_of_mem_set ht with ht | e
        · exact (nm t ht).fine
        · rw [e]; exact ⟨by decide, by simp⟩
    rintro σ' H3 ⟨us, rfl, u1, u2, u3, u4, u5, u6, u7⟩
    exact q p us H3 u1 u2 u3 u4 fp u5 u6 u7
theorem sc__law_same : FnScope ["actual", "expected", "k"] ["actual", "expected"] (defScope (topS 56)) := ⟨rfl, rfl, rfl, by decide +kernel, rfl, by decide +kernel, by decide +kernel⟩
def sp__law_same (K : PySem.W.Frag) : Sp := fun vs H Q _ => ∃ x y, vs = [x, y] ∧ Rep H 7 x y ∧ Q (.bl true) H
theorem same_step {P : Program} {w : World} {K : PySem.W.Frag} {mg : Str → Option Value} {base : Heap} (T : Top K mg) (n : Nat) (spI : Sp) (ih : FnOk P w K mg base CX0 n T.a__law_same T.fd__law_same ["actual", "expected"] spI)
    (hI : ∀ (m : Nat) (H : Hp) (x y : V) (Q : VK) (E : XK), n = m + 1 → Rep H m x y → Q (.bl true) H → spI [x, y] H Q E) :
    FnOk P w K mg base CX0 (n + 1) T.a__law_same T.fd__law_same ["actual", "expected"] (fun vs H Q _ => ∃ x y, vs = [x, y] ∧ Rep H n x y ∧ Q (.bl true) H) := by
  refine T.F__law_same.ok (k := n) sc__law_same (fun vs H Q E h => ?_) (fun cdv A outer s0 H vs Q E hr h => ?_)
  · obtain ⟨x, y, rfl, _⟩ := h; rfl
  · have sc := sc__law_same
    refine ⟨_, (pss_cons (xs_if (PW.pt (xw_or (xt (pe_callB (xc_isi .list) (by rfl) T.n_isinstance (by decide +kernel) (pa_cons (xv 1) (pa_cons (pe_bltn (v := .ty "list") (by rfl) T.n_list (by decide +kernel) rfl) pa_nil)))) (pw_or1 (xt (pe_callB (xc_isi .tuple) (by rfl) T.n_isinstance (by decide +kernel) (pa_cons (xv 1) (pa_cons (pe_bltn (v := .ty "tuple") (by rfl) T.n_tuple (by decide +kernel) rfl) pa_nil))))))) (xss_cut (xs_if (PW.pt (xw_and (xt (pe_callB (xc_isi .list) (by rfl) T.n_isinstance (by decide +kernel) (pa_cons (xv 1) (pa_cons (pe_bltn (v := .ty "list") (by rfl) T.n_list (by decide +kernel) rfl) pa_nil)))) (pw_and1 (pt_not (xt (pe_callB (xc_isi .list) (by rfl) T.n_isinstance (by decide +kernel) (pa_cons (xv 0) (pa_cons (pe_bltn (v := .ty "list") (by rfl) T.n_list (by decide +kernel) rfl) pa_nil)))))))) (pss_one (ps_ret pe_bl)) pss_nil)
      (xss_cut (xs_if (PW.pt (xw_and (xt (pe_callB (xc_isi .tuple) (by rfl) T.n_isinstance (by decide +kernel) (pa_cons (xv 1) (pa_cons (pe_bltn (v := .ty "tuple") (by rfl) T.n_tuple (by decide +kernel) rfl) pa_nil)))) (pw_and1 (pt_not (xt (pe_callB (xc_isi .tuple) (by rfl) T.n_isinstance (by decide +kernel) (pa_cons (xv 0) (pa_cons (pe_bltn (v := .ty "tuple") (by rfl) T.n_tuple (by decide +kernel) rfl) pa_nil)))))))) (pss_one (ps_ret pe_bl)) pss_nil)
      (pss_cons (xs_if (xtc (ko_ne (K := K) rfl hr.units) (pe_callB (kc_len (K := K) rfl) (by rfl) T.n_len (by decide +kernel) (pa_cons (xv 0) pa_nil)) (pe_callB (kc_len (K := K) rfl) (by rfl) T.n_len (by decide +kernel) (pa_cons (xv 1) pa_nil)) (nomark _)) (pss_one (ps_ret pe_bl)) pss_nil)
      (pss_cons (ps_for PassesOwn.never rfl (pi_range1 (by rfl) T.n_range (pa_cons (pe_callB (kc_len (K := K) rfl) (by rfl) T.n_len (by decide +kernel) (pa_cons (xv 1) pa_nil)) pa_nil)) (pg_name (i := 2) sc.nd rfl (by first | exact Or.inl rfl | exact Or.inr rfl)) (pss_one (xs_if (pt_not (xt (pe_call ih hr (by rfl) T.g__law_same T.F__law_same.kp T.b__law_same .nil pass0 (pa_cons (pe_ix (kix (K := K) rfl) (xv 0) (xv 2) (fun _ _ => rfl)) (pa_cons (pe_ix (kix (K := K) rfl) (xv 1) (xv 2) (fun _ _ => rfl)) pa_nil))))) (pss_one (ps_ret pe_bl)) pss_nil)))
      (pss_one (ps_ret pe_bl)))))) pss_nil)
      (pss_cons (xs_if (xtc xo_is (xv 1) pe_non (nomark _)) (pss_one (ps_ret (pe_cmpR xo_is (xv 0) pe_non (nomark _)))) pss_nil)
      (pss_cons (xs_if (xt (pe_callB (xc_isi .bool) (by rfl) T.n_isinstance (by decide +kernel) (pa_cons (xv 1) (pa_cons (pe_bltn (v := .ty "bool") (by rfl) T.n_bool (by decide +kernel) rfl) pa_nil)))) (pss_one (ps_ret (xe_and (pe_callB (xc_isi .bool) (by rfl) T.n_isinstance (by decide +kernel) (pa_cons (xv 0) (pa_cons (pe_bltn (v := .ty "bool") (by rfl) T.n_bool (by decide +kernel) rfl) pa_nil))) (pe_one (pe_cmpR (ko_eq (K := K) rfl hr.units) (xv 0) (xv 1) (nomark _)))))) pss_nil)
      (pss_cons (xs_if (xt (pe_callB (xc_isi .int) (by rfl) T.n_isinstance (by decide +kernel) (pa_cons (xv 1) (pa_cons (pe_bltn (v := .ty "int") (by rfl) T.n_int (by decide +kernel) rfl) pa_nil)))) (pss_one (ps_ret (xe_and (pe_callB (xc_isi .int) (by rfl) T.n_isinstance (by decide +kernel) (pa_cons (xv 0) (pa_cons (pe_bltn (v := .ty "int") (by rfl) T.n_int (by decide +kernel) rfl) pa_nil))) (xe_and (xe_not (pe_callB (xc_isi .bool) (by rfl) T.n_isinstance (by decide +kernel) (pa_cons (xv 0) (pa_cons (pe_bltn (v := .ty "bool") (by rfl) T.n_bool (by decide +kernel) rfl) pa_nil)))) (pe_one (pe_cmpR (ko_eq (K := K) rfl hr.units) (xv 0) (xv 1) (nomark _))))))) pss_nil)
      (pss_one (ps_ret (xe_and (pe_callB (xc_isi .str) (by rfl) T.n_isinstance (by decide +kernel) (pa_cons (xv 0) (pa_cons (pe_bltn (v := .ty "str") (by rfl) T.n_str (by decide +kernel) rfl) pa_nil))) (pe_one (pe_cmpR (ko_eq (K := K) rfl hr.units) (xv 0) (xv 1) (nomark _)))))))))), ?_⟩
    obtain ⟨x, y, rfl, hR, q⟩ := h
    have none_of : ∀ {v : V}, Rep H n x y → True := fun _ => trivial
    cases y with
    | ref b =>
      cases n with
      | zero => cases x <;> exact hR.elim
      | succ n =>
        cases x with
        | ref a =>
          have hI := fun H x y Q E => hI n H x y Q E rfl
          rcases hR with ⟨xs, ys, ha, hb, el, hz, hr'⟩ | ⟨xs, ys, ha, hb, el, hz, hr'⟩
          · refine ⟨rfl, .inl ⟨⟨_, hb⟩, fun _ => ⟨fun _ => ?_, no_tf⟩, fun c => no_tf c⟩⟩
            have sa : Sq K H a xs := Sq.l ha
            have sb : Sq K H b ys := Sq.l hb
            refine ⟨fun σ' H' => σ' = [some (.ref a), some (.ref b), none] ∧ H' = H, ?_, ?_⟩
            · exact ⟨rfl, .inl ⟨⟨_, hb⟩, fun _ => ⟨rfl, .inl ⟨⟨_, ha⟩, no_ft, fun _ => ⟨rfl, rfl⟩⟩⟩, fun c => no_tf c⟩⟩
            rintro σ' H' ⟨rfl, rfl⟩
            refine ⟨fun σ'' H'' => σ'' = [some (.ref a), some (.ref b), none] ∧ H'' = H', ?_, ?_⟩
            · exact ⟨rfl, .inl ⟨⟨_, hb⟩, fun c => no_ft c, fun _ => ⟨no_ft, fun _ => ⟨rfl, rfl⟩⟩⟩⟩
            rintro σ'' H'' ⟨rfl, rfl⟩
            refine ⟨_, sa, _, sb, fun c => ?_, fun _ => ?_⟩
            · have c' : (!decide (((xs.length : Nat) : Int) = ((ys.length : Nat) : Int))) = true := c
              rw [el, decide_eq_true rfl] at c'
              exact Bool.noConfusion c'
            refine ⟨_, sb, _, rfl, by omega, by omega, ?_⟩
            rw [Int.toNat_natCast]
            refine for_range (lo := 0) (n := ys.length) (fun i σ H3 => H3 = H'' ∧ ∃ z : Option V, σ = [some (.ref a), some (.ref b), z]) ⟨rfl, none, rfl⟩ (fun i σ H3 hi hW => ?_) (fun σ H3 hW => ?_)
            · obtain ⟨rfl, z, rfl⟩ := hW
              have gx : xs[i]? = some xs[i] := List.getElem?_eq_getElem (by omega)
              have gy : ys[i]? = some ys[i] := List.getElem?_eq_getElem hi
              refine ⟨xs, xs[i], sa, at_int (by omega) gx, ys, ys[i], sb, at_int (by omega) gy, ?_⟩
              exact hI _ _ _ _ _ (hr' i _ _ gx gy) ⟨no_ft, fun _ => ⟨rfl, _, rfl⟩⟩
            · obtain ⟨rfl, z, rfl⟩ := hW
              exact q
          · refine ⟨rfl, .inr ⟨⟨_, hb⟩, fun c => no_ft c, fun _ => ⟨rfl, .inr ⟨⟨_, hb⟩, fun _ => ?_, fun c => no_tf c⟩⟩⟩⟩
            have sa : Sq K H a xs := Sq.t ha
            have sb : Sq K H b ys := Sq.t hb
            refine ⟨fun σ' H' => σ' = [some (.ref a), some (.ref b), none] ∧ H' = H, ?_, ?_⟩
            · exact ⟨rfl, .inr ⟨⟨_, hb⟩, fun c => no_ft c, fun _ => ⟨no_ft, fun _ => ⟨rfl, rfl⟩⟩⟩⟩
            rintro σ' H' ⟨rfl, rfl⟩
            refine ⟨fun σ'' H'' => σ'' = [some (.ref a), some (.ref b), none] ∧ H'' = H', ?_, ?_⟩
            · exact ⟨rfl, .inr ⟨⟨_, hb⟩, fun _ => ⟨rfl, .inr ⟨⟨_, ha⟩, no_ft, fun _ => ⟨rfl, rfl⟩⟩⟩, fun c => no_tf c⟩⟩
            rintro σ'' H'' ⟨rfl, rfl⟩
            refine ⟨_, sa, _, sb, fun c => ?_, fun _ => ?_⟩
            · have c' : (!decide (((xs.length : Nat) : Int) = ((ys.length : Nat) : Int))) = true := c
              rw [el, decide_eq_true rfl] at c'
              exact Bool.noConfusion c'
            refine ⟨_, sb, _, rfl, by omega, by omega, ?_⟩
            rw [Int.toNat_natCast]
            refine for_range (lo := 0) (n := ys.length) (fun i σ H3 => H3 = H'' ∧ ∃ z : Option V, σ = [some (.ref a), some (.ref b), z]) ⟨rfl, none, rfl⟩ (fun i σ H3 hi hW => ?_) (fun σ H3 hW => ?_)
            · obtain ⟨rfl, z, rfl⟩ := hW
              have gx : xs[i]? = some xs[i] := List.getElem?_eq_getElem (by omega)
              have gy : ys[i]? = some ys[i] := List.getElem?_eq_getElem hi
              refine ⟨xs, xs[i], sa, at_int (by omega) gx, ys, ys[i], sb, at_int (by omega) gy, ?_⟩
              exact hI _ _ _ _ _ (hr' i _ _ gx gy) ⟨no_ft, fun _ => ⟨rfl, _, rfl⟩⟩
            · obtain ⟨rfl, z, rfl⟩ := hW
              exact q
        | _ => exact hR.elim
    | non =>
      have ex : x = .non := by cases x <;> first | rfl | (cases n <;> exact hR.elim)
      subst ex
      exact ⟨rfl, fun c => no_ft c, fun _ => ⟨rfl, fun c => no_ft c, fun _ => ⟨fun _ => q, fun c => no_tf c⟩⟩⟩
    | bl b =>
      have ex : x = .bl b := by cases x <;> first | (cases n <;> exact congrArg V.bl hR) | (cases n <;> exact hR.elim)
      subst ex
      refine ⟨rfl, fun c => no_ft c, fun _ => ⟨rfl, fun c => no_ft c, fun _ => ⟨fun c => absurd (of_decide_eq_true c) (by intro z; cases z), fun _ => ⟨rfl, fun _ => ⟨rfl, fun _ => ?_, fun c => no_tf c⟩, fun c => no_tf c⟩⟩⟩⟩
      have z : decide (b = b) = true := decide_eq_true rfl
      rw [← z] at q
      exact q
    | int i =>
      have ex : x = .int i := by cases x <;> first | (cases n <;> exact congrArg V.int hR) | (cases n <;> exact hR.elim)
      subst ex
      refine ⟨rfl, fun c => no_ft c, fun _ => ⟨rfl, fun c => no_ft c, fun _ => ⟨fun c => absurd (of_decide_eq_true c) (by intro z; cases z), fun _ => ⟨rfl, fun c => no_ft c, fun _ => ⟨rfl, fun _ => ⟨rfl, fun _ => ⟨rfl, fun _ => ?_, fun c => no_tf c⟩, fun c => no_tf c⟩, fun c => no_tf c⟩⟩⟩⟩⟩
      have z : decide (i = i) = true := decide_eq_true rfl
      rw [← z] at q
      exact q
    | str z =>
      have ex : x = .str z := by cases x <;> first | (cases n <;> exact congrArg V.str hR) | (cases n <;> exact hR.elim)
      subst ex
      refine ⟨rfl, fun c => no_ft c, fun _ => ⟨rfl, fun c => no_ft c, fun _ => ⟨fun c => absurd (of_decide_eq_true c) (by intro z; cases z), fun _ => ⟨rfl, fun c => no_ft c, fun _ => ⟨rfl, fun c => no_ft c, fun _ => ⟨rfl, fun _ => ?_, fun c => no_tf c⟩⟩⟩⟩⟩⟩
      have z : decide (z = z) = true := decide_eq_true rfl
      rw [← z] at q
      exact q
    | byt _ => cases n <;> cases x <;> exact hR.elim
    | flt _ => cases n <;> cases x <;> exact hR.elim
    | ty _ => cases n <;> cases x <;> exact hR.elim
theorem ok_same_n {P : Program} {w : World} {K : PySem.W.Frag} {mg : Str → Option Value} {base : Heap} (T : Top K mg) : ∀ n : Nat, FnOk P w K mg base CX0 (n + 1) T.a__law_same T.fd__law_same ["actual", "expected"] (fun vs H Q _ => ∃ x y, vs = [x, y] ∧ Rep H n x y ∧ Q (.bl true) H)
  | 0 => same_step T 0 _ fn_never (fun m _ _ _ _ _ e => by cases e)
  | n + 1 => same_step T (n + 1) _ (ok_same_n T n) (fun m H x y Q E e hR q => by cases e; exact ⟨x, y, rfl, hR, q⟩)
theorem ok__law_same {P : Program} {w : World} {K : PySem.W.Frag} {mg : Str → Option Value} {base : Heap} (T : Top K mg) : FnOk P w K mg base CX0 8 T.a__law_same T.fd__law_same ["actual", "expected"] (sp__law_same K) := ok_same_n T 7
theorem sc__law_spoil : FnScope ["value", "depth", "item"] ["value", "depth"] (defScope (topS 57)) := ⟨rfl, rfl, rfl, by decide +kernel, rfl, by decide +kernel, by decide +kernel⟩
def sp__law_spoil (K : PySem.W.Frag) : Sp := fun vs H Q _ => ∃ (x : V) (d : Nat) (u : Addr), vs = [x, .int (d : Nat)] ∧ d ≤ 7 ∧ Spo H u x ∧ ∀ H', Keep u H H' → (flatS x → H' = H) → Q .non H'
theorem spoil_step {P : Program} {w : World} {K : PySem.W.Frag} {mg : Str → Option Value} {base : Heap} (T : Top K mg) (n : Nat) (spI : Sp) (ih : FnOk P w K mg base CX0 n T.a__law_spoil T.fd__law_spoil ["value", "depth"] spI)
    (hI : ∀ (m : Nat) (H : Hp) (x : V) (u : Addr) (Q : VK) (E : XK) (d : Int), n = m + 1 → 0 ≤ d → d ≤ m → Spo H u x → (∀ H', Keep u H H' → (flatS x → H' = H) → Q .non H') → spI [x, .int d] H Q E) :
    FnOk P w K mg base CX0 (n + 1) T.a__law_spoil T.fd__law_spoil ["value", "depth"] (fun vs H Q _ => ∃ (x : V) (d : Nat) (u : Addr), vs = [x, .int (d : Nat)] ∧ d ≤ n ∧ Spo H u x ∧ ∀ H', Keep u H H' → (flatS x → H' = H) → Q .non H') := by
  refine T.F__law_spoil.ok (k := n) sc__law_spoil (fun vs H Q E h => ?_) (fun cdv A outer s0 H vs Q E hr h => ?_)
  · obtain ⟨x, d, u, rfl, _⟩ := h; rfl
  · have sc := sc__law_spoil
    refine ⟨_, (xss_cut (xs_if (PW.pt (xw_and (xtc xo_gt (xv 1) pe_int (nomark _)) (pw_and1 (xt (pe_callB (xc_isi .tuple) (by rfl) T.n_isinstance (by decide +kernel) (pa_cons (xv 0) (pa_cons (pe_bltn (v := .ty "tuple") (by rfl) T.n_tuple (by decide +kernel) rfl) pa_nil))))))) (pss_one (ps_for PassesOwn.never rfl (ki_seq (K := K) rfl (xv 0)) (pg_name (i := 2) sc.nd rfl (by first | exact Or.inl rfl | exact Or.inr rfl)) (pss_one (ps_expr (pe_call ih hr (by rfl) T.g__law_spoil T.F__law_spoil.kp T.b__law_spoil .nil pass0 (pa_cons (xv 2) (pa_cons (pe_op xo_sub (xv 1) pe_int) pa_nil))))))) pss_nil)
      (pss_one (xs_if (PW.pt (xw_and (xtc xo_gt (xv 1) pe_int (nomark _)) (pw_and1 (xt (pe_callB (xc_isi .list) (by rfl) T.n_isinstance (by decide +kernel) (pa_cons (xv 0) (pa_cons (pe_bltn (v := .ty "list") (by rfl) T.n_list (by decide +kernel) rfl) pa_nil))))))) (pss_cons (ps_for PassesOwn.never rfl (ki_seq (K := K) rfl (pe_callTy (kc_list (K := K) rfl rfl) (by rfl) T.n_list (by decide +kernel) (pa_cons (xv 0) pa_nil))) (pg_name (i := 2) sc.nd rfl (by first | exact Or.inl rfl | exact Or.inr rfl)) (pss_one (ps_expr (pe_call ih hr (by rfl) T.g__law_spoil T.F__law_spoil.kp T.b__law_spoil .nil pass0 (pa_cons (xv 2) (pa_cons (pe_op xo_sub (xv 1) pe_int) pa_nil))))))
      (pss_cons (ps_expr (pe_bm0 PySem.F.plainAttrs_list PySem.F.slot_list_reverse PySem.F.type_list_reverse xm_reverse (xv 0)))
      (pss_one (ps_expr (ke_bm (K := K) rfl PySem.F.plainAttrs_list PySem.F.slot_list_append PySem.F.type_list_append xm_append (xv 0) (pa_cons pe_str pa_nil)))))) pss_nil))), ?_⟩
    obtain ⟨x, d, u, rfl, hd, hS, q⟩ := h
    have step : ∀ {H' : Hp} {y : V} {Q' : VK} {E' : XK}, (0 : Int) < (d : Nat) → Spo H' u y → (∀ H2, Keep u H' H2 → (flatS y → H2 = H') → Q' .non H2) → spI [y, .int ((d : Nat) - 1)] H' Q' E' := fun {H' y Q' E'} c hy hq => by
      obtain ⟨m, rfl⟩ : ∃ m, n = m + 1 := ⟨n - 1, by omega⟩
      exact hI m H' y u Q' E' _ rfl (by omega) (by omega) hy hq
    refine ⟨fun σ' H' => (∃ y : Option V, σ' = [some x, some (.int (d : Nat)), y]) ∧ ((∃ p xs, x = .ref p ∧ H' p = some (.tup xs) ∧ Keep u H H') ∨ (∃ xs, x = .ref u ∧ H u = some (.lst xs) ∧ (∀ x ∈ xs, flatS x) ∧ xs.length ≤ 1000 ∧ H' = H) ∨ (flatS x ∧ H' = H)), ?_, ?_⟩
    · cases hS with
      | flat x h =>
        have M : (∃ y : Option V, ([some x, some (.int (d : Nat)), none] : L2.St) = [some x, some (.int (d : Nat)), y]) ∧ ((∃ p xs, x = .ref p ∧ H p = some (.tup xs) ∧ Keep u H H) ∨ (∃ xs, x = .ref u ∧ H u = some (.lst xs) ∧ (∀ x ∈ xs, flatS x) ∧ xs.length ≤ 1000 ∧ H = H) ∨ (flatS x ∧ H = H)) := ⟨⟨none, rfl⟩, .inr (.inr ⟨h, rfl⟩)⟩
        rcases h with ⟨z, rfl⟩ | ⟨z, rfl⟩ | ⟨z, rfl⟩
        · exact ⟨fun c => ⟨rfl, no_ft, fun _ => M⟩, fun c => ⟨no_ft, fun _ => M⟩⟩
        · exact ⟨fun c => ⟨rfl, no_ft, fun _ => M⟩, fun c => ⟨no_ft, fun _ => M⟩⟩
        · exact ⟨fun c => ⟨rfl, no_ft, fun _ => M⟩, fun c => ⟨no_ft, fun _ => M⟩⟩
      | lst xs h f l =>
        have M : (∃ y : Option V, ([some (.ref u), some (.int (d : Nat)), none] : L2.St) = [some (.ref u), some (.int (d : Nat)), y]) ∧ ((∃ p xs, V.ref u = .ref p ∧ H p = some (.tup xs) ∧ Keep u H H) ∨ (∃ xs, V.ref u = .ref u ∧ H u = some (.lst xs) ∧ (∀ x ∈ xs, flatS x) ∧ xs.length ≤ 1000 ∧ H = H) ∨ (flatS (.ref u) ∧ H = H)) := ⟨⟨none, rfl⟩, .inr (.inl ⟨xs, rfl, h, f, l, rfl⟩)⟩
        exact ⟨fun c => ⟨rfl, .inl ⟨⟨_, h⟩, no_ft, fun _ => M⟩⟩, fun c => ⟨no_ft, fun _ => M⟩⟩
      | tup p xs h f =>
        refine ⟨fun c => ⟨rfl, .inr ⟨⟨_, h⟩, fun _ => ?_, no_tf⟩⟩, fun c => ⟨no_ft, fun _ => ⟨⟨none, rfl⟩, .inl ⟨p, xs, rfl, h, Keep.refl⟩⟩⟩⟩
        have c0 : (0 : Int) < (d : Nat) := of_decide_eq_true c
        refine for_seq (xs := xs) (p := p) (fun i σ H' => (∃ y : Option V, σ = [some (.ref p), some (.int (d : Nat)), y]) ∧ H' = H) (Lt.t h) ⟨⟨none, rfl⟩, rfl⟩ (fun i σ H' hW => by rw [hW.2]) (fun i y σ H' hi hW => ?_) (fun σ H' hW => ?_)
        · obtain ⟨⟨y0, rfl⟩, rfl⟩ := hW
          have fy := f y (List.mem_of_getElem? hi)
          exact step c0 (.flat y fy) fun H2 k2 e2 => ⟨⟨_, rfl⟩, e2 fy⟩
        · obtain ⟨⟨y0, rfl⟩, rfl⟩ := hW
          exact ⟨⟨_, rfl⟩, .inl ⟨p, xs, rfl, h, Keep.refl⟩⟩
      | pair p a xs h g hu f l =>
        have pu : p ≠ u := fun z => by subst z; rw [h] at hu; cases hu
        refine ⟨fun c => ⟨rfl, .inr ⟨⟨_, h⟩, fun _ => ?_, no_tf⟩⟩, fun c => ⟨no_ft, fun _ => ⟨⟨none, rfl⟩, .inl ⟨p, _, rfl, h, Keep.refl⟩⟩⟩⟩
        have c0 : (0 : Int) < (d : Nat) := of_decide_eq_true c
        refine for_seq (xs := [a, .ref u]) (p := p) (fun i σ H' => (∃ y : Option V, σ = [some (.ref p), some (.int (d : Nat)), y]) ∧ Keep u H H' ∧ (i ≤ 1 → H' = H)) (Lt.t h) ⟨⟨none, rfl⟩, Keep.refl, fun _ => rfl⟩ (fun i σ H' hW => by rw [hW.2.1 _ _ pu h, h]) (fun i y σ H' hi hW => ?_) (fun σ H' hW => ?_)
        · obtain ⟨⟨y0, rfl⟩, kW, eW⟩ := hW
          match i, hi, eW with
          | 0, hi, eW =>
            have e : y = a := (Option.some.inj hi).symm
            subst e
            have e := eW (by decide)
            subst e
            exact step c0 (.flat y g) fun H2 k2 e2 => ⟨⟨_, rfl⟩, k2, fun _ => e2 g⟩
          | 1, hi, eW =>
            have e : y = .ref u := (Option.some.inj hi).symm
            subst e
            have e := eW (by decide)
            subst e
            exact step c0 (.lst xs hu f l) fun H2 k2 e2 => ⟨⟨_, rfl⟩, k2, fun z => by omega⟩
          | i + 2, hi, eW => cases hi
        · obtain ⟨⟨y0, rfl⟩, kW, eW⟩ := hW
          exact ⟨⟨_, rfl⟩, .inl ⟨p, _, rfl, kW _ _ pu h, kW⟩⟩
    · rintro σ' H' ⟨⟨y, rfl⟩, ⟨p, xs, rfl, h, k⟩ | ⟨xs, rfl, h, f, l, rfl⟩ | ⟨h, rfl⟩⟩
      · exact ⟨fun c => ⟨rfl, .inr ⟨⟨_, h⟩, no_ft, fun _ => q H' k fun z => (flat_ref z).elim⟩⟩, fun c => ⟨no_ft, fun _ => q H' k fun z => (flat_ref z).elim⟩⟩
      · refine ⟨fun c => ⟨rfl, .inl ⟨⟨_, h⟩, fun _ => ?_, no_tf⟩⟩, fun c => ⟨no_ft, fun _ => q _ Keep.refl fun _ => rfl⟩⟩
        have c0 : (0 : Int) < (d : Nat) := of_decide_eq_true c
        refine .inl ⟨xs, Sq.l h, fun D hD => ⟨D, rfl, ⟨_, SqL.of upd_same⟩, for_list (xs := xs) (fun i σ H2 => (∃ y : Option V, σ = [some (.ref u), some (.int (d : Nat)), y]) ∧ H2 = upd H' D (.lst xs)) ⟨⟨_, rfl⟩, rfl⟩ (fun i σ H2 _ hW => by rw [hW.2]; exact SqL.of upd_same) (fun i y σ H2 hi hW => ?_) (fun σ H2 hW => ?_)⟩⟩
        · obtain ⟨⟨y0, rfl⟩, rfl⟩ := hW
          have fy := f y (List.mem_of_getElem? hi)
          exact step c0 (.flat y fy) fun H3 k3 e3 => ⟨⟨_, rfl⟩, e3 fy⟩
        · obtain ⟨⟨y0, rfl⟩, rfl⟩ := hW
          have hu := same_new (o := .lst xs) hD _ _ h
          refine ⟨tyL hu, xs, hu, tyL upd_same, _, upd_same, by rw [List.length_reverse, sl_big]; omega, ?_⟩
          refine q _ ((Same.keep (same_new hD)).trans (Keep.put.trans Keep.put)) fun z => (flat_ref z).elim
      · rcases h with ⟨z, rfl⟩ | ⟨z, rfl⟩ | ⟨z, rfl⟩
        · exact ⟨fun c => ⟨rfl, no_ft, fun _ => q _ Keep.refl fun _ => rfl⟩, fun c => ⟨no_ft, fun _ => q _ Keep.refl fun _ => rfl⟩⟩
        · exact ⟨fun c => ⟨rfl, no_ft, fun _ => q _ Keep.refl fun _ => rfl⟩, fun c => ⟨no_ft, fun _ => q _ Keep.refl fun _ => rfl⟩⟩
        · exact ⟨fun c => ⟨rfl, no_ft, fun _ => q _ Keep.refl fun _ => rfl⟩, fun c => ⟨no_ft, fun _ => q _ Keep.refl fun _ => rfl⟩⟩
theorem ok_spoil_n {P : Program} {w : World} {K : PySem.W.Frag} {mg : Str → Option Value} {base : Heap} (T : Top K mg) : ∀ n : Nat, FnOk P w K mg base CX0 (n + 1) T.a__law_spoil T.fd__law_spoil ["value", "depth"] (fun vs H Q _ => ∃ (x : V) (d : Nat) (u : Addr), vs = [x, .int (d : Nat)] ∧ d ≤ n ∧ Spo H u x ∧ ∀ H', Keep u H H' → (flatS x → H' = H) → Q .non H')
  | 0 => spoil_step T 0 _ fn_never (fun m _ _ _ _ _ _ e => by cases e)
  | n + 1 => spoil_step T (n + 1) _ (ok_spoil_n T n) (fun m H x u Q E d e d0 d1 hS q => by cases e; exact ⟨x, d.toNat, u, by rw [Int.toNat_of_nonneg d0], by omega, hS, q⟩)
theorem ok__law_spoil {P : Program} {w : World} {K : PySem.W.Frag} {mg : Str → Option Value} {base : Heap} (T : Top K mg) : FnOk P w K mg base CX0 8 T.a__law_spoil T.fd__law_spoil ["value", "depth"] (sp__law_spoil K) := ok_spoil_n T 7
def sp__law_is_right (K : PySem.W.Frag) : Sp := fun vs H Q E => ∃ (s cl : Addr) (m : Nat) (w : W4) (p : Addr) (ts : List (List Nat)) (t : List Nat) (n : V), vs = [.ref s, .str (S w.cs), .ref p, .str (S t), n] ∧ Sto s cl m H ∧ m < 1000000000000 ∧ H p = some (.lst (sv ts)) ∧ p ≠ s ∧ ts.length ≤ 60 ∧ Fines ts ∧ ts.Nodup ∧ NumV n ∧
  ∀ H', Keep s H H' → Sto s cl (m + 1) H' → Q (.bl true) H'
theorem sc__law_is_right : FnScope ["store", "word", "liking", "thing", "at", "passed", "due", "turn", "actual"] ["store", "word", "liking", "thing", "at"] (defScope (topS 70)) := ⟨rfl, rfl, rfl, by decide +kernel, rfl, by decide +kernel, by decide +kernel⟩
theorem ok__law_is_right {P : Program} {w : World} {K : PySem.W.Frag} {mg : Str → Option Value} {base : Heap} (T : Top K mg) : FnOk P w K mg base CX0 9 T.a__law_is_right T.fd__law_is_right ["store", "word", "liking", "thing", "at"] (sp__law_is_right K) := by
  refine T.F__law_is_right.ok (k := 8) sc__law_is_right (fun vs H Q E h => ?_) (fun cdv A outer s0 H vs Q E hr h => ?_)
  · obtain ⟨s, cl, m, w, p, ts, t, n, rfl, _⟩ := h; rfl
  · have sc := sc__law_is_right
    refine ⟨_, (pss_cons (ps_set (i := 5) sc.nd rfl (by first | exact Or.inl rfl | exact Or.inr rfl) (pe_call (ok__law_either T) (hr.mono (by decide)) (by rfl) T.g__law_either T.F__law_either.kp T.b__law_either .nil pass0 (pa_cons (xv 0) (pa_cons (xv 2) pa_nil))))
      (pss_cons (ps_set (i := 6) sc.nd rfl (by first | exact Or.inl rfl | exact Or.inr rfl) (pe_call (ok__law_due T) (hr.mono (by decide)) (by rfl) T.g__law_due T.F__law_due.kp T.b__law_due .nil pass0 (pa_cons (xv 1) (pa_cons (xv 2) (pa_cons (xv 3) (pa_cons (xv 4) pa_nil))))))
      (pss_cons (ps_for PassesOwn.never rfl (pi_range1 (by rfl) T.n_range (pa_cons pe_int pa_nil)) (pg_name (i := 7) sc.nd rfl (by first | exact Or.inl rfl | exact Or.inr rfl)) (pss_cons (ps_set (i := 8) sc.nd rfl (by first | exact Or.inl rfl | exact Or.inr rfl) (pe_call (ok__law_tried T) (hr.mono (by decide)) (by rfl) T.g__law_tried T.F__law_tried.kp T.b__law_tried .nil pass0 (pa_cons (xv 1) (pa_cons (xv 5) (pa_cons (xv 3) (pa_cons (xv 4) pa_nil))))))
      (pss_cons (xs_if (pt_not (xt (pe_call (ok__law_same T) (hr.mono (by decide)) (by rfl) T.g__law_same T.F__law_same.kp T.b__law_same .nil pass0 (pa_cons (xv 8) (pa_cons (xv 6) pa_nil))))) (pss_one (ps_ret pe_bl)) pss_nil)
      (pss_one (ps_expr (pe_call (ok__law_spoil T) (hr.mono (by decide)) (by rfl) T.g__law_spoil T.F__law_spoil.kp T.b__law_spoil .nil pass0 (pa_cons (xv 8) (pa_cons pe_int pa_nil))))))))
      (pss_one (ps_ret (pe_cmpR (ko_eq (K := K) rfl hr.units) (pe_callTy (kc_list (K := K) rfl rfl) (by rfl) T.n_list (by decide +kernel) (pa_cons (xv 5) pa_nil)) (xv 2) (nomark _))))))), ?_⟩
    obtain ⟨s, cl, m, w, p, ts, t, n, rfl, St, hm, hp, ps, hl, hf, nd, nv, q⟩ := h
    refine ⟨s, cl, m, p, sv ts, rfl, St, hm, hp, ps, fun a H1 k1 S1 fa ha => ?_⟩
    have hp1 := k1 _ _ ps hp
    refine ⟨w, p, ts, t, n, rfl, hp1, by omega, nd, nv, fun o r H2 ho sh s2 fr => ?_⟩
    have ok := due_ok nv (by omega) ho
    have S2 := S1.same s2
    refine ⟨_, rfl, by decide, by decide, ?_⟩
    refine for_range (lo := 0) (n := 2) (fun i σ H' => (∃ y z : Option V, σ = [some (.ref s), some (.str (S w.cs)), some (.ref p), some (.str (S t)), some n, some (.ref a), some (.ref r), y, z]) ∧ Same H2 H') ⟨⟨none, none, rfl⟩, Same.refl _⟩ (fun i σ H' hi hW => ?_) (fun σ H' hW => ?_)
    · obtain ⟨⟨y, z, rfl⟩, sW⟩ := hW
      refine ⟨w, a, ts, t, n, rfl, (ha.same s2).same sW, by omega, nv, fun o' r' H3 ho' fu sh' s3 fr' => ?_⟩
      have e := due_fun ho' ho
      subst e
      refine ⟨.ref r', .ref r, rfl, Shown.rep ok sh' ((sh.same sW).same s3), no_ft, fun _ => ?_⟩
      obtain ⟨u, hu, nu⟩ := sh'.spo ok fr' fu
      refine ⟨.ref r', 2, u, rfl, by decide, hu, fun H4 k4 _ => ⟨⟨_, _, rfl⟩, ?_⟩⟩
      exact sW.trans (k4.to_same s3 nu)
    · obtain ⟨⟨y, z, rfl⟩, sW⟩ := hW
      have sA := s2.trans sW
      refine ⟨_, ((ha.same sA).lt).sq, fun D hD => ?_⟩
      have g1 : (upd H' D (.lst (sv ts))) D = some (.lst (sv ts)) := upd_same
      have g2 := same_new (o := .lst (sv ts)) hD _ _ (sA _ _ hp1)
      refine ⟨.list (dS ts), .list (dS ts), .lst (SqL.of g1) (dp_sv _), .lst (SqL.of g2) (dp_sv _), shaped_dS hf, shaped_dS hf, ?_⟩
      rw [eqv_dS, decide_eq_true rfl]
      exact q _ (k1.trans (Same.keep (sA.trans (same_new hD)))) ((S1.same sA).new hD)
def sp__law_leads_back (K : PySem.W.Frag) : Sp := fun vs H Q E => ∃ (p : Addr) (ts : List (List Nat)) (o : List Nat) (m : Nat), vs = [.ref p, .str (S o), .int (m : Nat)] ∧ H p = some (.lst (sv ts)) ∧ ts.length ≤ 60 ∧ ts.Nodup ∧ m ≤ ts.length ∧ ∀ H', Same H H' → Q (.bl true) H'
theorem sc__law_leads_back : FnScope ["liking", "other", "at", "k", "longer"] ["liking", "other", "at"] (defScope (topS 71)) := ⟨rfl, rfl, rfl, by decide +kernel, rfl, by decide +kernel, by decide +kernel⟩
theorem ok__law_leads_back {P : Program} {w : World} {K : PySem.W.Frag} {mg : Str → Option Value} {base : Heap} (T : Top K mg) : FnOk P w K mg base CX0 9 T.a__law_leads_back T.fd__law_leads_back ["liking", "other", "at"] (sp__law_leads_back K) := by
  refine T.F__law_leads_back.ok (k := 8) sc__law_leads_back (fun vs H Q E h => ?_) (fun cdv A outer s0 H vs Q E hr h => ?_)
  · obtain ⟨p, ts, o, m, rfl, _⟩ := h; rfl
  · have sc := sc__law_leads_back
    refine ⟨_, (pss_cons (ps_for PassesOwn.never rfl (pi_range1 (by rfl) T.n_range (pa_cons (pe_callB (kc_len (K := K) rfl) (by rfl) T.n_len (by decide +kernel) (pa_cons (xv 0) pa_nil)) pa_nil)) (pg_name (i := 3) sc.nd rfl (by first | exact Or.inl rfl | exact Or.inr rfl)) (pss_one (xs_if (pt_not (xt (pe_call (ok__law_same T) (hr.mono (by decide)) (by rfl) T.g__law_same T.F__law_same.kp T.b__law_same .nil pass0 (pa_cons (pe_callS (ok_inserted T) (hr.mono (by decide)) (by rfl) T.g_inserted T.F_inserted.kp T.b_inserted passAtN (pa_cons (pe_callS (ok_dropped T) (hr.mono (by decide)) (by rfl) T.g_dropped T.F_dropped.kp T.b_dropped passAtN (pa_cons (xv 0) (pa_cons (pe_ix (kix (K := K) rfl) (xv 0) (xv 3) (fun _ _ => rfl)) pa_nil))) (pa_cons (pe_ix (kix (K := K) rfl) (xv 0) (xv 3) (fun _ _ => rfl)) (pa_cons (xv 3) pa_nil)))) (pa_cons (xv 0) pa_nil))))) (pss_one (ps_ret pe_bl)) pss_nil)))
      (pss_cons (ps_for PassesOwn.never rfl (pi_range1 (by rfl) T.n_range (pa_cons (pe_op xo_sub (pe_callB (kc_len (K := K) rfl) (by rfl) T.n_len (by decide +kernel) (pa_cons (xv 0) pa_nil)) pe_int) pa_nil)) (pg_name (i := 3) sc.nd rfl (by first | exact Or.inl rfl | exact Or.inr rfl)) (pss_one (xs_if (pt_not (xt (pe_call (ok__law_same T) (hr.mono (by decide)) (by rfl) T.g__law_same T.F__law_same.kp T.b__law_same .nil pass0 (pa_cons (pe_callS (ok_exchanged T) (hr.mono (by decide)) (by rfl) T.g_exchanged T.F_exchanged.kp T.b_exchanged passAtN (pa_cons (pe_callS (ok_exchanged T) (hr.mono (by decide)) (by rfl) T.g_exchanged T.F_exchanged.kp T.b_exchanged passAtN (pa_cons (xv 0) (pa_cons (xv 3) pa_nil))) (pa_cons (xv 3) pa_nil))) (pa_cons (xv 0) pa_nil))))) (pss_one (ps_ret pe_bl)) pss_nil)))
      (pss_cons (xs_if (PW.pt (xw_or (xtc xo_gt (pe_callB (kc_len (K := K) rfl) (by rfl) T.n_len (by decide +kernel) (pa_cons (xv 0) pa_nil)) pe_int (nomark _)) (pw_or1 (xtc (ko_in (K := K) rfl) (xv 1) (xv 0) (by rfl))))) (pss_one (ps_ret pe_bl)) pss_nil)
      (pss_cons (ps_set (i := 4) sc.nd rfl (by first | exact Or.inl rfl | exact Or.inr rfl) (pe_callS (ok_inserted T) (hr.mono (by decide)) (by rfl) T.g_inserted T.F_inserted.kp T.b_inserted passAtN (pa_cons (xv 0) (pa_cons (xv 1) (pa_cons (xv 2) pa_nil)))))
      (pss_one (ps_ret (xe_and (pe_call (ok__law_same T) (hr.mono (by decide)) (by rfl) T.g__law_same T.F__law_same.kp T.b__law_same .nil pass0 (pa_cons (pe_callS (ok_rank T) (hr.mono (by decide)) (by rfl) T.g_rank T.F_rank.kp T.b_rank passAtN (pa_cons (xv 4) (pa_cons (xv 1) pa_nil))) (pa_cons (xv 2) pa_nil))) (pe_one (pe_call (ok__law_same T) (hr.mono (by decide)) (by rfl) T.g__law_same T.F__law_same.kp T.b__law_same .nil pass0 (pa_cons (pe_callS (ok_dropped T) (hr.mono (by decide)) (by rfl) T.g_dropped T.F_dropped.kp T.b_dropped passAtN (pa_cons (xv 4) (pa_cons (xv 1) pa_nil))) (pa_cons (xv 0) pa_nil))))))))))), ?_⟩
    obtain ⟨p, ts, o, m, rfl, hp, hl, nd, hm, q⟩ := h
    refine ⟨_, Sq.l hp, _, rfl, by rw [sv_len]; omega, by rw [sv_len]; omega, ?_⟩
    rw [Int.toNat_natCast, sv_len]
    refine for_range (lo := 0) (n := ts.length) (fun i σ H' => (∃ y z : Option V, σ = [some (.ref p), some (.str (S o)), some (.int (m : Nat)), y, z]) ∧ Same H H') ⟨⟨none, none, rfl⟩, Same.refl _⟩ (fun i σ H' hi hW => ?_) (fun σ H' hW => ?_)
    · obtain ⟨⟨y, z, rfl⟩, sW⟩ := hW
      have gi : ts[i]? = some ts[i] := List.getElem?_eq_getElem hi
      have mi : ts[i] ∈ ts := List.getElem_mem hi
      have hp' := sW _ _ hp
      have e := nodup_cut nd gi
      have lc : (ts.take i ++ ts.drop (i + 1)).length = ts.length - 1 := by rw [List.length_append, List.length_take, List.length_drop]; omega
      refine ⟨_, _, Sq.l hp', at_int (by omega) (sv_get gi), p, ts, ts[i], rfl, .inl hp', by omega, fun _ r1 H1 s1 f1 h1 => ?_, fun no => absurd mi no⟩
      rw [← e] at h1
      have no : ts[i] ∉ ts.take i ++ ts.drop (i + 1) := by
        rw [e]; intro hh
        have := (List.mem_filter.mp hh).2
        simp at this
      refine ⟨_, _, Sq.l (s1 _ _ hp'), at_int (by omega) (sv_get gi), r1, _, ts[i], .int (i : Nat), by rw [Int.zero_add], .inl h1, by rw [lc]; omega, .inl ⟨_, rfl⟩, fun _ m' em lm r2 H2 s2 f2 h2 => ?_, fun y => absurd y no, fun _ bad => absurd ⟨i, rfl, by omega, by rw [lc]; omega⟩ bad⟩
      have em' : m' = i := by cases em; rfl
      subst em'
      rw [ins_back gi] at h2
      exact ⟨.ref r2, .ref p, rfl, rep_sv (n := 6) h2 (s2 _ _ (s1 _ _ hp')) (by omega), no_ft, fun _ => ⟨⟨_, _, rfl⟩, (sW.trans s1).trans s2⟩⟩
    obtain ⟨⟨y, z, rfl⟩, sW⟩ := hW
    refine ⟨_, Sq.l (sW _ _ hp), _, rfl, by rw [sv_len]; omega, by rw [sv_len]; omega, ?_⟩
    rw [sv_len]
    refine for_range (lo := 0) (n := (((ts.length : Nat) : Int) - 1).toNat) (fun i σ H' => (∃ y z : Option V, σ = [some (.ref p), some (.str (S o)), some (.int (m : Nat)), y, z]) ∧ Same H H') ⟨⟨_, _, rfl⟩, sW⟩ (fun i σ H' hi hW => ?_) (fun σ H' hW => ?_)
    · obtain ⟨⟨y, z, rfl⟩, sW⟩ := hW
      have ga : ts[i]? = some ts[i] := List.getElem?_eq_getElem (by omega)
      have gb : ts[i + 1]? = some ts[i + 1] := List.getElem?_eq_getElem (by omega)
      have hp' := sW _ _ hp
      refine ⟨p, ts, .int (i : Nat), by rw [Int.zero_add], .inl hp', by omega, .inl ⟨_, rfl⟩, fun m' a b em ha hb r1 H1 s1 f1 h1 => ?_, fun bad => absurd ⟨i, rfl, by omega, by omega⟩ bad⟩
      have em' : m' = i := by cases em; rfl
      subst em'
      rw [ga] at ha; rw [gb] at hb
      cases ha; cases hb
      have sw := swap_at ga gb
      have ll : (ts.take m' ++ [ts[m' + 1], ts[m']] ++ ts.drop (m' + 2)).length = ts.length := by
        rw [List.length_append, List.length_append, List.length_take, List.length_drop]
        show _ + 2 + _ = _
        omega
      refine ⟨r1, _, .int (m' : Nat), by rw [Int.zero_add], .inl h1, by rw [ll]; omega, .inl ⟨_, rfl⟩, fun m2 a b em2 ha hb r2 H2 s2 f2 h2 => ?_, fun bad => absurd ⟨m', rfl, by omega, by rw [ll]; omega⟩ bad⟩
      have em2' : m2 = m' := by cases em2; rfl
      subst em2'
      rw [sw.1] at ha; rw [sw.2] at hb
      cases ha; cases hb
      rw [swap_back ga gb] at h2
      exact ⟨.ref r2, .ref p, rfl, rep_sv (n := 6) h2 (s2 _ _ (s1 _ _ hp')) (by omega), no_ft, fun _ => ⟨⟨_, _, rfl⟩, (sW.trans s1).trans s2⟩⟩
    obtain ⟨⟨y, z, rfl⟩, sW⟩ := hW
    have hp' := sW _ _ hp
    refine ⟨_, Sq.l hp', fun _ => ?_, fun _ => ⟨_, Sq.l hp', rfl, sv_flat ts, fun _ => ?_, fun c => ?_⟩⟩
    · exact ⟨fun _ => q _ sW, no_tf⟩
    · exact q _ sW
    have c' : inV (.str (S o)) (sv ts) = false := c
    rw [inV_sv] at c'
    have no := of_decide_eq_false c'
    have ll : (ts.take m ++ [o] ++ ts.drop m).length = ts.length + 1 := by
      rw [List.length_append, List.length_append, List.length_take, List.length_drop]
      show _ + 1 + _ = _
      omega
    refine ⟨p, ts, o, .int (m : Nat), rfl, .inl hp', by omega, .inl ⟨_, rfl⟩, fun _ m' em lm r1 H1 s1 f1 h1 => ?_, fun y => absurd y no, fun _ bad => absurd ⟨m, rfl, by omega, by omega⟩ bad⟩
    have em' : m' = m := by cases em; rfl
    subst em'
    have mo : o ∈ ts.take m' ++ [o] ++ ts.drop m' := by simp
    refine ⟨r1, _, o, rfl, .inl h1, by rw [ll]; omega, fun i gi _ => ?_, fun n => absurd mo n⟩
    have ei := long_at no hm gi
    subst ei
    refine ⟨.int (i : Nat), .int (i : Nat), rfl, rfl, fun _ => ?_, no_tf⟩
    refine ⟨r1, _, o, rfl, .inl h1, by rw [ll]; omega, fun _ r2 H2 s2 f2 h2 => ?_, fun n => absurd mo n⟩
    rw [long_drop no] at h2
    exact ⟨.ref r2, .ref p, rfl, rep_sv (n := 6) h2 (s2 _ _ (s1 _ _ hp')) (by omega), q _ ((sW.trans s1).trans s2)⟩
def sp_law (K : PySem.W.Frag) : Sp := fun vs H Q _ => ∃ (a : Addr) (ns : List Int), vs = [.ref a] ∧ SqL K H a (ns.map V.int) ∧ ns.length ≤ 63 ∧ ∀ H', Q (.bl true) H'
theorem sc_law : FnScope ["script", "store", "liking", "other", "at", "pairs", "wrong", "thing", "word", "pair", "passed", "k", "name"] ["script"] (defScope (topS 72)) := ⟨rfl, rfl, rfl, by decide +kernel, rfl, by decide +kernel, by decide +kernel⟩
theorem ok_law {P : Program} {w : World} {K : PySem.W.Frag} {mg : Str → Option Value} {base : Heap} (T : Top K mg) : FnOk P w K mg base CX0 10 T.a_law T.fd_law ["script"] (sp_law K) := by
  refine T.F_law.ok (k := 9) sc_law (fun vs H Q E h => ?_) (fun cdv A outer s0 H vs Q E hr h => ?_)
  · obtain ⟨a, ns, rfl, _⟩ := h; rfl
  · have sc := sc_law
    refine ⟨_, (pss_cons (ps_set (i := 1) sc.nd rfl (by first | exact Or.inl rfl | exact Or.inr rfl) (pe_call (ok__law_store T) (hr.mono (by decide)) (by rfl) T.g__law_store T.F__law_store.kp T.b__law_store .nil pass0 (pa_cons (xv 0) pa_nil)))
      (pss_cons (ps_set (i := 2) sc.nd rfl (by first | exact Or.inl rfl | exact Or.inr rfl) (pe_call (ok__law_strings T) (hr.mono (by decide)) (by rfl) T.g__law_strings T.F__law_strings.kp T.b__law_strings .nil pass0 (pa_cons (xv 1) (pa_cons (pe_call (ok__law_near T) (hr.mono (by decide)) (by rfl) T.g__law_near T.F__law_near.kp T.b__law_near .nil pass0 (pa_cons (xv 1) (pa_cons pe_int (pa_cons (xe_if (xt (pe_call (ok__law_yes T) (hr.mono (by decide)) (by rfl) T.g__law_yes T.F__law_yes.kp T.b__law_yes .nil pass0 (pa_cons (xv 1) (pa_cons pe_int pa_nil)))) pe_int pe_int) pa_nil)))) pa_nil))))
      (pss_cons (ps_set (i := 3) sc.nd rfl (by first | exact Or.inl rfl | exact Or.inr rfl) (pe_call (ok__law_other T) (hr.mono (by decide)) (by rfl) T.g__law_other T.F__law_other.kp T.b__law_other .nil pass0 (pa_cons (xv 1) (pa_cons (xv 2) pa_nil))))
      (pss_cons (ps_set (i := 4) sc.nd rfl (by first | exact Or.inl rfl | exact Or.inr rfl) (pe_call (ok__law_near T) (hr.mono (by decide)) (by rfl) T.g__law_near T.F__law_near.kp T.b__law_near .nil pass0 (pa_cons (xv 1) (pa_cons pe_int (pa_cons (pe_callB (kc_len (K := K) rfl) (by rfl) T.n_len (by decide +kernel) (pa_cons (xv 2) pa_nil)) pa_nil)))))
      (pss_cons (ps_set (i := 5) sc.nd rfl (by first | exact Or.inl rfl | exact Or.inr rfl) (pe_lst (pa_cons (pe_tup (pa_cons (xv 3) (pa_cons (xv 4) pa_nil))) (pa_cons (pe_tup (pa_cons (xv 3) (pa_cons (pe_call (ok__law_wrong_number T) (hr.mono (by decide)) (by rfl) T.g__law_wrong_number T.F__law_wrong_number.kp T.b__law_wrong_number .nil pass0 (pa_cons (xv 1) (pa_cons pe_int (pa_cons (pe_callB (kc_len (K := K) rfl) (by rfl) T.n_len (by decide +kernel) (pa_cons (xv 2) pa_nil)) pa_nil)))) pa_nil))) pa_nil))))
      (xss_cut (xs_if (xtc xo_gt (pe_callB (kc_len (K := K) rfl) (by rfl) T.n_len (by decide +kernel) (pa_cons (xv 2) pa_nil)) pe_int (nomark _)) (pss_one (ps_expr (ke_bm (K := K) rfl PySem.F.plainAttrs_list PySem.F.slot_list_append PySem.F.type_list_append xm_append (xv 5) (pa_cons (pe_tup (pa_cons (pe_call (ok__law_pick T) (hr.mono (by decide)) (by rfl) T.g__law_pick T.F__law_pick.kp T.b__law_pick .nil pass0 (pa_cons (xv 1) (pa_cons (xv 2) pa_nil))) (pa_cons (pe_call (ok__law_near T) (hr.mono (by decide)) (by rfl) T.g__law_near T.F__law_near.kp T.b__law_near .nil pass0 (pa_cons (xv 1) (pa_cons pe_int (pa_cons (pe_op xo_sub (pe_callB (kc_len (K := K) rfl) (by rfl) T.n_len (by decide +kernel) (pa_cons (xv 2) pa_nil)) pe_int) pa_nil)))) pa_nil))) pa_nil)))) pss_nil)
      (pss_cons (ps_set (i := 6) sc.nd rfl (by first | exact Or.inl rfl | exact Or.inr rfl) (pe_call (ok__law_wrong_number T) (hr.mono (by decide)) (by rfl) T.g__law_wrong_number T.F__law_wrong_number.kp T.b__law_wrong_number .nil pass0 (pa_cons (xv 1) (pa_cons pe_int (pa_cons (pe_op xo_sub (pe_callB (kc_len (K := K) rfl) (by rfl) T.n_len (by decide +kernel) (pa_cons (xv 2) pa_nil)) pe_int) pa_nil)))))
      (pss_cons (ps_set (i := 5) sc.nd rfl (by first | exact Or.inl rfl | exact Or.inr rfl) (pe_op (ko_add (K := K) rfl) (pe_op (ko_add (K := K) rfl) (xv 5) (pe_lc (own := [("thing", 7)]) (g := gName 7) rfl sc.nd (ki_seq (K := K) rfl (xv 2)) (blkOk_by (N := ["script", "store", "liking", "other", "at", "pairs", "wrong", "thing", "word", "pair", "passed", "k", "name"]) (sc := defScope (topS 72)) (by decide +kernel)) (fun _ _ _ _ _ => (pg_name (i := 7) sc.nd rfl (by first | exact Or.inl rfl | exact Or.inr rfl))) (fun _ _ _ _ _ => pts_nil) (fun _ _ _ _ _ => (pe_tup (pa_cons (xv 7) (pa_cons (xv 6) pa_nil)))))) (pe_lst (pa_cons (pe_tup (pa_cons (xv 3) (pa_cons (xv 4) pa_nil))) pa_nil))))
      (pss_cons (ps_for PassesOwn.never rfl (ki_seq (K := K) rfl (pe_lst (pa_cons pe_str (pa_cons pe_str (pa_cons pe_str (pa_cons pe_str pa_nil)))))) (pg_name (i := 8) sc.nd rfl (by first | exact Or.inl rfl | exact Or.inr rfl)) (pss_one (ps_for PassesOwn.never rfl (ki_seq (K := K) rfl (xv 5)) (pg_name (i := 9) sc.nd rfl (by first | exact Or.inl rfl | exact Or.inr rfl)) (pss_one (xs_if (pt_not (xt (pe_call (ok__law_is_right T) (hr.mono (by decide)) (by rfl) T.g__law_is_right T.F__law_is_right.kp T.b__law_is_right .nil pass0 (pa_cons (xv 1) (pa_cons (xv 8) (pa_cons (xv 2) (pa_cons (pe_ix (kix (K := K) rfl) (xv 9) pe_int (fun _ _ => rfl)) (pa_cons (pe_ix (kix (K := K) rfl) (xv 9) pe_int (fun _ _ => rfl)) pa_nil)))))))) (pss_one (ps_ret pe_bl)) pss_nil)))))
      (pss_cons (ps_set (i := 10) sc.nd rfl (by first | exact Or.inl rfl | exact Or.inr rfl) (pe_callTy (kc_list (K := K) rfl rfl) (by rfl) T.n_list (by decide +kernel) (pa_cons (xv 2) pa_nil)))
      (pss_cons (xs_if (PW.pt (xw_or (pt_not (xt (pe_call (ok__law_leads_back T) (hr.mono (by decide)) (by rfl) T.g__law_leads_back T.F__law_leads_back.kp T.b__law_leads_back .nil pass0 (pa_cons (xv 10) (pa_cons (xv 3) (pa_cons (xv 4) pa_nil)))))) (pw_or1 (xtc (ko_ne (K := K) rfl hr.units) (xv 10) (xv 2) (nomark _))))) (pss_one (ps_ret pe_bl)) pss_nil)
      (pss_cons (ps_expr (pe_bm0 PySem.F.plainAttrs_list PySem.F.slot_list_reverse PySem.F.type_list_reverse xm_reverse (xv 10)))
      (pss_cons (ps_for PassesOwn.never rfl (pi_range1 (by rfl) T.n_range (pa_cons (pe_callB (kc_len (K := K) rfl) (by rfl) T.n_len (by decide +kernel) (pa_cons (xv 2) pa_nil)) pa_nil)) (pg_name (i := 11) sc.nd rfl (by first | exact Or.inl rfl | exact Or.inr rfl)) (pss_cons (xs_if (pt_not (xt (pe_call (ok__law_same T) (hr.mono (by decide)) (by rfl) T.g__law_same T.F__law_same.kp T.b__law_same .nil pass0 (pa_cons (pe_kw0 (ok_rank T) (hr.mono (by decide)) (by rfl) T.g_rank T.F_rank.kp T.kb_rank passN (pk_cons (xv 10) (pk_cons (pe_ix (kix (K := K) rfl) (xv 2) (xv 11) (fun _ _ => rfl)) pk_nil))) (pa_cons (pe_op xo_sub (pe_op xo_sub (pe_callB (kc_len (K := K) rfl) (by rfl) T.n_len (by decide +kernel) (pa_cons (xv 2) pa_nil)) pe_int) (xv 11)) pa_nil))))) (pss_one (ps_ret pe_bl)) pss_nil)
      (pss_one (xs_if (pt_not (xt (pe_call (ok__law_same T) (hr.mono (by decide)) (by rfl) T.g__law_same T.F__law_same.kp T.b__law_same .nil pass0 (pa_cons (pe_kw0 (ok_dropped T) (hr.mono (by decide)) (by rfl) T.g_dropped T.F_dropped.kp T.kb_dropped passN (pk_cons (xv 10) (pk_cons (pe_ix (kix (K := K) rfl) (xv 2) (xv 11) (fun _ _ => rfl)) pk_nil))) (pa_cons (pe_lc (own := [("name", 12)]) (g := gName 12) rfl sc.nd (ki_seq (K := K) rfl (xv 10)) (blkOk_by (N := ["script", "store", "liking", "other", "at", "pairs", "wrong", "thing", "word", "pair", "passed", "k", "name"]) (sc := defScope (topS 72)) (by decide +kernel)) (fun _ _ _ _ _ => (pg_name (i := 12) sc.nd rfl (by first | exact Or.inl rfl | exact Or.inr rfl))) (fun _ _ _ _ _ => (pts_one (xtc (ko_ne (K := K) rfl hr.units) (xv 12) (pe_ix (kix (K := K) rfl) (xv 2) (xv 11) (fun _ _ => rfl)) (nomark _)))) (fun _ _ _ _ _ => (xv 12))) pa_nil))))) (pss_one (ps_ret pe_bl)) pss_nil))))
      (xss_cut (xs_if (PW.pt (xw_and (xtc (ko_notin (K := K) rfl) (xv 3) (xv 2) (by rfl)) (pw_and1 (pt_not (xt (pe_call (ok__law_same T) (hr.mono (by decide)) (by rfl) T.g__law_same T.F__law_same.kp T.b__law_same .nil pass0 (pa_cons (pe_kw0 (ok_inserted T) (hr.mono (by decide)) (by rfl) T.g_inserted T.F_inserted.kp T.kb_inserted passN (pk_cons (xv 10) (pk_cons (xv 3) (pk_cons pe_int pk_nil)))) (pa_cons (pe_op (ko_add (K := K) rfl) (pe_lst (pa_cons (xv 3) pa_nil)) (xv 10)) pa_nil)))))))) (pss_one (ps_ret pe_bl)) pss_nil)
      (pss_one (ps_ret (xe_or (pe_cmpR xo_lt (pe_callB (kc_len (K := K) rfl) (by rfl) T.n_len (by decide +kernel) (pa_cons (xv 2) pa_nil)) pe_int (nomark _)) (pe_one (pe_call (ok__law_same T) (hr.mono (by decide)) (by rfl) T.g__law_same T.F__law_same.kp T.b__law_same .nil pass0 (pa_cons (pe_kw0 (ok_exchanged T) (hr.mono (by decide)) (by rfl) T.g_exchanged T.F_exchanged.kp T.kb_exchanged passN (pk_cons (xv 10) (pk_cons pe_int pk_nil))) (pa_cons (pe_op (ko_add (K := K) rfl) (pe_lst (pa_cons (pe_ix (kix (K := K) rfl) (xv 10) pe_int (fun _ _ => rfl)) (pa_cons (pe_ix (kix (K := K) rfl) (xv 10) pe_int (fun _ _ => rfl)) pa_nil))) (pe_slice (ksl (K := K) rfl) (xv 10) (po_some pe_int) po_none)) pa_nil))))))))))))))))))))), ?_⟩
    obtain ⟨a, ns, rfl, hS, hl, q⟩ := h
    rw [lit_rank, lit_dropped, lit_inserted, lit_exchanged]
    refine ⟨a, ns, rfl, hS, hl, fun s cl H1 sm1 fs S1 => ?_⟩
    refine ⟨s, cl, _, 4, rfl, S1, by decide, by decide, fun b H2 k2 S2 => join_tC fun v hv => ?_⟩
    obtain ⟨hi, rfl, hi7, hi20⟩ : ∃ hi : Int, v = .int hi ∧ 7 ≤ hi ∧ hi ≤ 20 := by
      rcases hv with rfl | rfl
      · exact ⟨20, rfl, by decide, by decide⟩
      · exact ⟨7, rfl, by decide, by decide⟩
    refine ⟨s, cl, _, 0, hi, rfl, S2, by decide, by decide, by omega, by omega, fun m H3 m0 m1 k3 S3 => ?_⟩
    refine ⟨s, cl, _, m, rfl, S3, by decide, by omega, fun li ts H4 e4 nd t9 f4 fli hli k4 S4 => ?_⟩
    have lis := S3.ne fli
    have m20 : ts.length ≤ 20 := by omega
    refine ⟨s, cl, _, li, ts, rfl, S4, by decide, hli, lis, by omega, fun t ht => Nat.le_trans (t9 t ht) (by decide), f4, fun ol H5 fo _ k5 S5 => ?_⟩
    have hli5 := k5 _ _ lis hli
    refine ⟨_, Sq.l hli5, s, cl, _, 0, _, rfl, S5, by decide, by decide, by omega, by rw [sv_len]; omega, fun at_ H6 a0 a1 k6 S6 => ?_⟩
    have hli6 := k6 _ _ lis hli5
    rw [sv_len] at a1
    refine ⟨sl_of (n := 2) rfl, fun p1 n1 => ⟨_, Sq.l (same_new n1 _ _ hli6), s, cl, _, 0, _, rfl, S6.new n1, by decide, by decide, by decide, by rw [sv_len]; omega, by rw [sv_len]; omega, fun v1 H7 nv1 _ k7 S7 => ⟨sl_of (n := 2) rfl, fun p2 n2 => ⟨sl_of (n := 2) rfl, fun p3 n3 => ?_⟩⟩⟩⟩
    have p1s := S6.ne n1
    have g1 := k7 _ _ p1s (upd_same (H := H6) (o := .tup [.str (S ol), .int (at_ : Nat)]))
    have li7 := k7 _ _ lis (same_new n1 _ _ hli6)
    have z0 : Prz (upd (upd H7 p2 (.tup [.str (S ol), v1])) p3 (.lst [.ref p1, .ref p2])) p3 3 := ⟨[p1, p2], upd_same, Nat.le_of_ble_eq_true rfl, fun r hr => by
      rcases List.mem_cons.mp hr with rfl | hr
      · exact ⟨ol, _, same_new n3 _ _ (same_new n2 _ _ g1), .inl ⟨_, rfl⟩⟩
      · rw [List.mem_singleton.mp hr]
        exact ⟨ol, v1, same_new n3 _ _ upd_same, nv1⟩⟩
    have S8 := (S7.new (o := .tup [.str (S ol), v1]) n2).new (o := .lst [.ref p1, .ref p2]) n3
    have p3s := (S7.new (o := .tup [.str (S ol), v1]) n2).ne n3
    have li8 := same_new (o := .lst [.ref p1, .ref p2]) n3 _ _ (same_new (o := .tup [.str (S ol), v1]) n2 _ _ li7)
    refine ⟨fun σ' H' => σ' = [some (.ref a), some (.ref s), some (.ref li), some (.str (S ol)), some (.int (at_ : Nat)), some (.ref p3), none, none, none, none, none, none, none] ∧ H' li = some (.lst (sv ts)) ∧ Sto s cl 2000 H' ∧ Prz H' p3 3, ?_, ?_⟩
    · refine ⟨_, Sq.l li8, fun c => ?_, fun c => ⟨rfl, li8, S8.mono (by decide), z0⟩⟩
      have c2 : (((sv ts).length : Nat) : Int) > 1 := of_decide_eq_true c
      rw [sv_len] at c2
      have l3 : (upd (upd H7 p2 (.tup [.str (S ol), v1])) p3 (.lst [.ref p1, .ref p2])) p3 = some (.lst [.ref p1, .ref p2]) := upd_same
      have d13 : p1 ≠ p3 := ne_of_none (same_new n2 _ _ g1) n3
      have d23 : p2 ≠ p3 := ne_of_none (upd_same (H := H7) (o := .tup [.str (S ol), v1])) n3
      have p2s := S7.ne n2
      refine ⟨tyL l3, s, cl, _, S8, by decide, .inr ⟨li, sv ts, rfl, li8, lis, fun z => by rw [← sv_len, z] at c2; exact absurd c2 (by decide), by rw [sv_len]; omega, fun x Ha hx ka Sa => ?_⟩⟩
      obtain ⟨u, _, rfl⟩ := sv_mem hx
      refine ⟨_, Sq.l (ka _ _ lis li8), s, cl, _, 0, _, rfl, Sa, by decide, by decide, by rw [sv_len]; omega, by rw [sv_len]; omega, fun y Hb y0 y1 kb Sb => ⟨sl_of (n := 2) rfl, fun p4 n4 => ?_⟩⟩
      have kab := ka.trans kb
      have l3b := kab _ _ p3s l3
      refine ⟨_, same_new n4 _ _ l3b, by rw [sl_big]; exact Nat.le_of_ble_eq_true rfl, ?_⟩
      have d43 : p4 ≠ p3 := fun z => by subst z; rw [l3b] at n4; cases n4
      have dl3 : li ≠ p3 := ne_of_none (same_new (o := .tup [.str (S ol), v1]) n2 _ _ li7) n3
      refine ⟨rfl, (upd_ne dl3).trans (same_new n4 _ _ (kab _ _ lis li8)), ((Sb.new n4).put p3s ((S7.new (o := .tup [.str (S ol), v1]) n2).nec n3)).mono (by decide), [p1, p2, p4], upd_same, Nat.le_of_ble_eq_true rfl, fun r hr => ?_⟩
      simp only [List.mem_cons, List.not_mem_nil, or_false] at hr
      rcases hr with rfl | rfl | rfl
      · exact ⟨ol, _, (upd_ne d13).trans (same_new n4 _ _ (kab _ _ p1s (same_new n3 _ _ (same_new n2 _ _ g1)))), .inl ⟨_, rfl⟩⟩
      · exact ⟨ol, v1, (upd_ne d23).trans (same_new n4 _ _ (kab _ _ p2s (same_new n3 _ _ upd_same))), nv1⟩
      · exact ⟨u, _, (upd_ne d43).trans upd_same, .inl ⟨_, rfl⟩⟩
    rintro σ' H9 ⟨rfl, li9, S9, z9⟩
    refine ⟨_, Sq.l li9, s, cl, _, 0, _, rfl, S9, by decide, by decide, by decide, by rw [sv_len]; omega, by rw [sv_len]; omega, fun v2 H10 nv2 _ k10 S10 => ?_⟩
    have li10 := k10 _ _ lis li9
    obtain ⟨rs, zr, zl, zt⟩ := z9.keep k10 p3s S9.tupne
    refine .inl ⟨li, rfl, ⟨_, SqL.of li10⟩, fun D hD => lc_list (xs := sv ts) (fun i H' => (∀ b o, b ≠ D → H10 b = some o → H' b = some o) ∧ ∃ ps : List Addr, H' D = some (.lst (ps.map V.ref)) ∧ ps.length ≤ i ∧ ∀ r ∈ ps, r ≠ D ∧ ∃ t n, H' r = some (.tup [.str (S t), n]) ∧ NumV n)
      ⟨fun b o nb e => (upd_ne nb).trans e, [], upd_same, Nat.le_refl _, fun r hr => by cases hr⟩ (fun i H' _ hW => SqL.of (hW.1 _ _ (ne_of_none li10 hD) li10)) (fun i x H' hi hW => ?_) (fun H' hW => ?_)⟩
    · obtain ⟨kp, ps, hD', pl, pt⟩ := hW
      have il := (List.getElem?_eq_some_iff.mp hi).1
      rw [sv_len] at il
      obtain ⟨t, _, rfl⟩ := sv_mem (List.mem_of_getElem? hi)
      refine ⟨rfl, ?_⟩
      simp only [tYes, ↓reduceIte]
      refine ⟨sl_of (n := 2) rfl, fun r nr => ⟨_, same_new nr _ _ hD', by rw [List.length_map, sl_big]; omega, fun b o nb e => (upd_ne nb).trans (same_new nr _ _ (kp b o nb e)), ps ++ [r], by rw [upd_same, List.map_append]; rfl, by rw [List.length_append]; show _ + 1 ≤ _; omega, fun r' hr' => ?_⟩⟩
      rcases List.mem_append.mp hr' with hr' | hr'
      · obtain ⟨ne, t', n', e, nv'⟩ := pt r' hr'
        exact ⟨ne, t', n', (upd_ne ne).trans (same_new nr _ _ e), nv'⟩
      · have rD : r ≠ D := fun z => by subst z; rw [hD'] at nr; cases nr
        rw [List.mem_singleton.mp hr']
        exact ⟨rD, t, v2, (upd_ne rD).trans upd_same, nv2⟩
    obtain ⟨kp, ps, hD', pl, pt⟩ := hW
    rw [sv_len] at pl
    have zr' := kp _ _ (ne_of_none zr hD) zr
    refine .inl ⟨_, _, zr', hD', by rw [List.length_map, List.length_map, sl_big]; omega, fun q1 nq1 => ⟨sl_of (n := 2) rfl, fun p5 n5 => ⟨sl_of (n := 1) rfl, fun p6 n6 => .inl ⟨_, _, same_new n6 _ _ (same_new n5 _ _ upd_same), upd_same, by rw [List.length_append, List.length_map, List.length_map, sl_big]; show _ + 1 ≤ _; omega, fun q2 nq2 => ?_⟩⟩⟩⟩
    have sF := (((same_new (o := .lst (rs.map V.ref ++ ps.map V.ref)) nq1).trans (same_new (o := .tup [.str (S ol), .int (at_ : Nat)]) n5)).trans (same_new (o := .lst [.ref p5]) n6)).trans (same_new (o := .lst (rs.map V.ref ++ ps.map V.ref ++ [.ref p5])) nq2)
    have s10 : Keep D H10 H' := fun b o nb e => kp b o nb e
    have liD := ne_of_none li10 hD
    have liF := sF _ _ (kp _ _ liD li10)
    have DD : D ≠ s ∧ D ≠ cl := ⟨S10.ne hD, S10.nec hD⟩
    have SH' : Sto s cl 2100 H' := by
      obtain ⟨ns', i', d', b', e', h1, h2, h3, h4, h5, h6, h7⟩ := S10.ex
      exact ⟨ns', i', d', b', e', kp _ _ (Ne.symm DD.1) h1, kp _ _ (Ne.symm DD.2) h2, h3, h4, h5, h6, by omega⟩
    have SF := SH'.same sF
    have zF : Prz (upd (upd (upd (upd H' q1 (.lst (rs.map V.ref ++ ps.map V.ref))) p5 (.tup [.str (S ol), .int (at_ : Nat)])) p6 (.lst [.ref p5])) q2 (.lst (rs.map V.ref ++ ps.map V.ref ++ [.ref p5]))) q2 100 := by
      refine ⟨rs ++ ps ++ [p5], by rw [upd_same, List.map_append, List.map_append]; rfl, by rw [List.length_append, List.length_append]; show _ + _ + 1 ≤ _; omega, fun r hr => ?_⟩
      rcases List.mem_append.mp hr with hr | hr
      · rcases List.mem_append.mp hr with hr | hr
        · obtain ⟨t, n, e, nv⟩ := zt r hr
          exact ⟨t, n, sF _ _ (kp _ _ (ne_of_none e hD) e), nv⟩
        · obtain ⟨_, t, n, e, nv⟩ := pt r hr
          exact ⟨t, n, sF _ _ e, nv⟩
      · rw [List.mem_singleton.mp hr]
        exact ⟨ol, _, same_new nq2 _ _ (same_new n6 _ _ upd_same), .inl ⟨_, rfl⟩⟩
    have q2s := (SH'.same ((((same_new (o := .lst (rs.map V.ref ++ ps.map V.ref)) nq1).trans (same_new (o := .tup [.str (S ol), .int (at_ : Nat)]) n5)).trans (same_new (o := .lst [.ref p5]) n6)))).ne nq2
    generalize (upd (upd (upd (upd H' q1 (.lst (rs.map V.ref ++ ps.map V.ref))) p5 (.tup [.str (S ol), .int (at_ : Nat)])) p6 (.lst [.ref p5])) q2 (.lst (rs.map V.ref ++ ps.map V.ref ++ [.ref p5])) : Hp) = HF at liF SF zF ⊢
    refine .inl ⟨sl_of (n := 4) rfl, fun wl nwl => ⟨wl, rfl, ⟨_, SqL.of upd_same⟩, ?_⟩⟩
    have wls := SF.ne nwl
    refine for_list (xs := [.str (S W4.rank.cs), .str (S W4.dropped.cs), .str (S W4.inserted.cs), .str (S W4.exchanged.cs)]) (fun i σ H' => (∃ x y : Option V, σ = [some (.ref a), some (.ref s), some (.ref li), some (.str (S ol)), some (.int (at_ : Nat)), some (.ref q2), some v2, none, x, y, none, none, none]) ∧ H' li = some (.lst (sv ts)) ∧ Sto s cl (3000 + 200 * i) H' ∧ Prz H' q2 100 ∧ H' wl = some (.lst [.str (S W4.rank.cs), .str (S W4.dropped.cs), .str (S W4.inserted.cs), .str (S W4.exchanged.cs)]))
      ⟨⟨none, none, rfl⟩, same_new nwl _ _ liF, (SF.new nwl).mono (by decide), zF.keep (s := s) (Same.keep (same_new nwl)) q2s SF.tupne, upd_same⟩ (fun i σ H' _ hW => SqL.of hW.2.2.2.2) (fun i x σ H' hi hW => ?_) (fun σ H' hW => ?_)
    · obtain ⟨⟨x0, y0, rfl⟩, liW, SW, zW, wW⟩ := hW
      obtain ⟨w, rfl⟩ := W4.all (List.mem_of_getElem? hi)
      have i4 : i < 4 := (List.getElem?_eq_some_iff.mp hi).1
      obtain ⟨ws, wr, wl', wt⟩ := id zW
      refine .inl ⟨q2, rfl, ⟨_, SqL.of wr⟩, for_list (xs := ws.map V.ref) (fun j σ H2 => (∃ y : Option V, σ = [some (.ref a), some (.ref s), some (.ref li), some (.str (S ol)), some (.int (at_ : Nat)), some (.ref q2), some v2, none, some (.str (S w.cs)), y, none, none, none]) ∧ Keep s H' H2 ∧ Sto s cl (3000 + 200 * i + j) H2)
        ⟨⟨_, rfl⟩, Keep.refl, SW⟩ (fun j σ H2 _ hV => SqL.of (hV.2.1 _ _ q2s wr)) (fun j x σ H2 hj hV => ?_) (fun σ H2 hV => ?_)⟩
      · obtain ⟨⟨y1, rfl⟩, kV, SV⟩ := hV
        obtain ⟨r, hr, rfl⟩ := List.mem_map.mp (List.mem_of_getElem? hj)
        have jl := (List.getElem?_eq_some_iff.mp hj).1
        rw [List.length_map] at jl
        obtain ⟨t, n, e, nv⟩ := wt r hr
        have er := kV _ _ (SW.tupne _ _ e) e
        exact ⟨_, _, Sq.t er, rfl, _, _, Sq.t er, rfl, s, cl, _, w, li, ts, t, n, rfl, SV, by omega, kV _ _ lis liW, lis, by omega, f4, nd, nv, fun H3 k3' S3' => ⟨no_ft, fun _ => ⟨⟨_, rfl⟩, kV.trans k3', S3'⟩⟩⟩
      · obtain ⟨⟨y1, rfl⟩, kV, SV⟩ := hV
        rw [List.length_map] at SV
        exact ⟨⟨_, _, rfl⟩, kV _ _ lis liW, SV.mono (by omega), zW.keep kV q2s SW.tupne, kV _ _ wls wW⟩
    obtain ⟨⟨x0, y0, rfl⟩, liW, SW, zW, wW⟩ := hW
    refine ⟨_, Sq.l liW, fun pa npa => ?_⟩
    have lp : li ≠ pa := ne_of_none liW npa
    refine ⟨pa, ts, ol, at_, rfl, upd_same, by omega, nd, by omega, fun HG sG => ⟨no_ft, fun _ => ?_⟩⟩
    have paG := sG _ _ (upd_same (H := H') (a := pa) (o := .lst (sv ts)))
    have liG := sG _ _ (same_new npa _ _ liW)
    refine ⟨.list (dS ts), .list (dS ts), .lst (SqL.of paG) (dp_sv _), .lst (SqL.of liG) (dp_sv _), shaped_dS f4, shaped_dS f4, ?_⟩
    rw [eqv_dS, decide_eq_true rfl]
    refine ⟨no_ft, fun _ => ⟨tyL paG, _, paG, ?_⟩⟩
    rw [sv_rev]
    have liR : (upd HG pa (.lst (sv ts.reverse))) li = some (.lst (sv ts)) := (upd_ne lp).trans liG
    have paR : (upd HG pa (.lst (sv ts.reverse))) pa = some (.lst (sv ts.reverse)) := upd_same
    generalize (upd HG pa (.lst (sv ts.reverse)) : Hp) = HR at liR paR ⊢
    have rl : ts.reverse.length = ts.length := List.length_reverse
    have rnd : ts.reverse.Nodup := (List.Perm.nodup_iff (List.reverse_perm ts)).mpr nd
    refine ⟨_, Sq.l liR, _, rfl, by rw [sv_len]; omega, by rw [sv_len]; omega, ?_⟩
    rw [Int.toNat_natCast, sv_len]
    refine for_range (lo := 0) (n := ts.length) (fun i σ H' => (∃ x y z u : Option V, σ = [some (.ref a), some (.ref s), some (.ref li), some (.str (S ol)), some (.int (at_ : Nat)), some (.ref q2), some v2, none, x, y, some (.ref pa), z, u]) ∧ Same HR H') ⟨⟨_, _, _, _, rfl⟩, Same.refl _⟩ (fun i σ H' hi hV => ?_) (fun σ H' hV => ?_)
    · obtain ⟨⟨x1, y1, z1, u1, rfl⟩, sV⟩ := hV
      have gi : ts[i]? = some ts[i] := List.getElem?_eq_getElem hi
      have mi : ts[i] ∈ ts := List.getElem_mem hi
      have mr : ts[i] ∈ ts.reverse := List.mem_reverse.mpr mi
      have li' := sV _ _ liR
      have pa' := sV _ _ paR
      refine ⟨_, _, Sq.l li', at_int (by omega) (sv_get gi), rfl, rfl, pa, ts.reverse, ts[i], rfl, .inl pa', by omega, fun k gk fk => ?_, fun no => absurd mr no⟩
      have kl := (List.getElem?_eq_some_iff.mp gk).1
      have ek : k = ts.length - 1 - i := by
        have g2 : ts.reverse[ts.length - 1 - i]? = some ts[i] := by
          rw [List.getElem?_reverse (by omega), show ts.length - 1 - (ts.length - 1 - i) = i by omega, gi]
        exact (List.getElem?_inj kl rnd).mp (gk.trans g2.symm)
      refine ⟨_, Sq.l li', .int (k : Nat), _, rfl, ?_, no_ft, fun _ => ?_⟩
      · show ((k : Nat) : Int) = (((sv ts).length : Nat) : Int) - 1 - (0 + (i : Nat))
        rw [sv_len]
        omega
      refine ⟨_, _, Sq.l li', at_int (by omega) (sv_get gi), rfl, rfl, pa, ts.reverse, ts[i], rfl, .inl pa', by omega, fun _ r1 G1 s1 f1 h1 => ?_, fun no => absurd mr no⟩
      have li1 := s1 _ _ li'
      have pa1 := s1 _ _ pa'
      refine .inl ⟨pa, rfl, ⟨_, SqL.of pa1⟩, fun D hD => lc_fm (xs := sv ts.reverse) id (onP fun u => !decide (u = ts[i])) (SqL.of pa1) hD (by rw [sv_len, sl_big]; omega) (fun _ => rfl) (fun x ac Q' hx q' => ?_) (fun x ac Q' hx q' => q') ?_⟩
      · obtain ⟨u, hu, rfl⟩ := sv_mem hx
        have e : onP (fun u => !decide (u = ts[i])) (.str (S u)) = !decide (S u = S ts[i]) := by
          show (!decide (u = ts[i])) = _
          rw [decide_eq_decide.mpr ⟨fun z => by rw [z], fun z => S_inj z⟩]
        rw [e] at q'
        exact ⟨_, _, Sq.l (same_new hD _ _ li1), at_int (by omega) (sv_get gi), q'⟩
      · rw [List.map_id, sv_filter]
        refine ⟨.ref r1, .ref D, rfl, rep_sv (n := 6) (same_new hD _ _ h1) upd_same ?_, no_ft, fun _ => ⟨⟨_, _, _, _, rfl⟩, (sV.trans s1).trans (same_new hD)⟩⟩
        exact Nat.le_trans (List.length_filter_le _ _) (by omega)
    obtain ⟨⟨x1, y1, z1, u1, rfl⟩, sV⟩ := hV
    have li' := sV _ _ liR
    have pa' := sV _ _ paR
    refine ⟨fun σ2 H2 => (∃ x y z u : Option V, σ2 = [some (.ref a), some (.ref s), some (.ref li), some (.str (S ol)), some (.int (at_ : Nat)), some (.ref q2), some v2, none, x, y, some (.ref pa), z, u]) ∧ Same HR H2, ?_, ?_⟩
    · refine ⟨_, Sq.l li', rfl, sv_flat ts, fun c => ?_, fun c => ⟨no_ft, fun _ => ⟨⟨_, _, _, _, rfl⟩, sV⟩⟩⟩
      have c' : (!inV (.str (S ol)) (sv ts)) = true := c
      rw [inV_sv] at c'
      have no : ol ∉ ts := fun z => by rw [decide_eq_true z] at c'; cases c'
      have nr : ol ∉ ts.reverse := fun z => no (List.mem_reverse.mp z)
      refine ⟨rfl, rfl, pa, ts.reverse, ol, .int 0, rfl, .inl pa', by omega, .inl ⟨_, rfl⟩, fun _ m' em lm r1 G1 s1 f1 h1 => ?_, fun y => absurd y nr, fun _ bad => absurd ⟨0, rfl, by omega, by omega⟩ bad⟩
      have m00 : m' = 0 := by injection em with z; omega
      subst m00
      have pa1 := s1 _ _ pa'
      refine ⟨sl_of (n := 1) rfl, fun l1 n1 => .inl ⟨_, _, upd_same, same_new n1 _ _ pa1, by rw [sv_len, sl_big]; show 1 + _ ≤ _; omega, fun l2 n2 => ?_⟩⟩
      refine ⟨.ref r1, .ref l2, rfl, rep_sv (n := 6) (ls := ol :: ts.reverse) (same_new n2 _ _ (same_new n1 _ _ h1)) upd_same (by rw [List.length_cons]; omega), ?_⟩
      exact ⟨no_ft, fun _ => ⟨⟨_, _, _, _, rfl⟩, ((sV.trans s1).trans (same_new n1)).trans (same_new n2)⟩⟩
    rintro σ2 H2' ⟨⟨x2, y2, z2, u2, rfl⟩, sV2⟩
    have li2 := sV2 _ _ liR
    have pa2 := sV2 _ _ paR
    refine ⟨_, Sq.l li2, fun _ => q _, fun c => ?_⟩
    have c2 : ¬ (((sv ts).length : Nat) : Int) < 2 := of_decide_eq_false c
    rw [sv_len] at c2
    refine ⟨rfl, rfl, pa, ts.reverse, .int 0, rfl, .inl pa2, by omega, .inl ⟨_, rfl⟩, fun m' x y em gx gy r1 G1 s1 f1 h1 => ?_, fun bad => absurd ⟨0, rfl, by omega, by omega⟩ bad⟩
    have m00 : m' = 0 := by injection em with z; omega
    subst m00
    have pa3 := s1 _ _ pa2
    refine ⟨_, _, Sq.l pa3, at_int (by omega) (sv_get gy), _, _, Sq.l pa3, at_int (by omega) (sv_get gx), sl_of (n := 2) rfl, fun l1 n1 => ⟨_, rfl, sv ts.reverse, SqL.of (same_new n1 _ _ pa3), fun l2 n2 => ?_⟩⟩
    rw [show (2 : Int) = ((2 : Nat) : Int) from rfl, cutV_from, sv_drop]
    refine .inl ⟨_, _, same_new n2 _ _ upd_same, upd_same, by rw [sv_len, List.length_drop, sl_big]; show 2 + _ ≤ _; omega, fun l3 n3 => ?_⟩
    exact ⟨.ref r1, .ref l3, rfl, rep_sv (n := 6) (ls := y :: x :: ts.reverse.drop 2) (same_new n3 _ _ (same_new n2 _ _ (same_new n1 _ _ h1))) upd_same (by rw [List.length_cons, List.length_cons, List.length_drop]; omega), q _⟩
def d0 : Df := ⟨721, "_law_store", "_law_store", (topS 47)⟩
def d1 : Df := ⟨728, "_law_mix", "_law_mix", (topS 48)⟩
def d2 : Df := ⟨777, "_law_is_out", "_law_is_out", (topS 55)⟩
def d3 : Df := ⟨803, "_law_is_name", "_law_is_name", (topS 59)⟩
def d4 : Df := ⟨848, "_law_classes", "_law_classes", (topS 66)⟩
def d5 : Df := ⟨735, "_law_take", "_law_take", (topS 49)⟩
def d6 : Df := ⟨855, "_law_refused", "_law_refused", (topS 67)⟩
def d7 : Df := ⟨867, "_law_due", "_law_due", (topS 69)⟩
def d8 : Df := ⟨683, "check_number", "check_number", (topS 39)⟩
def d9 : Df := ⟨690, "check_known", "check_known", (topS 41)⟩
def d10 : Df := ⟨742, "_law_yes", "_law_yes", (topS 50)⟩
def d11 : Df := ⟨749, "_law_pick", "_law_pick", (topS 51)⟩
def d12 : Df := ⟨756, "_law_near", "_law_near", (topS 52)⟩
def d13 : Df := ⟨763, "_law_big", "_law_big", (topS 53)⟩
def d14 : Df := ⟨697, "rank", "rank", (topS 42)⟩
def d15 : Df := ⟨702, "dropped", "dropped", (topS 43)⟩
def d16 : Df := ⟨709, "inserted", "inserted", (topS 44)⟩
def d17 : Df := ⟨716, "exchanged", "exchanged", (topS 45)⟩
def d18 : Df := ⟨770, "_law_wrong_number", "_law_wrong_number", (topS 54)⟩
def d19 : Df := ⟨798, "_law_either", "_law_either", (topS 58)⟩
def d20 : Df := ⟨810, "_law_raw_name", "_law_raw_name", (topS 60)⟩
def d21 : Df := ⟨817, "_law_name", "_law_name", (topS 61)⟩
def d22 : Df := ⟨831, "_law_bad_name", "_law_bad_name", (topS 63)⟩
def d23 : Df := ⟨862, "_law_tried", "_law_tried", (topS 68)⟩
def d24 : Df := ⟨824, "_law_names", "_law_names", (topS 62)⟩
def d25 : Df := ⟨838, "_law_other", "_law_other", (topS 64)⟩
def d26 : Df := ⟨843, "_law_strings", "_law_strings", (topS 65)⟩
def d27 : Df := ⟨784, "_law_same", "_law_same", (topS 56)⟩
def d28 : Df := ⟨791, "_law_spoil", "_law_spoil", (topS 57)⟩
def d29 : Df := ⟨874, "_law_is_right", "_law_is_right", (topS 70)⟩
def d30 : Df := ⟨881, "_law_leads_back", "_law_leads_back", (topS 71)⟩
def d31 : Df := ⟨886, "law", "law", (topS 72)⟩
def d32 : Df := ⟨98, "__init__", "BadNumber.__init__", (clsS (topS 5))⟩
def d33 : Df := ⟨60, "__init__", "DuplicateName.__init__", (clsS (topS 3))⟩
def d34 : Df := ⟨291, "__init__", "UnknownThing.__init__", (clsS (topS 17))⟩
def dfs : List Df := [d0, d1, d2, d3, d4, d5, d6, d7, d8, d9, d10, d11, d12, d13, d14, d15, d16, d17, d18, d19, d20, d21, d22, d23, d24, d25, d26, d27, d28, d29, d30, d31, d32, d33, d34]
def fbs : List Fl := [.glo "_law_store" 721, .glo "_law_mix" 728, .glo "_law_is_out" 777, .glo "_law_is_name" 803, .glo "_law_classes" 848, .glo "_law_take" 735, .glo "_law_refused" 855, .glo "_law_due" 867, .glo "check_number" 683, .glo "check_known" 690, .glo "_law_yes" 742, .glo "_law_pick" 749, .glo "_law_near" 756, .glo "_law_big" 763, .glo "rank" 697, .glo "dropped" 702, .glo "inserted" 709, .glo "exchanged" 716, .glo "_law_wrong_number" 770, .glo "_law_either" 798, .glo "_law_raw_name" 810, .glo "_law_name" 817, .glo "_law_bad_name" 831, .glo "_law_tried" 862, .glo "_law_names" 824, .glo "_law_other" 838, .glo "_law_strings" 843, .glo "_law_same" 784, .glo "_law_spoil" 791, .glo "_law_is_right" 874, .glo "_law_leads_back" 881, .glo "law" 886, .free "ValueError", .free "bool", .free "int", .free "isinstance", .free "len", .free "list", .free "max", .free "range", .free "str", .free "tuple", .glo "BadCount" 82, .cls 82 [.ref 82, .ref 24, .type "ValueError", .type "Exception", .type "BaseException", .type "object"], .glo "BadKind" 120, .cls 120 [.ref 120, .ref 24, .type "ValueError", .type "Exception", .type "BaseException", .type "object"], .glo "BadLiking" 158, .cls 158 [.ref 158, .ref 24, .type "ValueError", .type "Exception", .type "BaseException", .type "object"], .glo "BadName" 44, .cls 44 [.ref 44, .ref 24, .type "ValueError", .type "Exception", .type "BaseException", .type "object"], .glo "BadNumber" 101, .cls 101 [.ref 101, .ref 24, .type "ValueError", .type "Exception", .type "BaseException", .type "object"], .glo "BadOrder" 351, .cls 351 [.ref 351, .ref 24, .type "ValueError", .type "Exception", .type "BaseException", .type "object"], .glo "BadOutlet" 208, .cls 208 [.ref 208, .ref 24, .type "ValueError", .type "Exception", .type "BaseException", .type "object"], .glo "BadPlace" 313, .cls 313 [.ref 313, .ref 24, .type "ValueError", .type "Exception", .type "BaseException", .type "object"], .glo "BadRoom" 139, .cls 139 [.ref 139, .ref 24, .type "ValueError", .type "Exception", .type "BaseException", .type "object"], .glo "BadText" 332, .cls 332 [.ref 332, .ref 24, .type "ValueError", .type "Exception", .type "BaseException", .type "object"], .glo "ClaimRefused" 256, .cls 256 [.ref 256, .ref 24, .type "ValueError", .type "Exception", .type "BaseException", .type "object"], .glo "DeedRefused" 389, .cls 389 [.ref 389, .ref 24, .type "ValueError", .type "Exception", .type "BaseException", .type "object"], .glo "DuplicateLanding" 579, .cls 579 [.ref 579, .ref 541, .ref 24, .type "ValueError", .type "Exception", .type "BaseException", .type "object"], .glo "DuplicateName" 63, .cls 63 [.ref 63, .ref 24, .type "ValueError", .type "Exception", .type "BaseException", .type "object"], .glo "LandingError" 541, .cls 541 [.ref 541, .ref 24, .type "ValueError", .type "Exception", .type "BaseException", .type "object"], .glo "LogRefused" 427, .cls 427 [.ref 427, .ref 24, .type "ValueError", .type "Exception", .type "BaseException", .type "object"], .glo "NeverDone" 636, .cls 636 [.ref 636, .ref 541, .ref 24, .type "ValueError", .type "Exception", .type "BaseException", .type "object"], .glo "NoFit" 446, .cls 446 [.ref 446, .ref 24, .type "ValueError", .type "Exception", .type "BaseException", .type "object"], .glo "NoHistory" 617, .cls 617 [.ref 617, .ref 541, .ref 24, .type "ValueError", .type "Exception", .type "BaseException", .type "object"], .glo "NotAfloat" 484, .cls 484 [.ref 484, .ref 24, .type "ValueError", .type "Exception", .type "BaseException", .type "object"], .glo "NotComparable" 220, .cls 220 [.ref 220, .ref 24, .type "ValueError", .type "Exception", .type "BaseException", .type "object"], .glo "NotSimple" 465, .cls 465 [.ref 465, .ref 24, .type "ValueError", .type "Exception", .type "BaseException", .type "object"], .glo "NotStage" 598, .cls 598 [.ref 598, .ref 541, .ref 24, .type "ValueError", .type "Exception", .type "BaseException", .type "object"], .glo "NothingToUndo" 244, .cls 244 [.ref 244, .ref 24, .type "ValueError", .type "Exception", .type "BaseException", .type "object"], .glo "OrderRefused" 408, .cls 408 [.ref 408, .ref 24, .type "ValueError", .type "Exception", .type "BaseException", .type "object"], .glo "OtherRiver" 232, .cls 232 [.ref 232, .ref 24, .type "ValueError", .type "Exception", .type "BaseException", .type "object"], .glo "Ring" 177, .cls 177 [.ref 177, .ref 24, .type "ValueError", .type "Exception", .type "BaseException", .type "object"], .glo "RiverError" 24, .cls 24 [.ref 24, .type "ValueError", .type "Exception", .type "BaseException", .type "object"], .glo "SameLanding" 655, .cls 655 [.ref 655, .ref 541, .ref 24, .type "ValueError", .type "Exception", .type "BaseException", .type "object"], .glo "ThingAtSea" 522, .cls 522 [.ref 522, .ref 484, .ref 24, .type "ValueError", .type "Exception", .type "BaseException", .type "object"], .glo "ThingKept" 503, .cls 503 [.ref 503, .ref 484, .ref 24, .type "ValueError", .type "Exception", .type "BaseException", .type "object"], .glo "TooMany" 370, .cls 370 [.ref 370, .ref 24, .type "ValueError", .type "Exception", .type "BaseException", .type "object"], .glo "TownNeeded" 196, .cls 196 [.ref 196, .ref 24, .type "ValueError", .type "Exception", .type "BaseException", .type "object"], .glo "UnknownLanding" 560, .cls 560 [.ref 560, .ref 541, .ref 24, .type "ValueError", .type "Exception", .type "BaseException", .type "object"], .glo "UnknownThing" 294, .cls 294 [.ref 294, .ref 24, .type "ValueError", .type "Exception", .type "BaseException", .type "object"], .glo "UnknownTown" 275, .cls 275 [.ref 275, .ref 24, .type "ValueError", .type "Exception", .type "BaseException", .type "object"], .glo "WrongEnd" 674, .cls 674 [.ref 674, .ref 541, .ref 24, .type "ValueError", .type "Exception", .type "BaseException", .type "object"], .base, .err 101 98, .nof 101 "number", .nof 101 "name", .nof 101 "thing", .err 63 60, .nof 63 "name", .nof 63 "number", .nof 63 "thing", .err 294 291, .nof 294 "thing", .nof 294 "name", .nof 294 "number"]
def ads : List Addr := [mainGlobals, 721, 720, 728, 727, 777, 776, 803, 802, 848, 847, 735, 734, 855, 854, 867, 866, 683, 682, 690, 689, 742, 741, 749, 748, 756, 755, 763, 762, 697, 696, 702, 701, 709, 708, 716, 715, 770, 769, 798, 797, 810, 809, 817, 816, 831, 830, 862, 861, 824, 823, 838, 837, 843, 842, 784, 783, 791, 790, 874, 873, 881, 880, 886, 885, 82, 81, 120, 119, 158, 157, 44, 43, 101, 100, 351, 350, 208, 207, 313, 312, 139, 138, 332, 331, 256, 255, 389, 388, 579, 578, 63, 62, 541, 540, 427, 426, 636, 635, 446, 445, 617, 616, 484, 483, 220, 219, 465, 464, 598, 597, 244, 243, 408, 407, 232, 231, 177, 176, 24, 23, 655, 654, 522, 521, 503, 502, 370, 369, 196, 195, 560, 559, 294, 293, 275, 274, 674, 673, 98, 97, 60, 59, 291, 290]
theorem km : PySem.W.kitMeta "ValueError" = true := by decide +kernel
def nm0 : List PySem.Str := ["RiverError", "BadName", "DuplicateName", "BadCount", "BadNumber", "BadKind", "BadRoom", "BadLiking", "Ring", "TownNeeded", "BadOutlet", "NotComparable", "OtherRiver", "NothingToUndo", "ClaimRefused", "UnknownTown", "UnknownThing", "BadPlace", "BadText", "BadOrder", "TooMany", "DeedRefused", "OrderRefused", "LogRefused", "NoFit", "NotSimple", "NotAfloat", "ThingKept", "ThingAtSea", "LandingError"]
def nm1 : List PySem.Str := ["UnknownLanding", "DuplicateLanding", "NotStage", "NoHistory", "NeverDone", "SameLanding", "WrongEnd", "check_number", "check_known", "rank", "dropped", "inserted", "exchanged", "_law_store", "_law_mix", "_law_take", "_law_yes", "_law_pick", "_law_near", "_law_big", "_law_wrong_number", "_law_is_out", "_law_same", "_law_spoil", "_law_either", "_law_is_name", "_law_raw_name", "_law_name", "_law_names", "_law_bad_name"]
def nm2 : List PySem.Str := ["_law_other", "_law_strings", "_law_classes", "_law_refused", "_law_tried", "_law_due", "_law_is_right", "_law_leads_back"]
def nms : List PySem.Str := nm0 ++ nm1 ++ nm2
abbrev RR : PySem.W.OpenRow := PySem.W.OpenLaw.row PySem.Challenge.rw_riverkeeps_k02_rank_insert_drop_exchange
abbrev hkR : PySem.W.Hook := hookL ads fbs dfs
def obR (s : PySem.W.SharedT) : AlL := obsLG ads fbs dfs (HandSHeadRun.getT s)
theorem obR_eq (s : PySem.W.SharedT) : obR s = hkR.obs s.abs := obsLG_eq (HandSHeadRun.getT_eq s)
noncomputable abbrev endR (w : World) (os : OsState) := HandSHeadRun.endF (HandSHeadRun.stepQ (HandSHeadRun.denQ HandSHeadRun.tabQ) RR.prog w) 60000 RR.prog w os
set_option maxHeartbeats 0 in
theorem runA (w : World) (os : OsState) : (endR w os).map (fun s => (HandSHeadRun.looksF RR.prog (PySem.W.boot_heap w.params) s.abs, HandSHeadRun.seenQ (PySem.W.view RR.prog [72]) nms (importedModules RR.prog.main.body) (fun s => PySem.W.xlAt (PySem.W.view RR.prog [72]) [] s && PySem.W.recOk RR.toRowW.records s) s.abs)) = some (true, PySem.W.openGood (PySem.W.view RR.prog [72]) nms) := by
  kernel_rfl
set_option maxHeartbeats 0 in
theorem runB (w : World) (os : OsState) : (endR w os).map obR = some (valL dfs) := by
  kernel_rfl
theorem runR (w : World) : HandSHeadRun.RunEq RR (PySem.W.view RR.prog [72]) hkR obR 60000 nms w := fun os => three_looks (runA w os) (runB w os)
theorem all_mk {P : Program} {w : World} {K : PySem.W.Frag} {h : Heap} {mg : Str → Option Value} {f : Addr} (X : K.In h) (G : h.Ns mainGlobals mg) (hfa : mg ("law" : Str) = some (.ref f)) (c : SaysL fbs dfs K) :
    ∃ fd : FuncData, (∀ (s : Shared) (v : Value), BindsTo s fd ⟨[v], []⟩ [("script", v)]) ∧ ∀ base : Heap, K.In base → base.Ns mainGlobals mg → FnOk P w K mg base CX0 10 f fd ["script"] (sp_law K) := by
  have e := hfa.symm.trans (Fl.glo_ok X G (c.fact 31 rfl))
  cases e
  obtain ⟨fd0, F0⟩ := c.def_ 0 (d := d0) rfl
  have F0 : Fun K "_law_store" "_law_store" (topS 47) 721 fd0 := F0
  have b0 := F0.binds (ps := ["script"]) fun _ _ _ _ _ _ us hl => match us, hl with | [_], _ => rfl
  obtain ⟨fd1, F1⟩ := c.def_ 1 (d := d1) rfl
  have F1 : Fun K "_law_mix" "_law_mix" (topS 48) 728 fd1 := F1
  have b1 := F1.binds (ps := ["cell", "turn"]) fun _ _ _ _ _ _ us hl => match us, hl with | [_, _], _ => rfl
  obtain ⟨fd2, F2⟩ := c.def_ 2 (d := d2) rfl
  have F2 : Fun K "_law_is_out" "_law_is_out" (topS 55) 777 fd2 := F2
  have b2 := F2.binds (ps := ["number", "low", "high"]) fun _ _ _ _ _ _ us hl => match us, hl with | [_, _, _], _ => rfl
  obtain ⟨fd3, F3⟩ := c.def_ 3 (d := d3) rfl
  have F3 : Fun K "_law_is_name" "_law_is_name" (topS 59) 803 fd3 := F3
  have b3 := F3.binds (ps := ["text"]) fun _ _ _ _ _ _ us hl => match us, hl with | [_], _ => rfl
  obtain ⟨fd4, F4⟩ := c.def_ 4 (d := d4) rfl
  have F4 : Fun K "_law_classes" "_law_classes" (topS 66) 848 fd4 := F4
  have b4 := F4.binds (ps := ["error"]) fun _ _ _ _ _ _ us hl => match us, hl with | [_], _ => rfl
  obtain ⟨fd5, F5⟩ := c.def_ 5 (d := d5) rfl
  have F5 : Fun K "_law_take" "_law_take" (topS 49) 735 fd5 := F5
  have b5 := F5.binds (ps := ["store", "many"]) fun _ _ _ _ _ _ us hl => match us, hl with | [_, _], _ => rfl
  obtain ⟨fd6, F6⟩ := c.def_ 6 (d := d6) rfl
  have F6 : Fun K "_law_refused" "_law_refused" (topS 67) 855 fd6 := F6
  have b6 := F6.binds (ps := ["error"]) fun _ _ _ _ _ _ us hl => match us, hl with | [_], _ => rfl
  obtain ⟨fd7, F7⟩ := c.def_ 7 (d := d7) rfl
  have F7 : Fun K "_law_due" "_law_due" (topS 69) 867 fd7 := F7
  have b7 := F7.binds (ps := ["word", "liking", "thing", "at"]) fun _ _ _ _ _ _ us hl => match us, hl with | [_, _, _, _], _ => rfl
  obtain ⟨fd8, F8⟩ := c.def_ 8 (d := d8) rfl
  have F8 : Fun K "check_number" "check_number" (topS 39) 683 fd8 := F8
  have b8 := F8.binds (ps := ["number", "low", "high"]) fun _ _ _ _ _ _ us hl => match us, hl with | [_, _, _], _ => rfl
  obtain ⟨fd9, F9⟩ := c.def_ 9 (d := d9) rfl
  have F9 : Fun K "check_known" "check_known" (topS 41) 690 fd9 := F9
  have b9 := F9.binds (ps := ["known", "thing"]) fun _ _ _ _ _ _ us hl => match us, hl with | [_, _], _ => rfl
  obtain ⟨fd10, F10⟩ := c.def_ 10 (d := d10) rfl
  have F10 : Fun K "_law_yes" "_law_yes" (topS 50) 742 fd10 := F10
  have b10 := F10.binds (ps := ["store", "many"]) fun _ _ _ _ _ _ us hl => match us, hl with | [_, _], _ => rfl
  obtain ⟨fd11, F11⟩ := c.def_ 11 (d := d11) rfl
  have F11 : Fun K "_law_pick" "_law_pick" (topS 51) 749 fd11 := F11
  have b11 := F11.binds (ps := ["store", "items"]) fun _ _ _ _ _ _ us hl => match us, hl with | [_, _], _ => rfl
  obtain ⟨fd12, F12⟩ := c.def_ 12 (d := d12) rfl
  have F12 : Fun K "_law_near" "_law_near" (topS 52) 756 fd12 := F12
  have b12 := F12.binds (ps := ["store", "low", "high"]) fun _ _ _ _ _ _ us hl => match us, hl with | [_, _, _], _ => rfl
  obtain ⟨fd13, F13⟩ := c.def_ 13 (d := d13) rfl
  have F13 : Fun K "_law_big" "_law_big" (topS 53) 763 fd13 := F13
  have b13 := F13.binds (ps := ["store"]) fun _ _ _ _ _ _ us hl => match us, hl with | [_], _ => rfl
  obtain ⟨fd14, F14⟩ := c.def_ 14 (d := d14) rfl
  have F14 : Fun K "rank" "rank" (topS 42) 697 fd14 := F14
  have b14 := F14.binds (ps := ["liking", "thing"]) fun _ _ _ _ _ _ us hl => match us, hl with | [_, _], _ => rfl
  obtain ⟨fd15, F15⟩ := c.def_ 15 (d := d15) rfl
  have F15 : Fun K "dropped" "dropped" (topS 43) 702 fd15 := F15
  have b15 := F15.binds (ps := ["liking", "thing"]) fun _ _ _ _ _ _ us hl => match us, hl with | [_, _], _ => rfl
  obtain ⟨fd16, F16⟩ := c.def_ 16 (d := d16) rfl
  have F16 : Fun K "inserted" "inserted" (topS 44) 709 fd16 := F16
  have b16 := F16.binds (ps := ["liking", "thing", "at"]) fun _ _ _ _ _ _ us hl => match us, hl with | [_, _, _], _ => rfl
  obtain ⟨fd17, F17⟩ := c.def_ 17 (d := d17) rfl
  have F17 : Fun K "exchanged" "exchanged" (topS 45) 716 fd17 := F17
  have b17 := F17.binds (ps := ["liking", "at"]) fun _ _ _ _ _ _ us hl => match us, hl with | [_, _], _ => rfl
  obtain ⟨fd18, F18⟩ := c.def_ 18 (d := d18) rfl
  have F18 : Fun K "_law_wrong_number" "_law_wrong_number" (topS 54) 770 fd18 := F18
  have b18 := F18.binds (ps := ["store", "low", "high"]) fun _ _ _ _ _ _ us hl => match us, hl with | [_, _, _], _ => rfl
  obtain ⟨fd19, F19⟩ := c.def_ 19 (d := d19) rfl
  have F19 : Fun K "_law_either" "_law_either" (topS 58) 798 fd19 := F19
  have b19 := F19.binds (ps := ["store", "items"]) fun _ _ _ _ _ _ us hl => match us, hl with | [_, _], _ => rfl
  obtain ⟨fd20, F20⟩ := c.def_ 20 (d := d20) rfl
  have F20 : Fun K "_law_raw_name" "_law_raw_name" (topS 60) 810 fd20 := F20
  have b20 := F20.binds (ps := ["store"]) fun _ _ _ _ _ _ us hl => match us, hl with | [_], _ => rfl
  obtain ⟨fd21, F21⟩ := c.def_ 21 (d := d21) rfl
  have F21 : Fun K "_law_name" "_law_name" (topS 61) 817 fd21 := F21
  have b21 := F21.binds (ps := ["store", "taken"]) fun _ _ _ _ _ _ us hl => match us, hl with | [_, _], _ => rfl
  obtain ⟨fd22, F22⟩ := c.def_ 22 (d := d22) rfl
  have F22 : Fun K "_law_bad_name" "_law_bad_name" (topS 63) 831 fd22 := F22
  have b22 := F22.binds (ps := ["store"]) fun _ _ _ _ _ _ us hl => match us, hl with | [_], _ => rfl
  obtain ⟨fd23, F23⟩ := c.def_ 23 (d := d23) rfl
  have F23 : Fun K "_law_tried" "_law_tried" (topS 68) 862 fd23 := F23
  have b23 := F23.binds (ps := ["word", "liking", "thing", "at"]) fun _ _ _ _ _ _ us hl => match us, hl with | [_, _, _, _], _ => rfl
  obtain ⟨fd24, F24⟩ := c.def_ 24 (d := d24) rfl
  have F24 : Fun K "_law_names" "_law_names" (topS 62) 824 fd24 := F24
  have b24 := F24.binds (ps := ["store", "many"]) fun _ _ _ _ _ _ us hl => match us, hl with | [_, _], _ => rfl
  obtain ⟨fd25, F25⟩ := c.def_ 25 (d := d25) rfl
  have F25 : Fun K "_law_other" "_law_other" (topS 64) 838 fd25 := F25
  have b25 := F25.binds (ps := ["store", "names"]) fun _ _ _ _ _ _ us hl => match us, hl with | [_, _], _ => rfl
  obtain ⟨fd26, F26⟩ := c.def_ 26 (d := d26) rfl
  have F26 : Fun K "_law_strings" "_law_strings" (topS 65) 843 fd26 := F26
  have b26 := F26.binds (ps := ["store", "many"]) fun _ _ _ _ _ _ us hl => match us, hl with | [_, _], _ => rfl
  obtain ⟨fd27, F27⟩ := c.def_ 27 (d := d27) rfl
  have F27 : Fun K "_law_same" "_law_same" (topS 56) 784 fd27 := F27
  have b27 := F27.binds (ps := ["actual", "expected"]) fun _ _ _ _ _ _ us hl => match us, hl with | [_, _], _ => rfl
  obtain ⟨fd28, F28⟩ := c.def_ 28 (d := d28) rfl
  have F28 : Fun K "_law_spoil" "_law_spoil" (topS 57) 791 fd28 := F28
  have b28 := F28.binds (ps := ["value", "depth"]) fun _ _ _ _ _ _ us hl => match us, hl with | [_, _], _ => rfl
  obtain ⟨fd29, F29⟩ := c.def_ 29 (d := d29) rfl
  have F29 : Fun K "_law_is_right" "_law_is_right" (topS 70) 874 fd29 := F29
  have b29 := F29.binds (ps := ["store", "word", "liking", "thing", "at"]) fun _ _ _ _ _ _ us hl => match us, hl with | [_, _, _, _, _], _ => rfl
  obtain ⟨fd30, F30⟩ := c.def_ 30 (d := d30) rfl
  have F30 : Fun K "_law_leads_back" "_law_leads_back" (topS 71) 881 fd30 := F30
  have b30 := F30.binds (ps := ["liking", "other", "at"]) fun _ _ _ _ _ _ us hl => match us, hl with | [_, _, _], _ => rfl
  obtain ⟨fd31, F31⟩ := c.def_ 31 (d := d31) rfl
  have F31 : Fun K "law" "law" (topS 72) 886 fd31 := F31
  have b31 := F31.binds (ps := ["script"]) fun _ _ _ _ _ _ us hl => match us, hl with | [_], _ => rfl
  have kb15 := fun_kb (ps := ["liking", "thing"]) (ks := ["liking", "thing"]) F15 fun _ _ _ _ _ _ us ws h1 h2 => match us, ws, h1, h2 with | [], [_, _], _, _ => rfl
  have kb17 := fun_kb (ps := ["liking", "at"]) (ks := ["liking", "at"]) F17 fun _ _ _ _ _ _ us ws h1 h2 => match us, ws, h1, h2 with | [], [_, _], _, _ => rfl
  have kb16 := fun_kb (ps := ["liking", "thing", "at"]) (ks := ["liking", "thing", "at"]) F16 fun _ _ _ _ _ _ us ws h1 h2 => match us, ws, h1, h2 with | [], [_, _, _], _, _ => rfl
  have kb14 := fun_kb (ps := ["liking", "thing"]) (ks := ["liking", "thing"]) F14 fun _ _ _ _ _ _ us ws h1 h2 => match us, ws, h1, h2 with | [], [_, _], _, _ => rfl
  have cl_BadCount := Fl.cls_ok (c.fact 42 rfl) (c.fact 43 rfl)
  have cl_BadKind := Fl.cls_ok (c.fact 44 rfl) (c.fact 45 rfl)
  have cl_BadLiking := Fl.cls_ok (c.fact 46 rfl) (c.fact 47 rfl)
  have cl_BadName := Fl.cls_ok (c.fact 48 rfl) (c.fact 49 rfl)
  have cl_BadNumber := Fl.cls_ok (c.fact 50 rfl) (c.fact 51 rfl)
  have cl_BadOrder := Fl.cls_ok (c.fact 52 rfl) (c.fact 53 rfl)
  have cl_BadOutlet := Fl.cls_ok (c.fact 54 rfl) (c.fact 55 rfl)
  have cl_BadPlace := Fl.cls_ok (c.fact 56 rfl) (c.fact 57 rfl)
  have cl_BadRoom := Fl.cls_ok (c.fact 58 rfl) (c.fact 59 rfl)
  have cl_BadText := Fl.cls_ok (c.fact 60 rfl) (c.fact 61 rfl)
  have cl_ClaimRefused := Fl.cls_ok (c.fact 62 rfl) (c.fact 63 rfl)
  have cl_DeedRefused := Fl.cls_ok (c.fact 64 rfl) (c.fact 65 rfl)
  have cl_DuplicateLanding := Fl.cls_ok (c.fact 66 rfl) (c.fact 67 rfl)
  have cl_DuplicateName := Fl.cls_ok (c.fact 68 rfl) (c.fact 69 rfl)
  have cl_LandingError := Fl.cls_ok (c.fact 70 rfl) (c.fact 71 rfl)
  have cl_LogRefused := Fl.cls_ok (c.fact 72 rfl) (c.fact 73 rfl)
  have cl_NeverDone := Fl.cls_ok (c.fact 74 rfl) (c.fact 75 rfl)
  have cl_NoFit := Fl.cls_ok (c.fact 76 rfl) (c.fact 77 rfl)
  have cl_NoHistory := Fl.cls_ok (c.fact 78 rfl) (c.fact 79 rfl)
  have cl_NotAfloat := Fl.cls_ok (c.fact 80 rfl) (c.fact 81 rfl)
  have cl_NotComparable := Fl.cls_ok (c.fact 82 rfl) (c.fact 83 rfl)
  have cl_NotSimple := Fl.cls_ok (c.fact 84 rfl) (c.fact 85 rfl)
  have cl_NotStage := Fl.cls_ok (c.fact 86 rfl) (c.fact 87 rfl)
  have cl_NothingToUndo := Fl.cls_ok (c.fact 88 rfl) (c.fact 89 rfl)
  have cl_OrderRefused := Fl.cls_ok (c.fact 90 rfl) (c.fact 91 rfl)
  have cl_OtherRiver := Fl.cls_ok (c.fact 92 rfl) (c.fact 93 rfl)
  have cl_Ring := Fl.cls_ok (c.fact 94 rfl) (c.fact 95 rfl)
  have cl_RiverError := Fl.cls_ok (c.fact 96 rfl) (c.fact 97 rfl)
  have cl_SameLanding := Fl.cls_ok (c.fact 98 rfl) (c.fact 99 rfl)
  have cl_ThingAtSea := Fl.cls_ok (c.fact 100 rfl) (c.fact 101 rfl)
  have cl_ThingKept := Fl.cls_ok (c.fact 102 rfl) (c.fact 103 rfl)
  have cl_TooMany := Fl.cls_ok (c.fact 104 rfl) (c.fact 105 rfl)
  have cl_TownNeeded := Fl.cls_ok (c.fact 106 rfl) (c.fact 107 rfl)
  have cl_UnknownLanding := Fl.cls_ok (c.fact 108 rfl) (c.fact 109 rfl)
  have cl_UnknownThing := Fl.cls_ok (c.fact 110 rfl) (c.fact 111 rfl)
  have cl_UnknownTown := Fl.cls_ok (c.fact 112 rfl) (c.fact 113 rfl)
  have cl_WrongEnd := Fl.cls_ok (c.fact 114 rfl) (c.fact 115 rfl)
  have bs : Fl.base.ok K = true := (c.fact 116 rfl)
  have er_BadNumber := Fl.err_ok cl_BadNumber bs rfl rfl (c.fact 117 rfl)
  obtain ⟨fi_BadNumber, Fi_BadNumber⟩ := c.def_ 32 (d := d32) rfl
  have Fi_BadNumber : Fun K "__init__" "BadNumber.__init__" (clsS (topS 5)) 98 fi_BadNumber := Fi_BadNumber
  have bi_BadNumber := Fi_BadNumber.binds (ps := ["self", "number"]) fun _ _ _ _ _ _ us hl => match us, hl with | [_, _], _ => rfl
  have er_DuplicateName := Fl.err_ok cl_DuplicateName bs rfl rfl (c.fact 121 rfl)
  obtain ⟨fi_DuplicateName, Fi_DuplicateName⟩ := c.def_ 33 (d := d33) rfl
  have Fi_DuplicateName : Fun K "__init__" "DuplicateName.__init__" (clsS (topS 3)) 60 fi_DuplicateName := Fi_DuplicateName
  have bi_DuplicateName := Fi_DuplicateName.binds (ps := ["self", "name"]) fun _ _ _ _ _ _ us hl => match us, hl with | [_, _], _ => rfl
  have er_UnknownThing := Fl.err_ok cl_UnknownThing bs rfl rfl (c.fact 125 rfl)
  obtain ⟨fi_UnknownThing, Fi_UnknownThing⟩ := c.def_ 34 (d := d34) rfl
  have Fi_UnknownThing : Fun K "__init__" "UnknownThing.__init__" (clsS (topS 17)) 291 fi_UnknownThing := Fi_UnknownThing
  have bi_UnknownThing := Fi_UnknownThing.binds (ps := ["self", "thing"]) fun _ _ _ _ _ _ us hl => match us, hl with | [_, _], _ => rfl
  have bA := binds_law F31 fun _ _ _ _ _ _ _ => rfl
  exact ⟨_, bA, fun base _ _ => ok_law { a__law_store := 721, fd__law_store := _, F__law_store := F0, b__law_store := b0, g__law_store := Fl.glo_ok X G (c.fact 0 rfl), a__law_mix := 728, fd__law_mix := _, F__law_mix := F1, b__law_mix := b1, g__law_mix := Fl.glo_ok X G (c.fact 1 rfl), a__law_is_out := 777, fd__law_is_out := _, F__law_is_out := F2, b__law_is_out := b2, g__law_is_out := Fl.glo_ok X G (c.fact 2 rfl), a__law_is_name := 803, fd__law_is_name := _, F__law_is_name := F3, b__law_is_name := b3, g__law_is_name := Fl.glo_ok X G (c.fact 3 rfl), a__law_classes := 848, fd__law_classes := _, F__law_classes := F4, b__law_classes := b4, g__law_classes := Fl.glo_ok X G (c.fact 4 rfl), a__law_take := 735, fd__law_take := _, F__law_take := F5, b__law_take := b5, g__law_take := Fl.glo_ok X G (c.fact 5 rfl), a__law_refused := 855, fd__law_refused := _, F__law_refused := F6, b__law_refused := b6, g__law_refused := Fl.glo_ok X G (c.fact 6 rfl), a__law_due := 867, fd__law_due := _, F__law_due := F7, b__law_due := b7, g__law_due := Fl.glo_ok X G (c.fact 7 rfl), a_check_number := 683, fd_check_number := _, F_check_number := F8, b_check_number := b8, g_check_number := Fl.glo_ok X G (c.fact 8 rfl), a_check_known := 690, fd_check_known := _, F_check_known := F9, b_check_known := b9, g_check_known := Fl.glo_ok X G (c.fact 9 rfl), a__law_yes := 742, fd__law_yes := _, F__law_yes := F10, b__law_yes := b10, g__law_yes := Fl.glo_ok X G (c.fact 10 rfl), a__law_pick := 749, fd__law_pick := _, F__law_pick := F11, b__law_pick := b11, g__law_pick := Fl.glo_ok X G (c.fact 11 rfl), a__law_near := 756, fd__law_near := _, F__law_near := F12, b__law_near := b12, g__law_near := Fl.glo_ok X G (c.fact 12 rfl), a__law_big := 763, fd__law_big := _, F__law_big := F13, b__law_big := b13, g__law_big := Fl.glo_ok X G (c.fact 13 rfl), a_rank := 697, fd_rank := _, F_rank := F14, b_rank := b14, g_rank := Fl.glo_ok X G (c.fact 14 rfl), a_dropped := 702, fd_dropped := _, F_dropped := F15, b_dropped := b15, g_dropped := Fl.glo_ok X G (c.fact 15 rfl), a_inserted := 709, fd_inserted := _, F_inserted := F16, b_inserted := b16, g_inserted := Fl.glo_ok X G (c.fact 16 rfl), a_exchanged := 716, fd_exchanged := _, F_exchanged := F17, b_exchanged := b17, g_exchanged := Fl.glo_ok X G (c.fact 17 rfl), a__law_wrong_number := 770, fd__law_wrong_number := _, F__law_wrong_number := F18, b__law_wrong_number := b18, g__law_wrong_number := Fl.glo_ok X G (c.fact 18 rfl), a__law_either := 798, fd__law_either := _, F__law_either := F19, b__law_either := b19, g__law_either := Fl.glo_ok X G (c.fact 19 rfl), a__law_raw_name := 810, fd__law_raw_name := _, F__law_raw_name := F20, b__law_raw_name := b20, g__law_raw_name := Fl.glo_ok X G (c.fact 20 rfl), a__law_name := 817, fd__law_name := _, F__law_name := F21, b__law_name := b21, g__law_name := Fl.glo_ok X G (c.fact 21 rfl), a__law_bad_name := 831, fd__law_bad_name := _, F__law_bad_name := F22, b__law_bad_name := b22, g__law_bad_name := Fl.glo_ok X G (c.fact 22 rfl), a__law_tried := 862, fd__law_tried := _, F__law_tried := F23, b__law_tried := b23, g__law_tried := Fl.glo_ok X G (c.fact 23 rfl), a__law_names := 824, fd__law_names := _, F__law_names := F24, b__law_names := b24, g__law_names := Fl.glo_ok X G (c.fact 24 rfl), a__law_other := 838, fd__law_other := _, F__law_other := F25, b__law_other := b25, g__law_other := Fl.glo_ok X G (c.fact 25 rfl), a__law_strings := 843, fd__law_strings := _, F__law_strings := F26, b__law_strings := b26, g__law_strings := Fl.glo_ok X G (c.fact 26 rfl), a__law_same := 784, fd__law_same := _, F__law_same := F27, b__law_same := b27, g__law_same := Fl.glo_ok X G (c.fact 27 rfl), a__law_spoil := 791, fd__law_spoil := _, F__law_spoil := F28, b__law_spoil := b28, g__law_spoil := Fl.glo_ok X G (c.fact 28 rfl), a__law_is_right := 874, fd__law_is_right := _, F__law_is_right := F29, b__law_is_right := b29, g__law_is_right := Fl.glo_ok X G (c.fact 29 rfl), a__law_leads_back := 881, fd__law_leads_back := _, F__law_leads_back := F30, b__law_leads_back := b30, g__law_leads_back := Fl.glo_ok X G (c.fact 30 rfl), a_law := 886, fd_law := _, F_law := F31, b_law := b31, g_law := Fl.glo_ok X G (c.fact 31 rfl), kb_dropped := kb15, kb_exchanged := kb17, kb_inserted := kb16, kb_rank := kb14, n_ValueError := Fl.free_ok X G (c.fact 32 rfl), n_bool := Fl.free_ok X G (c.fact 33 rfl), n_int := Fl.free_ok X G (c.fact 34 rfl), n_isinstance := Fl.free_ok X G (c.fact 35 rfl), n_len := Fl.free_ok X G (c.fact 36 rfl), n_list := Fl.free_ok X G (c.fact 37 rfl), n_max := Fl.free_ok X G (c.fact 38 rfl), n_range := Fl.free_ok X G (c.fact 39 rfl), n_str := Fl.free_ok X G (c.fact 40 rfl), n_tuple := Fl.free_ok X G (c.fact 41 rfl), gc_BadCount := cl_BadCount.at_ X G (c.fact 42 rfl), gc_BadKind := cl_BadKind.at_ X G (c.fact 44 rfl), gc_BadLiking := cl_BadLiking.at_ X G (c.fact 46 rfl), gc_BadName := cl_BadName.at_ X G (c.fact 48 rfl), gc_BadNumber := cl_BadNumber.at_ X G (c.fact 50 rfl), gc_BadOrder := cl_BadOrder.at_ X G (c.fact 52 rfl), gc_BadOutlet := cl_BadOutlet.at_ X G (c.fact 54 rfl), gc_BadPlace := cl_BadPlace.at_ X G (c.fact 56 rfl), gc_BadRoom := cl_BadRoom.at_ X G (c.fact 58 rfl), gc_BadText := cl_BadText.at_ X G (c.fact 60 rfl), gc_ClaimRefused := cl_ClaimRefused.at_ X G (c.fact 62 rfl), gc_DeedRefused := cl_DeedRefused.at_ X G (c.fact 64 rfl), gc_DuplicateLanding := cl_DuplicateLanding.at_ X G (c.fact 66 rfl), gc_DuplicateName := cl_DuplicateName.at_ X G (c.fact 68 rfl), gc_LandingError := cl_LandingError.at_ X G (c.fact 70 rfl), gc_LogRefused := cl_LogRefused.at_ X G (c.fact 72 rfl), gc_NeverDone := cl_NeverDone.at_ X G (c.fact 74 rfl), gc_NoFit := cl_NoFit.at_ X G (c.fact 76 rfl), gc_NoHistory := cl_NoHistory.at_ X G (c.fact 78 rfl), gc_NotAfloat := cl_NotAfloat.at_ X G (c.fact 80 rfl), gc_NotComparable := cl_NotComparable.at_ X G (c.fact 82 rfl), gc_NotSimple := cl_NotSimple.at_ X G (c.fact 84 rfl), gc_NotStage := cl_NotStage.at_ X G (c.fact 86 rfl), gc_NothingToUndo := cl_NothingToUndo.at_ X G (c.fact 88 rfl), gc_OrderRefused := cl_OrderRefused.at_ X G (c.fact 90 rfl), gc_OtherRiver := cl_OtherRiver.at_ X G (c.fact 92 rfl), gc_Ring := cl_Ring.at_ X G (c.fact 94 rfl), gc_RiverError := cl_RiverError.at_ X G (c.fact 96 rfl), gc_SameLanding := cl_SameLanding.at_ X G (c.fact 98 rfl), gc_ThingAtSea := cl_ThingAtSea.at_ X G (c.fact 100 rfl), gc_ThingKept := cl_ThingKept.at_ X G (c.fact 102 rfl), gc_TooMany := cl_TooMany.at_ X G (c.fact 104 rfl), gc_TownNeeded := cl_TownNeeded.at_ X G (c.fact 106 rfl), gc_UnknownLanding := cl_UnknownLanding.at_ X G (c.fact 108 rfl), gc_UnknownThing := cl_UnknownThing.at_ X G (c.fact 110 rfl), gc_UnknownTown := cl_UnknownTown.at_ X G (c.fact 112 rfl), gc_WrongEnd := cl_WrongEnd.at_ X G (c.fact 114 rfl), i_BadNumber := 98, fi_BadNumber := _, Fi_BadNumber := Fi_BadNumber, e_BadNumber := ⟨er_BadNumber.ox, er_BadNumber.er, er_BadNumber.ini, er_BadNumber.fn, Fl.nof_ok cl_BadNumber.e (c.fact 118 rfl), cl_BadNumber.at_ X G (c.fact 50 rfl), bi_BadNumber⟩, kit_BadNumber_BadCount := cl_BadNumber.kit cl_BadCount rfl (fun z => absurd z (by decide)), kit_BadNumber_BadKind := cl_BadNumber.kit cl_BadKind rfl (fun z => absurd z (by decide)), kit_BadNumber_BadLiking := cl_BadNumber.kit cl_BadLiking rfl (fun z => absurd z (by decide)), kit_BadNumber_BadName := cl_BadNumber.kit cl_BadName rfl (fun z => absurd z (by decide)), kit_BadNumber_BadNumber := cl_BadNumber.kit cl_BadNumber rfl (fun _ => rfl), kit_BadNumber_BadOrder := cl_BadNumber.kit cl_BadOrder rfl (fun z => absurd z (by decide)), kit_BadNumber_BadOutlet := cl_BadNumber.kit cl_BadOutlet rfl (fun z => absurd z (by decide)), kit_BadNumber_BadPlace := cl_BadNumber.kit cl_BadPlace rfl (fun z => absurd z (by decide)), kit_BadNumber_BadRoom := cl_BadNumber.kit cl_BadRoom rfl (fun z => absurd z (by decide)), kit_BadNumber_BadText := cl_BadNumber.kit cl_BadText rfl (fun z => absurd z (by decide)), kit_BadNumber_ClaimRefused := cl_BadNumber.kit cl_ClaimRefused rfl (fun z => absurd z (by decide)), kit_BadNumber_DeedRefused := cl_BadNumber.kit cl_DeedRefused rfl (fun z => absurd z (by decide)), kit_BadNumber_DuplicateLanding := cl_BadNumber.kit cl_DuplicateLanding rfl (fun z => absurd z (by decide)), kit_BadNumber_DuplicateName := cl_BadNumber.kit cl_DuplicateName rfl (fun z => absurd z (by decide)), kit_BadNumber_LandingError := cl_BadNumber.kit cl_LandingError rfl (fun z => absurd z (by decide)), kit_BadNumber_LogRefused := cl_BadNumber.kit cl_LogRefused rfl (fun z => absurd z (by decide)), kit_BadNumber_NeverDone := cl_BadNumber.kit cl_NeverDone rfl (fun z => absurd z (by decide)), kit_BadNumber_NoFit := cl_BadNumber.kit cl_NoFit rfl (fun z => absurd z (by decide)), kit_BadNumber_NoHistory := cl_BadNumber.kit cl_NoHistory rfl (fun z => absurd z (by decide)), kit_BadNumber_NotAfloat := cl_BadNumber.kit cl_NotAfloat rfl (fun z => absurd z (by decide)), kit_BadNumber_NotComparable := cl_BadNumber.kit cl_NotComparable rfl (fun z => absurd z (by decide)), kit_BadNumber_NotSimple := cl_BadNumber.kit cl_NotSimple rfl (fun z => absurd z (by decide)), kit_BadNumber_NotStage := cl_BadNumber.kit cl_NotStage rfl (fun z => absurd z (by decide)), kit_BadNumber_NothingToUndo := cl_BadNumber.kit cl_NothingToUndo rfl (fun z => absurd z (by decide)), kit_BadNumber_OrderRefused := cl_BadNumber.kit cl_OrderRefused rfl (fun z => absurd z (by decide)), kit_BadNumber_OtherRiver := cl_BadNumber.kit cl_OtherRiver rfl (fun z => absurd z (by decide)), kit_BadNumber_Ring := cl_BadNumber.kit cl_Ring rfl (fun z => absurd z (by decide)), kit_BadNumber_RiverError := cl_BadNumber.kit cl_RiverError rfl (fun _ => rfl), kit_BadNumber_SameLanding := cl_BadNumber.kit cl_SameLanding rfl (fun z => absurd z (by decide)), kit_BadNumber_ThingAtSea := cl_BadNumber.kit cl_ThingAtSea rfl (fun z => absurd z (by decide)), kit_BadNumber_ThingKept := cl_BadNumber.kit cl_ThingKept rfl (fun z => absurd z (by decide)), kit_BadNumber_TooMany := cl_BadNumber.kit cl_TooMany rfl (fun z => absurd z (by decide)), kit_BadNumber_TownNeeded := cl_BadNumber.kit cl_TownNeeded rfl (fun z => absurd z (by decide)), kit_BadNumber_UnknownLanding := cl_BadNumber.kit cl_UnknownLanding rfl (fun z => absurd z (by decide)), kit_BadNumber_UnknownThing := cl_BadNumber.kit cl_UnknownThing rfl (fun z => absurd z (by decide)), kit_BadNumber_UnknownTown := cl_BadNumber.kit cl_UnknownTown rfl (fun z => absurd z (by decide)), kit_BadNumber_WrongEnd := cl_BadNumber.kit cl_WrongEnd rfl (fun z => absurd z (by decide)), kitv_BadNumber := cl_BadNumber.val rfl km, exm_BadNumber := cl_BadNumber.exm cl_RiverError rfl rfl, nf_BadNumber_name := Fl.nof_ok cl_BadNumber.e (c.fact 119 rfl), nf_BadNumber_number := Fl.nof_ok cl_BadNumber.e (c.fact 118 rfl), nf_BadNumber_thing := Fl.nof_ok cl_BadNumber.e (c.fact 120 rfl), i_DuplicateName := 60, fi_DuplicateName := _, Fi_DuplicateName := Fi_DuplicateName, e_DuplicateName := ⟨er_DuplicateName.ox, er_DuplicateName.er, er_DuplicateName.ini, er_DuplicateName.fn, Fl.nof_ok cl_DuplicateName.e (c.fact 122 rfl), cl_DuplicateName.at_ X G (c.fact 68 rfl), bi_DuplicateName⟩, kit_DuplicateName_BadCount := cl_DuplicateName.kit cl_BadCount rfl (fun z => absurd z (by decide)), kit_DuplicateName_BadKind := cl_DuplicateName.kit cl_BadKind rfl (fun z => absurd z (by decide)), kit_DuplicateName_BadLiking := cl_DuplicateName.kit cl_BadLiking rfl (fun z => absurd z (by decide)), kit_DuplicateName_BadName := cl_DuplicateName.kit cl_BadName rfl (fun z => absurd z (by decide)), kit_DuplicateName_BadNumber := cl_DuplicateName.kit cl_BadNumber rfl (fun z => absurd z (by decide)), kit_DuplicateName_BadOrder := cl_DuplicateName.kit cl_BadOrder rfl (fun z => absurd z (by decide)), kit_DuplicateName_BadOutlet := cl_DuplicateName.kit cl_BadOutlet rfl (fun z => absurd z (by decide)), kit_DuplicateName_BadPlace := cl_DuplicateName.kit cl_BadPlace rfl (fun z => absurd z (by decide)), kit_DuplicateName_BadRoom := cl_DuplicateName.kit cl_BadRoom rfl (fun z => absurd z (by decide)), kit_DuplicateName_BadText := cl_DuplicateName.kit cl_BadText rfl (fun z => absurd z (by decide)), kit_DuplicateName_ClaimRefused := cl_DuplicateName.kit cl_ClaimRefused rfl (fun z => absurd z (by decide)), kit_DuplicateName_DeedRefused := cl_DuplicateName.kit cl_DeedRefused rfl (fun z => absurd z (by decide)), kit_DuplicateName_DuplicateLanding := cl_DuplicateName.kit cl_DuplicateLanding rfl (fun z => absurd z (by decide)), kit_DuplicateName_DuplicateName := cl_DuplicateName.kit cl_DuplicateName rfl (fun _ => rfl), kit_DuplicateName_LandingError := cl_DuplicateName.kit cl_LandingError rfl (fun z => absurd z (by decide)), kit_DuplicateName_LogRefused := cl_DuplicateName.kit cl_LogRefused rfl (fun z => absurd z (by decide)), kit_DuplicateName_NeverDone := cl_DuplicateName.kit cl_NeverDone rfl (fun z => absurd z (by decide)), kit_DuplicateName_NoFit := cl_DuplicateName.kit cl_NoFit rfl (fun z => absurd z (by decide)), kit_DuplicateName_NoHistory := cl_DuplicateName.kit cl_NoHistory rfl (fun z => absurd z (by decide)), kit_DuplicateName_NotAfloat := cl_DuplicateName.kit cl_NotAfloat rfl (fun z => absurd z (by decide)), kit_DuplicateName_NotComparable := cl_DuplicateName.kit cl_NotComparable rfl (fun z => absurd z (by decide)), kit_DuplicateName_NotSimple := cl_DuplicateName.kit cl_NotSimple rfl (fun z => absurd z (by decide)), kit_DuplicateName_NotStage := cl_DuplicateName.kit cl_NotStage rfl (fun z => absurd z (by decide)), kit_DuplicateName_NothingToUndo := cl_DuplicateName.kit cl_NothingToUndo rfl (fun z => absurd z (by decide)), kit_DuplicateName_OrderRefused := cl_DuplicateName.kit cl_OrderRefused rfl (fun z => absurd z (by decide)), kit_DuplicateName_OtherRiver := cl_DuplicateName.kit cl_OtherRiver rfl (fun z => absurd z (by decide)), kit_DuplicateName_Ring := cl_DuplicateName.kit cl_Ring rfl (fun z => absurd z (by decide)), kit_DuplicateName_RiverError := cl_DuplicateName.kit cl_RiverError rfl (fun _ => rfl), kit_DuplicateName_SameLanding := cl_DuplicateName.kit cl_SameLanding rfl (fun z => absurd z (by decide)), kit_DuplicateName_ThingAtSea := cl_DuplicateName.kit cl_ThingAtSea rfl (fun z => absurd z (by decide)), kit_DuplicateName_ThingKept := cl_DuplicateName.kit cl_ThingKept rfl (fun z => absurd z (by decide)), kit_DuplicateName_TooMany := cl_DuplicateName.kit cl_TooMany rfl (fun z => absurd z (by decide)), kit_DuplicateName_TownNeeded := cl_DuplicateName.kit cl_TownNeeded rfl (fun z => absurd z (by decide)), kit_DuplicateName_UnknownLanding := cl_DuplicateName.kit cl_UnknownLanding rfl (fun z => absurd z (by decide)), kit_DuplicateName_UnknownThing := cl_DuplicateName.kit cl_UnknownThing rfl (fun z => absurd z (by decide)), kit_DuplicateName_UnknownTown := cl_DuplicateName.kit cl_UnknownTown rfl (fun z => absurd z (by decide)), kit_DuplicateName_WrongEnd := cl_DuplicateName.kit cl_WrongEnd rfl (fun z => absurd z (by decide)), kitv_DuplicateName := cl_DuplicateName.val rfl km, exm_DuplicateName := cl_DuplicateName.exm cl_RiverError rfl rfl, nf_DuplicateName_name := Fl.nof_ok cl_DuplicateName.e (c.fact 122 rfl), nf_DuplicateName_number := Fl.nof_ok cl_DuplicateName.e (c.fact 123 rfl), nf_DuplicateName_thing := Fl.nof_ok cl_DuplicateName.e (c.fact 124 rfl), i_UnknownThing := 291, fi_UnknownThing := _, Fi_UnknownThing := Fi_UnknownThing, e_UnknownThing := ⟨er_UnknownThing.ox, er_UnknownThing.er, er_UnknownThing.ini, er_UnknownThing.fn, Fl.nof_ok cl_UnknownThing.e (c.fact 126 rfl), cl_UnknownThing.at_ X G (c.fact 110 rfl), bi_UnknownThing⟩, kit_UnknownThing_BadCount := cl_UnknownThing.kit cl_BadCount rfl (fun z => absurd z (by decide)), kit_UnknownThing_BadKind := cl_UnknownThing.kit cl_BadKind rfl (fun z => absurd z (by decide)), kit_UnknownThing_BadLiking := cl_UnknownThing.kit cl_BadLiking rfl (fun z => absurd z (by decide)), kit_UnknownThing_BadName := cl_UnknownThing.kit cl_BadName rfl (fun z => absurd z (by decide)), kit_UnknownThing_BadNumber := cl_UnknownThing.kit cl_BadNumber rfl (fun z => absurd z (by decide)), kit_UnknownThing_BadOrder := cl_UnknownThing.kit cl_BadOrder rfl (fun z => absurd z (by decide)), kit_UnknownThing_BadOutlet := cl_UnknownThing.kit cl_BadOutlet rfl (fun z => absurd z (by decide)), kit_UnknownThing_BadPlace := cl_UnknownThing.kit cl_BadPlace rfl (fun z => absurd z (by decide)), kit_UnknownThing_BadRoom := cl_UnknownThing.kit cl_BadRoom rfl (fun z => absurd z (by decide)), kit_UnknownThing_BadText := cl_UnknownThing.kit cl_BadText rfl (fun z => absurd z (by decide)), kit_UnknownThing_ClaimRefused := cl_UnknownThing.kit cl_ClaimRefused rfl (fun z => absurd z (by decide)), kit_UnknownThing_DeedRefused := cl_UnknownThing.kit cl_DeedRefused rfl (fun z => absurd z (by decide)), kit_UnknownThing_DuplicateLanding := cl_UnknownThing.kit cl_DuplicateLanding rfl (fun z => absurd z (by decide)), kit_UnknownThing_DuplicateName := cl_UnknownThing.kit cl_DuplicateName rfl (fun z => absurd z (by decide)), kit_UnknownThing_LandingError := cl_UnknownThing.kit cl_LandingError rfl (fun z => absurd z (by decide)), kit_UnknownThing_LogRefused := cl_UnknownThing.kit cl_LogRefused rfl (fun z => absurd z (by decide)), kit_UnknownThing_NeverDone := cl_UnknownThing.kit cl_NeverDone rfl (fun z => absurd z (by decide)), kit_UnknownThing_NoFit := cl_UnknownThing.kit cl_NoFit rfl (fun z => absurd z (by decide)), kit_UnknownThing_NoHistory := cl_UnknownThing.kit cl_NoHistory rfl (fun z => absurd z (by decide)), kit_UnknownThing_NotAfloat := cl_UnknownThing.kit cl_NotAfloat rfl (fun z => absurd z (by decide)), kit_UnknownThing_NotComparable := cl_UnknownThing.kit cl_NotComparable rfl (fun z => absurd z (by decide)), kit_UnknownThing_NotSimple := cl_UnknownThing.kit cl_NotSimple rfl (fun z => absurd z (by decide)), kit_UnknownThing_NotStage := cl_UnknownThing.kit cl_NotStage rfl (fun z => absurd z (by decide)), kit_UnknownThing_NothingToUndo := cl_UnknownThing.kit cl_NothingToUndo rfl (fun z => absurd z (by decide)), kit_UnknownThing_OrderRefused := cl_UnknownThing.kit cl_OrderRefused rfl (fun z => absurd z (by decide)), kit_UnknownThing_OtherRiver := cl_UnknownThing.kit cl_OtherRiver rfl (fun z => absurd z (by decide)), kit_UnknownThing_Ring := cl_UnknownThing.kit cl_Ring rfl (fun z => absurd z (by decide)), kit_UnknownThing_RiverError := cl_UnknownThing.kit cl_RiverError rfl (fun _ => rfl), kit_UnknownThing_SameLanding := cl_UnknownThing.kit cl_SameLanding rfl (fun z => absurd z (by decide)), kit_UnknownThing_ThingAtSea := cl_UnknownThing.kit cl_ThingAtSea rfl (fun z => absurd z (by decide)), kit_UnknownThing_ThingKept := cl_UnknownThing.kit cl_ThingKept rfl (fun z => absurd z (by decide)), kit_UnknownThing_TooMany := cl_UnknownThing.kit cl_TooMany rfl (fun z => absurd z (by decide)), kit_UnknownThing_TownNeeded := cl_UnknownThing.kit cl_TownNeeded rfl (fun z => absurd z (by decide)), kit_UnknownThing_UnknownLanding := cl_UnknownThing.kit cl_UnknownLanding rfl (fun z => absurd z (by decide)), kit_UnknownThing_UnknownThing := cl_UnknownThing.kit cl_UnknownThing rfl (fun _ => rfl), kit_UnknownThing_UnknownTown := cl_UnknownThing.kit cl_UnknownTown rfl (fun z => absurd z (by decide)), kit_UnknownThing_WrongEnd := cl_UnknownThing.kit cl_WrongEnd rfl (fun z => absurd z (by decide)), kitv_UnknownThing := cl_UnknownThing.val rfl km, exm_UnknownThing := cl_UnknownThing.exm cl_RiverError rfl rfl, nf_UnknownThing_name := Fl.nof_ok cl_UnknownThing.e (c.fact 127 rfl), nf_UnknownThing_number := Fl.nof_ok cl_UnknownThing.e (c.fact 128 rfl), nf_UnknownThing_thing := Fl.nof_ok cl_UnknownThing.e (c.fact 126 rfl) }⟩
end RK
open PySem PySem.W PySem.Calls PyProof.Rows
set_option maxHeartbeats 0 in
theorem PySem.Challenge.cw_riverkeeps_k02_rank_insert_drop_exchange_holds : PySem.Challenge.rw_riverkeeps_k02_rank_insert_drop_exchange.Holds := by
  w_on; o_law
  refine HandSHeadRun.head_any (r := OpenLaw.row PySem.Challenge.rw_riverkeeps_k02_rank_insert_drop_exchange) (q := view (OpenLaw.row PySem.Challenge.rw_riverkeeps_k02_rank_insert_drop_exchange).prog [72]) (H := RK.hkR) (ob := RK.obR) (M := 60000) (loose := RK.nms) (d := HandSHeadRun.topDef (OpenLaw.row PySem.Challenge.rw_riverkeeps_k02_rank_insert_drop_exchange).prog 72) (kwd := []) RK.obR_eq
    (by kernel_rfl) (fun s => by kernel_rfl) RK.runR (by kernel_rfl) (by kernel_rfl) (by kernel_rfl) (by rfl) (by first | assumption | decide +kernel) (by decide +kernel) ⟨rfl, rfl, rfl, rfl, rfl, by decide +kernel⟩ ?hw ?hc
  case hw => w_witness2
  case hc =>
    refine L2.walk_ofE (l := PySem.Challenge.rw_riverkeeps_k02_rank_insert_drop_exchange) (n := 63) (k := 10) (x := "script") (CX := L2.CX0) rfl (by decide) (by kernel_rfl) ⟨rfl, by decide, by decide⟩ ?F (fun _ _ _ _ z => z)
    intro w mg fa h Y G hmg0
    obtain ⟨K, KX, c⟩ := Y
    have hmg : mg ("law" : PySem.Str) = some (.ref fa) := by
      have e : (HandSHeadRun.topDef (OpenLaw.row PySem.Challenge.rw_riverkeeps_k02_rank_insert_drop_exchange).prog 72).name = ("law" : PySem.Str) := by kernel_rfl
      rw [← e]
      exact hmg0
    obtain ⟨fd, hb, hF⟩ := RK.all_mk (P := (PySem.Challenge.rw_riverkeeps_k02_rank_insert_drop_exchange).prog) (w := w) KX G hmg c
    exact ⟨K, fd, RK.sp_law K, KX, hb, fun H a ns hl _ hS => ⟨a, ns, rfl, hS, hl, fun _ => rfl⟩, hF⟩
