import PyProof.Rows.All
import Wide.All
import OpenK.AllK
import Wide.FinOn
import PyProof.ListStr
import PyProof.StrBlock2
import KE.Datum
import HandS.ForMost
import HandS.ForExc
import HandS.More
import HandS.Style
import HandS.SetFor
import HandS.IsInst
import HandS.TupAny
import HandS.Defaults
import HandS.Codes
import PySem.Challenge.RW_riverkeeps_k03_duplicates_and_likings
set_option Elab.async false
set_option linter.all false
set_option maxRecDepth 100000
set_option maxHeartbeats 4000000
namespace RK
open PySem PySem.Spec PyProof.Rows L2

/-! ### readings that reckon by themselves -/
section
variable {X : Cx}
theorem peImp {e : Expr} {t t' : TE} (h : PE X e t) (w : ∀ σ H Q, t' σ H Q → t σ H Q) : PE X e t' := ⟨fun pins s σ H Q I q => h.run pins s σ H Q I (w _ _ _ q)⟩
theorem ptImp {e : Expr} {t t' : TT} (h : PT X e t) (w : ∀ σ H Q, t' σ H Q → t σ H Q) : PT X e t' := ⟨fun pins s σ H Q I q => h.run pins s σ H Q I (w _ _ _ q)⟩
theorem pwImp {e : Expr} {t t' : TT} (h : PW X e t) (w : ∀ σ H Q, t' σ H Q → t σ H Q) : PW X e t' := ⟨fun wh pins s σ H Q I q => h.run wh pins s σ H Q I (w _ _ _ q)⟩
theorem psImp {e : Stmt} {t t' : TS} (h : PS X e t) (w : ∀ D σ H, t' D σ H → t D σ H) : PS X e t' := ⟨fun pins s σ H D I q => h.run pins s σ H D I (w _ _ _ q)⟩
theorem piImp {tg e : Expr} {t t' : TI} (h : PI X tg e t) (w : ∀ σ H R, t' σ H R → t σ H R) : PI X tg e t' := ⟨fun pins s σ H R I q => h.run pins s σ H R I (w _ _ _ q)⟩
theorem piOr {tg e : Expr} {t u : TI} (h : PI X tg e t) (g : PI X tg e u) : PI X tg e (fun σ H R => t σ H R ∨ u σ H R) := ⟨fun pins s σ H R I q => q.elim (h.run pins s σ H R I) (g.run pins s σ H R I)⟩
theorem opImp {f : Value → Value → Sem Value} {r r' : R2} (h : OpR X f r) (w : ∀ x y H Q, r' x y H Q → r x y H Q) : OpR X f r' := fun pins s σ H x y v u Q I rx ry q => h pins s σ H x y v u Q I rx ry (w _ _ _ _ q)
theorem opOr {f : Value → Value → Sem Value} {r r' : R2} (h : OpR X f r) (h' : OpR X f r') : OpR X f (fun x y H Q => r x y H Q ∨ r' x y H Q) := fun pins s σ H x y v u Q I rx ry q =>
  q.elim (h pins s σ H x y v u Q I rx ry) (h' pins s σ H x y v u Q I rx ry)
theorem calImp {f : Value} {r r' : List V → Hp → VK → Prop} (h : CallR X f r) (w : ∀ xs H Q, r' xs H Q → r xs H Q) : CallR X f r' := fun pins s σ H xs us Q I rs q => h pins s σ H xs us Q I rs (w _ _ _ q)
theorem mtImp {id : String} {r r' : V → List V → Hp → VK → Prop} (h : MtR X id r) (w : ∀ x xs H Q, r' x xs H Q → r x xs H Q) : MtR X id r' := fun pins s σ H x xs v us Q I rx rs q => h pins s σ H x xs v us Q I rx rs (w _ _ _ _ q)

/-- a name -/
def xV (i : Nat) : TE := fun σ H Q => match σ[i]? with
  | some (some v) => Q v H
  | _ => False
theorem xv (i : Nat) {x : Str} {pos : Pos} (hN : X.N[i]? = some x := by rfl) (hv : Vis X.env.scope x := by first | exact Or.inl rfl | exact Or.inr (Or.inl rfl) | exact Or.inr (Or.inr rfl)) (hd : (x == ("__debug__" : Str)) = false := by decide)
    (hcd : (x == ("__classdict__" : Str)) = false := by decide) : PE X (.Name x pos) (xV i) := peImp (pe_var hN hv hd hcd) fun σ H Q h => by
  unfold xV at h
  split at h
  · exact ⟨_, ‹_›, h⟩
  · exact h.elim

/-! ### tests -/
def xT (t : TE) : TT := fun σ H Q => t σ H fun x H1 => match x with
  | .bl k => Q k H1
  | _ => False
theorem xT_eq (t : TE) : xT t = tB t := by
  funext σ H Q
  refine congrArg (t σ H) (funext fun x => funext fun H1 => propext ⟨fun h => ?_, fun ⟨c, e, h⟩ => ?_⟩)
  · cases x <;> first | exact ⟨_, rfl, h⟩ | exact h.elim
  · subst e; exact h
theorem xt {e : Expr} {t : TE} (h : PE X e t) (he : ∀ whole, isTrue e X.env whole = (do let v ← whole; standAt e.pos; holding [v] (truthy v)) := by intro _; rfl) : PT X e (xT t) := by
  rw [xT_eq]; exact pt_val h he
theorem xtc {op : CmpOp} {r : R2} {a b : Expr} {ta tb : TE} {pos : Pos} (ho : OpR X (compareOp op) r) (ha : PE X a ta) (hb : PE X b tb) (hm : behindInMarks op b = false) : PT X (.Compare a [op] [b] pos) (xT (tOp r ta tb)) := by
  rw [xT_eq]; exact pt_cmpR ho ha hb hm
theorem two_eq (c : Bool) (A B : Prop) : ((c = true → A) ∧ (c = false → B)) = (if c = true then A else B) := by
  cases c <;> simp
def xAnd (t u : TT) : TT := fun σ H Q => t σ H fun c H1 => (c = true → u σ H1 Q) ∧ (c = false → Q false H1)
def xOr (t u : TT) : TT := fun σ H Q => t σ H fun c H1 => (c = true → Q true H1) ∧ (c = false → u σ H1 Q)
theorem xAnd_eq (t u : TT) : xAnd t u = tAnd t u := by
  funext σ H Q; exact congrArg (t σ H) (funext fun c => funext fun H1 => two_eq c _ _)
theorem xOr_eq (t u : TT) : xOr t u = tOr t u := by
  funext σ H Q; exact congrArg (t σ H) (funext fun c => funext fun H1 => two_eq c _ _)
section
variable {a b : Expr} {rest : List Expr} {pos : Pos} {tA tB' : TT}
theorem xw_and (ha : PT X a tA) (hb : PW X (.BoolOp .And (b :: rest) pos) tB') : PW X (.BoolOp .And (a :: b :: rest) pos) (xAnd tA tB') := by rw [xAnd_eq]; exact pw_and ha hb
theorem xw_or (ha : PT X a tA) (hb : PW X (.BoolOp .Or (b :: rest) pos) tB') : PW X (.BoolOp .Or (a :: b :: rest) pos) (xOr tA tB') := by rw [xOr_eq]; exact pw_or ha hb
end
/-- values of and, or, not, by truth values -/
def xAndV (ta tb : TE) : TE := fun σ H Q => ta σ H fun x H1 => match x with
  | .bl c => (c = true → tb σ H1 Q) ∧ (c = false → Q (.bl false) H1)
  | _ => False
def xOrV (ta tb : TE) : TE := fun σ H Q => ta σ H fun x H1 => match x with
  | .bl c => (c = true → Q (.bl true) H1) ∧ (c = false → tb σ H1 Q)
  | _ => False
def xNotV (ta : TE) : TE := fun σ H Q => ta σ H fun x H1 => match x with
  | .bl c => Q (.bl (!c)) H1
  | _ => False
theorem xAndV_eq (ta tb : TE) : xAndV ta tb = tAndV ta tb := by
  funext σ H Q
  refine congrArg (ta σ H) (funext fun x => funext fun H1 => propext ⟨fun h => ?_, fun ⟨c, e, h⟩ => ?_⟩)
  · cases x <;> first | exact ⟨_, rfl, by rw [← two_eq]; exact h⟩ | exact h.elim
  · subst e; rw [← two_eq] at h; exact h
theorem xOrV_eq (ta tb : TE) : xOrV ta tb = tOrV ta tb := by
  funext σ H Q
  refine congrArg (ta σ H) (funext fun x => funext fun H1 => propext ⟨fun h => ?_, fun ⟨c, e, h⟩ => ?_⟩)
  · cases x <;> first | exact ⟨_, rfl, by rw [← two_eq]; exact h⟩ | exact h.elim
  · subst e; rw [← two_eq] at h; exact h
theorem xNotV_eq (ta : TE) : xNotV ta = tNotV ta := by
  funext σ H Q
  refine congrArg (ta σ H) (funext fun x => funext fun H1 => propext ⟨fun h => ?_, fun ⟨c, e, h⟩ => ?_⟩)
  · cases x <;> first | exact ⟨_, rfl, h⟩ | exact h.elim
  · subst e; exact h
section
variable {a b : Expr} {rest : List Expr} {pos : Pos} {ta tb : TE}
theorem xe_and (ha : PE X a ta) (hb : PE X (.BoolOp .And (b :: rest) pos) tb) : PE X (.BoolOp .And (a :: b :: rest) pos) (xAndV ta tb) := by rw [xAndV_eq]; exact pe_and ha hb
theorem xe_or (ha : PE X a ta) (hb : PE X (.BoolOp .Or (b :: rest) pos) tb) : PE X (.BoolOp .Or (a :: b :: rest) pos) (xOrV ta tb) := by rw [xOrV_eq]; exact pe_or ha hb
theorem xe_not (ha : PE X a ta) : PE X (.UnaryOp .Not a pos) (xNotV ta) := by rw [xNotV_eq]; exact pe_not ha
end
def xIf (t : TT) (ta tb : TE) : TE := fun σ H Q => t σ H fun c H1 => (c = true → ta σ H1 Q) ∧ (c = false → tb σ H1 Q)
theorem xIf_eq (t : TT) (ta tb : TE) : xIf t ta tb = tIf t ta tb := by
  funext σ H Q; exact congrArg (t σ H) (funext fun c => funext fun H1 => two_eq c _ _)
theorem xe_if {c a b : Expr} {tA : TT} {ta tb : TE} {pos : Pos} (hc : PT X c tA) (ha : PE X a ta) (hb : PE X b tb) : PE X (.IfExp c a b pos) (xIf tA ta tb) := by rw [xIf_eq]; exact pe_ifExp hc ha hb
def xIfS (c : TT) (t u : TS) : TS := fun D σ H => c σ H fun b H1 => (b = true → t D σ H1) ∧ (b = false → u D σ H1)
theorem xIfS_eq (c : TT) (t u : TS) : xIfS c t u = tIfS c t u := by
  funext D σ H; exact congrArg (c σ H) (funext fun c => funext fun H1 => two_eq c _ _)
theorem xs_if {c : Expr} {a b : List Stmt} {tc : TT} {t u : TS} {pos : Pos} (hc : PT X c tc) (ha : PSs X a t) (hb : PSs X b u) : PS X (.If c a b pos) (xIfS tc t u) := by rw [xIfS_eq]; exact ps_if hc ha hb

/-! ### operators, by what the two sides are -/
def mAdd (K : PySem.W.Frag) : R2 := fun x y H Q => match x, y with
  | .int i, .int j => Q (.int (i + j)) H
  | .str a, .str b => a.length + b.length ≤ sizeLine ∧ Q (.str (a ++ b)) H
  | .ref l, .ref b => (∃ xs zs, H l = some (.lst xs) ∧ H b = some (.lst zs) ∧ xs.length + zs.length ≤ sizeLine ∧ ∀ p, H p = none → Q (.ref p) (upd H p (.lst (xs ++ zs)))) ∨
      rCatA K (.ref l) (.ref b) H Q
  | _, _ => False
theorem xo_add : OpR X (binaryOp .Add) (mAdd X.K) := opImp (opOr op_add (opOr op_add_str (opOr op_cat op_catA))) fun x y H Q h => by
  unfold mAdd at h
  split at h
  · exact .inl ⟨_, _, rfl, rfl, h⟩
  · exact .inr (.inl ⟨_, _, rfl, rfl, h⟩)
  · rcases h with ⟨xs, zs, h1, h2, h3, h4⟩ | h
    · exact .inr (.inr (.inl ⟨_, _, xs, zs, rfl, rfl, h1, h2, h3, h4⟩))
    · exact .inr (.inr (.inr h))
  · exact h.elim
def mSub : R2 := fun x y H Q => match x, y with
  | .int i, .int j => Q (.int (i - j)) H
  | _, _ => False
theorem xo_sub : OpR X (binaryOp .Sub) mSub := opImp op_sub fun x y H Q h => by
  unfold mSub at h
  split at h
  · exact ⟨_, _, rfl, rfl, h⟩
  · exact h.elim
theorem op_mul_str : OpR X (binaryOp .Mult) (fun x y H Q => ∃ z i, x = .str z ∧ y = .int i ∧ PySem.MulOk z i ∧ Q (.str (PySem.Txt.mul z i)) H) := by
  intro pins s σ H x y v u Q I rx ry h
  obtain ⟨z, i, rfl, rfl, hz, q⟩ := h
  obtain ⟨t, rfl⟩ := rx
  obtain ⟨t', rfl⟩ := ry
  exact PySem.SB.mul hz fun t' k => ⟨.str (PySem.Txt.mul z i), H, I.tok _, ⟨_, rfl⟩, q⟩
def mMul : R2 := fun x y H Q => match x, y with
  | .int i, .int j => CMul i j ∧ Q (.int (i * j)) H
  | .str z, .int i => PySem.MulOk z i ∧ Q (.str (PySem.Txt.mul z i)) H
  | _, _ => False
theorem xo_mul : OpR X (binaryOp .Mult) mMul := opImp (opOr op_mul op_mul_str) fun x y H Q h => by
  unfold mMul at h
  split at h
  · exact .inl ⟨_, _, rfl, rfl, h⟩
  · exact .inr ⟨_, _, rfl, rfl, h⟩
  · exact h.elim
def mDiv : R2 := fun x y H Q => match x, y with
  | .int i, .int j => CDivN i j ∧ Q (.int (i.fdiv j)) H
  | _, _ => False
theorem xo_div : OpR X (binaryOp .FloorDiv) mDiv := opImp op_fdivN fun x y H Q h => by
  unfold mDiv at h
  split at h
  · exact ⟨_, _, rfl, rfl, h⟩
  · exact h.elim
def mMod : R2 := fun x y H Q => match x, y with
  | .int i, .int j => j ≠ 0 ∧ Q (.int (i.fmod j)) H
  | _, _ => False
theorem xo_mod : OpR X (binaryOp .Mod) mMod := opImp op_modN fun x y H Q h => by
  unfold mMod at h
  split at h
  · exact ⟨_, _, rfl, rfl, h⟩
  · exact h.elim
def mPow : R2 := fun x y H Q => match x, y with
  | .int i, .int j => CPow i j ∧ Q (.int (i ^ j.toNat)) H
  | _, _ => False
theorem xo_pow : OpR X (binaryOp .Pow) mPow := opImp op_pow fun x y H Q h => by
  unfold mPow at h
  split at h
  · exact ⟨_, _, rfl, rfl, h⟩
  · exact h.elim
def mCmp (p : Int → Int → Bool) : R2 := fun x y H Q => match x, y with
  | .int i, .int j => Q (.bl (p i j)) H
  | _, _ => False
theorem mCmp_of {f : Value → Value → Sem Value} {p : Int → Int → Bool} (h : OpR X f (rI0 fun i j => .bl (p i j))) : OpR X f (mCmp p) := opImp h fun x y H Q h => by
  unfold mCmp at h
  split at h
  · exact ⟨_, _, rfl, rfl, h⟩
  · exact h.elim
theorem xo_lt : OpR X (compareOp .Lt) (mCmp fun i j => decide (i < j)) := mCmp_of op_lt
theorem xo_le : OpR X (compareOp .LtE) (mCmp fun i j => decide (i ≤ j)) := mCmp_of op_le
theorem xo_gt : OpR X (compareOp .Gt) (mCmp fun i j => decide (j < i)) := mCmp_of op_gt
theorem xo_ge : OpR X (compareOp .GtE) (mCmp fun i j => decide (j ≤ i)) := mCmp_of op_ge
def mEq (K : PySem.W.Frag) : R2 := fun x y H Q => match x, y with
  | .int i, .int j => Q (.bl (decide (i = j))) H
  | .str i, .str j => Q (.bl (decide (i = j))) H
  | .bl i, .bl j => Q (.bl (decide (i = j))) H
  | .ref l, .ref b => rEqD K (.ref l) (.ref b) H Q
  | _, _ => scal x y = true ∧ Q (.bl (decide (x = y))) H
theorem xo_eq (hu : X.A.units + 64 < cLine) : OpR X (compareOp .Eq) (mEq X.K) := opImp (opOr op_eq (op_eqD hu)) fun x y H Q h => by
  unfold mEq at h
  split at h
  · rename_i i j
    exact .inl ⟨rfl, by rw [show decide (V.int i = V.int j) = decide (i = j) from by simp]; exact h⟩
  · rename_i i j
    exact .inl ⟨rfl, by rw [show decide (V.str i = V.str j) = decide (i = j) from by simp]; exact h⟩
  · rename_i i j
    exact .inl ⟨rfl, by rw [show decide (V.bl i = V.bl j) = decide (i = j) from by simp]; exact h⟩
  · exact .inr h
  · exact .inl h
def mNe (K : PySem.W.Frag) : R2 := fun x y H Q => match x, y with
  | .int i, .int j => Q (.bl (!decide (i = j))) H
  | .str i, .str j => Q (.bl (!decide (i = j))) H
  | .bl i, .bl j => Q (.bl (!decide (i = j))) H
  | .ref l, .ref b => rNeD K (.ref l) (.ref b) H Q
  | _, _ => scal x y = true ∧ Q (.bl (!decide (x = y))) H
theorem xo_ne (hu : X.A.units + 64 < cLine) : OpR X (compareOp .NotEq) (mNe X.K) := opImp (opOr op_ne (op_neD hu)) fun x y H Q h => by
  unfold mNe at h
  split at h
  · rename_i i j
    exact .inl ⟨rfl, by rw [show decide (V.int i = V.int j) = decide (i = j) from by simp]; exact h⟩
  · rename_i i j
    exact .inl ⟨rfl, by rw [show decide (V.str i = V.str j) = decide (i = j) from by simp]; exact h⟩
  · rename_i i j
    exact .inl ⟨rfl, by rw [show decide (V.bl i = V.bl j) = decide (i = j) from by simp]; exact h⟩
  · exact .inr h
  · exact .inl h
def mIs : R2 := fun x y H Q => match y with
  | .non => Q (.bl (decide (x = .non))) H
  | _ => False
theorem xo_is : OpR X (compareOp .Is) mIs := opImp op_isN fun x y H Q h => by
  unfold mIs at h
  split at h
  · exact ⟨rfl, h⟩
  · exact h.elim
def mIsNot : R2 := fun x y H Q => match y with
  | .non => Q (.bl (!decide (x = .non))) H
  | _ => False
theorem xo_isnot : OpR X (compareOp .IsNot) mIsNot := opImp op_notN fun x y H Q h => by
  unfold mIsNot at h
  split at h
  · exact ⟨rfl, h⟩
  · exact h.elim
/-- a list or a tuple that is read -/
def Sq (K : PySem.W.Frag) (H : Hp) (p : Addr) (xs : List V) : Prop := SqL K H p xs ∨ SqT K H p xs
def mIn (K : PySem.W.Frag) (neg : Bool) : R2 := fun x y H Q => match y with
  | .str z => ∃ c, x = .str ⟨#[c]⟩ ∧ Q (.bl (if neg then !decide (c ∈ z.cps.toList) else decide (c ∈ z.cps.toList))) H
  | .ref p => ∃ xs, Sq K H p xs ∧ flatV x = true ∧ xs.all flatV = true ∧ Q (.bl (if neg then !inV x xs else inV x xs)) H
  | _ => False
theorem xo_in : OpR X (compareOp .In) (mIn X.K false) := opImp (opOr op_in_sign op_in_seq) fun x y H Q h => by
  unfold mIn at h
  split at h
  · obtain ⟨c, rfl, h⟩ := h
    exact .inl ⟨c, _, rfl, rfl, h⟩
  · obtain ⟨xs, h1, h2, h3, h4⟩ := h
    exact .inr ⟨_, xs, rfl, h1, h2, h3, h4⟩
  · exact h.elim
theorem xo_notin : OpR X (compareOp .NotIn) (mIn X.K true) := opImp (opOr op_notIn_sign op_notIn_seq) fun x y H Q h => by
  unfold mIn at h
  split at h
  · obtain ⟨c, rfl, h⟩ := h
    exact .inl ⟨c, _, rfl, rfl, h⟩
  · obtain ⟨xs, h1, h2, h3, h4⟩ := h
    exact .inr ⟨_, xs, rfl, h1, h2, h3, h4⟩
  · exact h.elim

/-! ### built-ins -/
def mLen (K : PySem.W.Frag) : List V → Hp → VK → Prop := fun vs H Q => match vs with
  | [.str z] => z.length ≤ sizeLine ∧ Q (.int (z.length : Nat)) H
  | [.ref p] => ∃ xs, Sq K H p xs ∧ Q (.int (xs.length : Nat)) H
  | _ => False
theorem xc_len : CallR X (.builtin "len") (mLen X.K) := calImp (CallR.or call_len_str call_len_seq) fun xs H Q h => by
  unfold mLen at h
  split at h
  · exact .inl ⟨_, rfl, h.1, h.2⟩
  · obtain ⟨xs, h1, h2⟩ := h
    exact .inr ⟨_, xs, rfl, h1, h2⟩
  · exact h.elim
def mInt : List V → Hp → VK → Prop := fun vs H Q => match vs with
  | [.int i] => Q (.int i) H
  | [.bl k] => Q (.int (if k then 1 else 0)) H
  | _ => False
theorem xc_int : CallR X (.type "int") mInt := calImp call_int1 fun xs H Q h => by
  unfold mInt at h
  split at h
  · exact .inl ⟨_, rfl, h⟩
  · exact .inr ⟨_, rfl, h⟩
  · exact h.elim
def mStr : List V → Hp → VK → Prop := fun vs H Q => match vs with
  | [.int i] => i.natAbs.log2 < 1920 ∧ Q (.str (toString i)) H
  | _ => False
theorem xc_str : CallR X (.type "str") mStr := calImp call_str_int fun xs H Q h => by
  unfold mStr at h
  split at h
  · exact ⟨_, rfl, h.1, h.2⟩
  · exact h.elim
/-- the signs of a text, one by one -/
def signs (z : Str) : List V := z.cps.toList.map fun c => V.str ⟨#[c]⟩
end
end RK

namespace RK
open PySem PySem.Spec PyProof.Rows L2
section
variable {X : Cx}
/-! ### more built-ins -/
theorem vals_signs {z : Str} {acc : Array Value} (h : PySem.ItemsOf (PySem.SignAt z) acc z.cps.size) : Vals (signs z) acc.toList := by
  have hl : (signs z).length = acc.toList.length := by
    unfold signs
    rw [List.length_map, Array.length_toList, Array.length_toList]
    exact h.1.symm
  have go : ∀ (xs : List V) (us : List Value), xs.length = us.length → (∀ (i : Nat) x u, xs[i]? = some x → us[i]? = some u → RelV x u) → Vals xs us := by
    intro xs
    induction xs with
    | nil =>
      intro us e _
      cases us with
      | nil => exact .nil
      | cons u us => cases e
    | cons x xs ih =>
      intro us e f
      cases us with
      | nil => cases e
      | cons u us => exact .cons (f 0 x u rfl rfl) (ih us (Nat.succ.inj e) fun i y v h1 h2 => f (i + 1) y v h1 h2)
  refine go _ _ hl fun i x u hx hu => ?_
  have hu' : acc[i]? = some u := by simpa using hu
  obtain ⟨c, t, hc, rfl⟩ := h.2 i u hu'
  unfold signs at hx
  rw [List.getElem?_map] at hx
  have : z.cps.toList[i]? = some c := by simpa using hc
  rw [this] at hx
  cases hx
  exact ⟨t, rfl⟩
theorem signs_len (z : Str) : (signs z).length = z.length := by
  unfold signs
  rw [List.length_map, Array.length_toList]
  rfl
theorem call_list_text (hc : X.calm = true) : CallR X (.type "list") (fun xs H Q => ∃ z, xs = [.str z] ∧ z.length ≤ sizeLine ∧ ∀ l, H l = none → Q (.ref l) (upd H l (.lst (signs z)))) := by
  intro pins s σ H xs us Q I r h
  obtain ⟨z, rfl, hz, q⟩ := h
  obtain ⟨u, rfl, t, rfl⟩ := vals1 r
  refine PySem.call_list_str (I.ok.hd hc) z t (fun h' tk acc' c' kp e it => ?_) hz
  exact ⟨.ref s.heap.objs.size, _, I.laid (t' := tk) kp (Nat.le_refl _) (show ObjOk X.prog X.w _ h' _ (.lst (signs z)) from ⟨by rw [signs_len]; exact hz, acc'.toList, c', vals_signs it, by simpa using e⟩), rfl, q _ (I.hok.fresh (Nat.le_refl _))⟩
def mList (K : PySem.W.Frag) : List V → Hp → VK → Prop := fun vs H Q => match vs with
  | [.str z] => z.length ≤ sizeLine ∧ ∀ l, H l = none → Q (.ref l) (upd H l (.lst (signs z)))
  | [.ref p] => ∃ xs, Sq K H p xs ∧ ∀ l, H l = none → Q (.ref l) (upd H l (.lst xs))
  | _ => False
theorem xc_list (hc : X.calm = true) : CallR X (.type "list") (mList X.K) := calImp (CallR.or (call_list_text hc) call_list_of) fun xs H Q h => by
  unfold mList at h
  split at h
  · exact .inl ⟨_, rfl, h.1, h.2⟩
  · obtain ⟨xs, h1, h2⟩ := h
    exact .inr ⟨_, xs, rfl, h1, h2⟩
  · exact h.elim
def mTuple (K : PySem.W.Frag) : List V → Hp → VK → Prop := fun vs H Q => match vs with
  | [.ref p] => (∃ xs, SqL K H p xs ∧ ∀ l, H l = none → Q (.ref l) (upd H l (.tup xs))) ∨ (∃ xs, SqT K H p xs ∧ Q (.ref p) H)
  | _ => False
theorem xc_tuple : CallR X (.type "tuple") (mTuple X.K) := calImp call_tuple_of fun xs H Q h => by
  unfold mTuple at h
  split at h
  · rcases h with ⟨xs, h1, h2⟩ | ⟨xs, h1, h2⟩
    · exact ⟨_, xs, rfl, .inl ⟨h1, h2⟩⟩
    · exact ⟨_, xs, rfl, .inr ⟨h1, h2⟩⟩
  · exact h.elim
def mSortS (K : PySem.W.Frag) : List V → Hp → VK → Prop := fun vs H Q => match vs with
  | [.ref p] => ∃ xs : List Str, Sq K H p (xs.map V.str) ∧ xs.length < 64 ∧ ∀ (ys : List Str) (q : Addr), ys.Perm xs → sortedS ys = true → H q = none → Q (.ref q) (upd H q (.lst (ys.map V.str)))
  | _ => False

/-! ### subscripts and slices -/
def mIx (K : PySem.W.Frag) : R2 := fun x y H Q => match x, y with
  | .ref p, .int i => ∃ xs v, Sq K H p xs ∧ atI xs i = some v ∧ Q v H
  | .str z, .int i => z.length ≤ sizeLine ∧ ∃ c, atI z.cps.toList i = some c ∧ Q (.str ⟨#[c]⟩) H
  | _, _ => False
theorem ixImp {r r' : R2} (h : IxR X r) (w : ∀ x y H Q, r' x y H Q → r x y H Q) : IxR X r' := by
  intro pins s σ H x y v u Q
  intros
  apply h <;> first | assumption | (apply w; assumption)
theorem xix : IxR X (mIx X.K) := ixImp ix_seq fun x y H Q h => by
  unfold mIx at h
  split at h
  · obtain ⟨xs, v, h1 | h1, h2, h3⟩ := h
    · exact .inl ⟨_, xs, _, v, rfl, rfl, h1, h2, h3⟩
    · exact .inr (.inl ⟨_, xs, _, v, rfl, rfl, h1, h2, h3⟩)
  · obtain ⟨h1, c, h2, h3⟩ := h
    exact .inr (.inr ⟨_, _, c, rfl, rfl, h1, h2, h3⟩)
  · exact h.elim
def mSet : TSet := fun o i v H Q => match o, i with
  | .ref p, .int k => ∃ xs j, H p = some (.lst xs) ∧ ixN xs.length k = some j ∧ Q (upd H p (.lst (xs.set j v)))
  | _, _ => False
theorem psetImp {r r' : TSet} (h : PSet X r) (w : ∀ o i v H Q, r' o i v H Q → r o i v H Q) : PSet X r' := by
  intro pins s σ H x y v
  intros
  apply h <;> first | assumption | (apply w; assumption)
theorem xset : PSet X mSet := psetImp set_list fun o i v H Q h => by
  unfold mSet at h
  split at h
  · obtain ⟨xs, j, h1, h2, h3⟩ := h
    exact ⟨_, xs, _, j, rfl, rfl, h1, h2, h3⟩
  · exact h.elim
def mSl (K : PySem.W.Frag) : V → Option Int → Option Int → Hp → VK → Prop := fun x lo hi H Q => match x with
  | .str z => z.length ≤ sizeLine ∧ Q (.str (cutS z lo hi)) H
  | .ref p => ∃ xs, SqL K H p xs ∧ ∀ q, H q = none → Q (.ref q) (upd H q (.lst (cutV xs lo hi)))
  | _ => False
theorem xsl : SlR X (mSl X.K) := by
  have hS : SlR X rSlS := sl_str
  have hL : SlR X (rSlL X.K) := sl_list
  intro pins s σ H x v vl vu lo hi sl Q I rx hs pl pu h
  unfold mSl at h
  split at h
  · exact hS pins s σ H _ v vl vu lo hi sl Q I rx hs pl pu ⟨_, rfl, h.1, h.2⟩
  · obtain ⟨xs, h1, h2⟩ := h
    exact hL pins s σ H _ v vl vu lo hi sl Q I rx hs pl pu ⟨_, xs, rfl, h1, h2⟩
  · exact h.elim
/-- xs[::-1] -/
def xRev (K : PySem.W.Frag) (te : TE) : TE := fun σ H Q => te σ H fun x H1 => match x with
  | .ref p => ∃ xs, SqL K H1 p xs ∧ ∀ q, H1 q = none → Q (.ref q) (upd H1 q (.lst xs.reverse))
  | _ => False
theorem xRev_eq (K : PySem.W.Frag) (te : TE) : xRev K te = tRevL K te := by
  funext σ H Q
  refine congrArg (te σ H) (funext fun x => funext fun H1 => propext ⟨fun h => ?_, fun ⟨a, xs, e, h⟩ => ?_⟩)
  · cases x <;> first | exact ⟨_, _, rfl, h.choose_spec⟩ | exact h.elim
  · subst e; exact ⟨xs, h⟩

/-! ### methods -/
def lmAppend : V → List V → Hp → VK → Prop := fun x vs H Q => match x, vs with
  | .ref p, [y] => ∃ xs, H p = some (.lst xs) ∧ xs.length < sizeLine ∧ Q .non (upd H p (.lst (xs ++ [y])))
  | _, _ => False
theorem xm_append : MtR X "list.append" lmAppend := mtImp (r := rAppend) mt_append fun x vs H Q h => by
  unfold lmAppend at h
  split at h
  · obtain ⟨xs, h1, h2, h3⟩ := h
    exact ⟨_, xs, _, rfl, rfl, h1, h2, h3⟩
  · exact h.elim
def lmPop : V → List V → Hp → VK → Prop := fun x vs H Q => match x, vs with
  | .ref p, [.int i] => ∃ xs k y, H p = some (.lst xs) ∧ i = ((k : Nat) : Int) ∧ k < 2 ^ 62 ∧ xs[k]? = some y ∧ Q y (upd H p (.lst (xs.eraseIdx k)))
  | _, _ => False
theorem xm_pop : MtR X "list.pop" lmPop := mtImp (r := rPopAt) mt_popAt fun x vs H Q h => by
  unfold lmPop at h
  split at h
  · obtain ⟨xs, k, y, h1, rfl, h2, h3, h4⟩ := h
    refine ⟨_, xs, _, k, y, rfl, rfl, h1, by omega, by omega, ?_, h3, h4⟩
    have hk := (List.getElem?_eq_some_iff.mp h3).1
    unfold seqIndex?
    simp only []
    first | (rw [if_neg (by omega), if_pos (by omega)]; simp) | (simp; omega)
  · exact h.elim
def lmInsert : V → List V → Hp → VK → Prop := fun x vs H Q => match x, vs with
  | .ref p, [.int i, y] => ∃ xs, H p = some (.lst xs) ∧ xs.length < sizeLine ∧ 0 ≤ i ∧ i < 2 ^ 63 ∧ Q .non (upd H p (.lst (xs.take i.toNat ++ [y] ++ xs.drop i.toNat)))
  | _, _ => False
theorem xm_insert : MtR X "list.insert" lmInsert := mtImp mt_insert fun x vs H Q h => by
  unfold lmInsert at h
  split at h
  · obtain ⟨xs, h1, h2, h3, h4, h5⟩ := h
    exact ⟨_, xs, _, _, rfl, rfl, h1, h2, h3, h4, h5⟩
  · exact h.elim
def lmIndex (K : PySem.W.Frag) : V → List V → Hp → VK → Prop := fun x vs H Q => match x, vs with
  | .ref p, [y] => ∃ xs j z, SqL K H p xs ∧ flatV y = true ∧ xs.all flatV = true ∧ xs[j]? = some z ∧ eqV z y = true ∧ (∀ (m : Nat) z', m < j → xs[m]? = some z' → eqV z' y = false) ∧ Q (.int (j : Nat)) H
  | _, _ => False
theorem xm_index : MtR X "list.index" (lmIndex X.K) := mtImp mt_index fun x vs H Q h => by
  unfold lmIndex at h
  split at h
  · obtain ⟨xs, j, z, h1, h2, h3, h4, h5, h6, h7⟩ := h
    exact ⟨_, xs, _, j, z, rfl, rfl, h1, h2, h3, h4, h5, h6, h7⟩
  · exact h.elim
def eqU (y : V) (u : Value) : Bool := match absV u with
  | some x => eqV x y
  | none => false
theorem eqU_count {y : V} : ∀ {xs : List V} {us : List Value}, Vals xs us → us.countP (eqU y) = xs.countP (fun x => eqV x y)
  | _, _, .nil => rfl
  | _, _, .cons r t => by
    rw [List.countP_cons, List.countP_cons, eqU_count t]
    unfold eqU
    rw [r.abs]
theorem vals_mem : ∀ {xs : List V} {us : List Value} {u : Value}, Vals xs us → u ∈ us → ∃ x, x ∈ xs ∧ RelV x u
  | _, _, _, .cons r t, h => by
    rcases List.mem_cons.mp h with e | e
    · subst e; exact ⟨_, List.mem_cons_self, r⟩
    · obtain ⟨x, h1, h2⟩ := vals_mem t e
      exact ⟨x, List.mem_cons_of_mem _ h1, h2⟩
def lmCount (K : PySem.W.Frag) : V → List V → Hp → VK → Prop := fun x vs H Q => match x, vs with
  | .ref p, [y] => ∃ xs, SqL K H p xs ∧ flatV y = true ∧ xs.all flatV = true ∧ Q (.int (xs.countP (fun x => eqV x y) : Nat)) H
  | _, _ => False
theorem xm_count : MtR X "list.count" (lmCount X.K) := by
  intro pins s σ H x vs v us Q I rx rxs h
  unfold lmCount at h
  split at h
  · rename_i p y
    obtain ⟨xs, hs, fy, fx, q⟩ := h
    cases rx
    obtain ⟨u, rfl, ru⟩ := rxs.one
    obtain ⟨its, rv, ⟨⟨cls, dd, data, sl⟩, n, ho, hc, hdn, hd⟩, hlen⟩ := I.list hs
    simp only at hc hd
    subst hc hd
    refine call_meets PySem.F.slot_list_count ⟨_, ho, rfl⟩ PySem.F.entry_list_count (PySem.F.args_list_count_2 _ _)
      (SeqAt.list_countAt p its.toArray n dd sl u (eqU y)) ⟨ho, fun w hw => ?_, ?_⟩
    · obtain ⟨x, hx, rw'⟩ := vals_mem rv (show w ∈ its by simpa using hw)
      have e : eqU y w = eqV x y := by unfold eqU; rw [rw'.abs]
      rw [e]
      exact eqAt_V rw' ru (List.all_eq_true.mp fx x hx) fy
    · refine ⟨.int (its.toArray.toList.countP (eqU y) : Nat), H, I.tok _, ⟨s.toks, rfl⟩, ?_⟩
      have e : its.toArray.toList.countP (eqU y) = xs.countP (fun x => eqV x y) := eqU_count rv
      rw [e]
      exact q
  · exact h.elim
/-- a method of a list -/
def xL (K : PySem.W.Frag) (r : V → List V → Hp → VK → Prop) (to : TE) (t : TA) : TE := fun σ H Q => to σ H fun x H1 => match x with
  | .ref p => (∃ xs, SqL K H1 p xs) ∧ t σ H1 fun vs H2 => r (.ref p) vs H2 Q
  | _ => False
theorem xL_le {K : PySem.W.Frag} {r : V → List V → Hp → VK → Prop} {to : TE} {t : TA} (mono : ∀ σ H (Q Q' : VK), (∀ v H1, Q v H1 → Q' v H1) → to σ H Q → to σ H Q') : ∀ σ H Q, xL K r to t σ H Q → tBM K "list" r to t σ H Q := fun σ H Q h => mono σ H _ _ (fun x H1 h => by
  cases x <;> first | exact h.elim | exact ⟨.inl ⟨rfl, h.1⟩, h.2⟩) h
/-- text.upper() -/
def xUpper (te : TE) : TE := fun σ H Q => te σ H fun x H1 => match x with
  | .str a => a.length ≤ 5592405 ∧ Q (.str (PySem.Txt.upper a)) H1
  | _ => False

/-! ### walks -/
def iSeq (K : PySem.W.Frag) (tl : TE) : TI := fun σ H R => iList K tl σ H R ∨ iTup K tl σ H R
theorem xi_seq {tg l : Expr} {tl : TE} (hl : PE X l tl) : PI X tg l (iSeq X.K tl) := piOr (pi_list hl) (pi_tup hl)
end

/-! ### heaps -/
/-- all but what stands at s is kept -/
def Keep (s : Addr) (H H' : Hp) : Prop := ∀ b o, b ≠ s → H b = some o → H' b = some o
theorem Keep.refl {s : Addr} {H : Hp} : Keep s H H := fun _ _ _ h => h
theorem Keep.trans {s : Addr} {H H1 H2 : Hp} (a : Keep s H H1) (b : Keep s H1 H2) : Keep s H H2 := fun c o n h => b c o n (a c o n h)
theorem Keep.new {s : Addr} {H : Hp} {p : Addr} {o : HO} (h : H p = none) : Keep s H (upd H p o) := fun b u _ e => by
  rw [upd_ne (ne_of_none e h)]; exact e
theorem Keep.put {s : Addr} {H : Hp} {o : HO} : Keep s H (upd H s o) := fun b u n e => by
  rw [upd_ne n]; exact e
theorem Same.keep {s : Addr} {H H' : Hp} (h : Same H H') : Keep s H H' := fun b o _ e => h b o e
theorem Keep.free {s : Addr} {H H' : Hp} (h : Keep s H H') {p : Addr} (n : p ≠ s) (e : H' p = none) : H p = none := by
  cases q : H p with
  | none => rfl
  | some o => rw [h p o n q] at e; cases e
theorem same_new {H : Hp} {p : Addr} {o : HO} (h : H p = none) : Same H (upd H p o) := fun b u e => by
  rw [upd_ne (ne_of_none e h)]; exact e
end RK

namespace RK
open PySem PySem.Spec PyProof.Rows L2
section
variable {X : Cx} {CX : CXT} {k : Nat} {f : Addr} {fd : FuncData} {ps ks : List Str} {sp : Sp} {E : XK} {x : Str} {p pos : Pos} {kws : List Keyword} {tk : TA} {g : List Value → List Value → List Value} {gV : List V → List V → List V}
/-- f(k = v, ..), no positional argument -/
theorem pe_kw0 (F : FnOk X.prog X.w X.K X.mg X.base CX k f fd ps sp) (hr : Room k X.A) (hg : Gl X x) (hm : X.mg x = some (.ref f)) (hk : PySem.W.keepIn X.K (.ref f) = true) (hb : KBn X.K fd ps 0 ks g gV) (hx : Passes CX X E)
    (hkw : PK X kws tk) (hall : (backToKw pos (keywordEach kws X.env)).all (·.1.isSome) = true := by rfl) (hks : (backToKw pos (keywordEach kws X.env)).filterMap (·.1) = ks := by rfl)
    (hdb : (x == ("__debug__" : Str)) = false := by decide)
    (hpl : ((backTo pos (starEach [] X.env)).any (·.1) || (backToKw pos (keywordEach kws X.env)).any (·.1.isNone)) = false := by rfl) :
    PE X (.Call (.Name x p) [] kws pos) (tCallN 0 ks.length sp gV E tNil tk) := by
  refine ⟨fun pins s σ H Q I h => ?_⟩
  refine wpAny_Call_Name_kw (ld_glob I hg hm ?_ hdb)
  refine PySem.W.callWith_KW0 (h₀ := X.base) I.ok.mod.kin hk hall ?_ hpl
  refine thn (hkw.run pos pins s σ H _ I h) fun ws s2 ⟨zs, H2, I2, rz, l1, l2, q2⟩ => ⟨I2.kIn, ?_⟩
  rw [hks]
  exact run_fnN (us := []) (vs := []) F hr hb hx I2 .nil rz l1 l2 q2
end
theorem fun_kb {K : PySem.W.Frag} {x qual : Str} {st : Stmt} {f : Addr} {fd : FuncData} {ps ks : List Str} (F : Fun K x qual st f fd)
    (h : ∀ (kV doc pm : Value) (an : Option Addr) (cdv ct : Value) (us ws : List Value), us.length = 0 → ws.length = ks.length → bindArgs (PySem.W.fnOf x qual (defArgs st) (defBody st) (defScope st) .none kV doc pm an cdv ct) ⟨us, ks.zip ws⟩ = pure (ps.zip ws)) :
    KBn K fd ps 0 ks (fun _ ws => ws) (fun _ zs => zs) := by
  obtain ⟨oc, od, kV, doc, pm, an, cdv, ct, osl, rfl, lk, hcd⟩ := F.ex
  exact ⟨fun s us ws X l1 l2 => .of_eq (h kV doc pm an cdv ct us ws l1 l2), fun _ r => r⟩

/-! ### isinstance by a built-in class -/
inductive K5 | list | tuple | bool | int | str
def K5.name : K5 → String
  | .list => "list" | .tuple => "tuple" | .bool => "bool" | .int => "int" | .str => "str"
def K5.isB : K5 → Bool | .bool => true | .int => true | _ => false
def K5.isI : K5 → Bool | .int => true | _ => false
def K5.isS : K5 → Bool | .str => true | _ => false
def K5.isL : K5 → Bool | .list => true | _ => false
def K5.isT : K5 → Bool | .tuple => true | _ => false
def mIsi (c5 : K5) : List V → Hp → VK → Prop := fun vs H Q => match vs with
  | [x, c] => c = .ty c5.name ∧ match x with
    | .non => Q (.bl false) H
    | .bl _ => Q (.bl c5.isB) H
    | .int _ => Q (.bl c5.isI) H
    | .str _ => Q (.bl c5.isS) H
    | .ref p => ((∃ xs, H p = some (.lst xs)) ∧ Q (.bl c5.isL) H) ∨ ((∃ xs, H p = some (.tup xs)) ∧ Q (.bl c5.isT) H)
    | _ => False
  | _ => False
section
variable {X : Cx}
theorem xc_isi (c5 : K5) : CallR X (.builtin "isinstance") (mIsi c5) := calImp call_isi fun vs H Q h => by
  unfold mIsi at h
  split at h
  · rename_i x c
    obtain ⟨rfl, h⟩ := h
    split at h
    · exact ⟨_, _, .type "NoneType", _, false, rfl, .ty _, .base .non, kit_ty (by cases c5 <;> decide +kernel), h⟩
    · exact ⟨_, _, .type "bool", _, _, rfl, .ty _, .base (.bl _), kit_ty (by cases c5 <;> decide +kernel), h⟩
    · exact ⟨_, _, .type "int", _, _, rfl, .ty _, .base (.int _), kit_ty (by cases c5 <;> decide +kernel), h⟩
    · exact ⟨_, _, .type "str", _, _, rfl, .ty _, .base (.str _), kit_ty (by cases c5 <;> decide +kernel), h⟩
    · rcases h with ⟨⟨xs, e⟩, h⟩ | ⟨⟨xs, e⟩, h⟩
      · exact ⟨_, _, .type "list", _, _, rfl, .ty _, .base (.lst e), kit_ty (by cases c5 <;> decide +kernel), h⟩
      · exact ⟨_, _, .type "tuple", _, _, rfl, .ty _, .base (.tup e), kit_ty (by cases c5 <;> decide +kernel), h⟩
    · exact h.elim
  · exact h.elim
end
end RK

namespace RK
open PySem PySem.Spec PyProof.Rows L2
/-- a middle that one names -/
def xCut (t u : TS) : TS := fun D σ H => ∃ M : L2.St → Hp → Prop, t { D with nx := M } σ H ∧ ∀ σ' H', M σ' H' → u D σ' H'
theorem xss_cut {X : Cx} {st : Stmt} {rest : List Stmt} {t u : TS} (h1 : PS X st t) (h2 : PSs X rest u) : PSs X (st :: rest) (xCut t u) := by
  refine ⟨fun pins s σ H D I h => ?_⟩
  obtain ⟨M, hm, hu⟩ := h
  refine wpAny_execs_cons (thn (h1.run pins s σ H { D with nx := M } I hm) fun f s1 q => ?_)
  cases f with
  | next =>
    obtain ⟨σ', H', I', q⟩ := q
    exact h2.run pins s1 σ' H' D I' (hu σ' H' q)
  | ret v => exact q
  | brk => exact q
  | cont => exact q
theorem xe_rev {X : Cx} {e : Expr} {te : TE} {k : Nat} {p1 p2 p3 pos : Pos} (he : PE X e te) : PE X (.Subscript e (.Slice none none (some (.UnaryOp .USub (.Constant (.int 1) k p1) p2)) p3) pos) (xRev X.K te) := by
  rw [xRev_eq]; exact pe_revL he
/-! ### what one needs of numbers and places -/
theorem sl_big : sizeLine = 16777216 := sizeLine_eq
theorem ixN_nat {n j : Nat} (h : j < n) : ixN n (j : Int) = some j := by
  unfold ixN
  rw [if_pos (by omega), if_pos (by omega)]
  simp
theorem at_int {α : Type} {xs : List α} {i : Int} {j : Nat} {v : α} (e : i = (j : Int)) (h : xs[j]? = some v) : atI xs i = some v := by
  subst e; exact atI_nat h
theorem tyL {K : PySem.W.Frag} {p : Addr} {xs : List V} {H : Hp} (h : H p = some (.lst xs)) : tyV K "list" (.ref p) H := .inl ⟨rfl, _, SqL.of h⟩
theorem Sq.l {K : PySem.W.Frag} {H : Hp} {p : Addr} {xs : List V} (h : H p = some (.lst xs)) : Sq K H p xs := .inl (SqL.of h)
theorem Sq.t {K : PySem.W.Frag} {H : Hp} {p : Addr} {xs : List V} (h : H p = some (.tup xs)) : Sq K H p xs := .inr (SqT.of h)
theorem no_tf {A : Prop} (h : true = false) : A := Bool.noConfusion h
theorem no_ft {A : Prop} (h : false = true) : A := Bool.noConfusion h
theorem ref_ne {H : Hp} {a b : Addr} {o u : HO} (h : H a = some o) (h' : H b = some u) (d : o ≠ u) : a ≠ b := ne_of h h' d

/-! ### the store of draws -/
def sRow (c : Addr) (a d : Nat) (b e : Int) : HO := .lst [.ref c, .int a, .int b, .int d, .int e]
/-- at s a store that has given at most n numbers; its own list at c -/
structure Sto (s c : Addr) (n : Nat) (H : Hp) : Prop where
  ex : ∃ (ns : List Int) (a d : Nat) (b e : Int), H s = some (sRow c a d b e) ∧ H c = some (.lst (ns.map V.int)) ∧ c ≠ s ∧ a ≤ ns.length ∧ ns.length ≤ 63 ∧ 0 ≤ b ∧ d ≤ n
section
variable {s c p : Addr} {n m : Nat} {H H' : Hp} {o : HO}
theorem Sto.mono (S : Sto s c n H) (h : n ≤ m) : Sto s c m H := by
  obtain ⟨ns, a, d, b, e, h1, h2, h3, h4, h5, h6, h7⟩ := S.ex
  exact ⟨ns, a, d, b, e, h1, h2, h3, h4, h5, h6, by omega⟩
theorem Sto.got (S : Sto s c n H) : ∃ o, H s = some o := by
  obtain ⟨ns, a, d, b, e, h1, _⟩ := S.ex
  exact ⟨_, h1⟩
theorem Sto.gotc (S : Sto s c n H) : ∃ o, H c = some o := by
  obtain ⟨ns, a, d, b, e, h1, h2, _⟩ := S.ex
  exact ⟨_, h2⟩
theorem Sto.same (S : Sto s c n H) (k : Same H H') : Sto s c n H' := by
  obtain ⟨ns, a, d, b, e, h1, h2, h3⟩ := S.ex
  exact ⟨ns, a, d, b, e, k _ _ h1, k _ _ h2, h3⟩
/-- a new object -/
theorem Sto.new (S : Sto s c n H) (h : H p = none) : Sto s c n (upd H p o) := S.same (same_new h)
/-- an object that is not the store's is written -/
theorem Sto.put (S : Sto s c n H) (h1 : p ≠ s) (h2 : p ≠ c) : Sto s c n (upd H p o) := by
  obtain ⟨ns, a, d, b, e, g1, g2, g3⟩ := S.ex
  exact ⟨ns, a, d, b, e, (upd_ne (Ne.symm h1)).trans g1, (upd_ne (Ne.symm h2)).trans g2, g3⟩
theorem Sto.ne (S : Sto s c n H) (h : H p = none) : p ≠ s := by
  obtain ⟨o, e⟩ := S.got
  exact Ne.symm (ne_of_none e h)
theorem Sto.nec (S : Sto s c n H) (h : H p = none) : p ≠ c := by
  obtain ⟨o, e⟩ := S.gotc
  exact Ne.symm (ne_of_none e h)
end
/-- a comprehension over a list that leaves the heap alone: a test, a value -/
theorem lc_fm {K : PySem.W.Frag} {a : Addr} {xs : List V} {j : Nat} {tt : TT} {te : TE} {vs : List Nat} {σ : L2.St} {H1 : Hp} {D : Addr} {Qd : Hp → Prop} (f : V → V) (p : V → Bool) (hx : SqL K H1 a xs) (hD : H1 D = none) (hz : xs.length ≤ sizeLine)
    (hw : ∀ x : V, wipe ((wipe σ vs).set j (some x)) vs = wipe σ vs)
    (ht : ∀ (x : V) (acc : List V) (Q : Bool → Hp → Prop), x ∈ xs → Q (p x) (upd H1 D (.lst acc)) → tt ((wipe σ vs).set j (some x)) (upd H1 D (.lst acc)) Q)
    (he : ∀ (x : V) (acc : List V) (Q : VK), x ∈ xs → Q (f x) (upd H1 D (.lst acc)) → te ((wipe σ vs).set j (some x)) (upd H1 D (.lst acc)) Q)
    (hd : Qd (upd H1 D (.lst ((xs.filter p).map f)))) :
    ∃ W : Nat → Nat → Hp → Prop, (∃ m, W 0 m (upd H1 D (.lst []))) ∧ ∀ i m H, W i m H →
      ((Itl K a).stop i H ∧ Qd H) ∨ ((Itl K a).go i H ∧ ∃ Nx : Hp → Prop, (∀ H', Nx H' → ∃ m', m' < m ∧ W (i + 1) m' H') ∧ ∀ x H', (Itl K a).yld i H x H' → gName j x (wipe σ vs) H' fun σ2 H2 => wipe σ2 vs = wipe σ vs ∧ tt σ2 H2 fun b H3 =>
        if b = true then te σ2 H3 fun y H4 => ∃ acc, H4 D = some (.lst acc) ∧ acc.length < sizeLine ∧ Nx (upd H4 D (.lst (acc ++ [y]))) else Nx H3) := by
  have keep : ∀ acc, SqL K (upd H1 D (.lst acc)) a xs := fun acc => (same_new hD).seq hx
  refine lc_list (xs := xs) (fun i H => H = upd H1 D (.lst (((xs.take i).filter p).map f))) rfl (fun i H _ e => by rw [e]; exact keep _) (fun i x H hi e => ?_) (fun H e => by rw [e, List.take_length]; exact hd)
  subst e
  have hm : x ∈ xs := List.mem_of_getElem? hi
  have hil := (List.getElem?_eq_some_iff.mp hi).1
  have et : xs.take (i + 1) = xs.take i ++ [x] := by rw [List.take_add_one, hi]; rfl
  refine ⟨hw x, ht x _ _ hm ?_⟩
  cases hp : p x with
  | true =>
    rw [if_pos rfl]
    refine he x _ _ hm ⟨_, upd_same, ?_, ?_⟩
    · rw [List.length_map]
      have := List.length_filter_le p (xs.take i)
      rw [List.length_take] at this
      omega
    · rw [upd_upd, et, List.filter_append, List.map_append]
      simp [hp]
  | false =>
    rw [if_neg Bool.false_ne_true, et, List.filter_append]
    simp [hp]
theorem lc_f {K : PySem.W.Frag} {a : Addr} {xs : List V} {j : Nat} {te : TE} {vs : List Nat} {σ : L2.St} {H1 : Hp} {D : Addr} {Qd : Hp → Prop} (f : V → V) (hx : SqL K H1 a xs) (hD : H1 D = none) (hz : xs.length ≤ sizeLine)
    (hw : ∀ x : V, wipe ((wipe σ vs).set j (some x)) vs = wipe σ vs)
    (he : ∀ (x : V) (acc : List V) (Q : VK), x ∈ xs → Q (f x) (upd H1 D (.lst acc)) → te ((wipe σ vs).set j (some x)) (upd H1 D (.lst acc)) Q)
    (hd : Qd (upd H1 D (.lst (xs.map f)))) :
    ∃ W : Nat → Nat → Hp → Prop, (∃ m, W 0 m (upd H1 D (.lst []))) ∧ ∀ i m H, W i m H →
      ((Itl K a).stop i H ∧ Qd H) ∨ ((Itl K a).go i H ∧ ∃ Nx : Hp → Prop, (∀ H', Nx H' → ∃ m', m' < m ∧ W (i + 1) m' H') ∧ ∀ x H', (Itl K a).yld i H x H' → gName j x (wipe σ vs) H' fun σ2 H2 => wipe σ2 vs = wipe σ vs ∧ tYes σ2 H2 fun b H3 =>
        if b = true then te σ2 H3 fun y H4 => ∃ acc, H4 D = some (.lst acc) ∧ acc.length < sizeLine ∧ Nx (upd H4 D (.lst (acc ++ [y]))) else Nx H3) :=
  lc_fm f (fun _ => true) hx hD hz hw (fun _ _ _ _ q => q) he (by rw [List.filter_eq_self.mpr (fun _ _ => rfl)]; exact hd)
theorem sl_of {xs : List V} {n : Nat} (h : xs.length = n) (hn : n ≤ 1000 := by decide) : xs.length ≤ sizeLine := by rw [h]; exact Nat.le_of_lt (small1000 hn)
end RK

namespace RK
open PySem PySem.Spec PyProof.Rows L2 SX
/-! ### texts as lists of codes -/
theorem S_c (l : List Nat) : (S l).cps.toList = l := rfl
theorem S_of (z : Str) : z = S z.cps.toList := (S_tl z).symm
theorem S_one (c : Nat) : (⟨#[c]⟩ : Str) = S [c] := rfl
theorem S_dec (a b : List Nat) : decide (S a = S b) = decide (a = b) := by
  rw [decide_eq_decide]
  exact ⟨S_inj, fun h => by rw [h]⟩
theorem dec_S {a b : List Nat} {s : Str} (h : s = S b) : decide (S a = s) = decide (a = b) := by rw [h, S_dec]
theorem cut_to (l : List Nat) (k : Nat) : cutS (S l) none (some (k : Int)) = S (l.take k) := by
  unfold cutS
  rw [show HT.sIx (S l).length 0 none = 0 from rfl, HT.sIx_nat, Nat.sub_zero, List.drop_zero, S_c, S_len]
  congr 1
  rw [show l.take (min k l.length) = l.take k by
    by_cases h : k ≤ l.length
    · rw [Nat.min_eq_left h]
    · rw [Nat.min_eq_right (by omega), List.take_length, List.take_of_length_le (by omega)]]
theorem cut_from (l : List Nat) (k : Nat) : cutS (S l) (some (k : Int)) none = S (l.drop k) := by
  unfold cutS
  rw [show HT.sIx (S l).length (S l).length none = (S l).length from rfl, HT.sIx_nat, S_c, S_len]
  congr 1
  by_cases h : k ≤ l.length
  · rw [Nat.min_eq_left h, List.take_of_length_le (by rw [List.length_drop]; omega)]
  · rw [Nat.min_eq_right (by omega), Nat.sub_self, List.take_zero, List.drop_of_length_le (by omega)]
theorem cutV_to (l : List V) (k : Nat) : cutV l none (some (k : Int)) = l.take k := by
  unfold cutV
  rw [show HT.sIx l.length 0 none = 0 from rfl, HT.sIx_nat, Nat.sub_zero, List.drop_zero]
  by_cases h : k ≤ l.length
  · rw [Nat.min_eq_left h]
  · rw [Nat.min_eq_right (by omega), List.take_length, List.take_of_length_le (by omega)]
theorem cutV_from (l : List V) (k : Nat) : cutV l (some (k : Int)) none = l.drop k := by
  unfold cutV
  rw [show HT.sIx l.length l.length none = l.length from rfl, HT.sIx_nat]
  by_cases h : k ≤ l.length
  · rw [Nat.min_eq_left h, List.take_of_length_le (by rw [List.length_drop]; omega)]
  · rw [Nat.min_eq_right (by omega), Nat.sub_self, List.take_zero, List.drop_of_length_le (by omega)]
/-- a text over again -/
def rep (n : Nat) (l : List Nat) : List Nat := (List.replicate n l).flatten
theorem rep_succ (n : Nat) (l : List Nat) : rep (n + 1) l = l ++ rep n l := by unfold rep; rw [List.replicate_succ, List.flatten_cons]
theorem rep_len (n : Nat) (l : List Nat) : (rep n l).length = n * l.length := by
  induction n with
  | zero => simp [rep]
  | succ n ih => rw [rep_succ, List.length_append, ih, Nat.succ_mul, Nat.add_comm]
theorem fold_app (xs : List (Array Nat)) (a : Array Nat) : (xs.foldl (· ++ ·) a).toList = a.toList ++ (xs.map Array.toList).flatten := by
  induction xs generalizing a with
  | nil => simp
  | cons x r ih => rw [List.foldl_cons, ih]; simp
theorem mul_S (l : List Nat) (n : Nat) : PySem.Txt.mul (S l) (n : Int) = S (rep n l) := by
  unfold PySem.Txt.mul
  by_cases h1 : n = 0
  · subst h1
    rw [if_pos (by decide)]
    rfl
  · rw [if_neg (by omega)]
    by_cases h2 : (((n : Int) == 1) || (S l).length == 0) = true
    · rw [if_pos h2]
      rcases Bool.or_eq_true _ _ ▸ h2 with h | h
      · have : n = 1 := by have := eq_of_beq h; omega
        subst this
        congr 1
        simp [rep]
      · have : l = [] := by have := eq_of_beq h; rw [S_len] at this; exact List.length_eq_zero_iff.mp this
        subst this
        congr 1
        simp [rep]
    · rw [if_neg h2]
      refine TL.ext_tl ?_
      show ((List.replicate ((n : Int)).toNat (S l).cps).foldl (· ++ ·) #[]).toList = rep n l
      rw [fold_app, Int.toNat_natCast]
      simp [rep]
theorem mul_ok (l : List Nat) (n : Nat) (hn : n ≤ 20000) (hz : l.length * n ≤ sizeLine) : PySem.MulOk (S l) (n : Int) := by
  refine ⟨by simp; omega, fun h1 h2 => ?_, fun h1 h2 => ?_⟩
  · rw [S_len]
    have hl : l.length ≤ sizeLine := Nat.le_trans (Nat.le_mul_of_pos_right _ (by omega)) hz
    rw [sl_big] at hl
    have : (20000 : Int) * (l.length : Int) ≤ 2 ^ 63 - 1 := by omega
    have h3 : (l.length : Int) ≤ (2 ^ 63 - 1) / n := by
      rw [Int.le_ediv_iff_mul_le (by omega)]
      have : (l.length : Int) * n ≤ (l.length : Int) * 20000 := Int.mul_le_mul_of_nonneg_left (by omega) (by omega)
      omega
    omega
  · rw [S_len, Int.toNat_natCast]
    rw [sl_big] at hz
    show decide (_ > sizeLine) = false
    rw [decide_eq_false_iff_not, sl_big]
    omega

/-! ### names -/
def low (c : Nat) : Bool := decide (97 ≤ c) && decide (c ≤ 122)
def lowD (c : Nat) : Bool := low c || (decide (48 ≤ c) && decide (c ≤ 57))
def aZ : List Nat := [97, 98, 99, 100, 101, 102, 103, 104, 105, 106, 107, 108, 109, 110, 111, 112, 113, 114, 115, 116, 117, 118, 119, 120, 121, 122]
def aZ9 : List Nat := aZ ++ [48, 49, 50, 51, 52, 53, 54, 55, 56, 57]
theorem lit_az : Str.ofString "abcdefghijklmnopqrstuvwxyz" = S aZ := by decide +kernel
theorem lit_az9 : Str.ofString "abcdefghijklmnopqrstuvwxyz0123456789" = S aZ9 := by decide +kernel
theorem lit_sea : Str.ofString "sea" = S [115, 101, 97] := by decide +kernel
theorem lit_it : Str.ofString "it" = S [105, 116] := by decide +kernel
theorem lit_0 : Str.ofString "0" = S [48] := by decide +kernel
theorem lit_e : Str.ofString "" = S [] := by decide +kernel
theorem mem_az {c : Nat} : c ∈ aZ ↔ low c = true := by
  unfold low
  rw [Bool.and_eq_true, decide_eq_true_iff, decide_eq_true_iff]
  constructor
  · intro h
    have : ∀ x ∈ aZ, 97 ≤ x ∧ x ≤ 122 := by decide
    exact this c h
  · intro h
    have : ∀ x, x < 123 → 97 ≤ x → x ∈ aZ := by decide
    exact this c (by omega) h.1
theorem mem_az9 {c : Nat} : c ∈ aZ9 ↔ lowD c = true := by
  unfold lowD
  rw [Bool.or_eq_true, ← mem_az, Bool.and_eq_true, decide_eq_true_iff, decide_eq_true_iff]
  unfold aZ9
  rw [List.mem_append]
  constructor
  · rintro (h | h)
    · exact .inl h
    · have : ∀ x ∈ ([48, 49, 50, 51, 52, 53, 54, 55, 56, 57] : List Nat), 48 ≤ x ∧ x ≤ 57 := by decide
      exact .inr (this c h)
  · rintro (h | h)
    · exact .inl h
    · have : ∀ x, x < 58 → 48 ≤ x → x ∈ ([48, 49, 50, 51, 52, 53, 54, 55, 56, 57] : List Nat) := by decide
      exact .inr (this c (by omega) h.1)
theorem low_lowD {c : Nat} (h : low c = true) : lowD c = true := by unfold lowD; rw [h]; rfl
theorem lowD_lt {c : Nat} (h : lowD c = true) : c < 123 := by
  unfold lowD low at h
  simp at h
  omega
/-- it starts with a letter; letters and digits follow -/
def word (l : List Nat) : Bool := (match l with | [] => false | c :: _ => low c) && l.all lowD
def nameL (l : List Nat) : Bool := !(decide (l = [115, 101, 97])) && !(decide (l = [105, 116])) && decide (1 ≤ l.length) && decide (l.length ≤ 8) && word l
theorem word_all {l : List Nat} (h : word l = true) : ∀ c ∈ l, lowD c = true := by
  unfold word at h
  exact List.all_eq_true.mp (Bool.and_eq_true _ _ ▸ h).2
theorem word_ne {l : List Nat} (h : word l = true) : l ≠ [] := by
  rintro rfl
  exact Bool.noConfusion h
theorem word_app {l m : List Nat} (h : word l = true) (k : ∀ c ∈ m, lowD c = true) : word (l ++ m) = true := by
  cases l with
  | nil => exact absurd h Bool.false_ne_true
  | cons c r =>
    unfold word at h ⊢
    rw [Bool.and_eq_true] at h ⊢
    exact ⟨h.1, List.all_eq_true.mpr fun x hx => (List.mem_append.mp hx).elim (List.all_eq_true.mp h.2 x) (k x)⟩
theorem word_take {l : List Nat} (h : word l = true) {k : Nat} (hk : 0 < k) : word (l.take k) = true := by
  cases l with
  | nil => exact absurd h Bool.false_ne_true
  | cons c r =>
    cases k with
    | zero => omega
    | succ k =>
      unfold word at h ⊢
      rw [Bool.and_eq_true] at h ⊢
      exact ⟨h.1, List.all_eq_true.mpr fun x hx => List.all_eq_true.mp h.2 x (List.mem_of_mem_take hx)⟩
structure IsNm (l : List Nat) : Prop where
  w : word l = true
  l1 : l.length ≤ 8
  ns : l ≠ [115, 101, 97]
  ni : l ≠ [105, 116]
theorem IsNm.ne {l : List Nat} (h : IsNm l) : l ≠ [] := word_ne h.w
theorem nameL_iff {l : List Nat} : nameL l = true ↔ IsNm l := by
  unfold nameL
  simp only [Bool.and_eq_true, Bool.not_eq_true', decide_eq_false_iff_not, decide_eq_true_iff]
  constructor
  · rintro ⟨⟨⟨⟨a, b⟩, c⟩, d⟩, e⟩
    exact ⟨e, d, a, b⟩
  · intro h
    have := List.length_pos_iff.mpr h.ne
    exact ⟨⟨⟨⟨h.ns, h.ni⟩, this⟩, h.l1⟩, h.w⟩
/-! ### a comprehension over a text's signs -/
theorem lc_str {l : List Nat} {j : Nat} {tt : TT} {te : TE} {vs : List Nat} {σ : L2.St} {H1 : Hp} {D : Addr} {Qd : Hp → Prop} (f : Nat → V) (p : Nat → Bool) (hz : l.length ≤ sizeLine)
    (hw : ∀ x : V, wipe ((wipe σ vs).set j (some x)) vs = wipe σ vs)
    (ht : ∀ (x : Nat) (acc : List V) (Q : Bool → Hp → Prop), x ∈ l → Q (p x) (upd H1 D (.lst acc)) → tt ((wipe σ vs).set j (some (.str (S [x])))) (upd H1 D (.lst acc)) Q)
    (he : ∀ (x : Nat) (acc : List V) (Q : VK), x ∈ l → Q (f x) (upd H1 D (.lst acc)) → te ((wipe σ vs).set j (some (.str (S [x])))) (upd H1 D (.lst acc)) Q)
    (hd : Qd (upd H1 D (.lst ((l.filter p).map f)))) :
    ∃ W : Nat → Nat → Hp → Prop, (∃ m, W 0 m (upd H1 D (.lst []))) ∧ ∀ i m H, W i m H →
      ((Its (S l)).stop i H ∧ Qd H) ∨ ((Its (S l)).go i H ∧ ∃ Nx : Hp → Prop, (∀ H', Nx H' → ∃ m', m' < m ∧ W (i + 1) m' H') ∧ ∀ x H', (Its (S l)).yld i H x H' → gName j x (wipe σ vs) H' fun σ2 H2 => wipe σ2 vs = wipe σ vs ∧ tt σ2 H2 fun b H3 =>
        if b = true then te σ2 H3 fun y H4 => ∃ acc, H4 D = some (.lst acc) ∧ acc.length < sizeLine ∧ Nx (upd H4 D (.lst (acc ++ [y]))) else Nx H3) := by
  have hsz : (S l).cps.size = l.length := S_len l
  refine ⟨fun i m H => m = l.length - i ∧ i ≤ l.length ∧ H = upd H1 D (.lst (((l.take i).filter p).map f)), ⟨l.length, by simp, Nat.zero_le _, rfl⟩, ?_⟩
  rintro i m H ⟨rfl, hi, rfl⟩
  by_cases hlt : i < l.length
  · refine .inr ⟨by show i < (S l).cps.size; rw [hsz]; exact hlt, fun H' => H' = upd H1 D (.lst (((l.take (i + 1)).filter p).map f)), fun H' e => ⟨l.length - (i + 1), by omega, rfl, hlt, e⟩, ?_⟩
    rintro x H' ⟨rfl, c, hc, rfl⟩
    have hc' : l[i]? = some c := by simpa using hc
    have hm : c ∈ l := List.mem_of_getElem? hc'
    have et : l.take (i + 1) = l.take i ++ [c] := by rw [List.take_add_one, hc']; rfl
    refine ⟨hw _, ht c _ _ hm ?_⟩
    cases hp : p c with
    | true =>
      rw [if_pos rfl]
      refine he c _ _ hm ⟨_, upd_same, ?_, ?_⟩
      · rw [List.length_map]
        have := List.length_filter_le p (l.take i)
        rw [List.length_take] at this
        omega
      · rw [upd_upd, et, List.filter_append, List.map_append]
        simp [hp]
    | false =>
      rw [if_neg Bool.false_ne_true, et, List.filter_append]
      simp [hp]
  · have e : i = l.length := by omega
    subst e
    rw [List.take_length]
    exact .inl ⟨by show (S l).cps.size ≤ _; rw [hsz]; exact Nat.le_refl _, hd⟩
theorem filter_nil_iff {α : Type} {p : α → Bool} {l : List α} : ((l.filter p).length = 0) ↔ ∀ x ∈ l, p x = false := by
  rw [List.length_eq_zero_iff, List.filter_eq_nil_iff]
  exact ⟨fun h x hx => by simpa using h x hx, fun h x hx => by rw [h x hx]; exact Bool.false_ne_true⟩
end RK

namespace RK
open PySem PySem.Spec PyProof.Rows L2 SX
/-! ### the rules once more, with the written part named -/
section
variable {X : Cx} {K : PySem.W.Frag} (h : X.K = K)
include h
theorem ko_add : OpR X (binaryOp .Add) (mAdd K) := h ▸ xo_add
theorem ko_eq (hu : X.A.units + 64 < cLine) : OpR X (compareOp .Eq) (mEq K) := h ▸ xo_eq hu
theorem ko_ne (hu : X.A.units + 64 < cLine) : OpR X (compareOp .NotEq) (mNe K) := h ▸ xo_ne hu
theorem ko_in : OpR X (compareOp .In) (mIn K false) := h ▸ xo_in
theorem ko_notin : OpR X (compareOp .NotIn) (mIn K true) := h ▸ xo_notin
theorem kc_len : CallR X (.builtin "len") (mLen K) := h ▸ xc_len
theorem kc_list (hc : X.calm = true) : CallR X (.type "list") (mList K) := h ▸ xc_list hc
theorem kc_tuple : CallR X (.type "tuple") (mTuple K) := h ▸ xc_tuple
theorem kc_sorted : CallR X (.builtin "sorted") (rSortedS K) := h ▸ cr_sortedS
theorem kix : IxR X (mIx K) := h ▸ xix
theorem ksl : SlR X (mSl K) := h ▸ xsl
theorem ke_rev {e : Expr} {te : TE} {k : Nat} {p1 p2 p3 pos : Pos} (he : PE X e te) : PE X (.Subscript e (.Slice none none (some (.UnaryOp .USub (.Constant (.int 1) k p1) p2)) p3) pos) (xRev K te) := h ▸ xe_rev he
theorem km_index : MtR X "list.index" (lmIndex K) := h ▸ xm_index
theorem km_count : MtR X "list.count" (lmCount K) := h ▸ xm_count
theorem ki_seq {tg l : Expr} {tl : TE} (hl : PE X l tl) : PI X tg l (iSeq K tl) := h ▸ xi_seq hl
theorem ke_bm {o e : Expr} {es : List Expr} {to : TE} {t : TA} {name : Str} {apos cpos : Pos} {T id : String} {r : V → List V → Hp → VK → Prop} (pa : PlainAttrs T) (slot : Slot T name id) (hty : typeOf (.builtin id) = pure (.type "method_descriptor")) (hm : MtR X id r) (ho : PE X o to) (ha : PA X (e :: es) t)
    (hbase : attributeBase o name X.env (eval o X.env) = eval o X.env := by rfl)
    (hfew : ((backTo cpos (starEach (e :: es) X.env)).all (fun x => !x.1) && (backToKw cpos (keywordEach [] X.env)).all (fun x => x.1.isSome)
      && decide ((e :: es).length + ([] : List Keyword).length + (if ([] : List Keyword).isEmpty then 0 else 1) < 30)) = true := by rfl)
    (hline : (apos.endLine == cpos.line) = true := by rfl) (hs : starEach (e :: es) X.env = (false, eval e X.env) :: starEach es X.env := by rfl) (hplain : (backTo cpos (starEach es X.env)).any (·.1) = false := by rfl) :
    PE X (.Call (.Attribute o name apos) (e :: es) [] cpos) (tBM K T r to t) := h ▸ pe_bm pa slot hty hm ho ha hbase hfew hline hs hplain
end
end RK

namespace PyProof.Rows
open PySem PySem.Spec
section
variable {prog : Program} {w : World} {A : Around} {E : Value → Shared → Prop} {s : Shared}
/-- what a tuple holds is put into a list, as of a list -/
theorem rk_collect {l : Addr} {T : String} {o : Obj} {n : Nat} {vs : List Value} {Q : List Value → Shared → Prop} (hT : T = "list" ∨ T = "tuple") (ho : s.heap.get? l = some o) (hc : o.cls = .type T) (hd : o.data = .seq vs.toArray n)
    (h : Q vs { s with heap := (s.heap.push (seqObj "list" #[] 0)).update s.heap.objs.size (Obj.mapSeq (· ++ vs.toArray)) }) (hz : vs.length ≤ sizeLine) :
    wpAny (model prog w) A (collect (.ref l)) Q E s := by
  unfold collect
  apply wpAny_bind
  apply wpAny_runValue
  apply codeAny_builtin entry_proto_collect'
  show wpAny _ _ (do again (.builtin "list.__iadd__" ⟨[← newList [], .ref l], []⟩)) _ _ s
  apply wpAny_bind
  refine wpAny_newList ?_
  apply wpAny_pure
  refine ⟨Code.quiet_builtin _ (by decide +kernel), ?_⟩
  apply codeAny_builtin entry_list_iadd'
  show wpAny _ _ (Builtin.List.listExtendWith (.ref s.heap.objs.size) (.ref l) (.ref s.heap.objs.size)) _ _ { s with heap := s.heap.push (seqObj "list" #[] 0) }
  unfold Builtin.List.listExtendWith
  have old : (s.heap.push (seqObj "list" #[] 0)).get? l = some o := Heap.get?_push_of_some _ ho
  apply wpAny_bind
  refine wpAny_typeOf (T := T) ⟨o, old, hc⟩ ?_
  have cond : ∀ b : Bool, (b || Value.type T == Value.type "list" || Value.type T == Value.type "tuple") = true := by
    intro b
    rcases hT with rfl | rfl <;> cases b <;> decide
  rw [if_pos (by rcases hT with rfl | rfl <;> simp)]
  apply wpAny_bind
  refine listItems_at old hd ?_
  apply wpAny_bind
  refine listItems_at (xs := #[]) (n := 0) (Heap.get?_push_size _ rfl) rfl ?_
  rw [if_neg (by simp)]
  apply wpAny_bind
  refine listUpdate_at (xs := #[]) (n := 0) (Heap.get?_push_size _ rfl) rfl ?_ (Nat.zero_le _) (by show (#[] ++ vs.toArray).size ≤ sizeLine + 1; simp only [Array.size_append, List.size_toArray, List.length_nil]; omega)
  apply wpAny_pure
  show wpAny (model prog w) A (do
      let o ← load s.heap.objs.size
      match o.data with | .seq xs _ => pure xs.toList | _ => unsupported "internal:collect") Q E { s with heap := (s.heap.push (seqObj "list" #[] 0)).update s.heap.objs.size (Obj.mapSeq (· ++ vs.toArray)) }
  apply wpAny_bind
  refine wpAny_load (get?_update_seq (Heap.get?_push_size _ rfl) _) ?_
  show wpAny _ _ (pure ((#[] : Array Value) ++ vs.toArray).toList) Q E _
  have e : ((#[] : Array Value) ++ vs.toArray).toList = vs := by simp
  rw [e]
  exact wpAny_pure h
theorem rk_sorted {T : String} {o : Obj} {n : Nat} {l : Addr} {vs : List Value} {ss : List Str} {Q : Value → Shared → Prop} (hT : T = "list" ∨ T = "tuple") (ho : s.heap.get? l = some o) (hc : o.cls = .type T) (hd : o.data = .seq vs.toArray n) (hS : StrsAre vs ss) (h64 : vs.length < 64)
    (h : ∀ (out : Array Value) (zs : List Str), StrsAre out.toList zs → zs.Perm ss → sortedS zs = true → Q (.ref (s.heap.objs.size + 1)) { s with heap := sortedAll s.heap vs out }) :
    wpAny (model prog w) A (call (.builtin "sorted") [.ref l]) Q E s := by
  have line := sizeLine_eq
  apply Calls.call_function_entry kind_sorted plain_sorted entry_sorted (args_sorted1 _)
  unfold Builtin.«sorted»
  refine wpAny_bind (m := checkCount "sorted" 1 1 _) ?_
  apply wpAny_pure
  apply wpAny_bind
  refine rk_collect hT ho hc hd ?_ (by omega)
  apply wpAny_bind
  refine wpAny_newList ?_ (by omega)
  generalize hh : (s.heap.push (seqObj "list" #[] 0)).update s.heap.objs.size (Obj.mapSeq (· ++ vs.toArray)) = hp
  have hsz : hp.objs.size = s.heap.objs.size + 1 := by
    rw [← hh, Heap.size_update, size_push']
  have hoL : (hp.push (seqObj "list" vs.toArray 0)).get? (s.heap.objs.size + 1) = some (seqObj "list" vs.toArray 0) := by
    rw [← hsz]
    exact Heap.get?_push_size _ rfl
  show wpAny _ _ _ _ _ { s with heap := hp.push (seqObj "list" vs.toArray 0) }
  rw [hsz]
  apply wpAny_bind
  apply wpAny_holding
  refine wpAny_call_entry slot_list_sort ⟨_, hoL, rfl⟩ entry_list_sort (list_sort_treeK (κ := strKind) strKind_oneLt hoL hS.keysOf (fun v₁ v₂ rest e => keyKind_strs (by rw [← e]; exact hS)) h64 fun st' hp' hs => ⟨_, rfl, ?_⟩) (args_list_sort _)
  obtain ⟨zs, q1, q2, q3⟩ := sorted_out_str hS hp' hs
  refine wpAny_pure ⟨_, rfl, ?_⟩
  have z := h _ zs q1 q2 q3
  unfold sortedAll at z
  rw [hh] at z
  exact z
end
end PyProof.Rows
namespace RK
open PySem PySem.Spec PyProof.Rows L2 SX
def mSort (K : PySem.W.Frag) : List V → Hp → VK → Prop := fun vs H Q => match vs with
  | [.ref p] => ∃ xs : List Str, Sq K H p (xs.map V.str) ∧ xs.length < 64 ∧ ∀ (ys : List Str) (q : Addr), ys.Perm xs → sortedS ys = true → H q = none → Q (.ref q) (upd H q (.lst (ys.map V.str)))
  | _ => False
theorem kc_sort {X : Cx} {K : PySem.W.Frag} (hK : X.K = K) : CallR X (.builtin "sorted") (mSort K) := by
  subst hK
  intro pins s σ H vs us Q I r h
  unfold mSort at h
  split at h
  · rename_i p
    obtain ⟨xs, hs, h64, q⟩ := h
    rw [Vals.ref1 r]
    have fin : ∀ its : List Value, Vals (xs.map V.str) its → ∀ (out : Array Value) (zs : List Str), StrsAre out.toList zs → zs.Perm xs → sortedS zs = true → EP X pins σ Q (.ref (s.heap.objs.size + 1)) { s with heap := sortedAll s.heap its out } := by
      intro its rv out zs h1 h2 h3
      obtain ⟨ep, he'⟩ := PyProof.Rows.sortedAll_at s.heap its out
      have hz : (zs.map V.str).length ≤ sizeLine := by rw [List.length_map, h2.length_eq, sl_big]; omega
      exact ⟨.ref _, upd H (s.heap.objs.size + 1) (.lst (zs.map V.str)), I.laid (t' := s.toks) (fun _ _ => PyProof.Rows.sortedAll_old) (Nat.le_succ _) ⟨hz, out.toList, ep, vals_of_strs h1, he'⟩, rfl, q zs _ h2 h3 (I.hok.fresh (Nat.le_succ _))⟩
    rcases hs with hs | hs
    · obtain ⟨its, rv, pl, _⟩ := I.list hs
      have hl := rv.length
      rw [List.length_map] at hl
      obtain ⟨o, ho, hc, n, hd⟩ := pl.isList
      exact PyProof.Rows.rk_sorted (.inl rfl) ho hc hd rv.strs (by omega) (fin its rv)
    · obtain ⟨its, rv, pl, _⟩ := I.tuple hs
      have hl := rv.length
      rw [List.length_map] at hl
      obtain ⟨o, ho, hc, n, hd⟩ := pl
      exact PyProof.Rows.rk_sorted (.inr rfl) ho hc hd rv.strs (by omega) (fin its rv)
  · exact h.elim
/-! ### lists of texts -/
def sv (ts : List (List Nat)) : List V := ts.map fun t => V.str (S t)
theorem sv_len (ts : List (List Nat)) : (sv ts).length = ts.length := List.length_map _
theorem sv_flat (ts : List (List Nat)) : (sv ts).all flatV = true := List.all_eq_true.mpr fun x hx => by
  obtain ⟨t, _, rfl⟩ := List.mem_map.mp hx
  rfl
theorem sv_app (a b : List (List Nat)) : sv (a ++ b) = sv a ++ sv b := List.map_append
theorem sv_get {ts : List (List Nat)} {i : Nat} {t : List Nat} (h : ts[i]? = some t) : (sv ts)[i]? = some (.str (S t)) := by
  unfold sv
  rw [List.getElem?_map, h]
  rfl
theorem sv_mem {ts : List (List Nat)} {v : V} (h : v ∈ sv ts) : ∃ t, t ∈ ts ∧ v = .str (S t) := by
  obtain ⟨t, h1, h2⟩ := List.mem_map.mp h
  exact ⟨t, h1, h2.symm⟩
theorem str_eqv (a b : List Nat) : eqV (.str (S a)) (.str (S b)) = decide (a = b) := by
  show (S a == S b) = _
  rw [S_beq_eq]
theorem inV_sv (t : List Nat) (ts : List (List Nat)) : inV (.str (S t)) (sv ts) = decide (t ∈ ts) := by
  unfold inV sv
  rw [List.any_map, Bool.eq_iff_iff, decide_eq_true_iff, List.any_eq_true]
  constructor
  · rintro ⟨x, h1, h2⟩
    have e : eqV (.str (S x)) (.str (S t)) = true := h2
    rw [str_eqv] at e
    have := of_decide_eq_true e
    subst this
    exact h1
  · intro h
    exact ⟨t, h, by show eqV (.str (S t)) (.str (S t)) = true; rw [str_eqv]; exact decide_eq_true rfl⟩
theorem sv_erase (ts : List (List Nat)) (k : Nat) : (sv ts).eraseIdx k = sv (ts.eraseIdx k) := by
  unfold sv
  induction ts generalizing k with
  | nil => simp
  | cons t r ih =>
    cases k with
    | zero => simp
    | succ k =>
      have := ih k
      simp_all
theorem sv_take (ts : List (List Nat)) (k : Nat) : (sv ts).take k = sv (ts.take k) := by unfold sv; rw [List.map_take]
theorem sv_strs (ts : List (List Nat)) : sv ts = (ts.map S).map V.str := by unfold sv; rw [List.map_map]; rfl
/-- a function of texts, on values -/
def onS (g : List Nat → List Nat) : V → V
  | .str z => .str (S (g z.cps.toList))
  | v => v
theorem sv_on (g : List Nat → List Nat) (ts : List (List Nat)) : (sv ts).map (onS g) = sv (ts.map g) := by
  unfold sv
  rw [List.map_map, List.map_map]
  rfl
theorem sorted_same {a b : List Str} (ha : sortedS a = true) (hb : sortedS b = true) (h : a.Perm b) : a = b := by
  have up : ∀ l : List Str, sortedS l = true → l.Pairwise (fun x y => x.cps.toList ≤ y.cps.toList) := by
    have go : ∀ (l : List Str) (p : Str), risingS p l = true → (p :: l).Pairwise (fun x y => x.cps.toList ≤ y.cps.toList) := by
      intro l
      induction l with
      | nil => intro p _; simp
      | cons x r ih =>
        intro p h
        have h' : (!ltCps x.cps.toList p.cps.toList && risingS x r) = true := h
        rw [Bool.and_eq_true] at h'
        have hr := ih x h'.2
        have px : p.cps.toList ≤ x.cps.toList := by
          have e := h'.1
          rw [ltCps_eq] at e
          have : decide (x.cps.toList < p.cps.toList) = false := by simpa using e
          exact of_decide_eq_false this
        rw [List.pairwise_cons]
        refine ⟨fun y hy => ?_, hr⟩
        rcases List.mem_cons.mp hy with e | hy
        · rw [e]; exact px
        · exact List.le_trans px ((List.pairwise_cons.mp hr).1 y hy)
    intro l hl
    cases l with
    | nil => exact List.Pairwise.nil
    | cons x r => exact go r x hl
  exact h.eq_of_pairwise (fun x y _ _ h1 h2 => ext_toList (List.le_antisymm h1 h2)) (up a ha) (up b hb)
/-! ### == of lists of texts -/
def dS (ts : List (List Nat)) : List PyData := ts.map fun t => PyData.str (S t)
theorem dp_sv {K : PySem.W.Frag} {H : Hp} : ∀ ts : List (List Nat), DpAll K H (sv ts) (dS ts)
  | [] => .nil
  | t :: r => .cons (.str _) (dp_sv r)
/-- a short text of ASCII signs -/
structure Fine (t : List Nat) : Prop where
  l : t.length ≤ 250
  a : ∀ c ∈ t, c < 128
def Fines (ts : List (List Nat)) : Prop := ∀ t ∈ ts, Fine t
theorem Fines.sub {ts us : List (List Nat)} (h : Fines ts) (k : ∀ t ∈ us, t ∈ ts) : Fines us := fun t ht => h t (k t ht)
theorem IsNm.fine {l : List Nat} (h : IsNm l) : Fine l := ⟨Nat.le_trans h.l1 (by decide), fun c hc => by have := lowD_lt (word_all h.w c hc); omega⟩
theorem Fine.all {t : List Nat} (h : Fine t) : t.all (· < 128) = true := List.all_eq_true.mpr fun c hc => decide_eq_true (h.a c hc)
theorem shaped_dS {ts : List (List Nat)} (hf : Fines ts) : SeqAt.shaped (.list (dS ts)) = true := by
  have go : ∀ l : List (List Nat), Fines l → PyData.canLayAll0 (l.map fun t => PyData.str (S t)) = true ∧ PyData.depthAll (l.map fun t => PyData.str (S t)) ≤ 1 := by
    intro l
    induction l with
    | nil => exact fun _ => ⟨by simp [PyData.canLayAll0], by simp [PyData.depthAll]⟩
    | cons t r ih =>
      intro hl
      have ih := ih (hl.sub fun x hx => List.mem_cons_of_mem _ hx)
      have ht := hl t List.mem_cons_self
      refine ⟨?_, ?_⟩
      · have o : PyData.strOk (S t) = true := by
          show (S t).cps.all (· < 0x110000) = true
          rw [Array.all_eq_true']
          intro c hc
          have := ht.a c (by simpa using hc)
          exact decide_eq_true (by omega)
        rw [List.map_cons, PyData.canLayAll0, ih.1]
        simp [PyData.canLay0, o]
      · have := ih.2
        simp only [List.map_cons, PyData.depthAll, PyData.depth]
        omega
  unfold SeqAt.shaped dS
  have h := go ts hf
  rw [Bool.and_eq_true, PyData.canLay0]
  refine ⟨h.1, decide_eq_true ?_⟩
  simp only [PyData.depth]
  omega
theorem eqv_dS (a b : List (List Nat)) : PyData.eqv (.list (dS a)) (.list (dS b)) = decide (a = b) := by
  rw [PyData.eqv]
  induction a generalizing b with
  | nil => cases b <;> simp [dS, PyData.eqvAll]
  | cons x r ih =>
    cases b with
    | nil => simp [dS, PyData.eqvAll]
    | cons y t =>
      have ih := ih t
      unfold dS at ih ⊢
      rw [List.map_cons, List.map_cons, PyData.eqvAll, ih, PyData.eqv]
      rw [Bool.eq_iff_iff]
      simp
theorem liking_iff {ls ts : List (List Nat)} (nd : ts.Nodup) : (ls.length = ts.length ∧ ∀ t ∈ ts, ls.count t = 1) ↔ ls.Perm ts := by
  constructor
  · rintro ⟨h1, h2⟩
    induction ts generalizing ls with
    | nil => rw [List.length_eq_zero_iff.mp h1]
    | cons t r ih =>
      have ht := h2 t List.mem_cons_self
      have hm : t ∈ ls := List.count_pos_iff.mp (by omega)
      have p := List.perm_cons_erase hm
      have nd' := List.nodup_cons.mp nd
      refine p.trans (List.Perm.cons t (ih nd'.2 (by rw [List.length_erase_of_mem hm, h1]; rfl) fun x hx => ?_))
      have ne : x ≠ t := fun e => nd'.1 (e ▸ hx)
      rw [List.count_erase_of_ne ne]
      exact h2 x (List.mem_cons_of_mem _ hx)
  · intro h
    refine ⟨h.length_eq, fun t ht => ?_⟩
    rw [h.count_eq]
    have := List.nodup_iff_count.mp nd t
    have := List.count_pos_iff.mpr ht
    omega
theorem count_sv (t : List Nat) (ts : List (List Nat)) : (sv ts).countP (fun x => eqV x (.str (S t))) = ts.count t := by
  unfold sv
  rw [List.countP_map, List.count]
  congr 1
  funext x
  show eqV (.str (S x)) (.str (S t)) = (x == t)
  rw [str_eqv, Bool.eq_iff_iff]
  simp
end RK

namespace RK
open PySem PySem.Spec PyProof.Rows L2 SX
def W21 : List (List Nat) := [[116, 111, 119, 110], [116, 104, 105, 110, 103], [108, 97, 110, 100], [97, 108, 108], [115, 101, 116, 116, 108, 101], [119, 104, 105, 108, 101], [117, 110, 116, 105, 108], [105, 102], [101, 108, 115, 101], [101, 97, 99, 104], [97, 102, 108, 111, 97, 116], [107, 101, 112, 116], [97, 110, 121], [102, 117, 108, 108], [110, 111, 116], [115, 101, 97, 115], [105, 116, 48], [115, 101], [105], [102, 114, 101, 101], [108, 97, 110, 100, 101, 100]]
theorem words_eq : ([V.str (Str.ofString "town"), V.str (Str.ofString "thing"), V.str (Str.ofString "land"), V.str (Str.ofString "all"), V.str (Str.ofString "settle"), V.str (Str.ofString "while"), V.str (Str.ofString "until"), V.str (Str.ofString "if"), V.str (Str.ofString "else"), V.str (Str.ofString "each"), V.str (Str.ofString "afloat"), V.str (Str.ofString "kept")] ++ [V.str (Str.ofString "any"), V.str (Str.ofString "full"), V.str (Str.ofString "not"), V.str (Str.ofString "seas"), V.str (Str.ofString "it0"), V.str (Str.ofString "se"), V.str (Str.ofString "i"), V.str (Str.ofString "free"), V.str (Str.ofString "landed")] : List V) = sv W21 := by decide +kernel
theorem w21_nm : ∀ l ∈ W21, IsNm l := by
  have h : W21.all nameL = true := by decide +kernel
  exact fun l hl => nameL_iff.mp (List.all_eq_true.mp h l hl)
theorem lit_a09 : Str.ofString "a09zt" = S [97, 48, 57, 122, 116] := by decide +kernel
theorem lit_quays : Str.ofString "quays" = S [113, 117, 97, 121, 115] := by decide +kernel
theorem lit_sp : Str.ofString " " = S [32] := by decide +kernel
theorem lit_nl : Str.ofString "\n" = S [10] := by decide +kernel
theorem cut7 (l : List Nat) : cutS (S l) none (some 7) = S (l.take 7) := cut_to l 7
theorem cut5 (l : List Nat) : cutS (S l) none (some 5) = S (l.take 5) := cut_to l 5
theorem cut9 (l : List Nat) : cutS (S l) none (some 9) = S (l.take 9) := cut_to l 9
theorem num_S0 (i : Nat) : (((toString (0 + (i : Int))) : String) : Str) = S (TL.numL i) := by
  rw [Int.zero_add]
  exact num_S i
theorem log_ok {i : Nat} (h : i ≤ 1000) : ((0 : Int) + (i : Int)).natAbs.log2 < 1920 := by
  have : ((0 : Int) + (i : Int)).natAbs = i := by omega
  rw [this]
  exact Nat.lt_of_le_of_lt (Nat.log2_le_self i) (by omega)
theorem num_fine {k : Nat} : ∀ c ∈ TL.numL k, lowD c = true := fun c hc => by
  have h : 48 ≤ c ∧ c ≤ 57 := by
    have := TL.numL_digits k
    first | exact this c hc | exact List.all_eq_true.mp this c hc
  unfold lowD
  rw [decide_eq_true h.1, decide_eq_true h.2]
  simp
theorem nm_dig {m : List Nat} {k : Nat} (w : word m = true) (hm : m.length ≤ 5) (hk : k < 1000) : IsNm (m ++ TL.numL k) := by
  have hl := TL.numL_len (n := k) (k := 3) (by decide) hk
  have last : ∀ c, (m ++ TL.numL k).getLast? = some c → 48 ≤ c ∧ c ≤ 57 := by
    intro c hc
    have hm : c ∈ TL.numL k := by
      rw [List.getLast?_append] at hc
      cases e : (TL.numL k).getLast? with
      | none => exact absurd (List.getLast?_eq_none_iff.mp e) (TL.numL_ne k)
      | some d =>
        rw [e] at hc
        have : d = c := by simpa using hc
        subst this
        exact List.mem_of_getLast? e
    have := TL.numL_digits k
    first | exact this c hm | exact List.all_eq_true.mp this c hm
  refine ⟨word_app w fun c hc => num_fine c hc, by rw [List.length_append]; omega, fun e => ?_, fun e => ?_⟩
  · have := last 97 (by rw [e]; rfl)
    omega
  · have := last 116 (by rw [e]; rfl)
    omega
theorem pigeon {ts : List (List Nat)} {m : List Nat} (h : ∀ j, j < ts.length + 1 → (m ++ TL.numL j) ∈ ts) : False := by
  have nd : ((List.range (ts.length + 1)).map fun j => m ++ TL.numL j).Nodup := by
    unfold List.Nodup
    rw [List.pairwise_map]
    exact List.Pairwise.imp (fun {a b} ne e => ne (TL.numL_inj (List.append_cancel_left e))) List.nodup_range
  have := nd.length_le_of_subset fun x hx => by
    obtain ⟨j, hj, rfl⟩ := List.mem_map.mp hx
    exact h j (List.mem_range.mp hj)
  rw [List.length_map, List.length_range] at this
  omega
end RK

namespace RK
open PySem PySem.Spec PyProof.Rows L2 SX
theorem signs_S (l : List Nat) : signs (S l) = sv (l.map fun c => [c]) := by
  unfold signs sv
  rw [List.map_map]
  rfl
theorem one_get {ls : List Nat} {i : Nat} {c : Nat} (h : ls[i]? = some c) : (sv (ls.map fun c => [c]))[i]? = some (.str (S [c])) := sv_get (by rw [List.getElem?_map, h]; rfl)
theorem one_len (ls : List Nat) : (sv (ls.map fun c => [c])).length = ls.length := by rw [sv_len, List.length_map]
theorem one_erase (ls : List Nat) (k : Nat) : (sv (ls.map fun c => [c])).eraseIdx k = sv ((ls.eraseIdx k).map fun c => [c]) := by
  rw [sv_erase]
  congr 1
  induction ls generalizing k with
  | nil => simp
  | cons t r ih =>
    cases k with
    | zero => simp
    | succ k =>
      have := ih k
      simp_all
theorem nd_erase {ls : List Nat} {k : Nat} {c : Nat} (nd : ls.Nodup) (h : ls[k]? = some c) : c ∉ ls.eraseIdx k ∧ (ls.eraseIdx k).Nodup ∧ (∀ x ∈ ls.eraseIdx k, x ∈ ls) := by
  have hk := (List.getElem?_eq_some_iff.mp h).1
  refine ⟨fun hm => ?_, nd.sublist (List.eraseIdx_sublist ls k), fun x hx => (List.eraseIdx_sublist ls k).subset hx⟩
  obtain ⟨i, hi, ne, e⟩ := List.mem_eraseIdx_iff_getElem.mp hm
  exact ne (nd_ix nd (List.getElem?_eq_some_iff.mpr ⟨hi, e⟩) h)
theorem rep_cons {r : Nat} (hr : 1 ≤ r) (c : Nat) : rep r [c] = c :: rep (r - 1) [c] := by
  obtain ⟨k, rfl⟩ : ∃ k, r = k + 1 := ⟨r - 1, by omega⟩
  rw [rep_succ]
  rfl
theorem rep_mem {r c x : Nat} (h : x ∈ rep r [c]) : x = c := by
  induction r with
  | zero => simp [rep] at h
  | succ r ih =>
    rw [rep_succ] at h
    rcases List.mem_append.mp h with h | h
    · exact List.mem_singleton.mp h
    · exact ih h
theorem mid_ne {m d : List Nat} {a b r q : Nat} (hr : 1 ≤ r) (hq : 1 ≤ q) (h : m ++ rep r [a] ++ d = m ++ rep q [b] ++ d) : a = b := by
  rw [List.append_assoc, List.append_assoc] at h
  have h := List.append_cancel_left h
  rw [rep_cons hr, rep_cons hq] at h
  exact (List.cons.inj h).1
/-- a name made of one sign within a stem -/
theorem mid_nm {st : List Nat} {a r c : Nat} (hs : (st = [] ∧ 1 ≤ r ∧ r ≤ 8) ∨ (word st = true ∧ 4 ≤ st.length ∧ st.length ≤ 7 ∧ r = 1)) (hc : low c = true) : IsNm (st.take a ++ rep r [c] ++ st.drop a) := by
  have hr : 1 ≤ r := by rcases hs with ⟨_, h, _⟩ | ⟨_, _, _, h⟩ <;> omega
  have ln : (st.take a ++ rep r [c] ++ st.drop a).length = st.length + r := by
    rw [List.length_append, List.length_append, rep_len, List.length_take, List.length_drop]
    simp
    omega
  have all : ∀ x ∈ st, lowD x = true := by
    rcases hs with ⟨rfl, _⟩ | ⟨w, _⟩
    · intro x hx; simp at hx
    · exact word_all w
  have wd : word (st.take a ++ rep r [c] ++ st.drop a) = true := by
    have w1 : word (rep r [c] ++ st.drop a) = true := by
      rw [rep_cons hr]
      show (low c && ((c :: (rep (r - 1) [c] ++ st.drop a)).all lowD)) = true
      rw [hc, Bool.true_and, List.all_eq_true]
      intro x hx
      rcases List.mem_cons.mp hx with e | hx
      · rw [e]; exact low_lowD hc
      rcases List.mem_append.mp hx with hx | hx
      · rw [rep_mem hx]; exact low_lowD hc
      · exact all x (List.mem_of_mem_drop hx)
    rw [List.append_assoc]
    by_cases ha : (st.take a) = []
    · rw [ha]; exact w1
    · rcases hs with ⟨rfl, _⟩ | ⟨w, _⟩
      · simp at ha
      · refine word_app (word_take w ?_) (word_all w1)
        cases a with
        | zero => simp at ha
        | succ a => omega
  refine ⟨wd, by rw [ln]; rcases hs with ⟨rfl, h1, h2⟩ | ⟨_, h1, h2, h3⟩; · show 0 + r ≤ 8; omega
                 · omega, fun e => ?_, fun e => ?_⟩
  · rcases hs with ⟨rfl, h1, h2⟩ | ⟨_, h1, h2, h3⟩
    · simp at e
      have h115 : (115 : Nat) = c := rep_mem (r := r) (by rw [e]; simp)
      have h101 : (101 : Nat) = c := rep_mem (r := r) (by rw [e]; simp)
      omega
    · have := congrArg List.length e
      rw [ln] at this
      simp at this
      omega
  · rcases hs with ⟨rfl, h1, h2⟩ | ⟨_, h1, h2, h3⟩
    · simp at e
      have h115 : (105 : Nat) = c := rep_mem (r := r) (by rw [e]; simp)
      have h101 : (116 : Nat) = c := rep_mem (r := r) (by rw [e]; simp)
      omega
    · have := congrArg List.length e
      rw [ln] at this
      simp at this
      omega
theorem rep_one (c : Nat) : rep 1 [c] = [c] := rfl
end RK

namespace RK
open PySem PySem.Spec PyProof.Rows L2 SX
theorem lit_dg : Str.ofString "0123456789" = S [48, 49, 50, 51, 52, 53, 54, 55, 56, 57] := by decide +kernel
def badL : List Nat := [10, 32, 33, 34, 35, 36, 38, 39, 40, 41, 42, 43, 44, 45, 46, 47, 58, 59, 60, 61, 62, 63, 64, 65, 77, 90, 91, 92, 93, 94, 95, 96, 123, 124, 125, 126]
theorem lit_bad : Str.ofString "\n !\"#$&'()*+,-./:;<=>?@AMZ[\\]^_`{|}~" = S badL := by decide +kernel
theorem not_word_head {c : Nat} {r : List Nat} (h : low c = false) : ¬ IsNm (c :: r) := fun z => by
  have : (low c && (c :: r).all lowD) = true := z.w
  rw [h] at this
  exact Bool.noConfusion this
theorem not_nm_bad {l : List Nat} {c : Nat} (hc : c ∈ l) (h : lowD c = false) : ¬ IsNm l := fun z => by
  have := word_all z.w c hc
  rw [h] at this
  exact Bool.noConfusion this
theorem rep_sub {n : Nat} {l : List Nat} {x : Nat} (h : x ∈ rep n l) : x ∈ l := by
  induction n with
  | zero => simp [rep] at h
  | succ r ih =>
    rw [rep_succ] at h
    rcases List.mem_append.mp h with h | h
    · exact h
    · exact ih h
theorem up_fine {t : List Nat} (h : Fine t) : Fine (t.map up1) := ⟨by rw [List.length_map]; exact h.l, fun c hc => by
  obtain ⟨d, hd, rfl⟩ := List.mem_map.mp hc
  have := h.a d hd
  unfold up1
  split <;> omega⟩
theorem up_not {t : List Nat} (h : IsNm t) : ¬ IsNm (t.map up1) := by
  have w := h.w
  cases t with
  | nil => exact absurd rfl h.ne
  | cons c r =>
    unfold word at w
    have hc := (Bool.and_eq_true _ _ ▸ w).1
    refine not_word_head ?_
    unfold low at hc ⊢
    rw [Bool.and_eq_true, decide_eq_true_iff, decide_eq_true_iff] at hc
    unfold up1
    rw [if_pos hc]
    rw [decide_eq_false (by omega)]
    rfl
theorem up_inj {t u : List Nat} (ht : ∀ c ∈ t, lowD c = true) (hu : ∀ c ∈ u, lowD c = true) (h : t.map up1 = u.map up1) : t = u := by
  induction t generalizing u with
  | nil =>
    cases u with
    | nil => rfl
    | cons c r => simp at h
  | cons a r ih =>
    cases u with
    | nil => simp at h
    | cons c s =>
      rw [List.map_cons, List.map_cons] at h
      have h1 := List.cons.inj h
      have e := ih (fun x hx => ht x (List.mem_cons_of_mem _ hx)) (fun x hx => hu x (List.mem_cons_of_mem _ hx)) h1.2
      have ha := ht a List.mem_cons_self
      have hc := hu c List.mem_cons_self
      have : a = c := by
        unfold lowD low at ha hc
        simp at ha hc
        have h2 := h1.1
        unfold up1 at h2
        split at h2 <;> split at h2 <;> omega
      rw [e, this]
theorem nd_map {ts : List (List Nat)} {g : List Nat → List Nat} (nd : ts.Nodup) (h : ∀ t ∈ ts, ∀ u ∈ ts, g t = g u → t = u) : (ts.map g).Nodup := by
  unfold List.Nodup at nd ⊢
  rw [List.pairwise_map]
  exact List.Pairwise.imp_of_mem (fun {a b} ha hb ne e => ne (h a ha b hb e)) nd
theorem nd_set {ts : List (List Nat)} {j : Nat} (nd : ts.Nodup) (h : ∀ t ∈ ts, t ≠ []) : (ts.set j []).Nodup := by
  induction ts generalizing j with
  | nil => simpa using nd
  | cons t r ih =>
    have n2 := List.nodup_cons.mp nd
    cases j with
    | zero =>
      show ([] :: r : List (List Nat)).Nodup
      exact List.nodup_cons.mpr ⟨fun hm => h [] (List.mem_cons_of_mem _ hm) rfl, n2.2⟩
    | succ j =>
      show (t :: r.set j []).Nodup
      refine List.nodup_cons.mpr ⟨fun hm => ?_, ih n2.2 fun x hx => h x (List.mem_cons_of_mem _ hx)⟩
      rcases List.mem_or_eq_of_mem_set hm with hm | e
      · exact n2.1 hm
      · exact h t List.mem_cons_self e
theorem sv_set (ts : List (List Nat)) (j : Nat) (t : List Nat) : (sv ts).set j (.str (S t)) = sv (ts.set j t) := by unfold sv; rw [List.map_set]
theorem nm_fines {ts : List (List Nat)} (h : ∀ t ∈ ts, IsNm t) : Fines ts := fun t ht => (h t ht).fine
theorem sv_nonempty {ts : List (List Nat)} (h : (0 : Int) < ((sv ts).length : Nat)) : sv ts ≠ [] := fun e => by
  rw [e] at h
  exact absurd h (by decide)
end RK

namespace RK
open PySem PySem.Spec PyProof.Rows L2 SX
theorem xtp {X : Cx} {op : CmpOp} {a b : Expr} {t : TE} {pos : Pos} (h : PC X op a b t) (h1 : behindInMarks op b = false := by rfl) : PT X (.Compare a [op] [b] pos) (xT t) := by
  rw [xT_eq]; exact pt_cmp h h1
theorem perm_pick {α : Type} {l : List α} {i : Nat} {x : α} (h : l[i]? = some x) : (x :: l.eraseIdx i).Perm l := by
  induction l generalizing i with
  | nil => simp at h
  | cons a r ih =>
    cases i with
    | zero =>
      have : a = x := Option.some.inj h
      subst this
      exact List.Perm.refl _
    | succ i => exact (List.Perm.swap a x _).trans (List.Perm.cons a (ih (i := i) h))
/-- a comprehension over a range, its element drawn -/
theorem lc_rng {lo : Int} {n j : Nat} {te : TE} {vs : List Nat} {σ : L2.St} {H1 : Hp} {D : Addr} {Qd : Hp → Prop} (Pv : Nat → Hp → Prop) (hw : ∀ x : V, wipe ((wipe σ vs).set j (some x)) vs = wipe σ vs) (h0 : Pv 0 (upd H1 D (.lst [])))
    (hs : ∀ i H, i < n → Pv i H → te ((wipe σ vs).set j (some (.int (lo + i)))) H fun y H4 => ∃ acc, H4 D = some (.lst acc) ∧ acc.length < sizeLine ∧ Pv (i + 1) (upd H4 D (.lst (acc ++ [y])))) (hd : ∀ H, Pv n H → Qd H) :
    ∃ W : Nat → Nat → Hp → Prop, (∃ m, W 0 m (upd H1 D (.lst []))) ∧ ∀ i m H, W i m H →
      ((Itr lo n).stop i H ∧ Qd H) ∨ ((Itr lo n).go i H ∧ ∃ Nx : Hp → Prop, (∀ H', Nx H' → ∃ m', m' < m ∧ W (i + 1) m' H') ∧ ∀ x H', (Itr lo n).yld i H x H' → gName j x (wipe σ vs) H' fun σ2 H2 => wipe σ2 vs = wipe σ vs ∧ tYes σ2 H2 fun b H3 =>
        if b = true then te σ2 H3 fun y H4 => ∃ acc, H4 D = some (.lst acc) ∧ acc.length < sizeLine ∧ Nx (upd H4 D (.lst (acc ++ [y]))) else Nx H3) := by
  refine lc_range (lo := lo) (n := n) Pv h0 (fun i H hi hP => ?_) hd
  refine ⟨hw _, ?_⟩
  simp only [tYes, ↓reduceIte]
  exact hs i H hi hP
/-- the least index at which an item was there before, or none -/
def FD (ts : List (List Nat)) (v : V) : Prop := (v = .non ∧ ts.Nodup) ∨ ∃ (i : Nat) (t : List Nat), ts[i]? = some t ∧ t ∈ ts.take i ∧ (ts.take i).Nodup ∧ v = .str (S t)
theorem nd_snoc' {ts : List (List Nat)} {i : Nat} {t : List Nat} (h : ts[i]? = some t) (nd : (ts.take i).Nodup) (no : t ∉ ts.take i) : (ts.take (i + 1)).Nodup := by
  rw [List.take_add_one, h]
  exact List.nodup_append.mpr ⟨nd, by simp, fun a ha b hb e => no (by
    have : b = t := by simpa using hb
    rw [← this, ← e]; exact ha)⟩
theorem FD.inj {ts : List (List Nat)} {v w : V} (a : FD ts v) (b : FD ts w) : v = w := by
  have dup : ∀ {i : Nat} {t : List Nat}, ts[i]? = some t → t ∈ ts.take i → ¬ (ts.take (i + 1)).Nodup := by
    intro i t h hm nd
    rw [List.take_add_one, h] at nd
    have := (List.nodup_append.mp nd).2.2 t hm t (by simp)
    exact this rfl
  have sub : ∀ {i k : Nat}, i ≤ k → (ts.take k).Nodup → (ts.take i).Nodup := fun {i k} hik nd => nd.sublist (by
    rw [show ts.take i = (ts.take k).take i by rw [List.take_take, Nat.min_eq_left hik]]
    exact List.take_sublist _ _)
  rcases a with ⟨rfl, nd⟩ | ⟨i, t, h1, h2, h3, rfl⟩
  · rcases b with ⟨rfl, _⟩ | ⟨i, t, h1, h2, h3, rfl⟩
    · rfl
    · exact (dup h1 h2 (nd.sublist (List.take_sublist _ _))).elim
  · rcases b with ⟨rfl, nd⟩ | ⟨k, u, g1, g2, g3, rfl⟩
    · exact (dup h1 h2 (nd.sublist (List.take_sublist _ _))).elim
    · have : i = k := by
        rcases Nat.lt_trichotomy i k with h | h | h
        · exact (dup h1 h2 (sub h g3)).elim
        · exact h
        · exact (dup g1 g2 (sub h h3)).elim
      subst this
      rw [h1] at g1
      rw [Option.some.inj g1]
/-- two values that hold the same data -/
def Rep (H : Hp) : Nat → V → V → Prop
  | _, .non, .non => True
  | _, .bl a, .bl b => a = b
  | _, .int i, .int j => i = j
  | _, .str a, .str b => a = b
  | n + 1, .ref a, .ref b => (∃ xs ys, H a = some (.lst xs) ∧ H b = some (.lst ys) ∧ xs.length = ys.length ∧ ys.length ≤ 1000000 ∧ ∀ (k : Nat) x y, xs[k]? = some x → ys[k]? = some y → Rep H n x y) ∨
      (∃ xs ys, H a = some (.tup xs) ∧ H b = some (.tup ys) ∧ xs.length = ys.length ∧ ys.length ≤ 1000000 ∧ ∀ (k : Nat) x y, xs[k]? = some x → ys[k]? = some y → Rep H n x y)
  | _, _, _ => False
theorem FD.rep {ts : List (List Nat)} {v w : V} {H : Hp} (a : FD ts v) (b : FD ts w) : Rep H 7 v w := by
  have e := a.inj b
  subst e
  rcases a with ⟨rfl, _⟩ | ⟨i, t, _, _, _, rfl⟩
  · exact True.intro
  · exact rfl
theorem first_at : ∀ {ts : List (List Nat)} {k : Nat} {t : List Nat}, ts[k]? = some t → ∃ j, j ≤ k ∧ ts[j]? = some t ∧ ∀ m, m < j → ts[m]? ≠ some t
  | [], _, _, h => by simp at h
  | a :: r, k, t, h => by
    by_cases e : a = t
    · subst e
      exact ⟨0, Nat.zero_le _, rfl, fun m hm => absurd hm (Nat.not_lt_zero m)⟩
    · cases k with
      | zero => exact absurd (Option.some.inj h) e
      | succ k =>
        obtain ⟨j, h1, h2, h3⟩ := first_at (ts := r) (k := k) (t := t) h
        refine ⟨j + 1, by omega, h2, fun m hm => ?_⟩
        cases m with
        | zero => exact fun z => e (Option.some.inj z)
        | succ m => exact h3 m (by omega)
theorem mem_take_iff {ts : List (List Nat)} {k : Nat} {t : List Nat} : t ∈ ts.take k ↔ ∃ m, m < k ∧ ts[m]? = some t := by
  rw [List.mem_iff_getElem?]
  constructor
  · rintro ⟨m, hm⟩
    rw [List.getElem?_take] at hm
    split at hm
    · exact ⟨m, ‹_›, hm⟩
    · cases hm
  · rintro ⟨m, h1, h2⟩
    exact ⟨m, by rw [List.getElem?_take, if_pos h1]; exact h2⟩
theorem sv_us {ys : List Str} : ys.map V.str = sv (ys.map fun z => z.cps.toList) := by
  unfold sv
  rw [List.map_map]
  congr 1
theorem eqv_self (ts : List (List Nat)) : PyData.eqv (.list (dS ts)) (.list (dS ts)) = true := by rw [eqv_dS]; exact decide_eq_true rfl
/-- a function that is never called -/
theorem fn_never {P : Program} {w : World} {K : PySem.W.Frag} {mg : Str → Option Value} {base : Heap} {CX : CXT} {k : Nat} {f : Addr} {fd : FuncData} {ps : List Str} : FnOk P w K mg base CX k f fd ps (fun _ _ _ _ => False) :=
  ⟨fun _ _ _ _ h => h.elim, fun _ _ _ _ _ _ _ _ _ _ _ _ _ h => h.elim⟩
/-- a test of texts, on values -/
def onP (g : List Nat → Bool) : V → Bool
  | .str z => g z.cps.toList
  | _ => false
theorem sv_filter (g : List Nat → Bool) (ts : List (List Nat)) : (sv ts).filter (onP g) = sv (ts.filter g) := by
  unfold sv
  rw [List.filter_map]
  rfl
end RK

namespace RK
open PySem PySem.Spec PyProof.Rows L2 SX
theorem lit_new : Str.ofString "new" = S [110, 101, 119] := by decide +kernel
theorem join_tC {x y : V} {σ : L2.St} {H : Hp} {Q : VK} {c : Bool} (h : ∀ v, (v = x ∨ v = y) → Q v H) : (c = true → tC x σ H Q) ∧ (c = false → tC y σ H Q) := ⟨fun _ => h x (.inl rfl), fun _ => h y (.inr rfl)⟩
theorem sv_back {ys : List V} {ts us : List (List Nat)} (hm : ∀ y ∈ ys, y ∈ sv ts ∨ y ∈ sv us) (hf : Fines ts) (hu : Fines us) : ∃ zs, ys = sv zs ∧ Fines zs := by
  induction ys with
  | nil => exact ⟨[], rfl, fun t ht => by simp at ht⟩
  | cons y r ih =>
    obtain ⟨zs, e, f⟩ := ih fun z hz => hm z (List.mem_cons_of_mem _ hz)
    have : ∃ t, y = .str (S t) ∧ Fine t := by
      rcases hm y List.mem_cons_self with h | h
      · obtain ⟨t, ht, e2⟩ := sv_mem h
        exact ⟨t, e2, hf t ht⟩
      · obtain ⟨t, ht, e2⟩ := sv_mem h
        exact ⟨t, e2, hu t ht⟩
    obtain ⟨t, e2, ft⟩ := this
    exact ⟨t :: zs, by rw [e, e2]; rfl, fun z hz => (List.mem_cons.mp hz).elim (fun h => h ▸ ft) (f z)⟩
theorem sv_inj {a b : List (List Nat)} (h : sv a = sv b) : a = b := by
  have e : ∀ l : List (List Nat), (sv l).map (fun v => match v with | .str z => z.cps.toList | _ => []) = l := by
    intro l
    unfold sv
    rw [List.map_map]
    exact List.map_id l
  rw [← e a, ← e b, h]
theorem sv_perm {ys : List V} {ts : List (List Nat)} (h : ys.Perm (sv ts)) : ∃ us, ys = sv us ∧ us.Perm ts := by
  have e : ∀ l : List (List Nat), (sv l).map (fun v => match v with | .str z => z.cps.toList | _ => []) = l := by
    intro l
    unfold sv
    rw [List.map_map]
    exact List.map_id l
  refine ⟨ys.map (fun v => match v with | .str z => z.cps.toList | _ => []), ?_, ?_⟩
  · unfold sv
    rw [List.map_map]
    refine (List.map_id ys).symm.trans (List.map_congr_left fun y hy => ?_)
    obtain ⟨t, _, rfl⟩ := sv_mem (h.mem_iff.mp hy)
    rfl
  · have := h.map (fun v => match v with | .str z => z.cps.toList | _ => [])
    rw [e] at this
    exact this
theorem sv_rev (ts : List (List Nat)) : (sv ts).reverse = sv ts.reverse := by unfold sv; rw [List.map_reverse]
theorem sv_one (t : List Nat) : [V.str (S t)] = sv [t] := rfl
end RK

namespace RK
open PySem PySem.Spec PyProof.Rows L2 SX
def topS (i : Nat) : Stmt := PySem.Challenge.pw_riverkeeps_k03_duplicates_and_likings.main.body.getD i (.Pass ⟨0, 0, 0, 0⟩)
structure Top (K : PySem.W.Frag) (mg : Str → Option Value) where
  a_first_duplicate : Addr
  fd_first_duplicate : FuncData
  F_first_duplicate : Fun K "first_duplicate" "first_duplicate" (topS 1) a_first_duplicate fd_first_duplicate
  g_first_duplicate : mg "first_duplicate" = some (.ref a_first_duplicate)
  b_first_duplicate : Binds K fd_first_duplicate ["items"] []
  a_is_liking : Addr
  fd_is_liking : FuncData
  F_is_liking : Fun K "is_liking" "is_liking" (topS 2) a_is_liking fd_is_liking
  g_is_liking : mg "is_liking" = some (.ref a_is_liking)
  b_is_liking : Binds K fd_is_liking ["liking", "things"] []
  a__law_store : Addr
  fd__law_store : FuncData
  F__law_store : Fun K "_law_store" "_law_store" (topS 4) a__law_store fd__law_store
  g__law_store : mg "_law_store" = some (.ref a__law_store)
  b__law_store : Binds K fd__law_store ["script"] []
  a__law_mix : Addr
  fd__law_mix : FuncData
  F__law_mix : Fun K "_law_mix" "_law_mix" (topS 5) a__law_mix fd__law_mix
  g__law_mix : mg "_law_mix" = some (.ref a__law_mix)
  b__law_mix : Binds K fd__law_mix ["cell", "turn"] []
  a__law_take : Addr
  fd__law_take : FuncData
  F__law_take : Fun K "_law_take" "_law_take" (topS 6) a__law_take fd__law_take
  g__law_take : mg "_law_take" = some (.ref a__law_take)
  b__law_take : Binds K fd__law_take ["store", "many"] []
  a__law_yes : Addr
  fd__law_yes : FuncData
  F__law_yes : Fun K "_law_yes" "_law_yes" (topS 7) a__law_yes fd__law_yes
  g__law_yes : mg "_law_yes" = some (.ref a__law_yes)
  b__law_yes : Binds K fd__law_yes ["store", "many"] []
  a__law_pick : Addr
  fd__law_pick : FuncData
  F__law_pick : Fun K "_law_pick" "_law_pick" (topS 8) a__law_pick fd__law_pick
  g__law_pick : mg "_law_pick" = some (.ref a__law_pick)
  b__law_pick : Binds K fd__law_pick ["store", "items"] []
  a__law_near : Addr
  fd__law_near : FuncData
  F__law_near : Fun K "_law_near" "_law_near" (topS 9) a__law_near fd__law_near
  g__law_near : mg "_law_near" = some (.ref a__law_near)
  b__law_near : Binds K fd__law_near ["store", "low", "high"] []
  a__law_same : Addr
  fd__law_same : FuncData
  F__law_same : Fun K "_law_same" "_law_same" (topS 10) a__law_same fd__law_same
  g__law_same : mg "_law_same" = some (.ref a__law_same)
  b__law_same : Binds K fd__law_same ["actual", "expected"] []
  a__law_either : Addr
  fd__law_either : FuncData
  F__law_either : Fun K "_law_either" "_law_either" (topS 11) a__law_either fd__law_either
  g__law_either : mg "_law_either" = some (.ref a__law_either)
  b__law_either : Binds K fd__law_either ["store", "items"] []
  a__law_is_name : Addr
  fd__law_is_name : FuncData
  F__law_is_name : Fun K "_law_is_name" "_law_is_name" (topS 12) a__law_is_name fd__law_is_name
  g__law_is_name : mg "_law_is_name" = some (.ref a__law_is_name)
  b__law_is_name : Binds K fd__law_is_name ["text"] []
  a__law_raw_name : Addr
  fd__law_raw_name : FuncData
  F__law_raw_name : Fun K "_law_raw_name" "_law_raw_name" (topS 13) a__law_raw_name fd__law_raw_name
  g__law_raw_name : mg "_law_raw_name" = some (.ref a__law_raw_name)
  b__law_raw_name : Binds K fd__law_raw_name ["store"] []
  a__law_name : Addr
  fd__law_name : FuncData
  F__law_name : Fun K "_law_name" "_law_name" (topS 14) a__law_name fd__law_name
  g__law_name : mg "_law_name" = some (.ref a__law_name)
  b__law_name : Binds K fd__law_name ["store", "taken"] []
  a__law_names : Addr
  fd__law_names : FuncData
  F__law_names : Fun K "_law_names" "_law_names" (topS 15) a__law_names fd__law_names
  g__law_names : mg "_law_names" = some (.ref a__law_names)
  b__law_names : Binds K fd__law_names ["store", "many"] []
  a__law_bad_name : Addr
  fd__law_bad_name : FuncData
  F__law_bad_name : Fun K "_law_bad_name" "_law_bad_name" (topS 16) a__law_bad_name fd__law_bad_name
  g__law_bad_name : mg "_law_bad_name" = some (.ref a__law_bad_name)
  b__law_bad_name : Binds K fd__law_bad_name ["store"] []
  a__law_other : Addr
  fd__law_other : FuncData
  F__law_other : Fun K "_law_other" "_law_other" (topS 17) a__law_other fd__law_other
  g__law_other : mg "_law_other" = some (.ref a__law_other)
  b__law_other : Binds K fd__law_other ["store", "names"] []
  a__law_strings : Addr
  fd__law_strings : FuncData
  F__law_strings : Fun K "_law_strings" "_law_strings" (topS 18) a__law_strings fd__law_strings
  g__law_strings : mg "_law_strings" = some (.ref a__law_strings)
  b__law_strings : Binds K fd__law_strings ["store", "many"] []
  a__law_order : Addr
  fd__law_order : FuncData
  F__law_order : Fun K "_law_order" "_law_order" (topS 19) a__law_order fd__law_order
  g__law_order : mg "_law_order" = some (.ref a__law_order)
  b__law_order : Binds K fd__law_order ["store", "items"] []
  a__law_many : Addr
  fd__law_many : FuncData
  F__law_many : Fun K "_law_many" "_law_many" (topS 20) a__law_many fd__law_many
  g__law_many : mg "_law_many" = some (.ref a__law_many)
  b__law_many : Binds K fd__law_many ["store", "items", "many"] []
  a__law_repeated : Addr
  fd__law_repeated : FuncData
  F__law_repeated : Fun K "_law_repeated" "_law_repeated" (topS 21) a__law_repeated fd__law_repeated
  g__law_repeated : mg "_law_repeated" = some (.ref a__law_repeated)
  b__law_repeated : Binds K fd__law_repeated ["store", "items"] []
  a__law_bent_list : Addr
  fd__law_bent_list : FuncData
  F__law_bent_list : Fun K "_law_bent_list" "_law_bent_list" (topS 22) a__law_bent_list fd__law_bent_list
  g__law_bent_list : mg "_law_bent_list" = some (.ref a__law_bent_list)
  b__law_bent_list : Binds K fd__law_bent_list ["store", "items", "others"] []
  a__law_items : Addr
  fd__law_items : FuncData
  F__law_items : Fun K "_law_items" "_law_items" (topS 23) a__law_items fd__law_items
  g__law_items : mg "_law_items" = some (.ref a__law_items)
  b__law_items : Binds K fd__law_items ["store"] []
  a__law_first_due : Addr
  fd__law_first_due : FuncData
  F__law_first_due : Fun K "_law_first_due" "_law_first_due" (topS 24) a__law_first_due fd__law_first_due
  g__law_first_due : mg "_law_first_due" = some (.ref a__law_first_due)
  b__law_first_due : Binds K fd__law_first_due ["items"] []
  a__law_is_liking_due : Addr
  fd__law_is_liking_due : FuncData
  F__law_is_liking_due : Fun K "_law_is_liking_due" "_law_is_liking_due" (topS 25) a__law_is_liking_due fd__law_is_liking_due
  g__law_is_liking_due : mg "_law_is_liking_due" = some (.ref a__law_is_liking_due)
  b__law_is_liking_due : Binds K fd__law_is_liking_due ["liking", "listed"] []
  a__law_is_told : Addr
  fd__law_is_told : FuncData
  F__law_is_told : Fun K "_law_is_told" "_law_is_told" (topS 26) a__law_is_told fd__law_is_told
  g__law_is_told : mg "_law_is_told" = some (.ref a__law_is_told)
  b__law_is_told : Binds K fd__law_is_told ["store", "items"] []
  a__law_is_judged : Addr
  fd__law_is_judged : FuncData
  F__law_is_judged : Fun K "_law_is_judged" "_law_is_judged" (topS 27) a__law_is_judged fd__law_is_judged
  g__law_is_judged : mg "_law_is_judged" = some (.ref a__law_is_judged)
  b__law_is_judged : Binds K fd__law_is_judged ["store", "liking", "listed"] []
  a_law : Addr
  fd_law : FuncData
  F_law : Fun K "law" "law" (topS 28) a_law fd_law
  g_law : mg "law" = some (.ref a_law)
  b_law : Binds K fd_law ["script"] []
  kb_first_duplicate : KBn K fd_first_duplicate ["items"] 0 ["items"] (fun _ ws => ws) (fun _ zs => zs)
  kb_is_liking : KBn K fd_is_liking ["liking", "things"] 0 ["liking", "things"] (fun _ ws => ws) (fun _ zs => zs)
  n_bool : mg "bool" = none
  n_int : mg "int" = none
  n_isinstance : mg "isinstance" = none
  n_len : mg "len" = none
  n_list : mg "list" = none
  n_range : mg "range" = none
  n_sorted : mg "sorted" = none
  n_str : mg "str" = none
  n_tuple : mg "tuple" = none
def sp_first_duplicate (K : PySem.W.Frag) : Sp := fun vs H Q _ => ∃ (p : Addr) (ts : List (List Nat)), vs = [.ref p] ∧ (H p = some (.lst (sv ts)) ∨ H p = some (.tup (sv ts))) ∧ ts.length ≤ 1000 ∧ ∀ v H', FD ts v → Same H H' → Q v H'
theorem sc_first_duplicate : FnScope ["items", "seen", "item"] ["items"] (defScope (topS 1)) := ⟨rfl, rfl, rfl, by decide +kernel, rfl, by decide +kernel, by decide +kernel⟩
theorem ok_first_duplicate {P : Program} {w : World} {K : PySem.W.Frag} {mg : Str → Option Value} {base : Heap} (T : Top K mg) : FnOk P w K mg base CX0 1 T.a_first_duplicate T.fd_first_duplicate ["items"] (sp_first_duplicate K) := by
  refine T.F_first_duplicate.ok (k := 0) sc_first_duplicate (fun vs H Q E h => ?_) (fun cdv A outer s0 H vs Q E hr h => ?_)
  · obtain ⟨p, ts, rfl, _⟩ := h; rfl
  · have sc := sc_first_duplicate
    refine ⟨_, (pss_cons (ps_set (i := 1) sc.nd rfl (by first | exact Or.inl rfl | exact Or.inr rfl) pe_dnewK)
      (pss_cons (ps_for PassesOwn.never rfl (ki_seq (K := K) rfl (xv 0)) (pg_name (i := 2) sc.nd rfl (by first | exact Or.inl rfl | exact Or.inr rfl)) (pss_cons (xs_if (xtp (pc_din (hu_of hr) (xv 2) (xv 1))) (pss_one (ps_ret (xv 2))) pss_nil)
      (pss_one (ps_dput (hu_of hr) (xv 1) (xv 2) pe_bl rfl))))
      (pss_one (ps_ret pe_non)))), ?_⟩
    obtain ⟨p, ts, rfl, hp, hl, q⟩ := h
    intro d hd
    have nod : ∀ o, Same H (upd H d o) := fun o => same_new hd
    have start0 : ∃ (kvs : List (Key × V)) (y : Option V), ([some (.ref p), some (.ref d), none] : L2.St) = [some (.ref p), some (.ref d), y] ∧ upd H d (.dK []) = upd H d (.dK kvs) ∧ kvs.length ≤ 0 ∧ (∀ t, (valV kvs (Sum.inr (S t) : Key)).isSome = decide (t ∈ ts.take 0)) ∧ (ts.take 0).Nodup :=
      ⟨[], none, rfl, rfl, Nat.le_refl _, fun t => by simp [valV_nil], by simp⟩
    rcases hp with hp | hp
    · refine .inl ⟨p, rfl, ⟨_, SqL.of (nod _ _ _ hp)⟩, for_list (xs := sv ts) (fun i σ H1 => ∃ (kvs : List (Key × V)) (y : Option V), σ = [some (.ref p), some (.ref d), y] ∧ H1 = upd H d (.dK kvs) ∧ kvs.length ≤ i ∧ (∀ t, (valV kvs (Sum.inr (S t) : Key)).isSome = decide (t ∈ ts.take i)) ∧ (ts.take i).Nodup) start0
        (fun i σ H1 _ hW => ?_) (fun i x σ H1 hi hW => ?_) (fun σ H1 hW => ?_)⟩
      · obtain ⟨kvs, y, rfl, rfl, _⟩ := hW
        exact SqL.of (nod _ _ _ hp)
      · obtain ⟨kvs, y, rfl, rfl, h1, h2, h3⟩ := hW
        have hil := (List.getElem?_eq_some_iff.mp hi).1
        rw [sv_len] at hil
        obtain ⟨t, gt⟩ : ∃ t, ts[i]? = some t := ⟨_, List.getElem?_eq_getElem hil⟩
        have ex : x = .str (S t) := Option.some.inj (hi.symm.trans (sv_get gt))
        subst ex
        refine ⟨_, _, rfl, DGet.k (k := Sum.inr (S t)) upd_same, fun c => ?_, fun c => ?_⟩
        · have c' : (valV kvs (Sum.inr (S t) : Key)).isSome = true := c
          rw [h2] at c'
          exact q _ _ (.inr ⟨i, t, gt, of_decide_eq_true c', h3, rfl⟩) (nod _)
        · have c' : (valV kvs (Sum.inr (S t) : Key)).isSome = false := c
          have c2 := c'
          rw [h2] at c2
          refine ⟨_, _, rfl, DPut.k (k := Sum.inr (S t)) upd_same (by rw [sl_big]; omega), ?_⟩
          have vn : valV kvs (Sum.inr (S t) : Key) = none := by
            cases e : valV kvs (Sum.inr (S t) : Key) with
            | none => rfl
            | some v => rw [e] at c'; exact Bool.noConfusion c'
          refine ⟨putK kvs (Sum.inr (S t)) (.bl true), _, rfl, by rw [upd_upd], by rw [putK_new _ vn, List.length_append]; show _ + 1 ≤ _; omega, fun u => ?_, nd_snoc' gt h3 (of_decide_eq_false c2)⟩
          rw [valV_put, List.take_add_one, gt]
          by_cases e : u = t
          · subst e
            rw [if_pos rfl]
            simp
          · rw [if_neg (fun z => e (S_inj (Sum.inr.inj z))), h2, Bool.eq_iff_iff]
            simp [e]
      · obtain ⟨kvs, y, rfl, rfl, h1, h2, h3⟩ := hW
        rw [sv_len, List.take_length] at h3
        exact q _ _ (.inl ⟨rfl, h3⟩) (nod _)
    · refine .inr ⟨p, rfl, ⟨_, SqT.of (nod _ _ _ hp)⟩, for_tup (xs := sv ts) (fun i σ H1 => ∃ (kvs : List (Key × V)) (y : Option V), σ = [some (.ref p), some (.ref d), y] ∧ H1 = upd H d (.dK kvs) ∧ kvs.length ≤ i ∧ (∀ t, (valV kvs (Sum.inr (S t) : Key)).isSome = decide (t ∈ ts.take i)) ∧ (ts.take i).Nodup) start0
        (fun i σ H1 _ hW => ?_) (fun i x σ H1 hi hW => ?_) (fun σ H1 hW => ?_)⟩
      · obtain ⟨kvs, y, rfl, rfl, _⟩ := hW
        exact SqT.of (nod _ _ _ hp)
      · obtain ⟨kvs, y, rfl, rfl, h1, h2, h3⟩ := hW
        have hil := (List.getElem?_eq_some_iff.mp hi).1
        rw [sv_len] at hil
        obtain ⟨t, gt⟩ : ∃ t, ts[i]? = some t := ⟨_, List.getElem?_eq_getElem hil⟩
        have ex : x = .str (S t) := Option.some.inj (hi.symm.trans (sv_get gt))
        subst ex
        refine ⟨_, _, rfl, DGet.k (k := Sum.inr (S t)) upd_same, fun c => ?_, fun c => ?_⟩
        · have c' : (valV kvs (Sum.inr (S t) : Key)).isSome = true := c
          rw [h2] at c'
          exact q _ _ (.inr ⟨i, t, gt, of_decide_eq_true c', h3, rfl⟩) (nod _)
        · have c' : (valV kvs (Sum.inr (S t) : Key)).isSome = false := c
          have c2 := c'
          rw [h2] at c2
          refine ⟨_, _, rfl, DPut.k (k := Sum.inr (S t)) upd_same (by rw [sl_big]; omega), ?_⟩
          have vn : valV kvs (Sum.inr (S t) : Key) = none := by
            cases e : valV kvs (Sum.inr (S t) : Key) with
            | none => rfl
            | some v => rw [e] at c'; exact Bool.noConfusion c'
          refine ⟨putK kvs (Sum.inr (S t)) (.bl true), _, rfl, by rw [upd_upd], by rw [putK_new _ vn, List.length_append]; show _ + 1 ≤ _; omega, fun u => ?_, nd_snoc' gt h3 (of_decide_eq_false c2)⟩
          rw [valV_put, List.take_add_one, gt]
          by_cases e : u = t
          · subst e
            rw [if_pos rfl]
            simp
          · rw [if_neg (fun z => e (S_inj (Sum.inr.inj z))), h2, Bool.eq_iff_iff]
            simp [e]
      · obtain ⟨kvs, y, rfl, rfl, h1, h2, h3⟩ := hW
        rw [sv_len, List.take_length] at h3
        exact q _ _ (.inl ⟨rfl, h3⟩) (nod _)
def sp_is_liking (K : PySem.W.Frag) : Sp := fun vs H Q _ => ∃ (p o : Addr) (ls ts : List (List Nat)), vs = [.ref p, .ref o] ∧ (H p = some (.lst (sv ls)) ∨ H p = some (.tup (sv ls))) ∧ (H o = some (.lst (sv ts)) ∨ H o = some (.tup (sv ts))) ∧ ls.length < 64 ∧ ts.length < 64 ∧ Fines ls ∧ Fines ts ∧
  ∀ (b : Bool) H', (b = true ↔ ls.Perm ts) → Same H H' → Q (.bl b) H'
theorem sc_is_liking : FnScope ["liking", "things"] ["liking", "things"] (defScope (topS 2)) := ⟨rfl, rfl, rfl, by decide +kernel, rfl, by decide +kernel, by decide +kernel⟩
theorem ok_is_liking {P : Program} {w : World} {K : PySem.W.Frag} {mg : Str → Option Value} {base : Heap} (T : Top K mg) : FnOk P w K mg base CX0 1 T.a_is_liking T.fd_is_liking ["liking", "things"] (sp_is_liking K) := by
  refine T.F_is_liking.ok (k := 0) sc_is_liking (fun vs H Q E h => ?_) (fun cdv A outer s0 H vs Q E hr h => ?_)
  · obtain ⟨p, o, ls, ts, rfl, _⟩ := h; rfl
  · have sc := sc_is_liking
    refine ⟨_, (pss_one (ps_ret (pe_cmpR (ko_eq (K := K) rfl hr.units) (pe_callB (kc_sort (K := K) rfl) (by rfl) T.n_sorted (by decide +kernel) (pa_cons (xv 0) pa_nil)) (pe_callB (kc_sort (K := K) rfl) (by rfl) T.n_sorted (by decide +kernel) (pa_cons (xv 1) pa_nil)) (nomark _)))), ?_⟩
    obtain ⟨p, o, ls, ts, rfl, hp, ho, l1, l2, f1, f2, q⟩ := h
    have sq : ∀ {H' : Hp} {p : Addr} {us : List (List Nat)}, (H' p = some (.lst (sv us)) ∨ H' p = some (.tup (sv us))) → Sq K H' p ((us.map S).map V.str) := fun {H' p us} h => by
      rw [← sv_strs]
      exact h.elim Sq.l Sq.t
    refine ⟨ls.map S, sq hp, by rw [List.length_map]; exact l1, fun ys a pa sa ha => ?_⟩
    have sm1 := same_new (o := .lst (ys.map V.str)) ha
    refine ⟨ts.map S, sq (ho.imp (sm1 _ _) (sm1 _ _)), by rw [List.length_map]; exact l2, fun zs b pb sb hb => ?_⟩
    have sm2 := same_new (o := .lst (zs.map V.str)) hb
    have uy : (ys.map fun z => z.cps.toList).Perm ls := by
      have := pa.map fun z => z.cps.toList
      rw [List.map_map] at this
      have e : ls.map ((fun z : Str => z.cps.toList) ∘ S) = ls := by
        rw [show ((fun z : Str => z.cps.toList) ∘ S) = id from rfl, List.map_id]
      rw [e] at this
      exact this
    have uz : (zs.map fun z => z.cps.toList).Perm ts := by
      have := pb.map fun z => z.cps.toList
      rw [List.map_map] at this
      have e : ts.map ((fun z : Str => z.cps.toList) ∘ S) = ts := by
        rw [show ((fun z : Str => z.cps.toList) ∘ S) = id from rfl, List.map_id]
      rw [e] at this
      exact this
    have ga : (upd (upd H a (.lst (ys.map V.str))) b (.lst (zs.map V.str))) a = some (.lst (sv (ys.map fun z => z.cps.toList))) := by
      rw [← sv_us]; exact sm2 _ _ upd_same
    have gb : (upd (upd H a (.lst (ys.map V.str))) b (.lst (zs.map V.str))) b = some (.lst (sv (zs.map fun z => z.cps.toList))) := by
      rw [← sv_us]; exact upd_same
    refine ⟨.list (dS (ys.map fun z => z.cps.toList)), .list (dS (zs.map fun z => z.cps.toList)), .lst (SqL.of ga) (dp_sv _), .lst (SqL.of gb) (dp_sv _), shaped_dS (f1.sub fun t ht => uy.mem_iff.mp ht), shaped_dS (f2.sub fun t ht => uz.mem_iff.mp ht), ?_⟩
    refine q _ _ ?_ (sm1.trans sm2)
    rw [eqv_dS, decide_eq_true_iff]
    constructor
    · intro e
      exact uy.symm.trans (e ▸ uz)
    · intro e
      have : ys = zs := sorted_same sa sb (pa.trans ((e.map S).trans pb.symm))
      rw [this]
def sp__law_store (K : PySem.W.Frag) : Sp := fun vs H Q _ => ∃ (a : Addr) (ns : List Int), vs = [.ref a] ∧ SqL K H a (ns.map V.int) ∧ ns.length ≤ 63 ∧ ∀ s cl H', Same H H' → H s = none → Sto s cl 0 H' → Q (.ref s) H'
theorem sc__law_store : FnScope ["script", "cells", "cell", "base"] ["script"] (defScope (topS 4)) := ⟨rfl, rfl, rfl, by decide +kernel, rfl, by decide +kernel, by decide +kernel⟩
theorem ok__law_store {P : Program} {w : World} {K : PySem.W.Frag} {mg : Str → Option Value} {base : Heap} (T : Top K mg) : FnOk P w K mg base CX0 1 T.a__law_store T.fd__law_store ["script"] (sp__law_store K) := by
  refine T.F__law_store.ok (k := 0) sc__law_store (fun vs H Q E h => ?_) (fun cdv A outer s0 H vs Q E hr h => ?_)
  · obtain ⟨a, ns, rfl, _⟩ := h; rfl
  · have sc := sc__law_store
    refine ⟨_, (pss_cons (ps_setLc (i := 1) (own := [("cell", 2)]) (g := gName 2) rfl sc.nd rfl rfl (sw_true rfl rfl rfl (by decide +kernel)) (ki_seq (K := K) rfl (xv 0)) (blkOk_by (N := ["script", "cells", "cell", "base"]) (sc := defScope (topS 4)) (by decide +kernel)) (fun _ _ _ _ _ => (pg_name (i := 2) sc.nd rfl (by first | exact Or.inl rfl | exact Or.inr rfl))) (fun _ _ _ _ _ => pts_nil) (fun _ _ _ _ _ => (pe_callTy xc_int (by rfl) T.n_int (by decide +kernel) (pa_cons (xv 2) pa_nil))))
      (pss_cons (ps_set (i := 3) sc.nd rfl (by first | exact Or.inl rfl | exact Or.inr rfl) pe_int)
      (pss_cons (ps_for PassesOwn.never rfl (ki_seq (K := K) rfl (xv 1)) (pg_name (i := 2) sc.nd rfl (by first | exact Or.inl rfl | exact Or.inr rfl)) (pss_one (ps_set (i := 3) sc.nd rfl (by first | exact Or.inl rfl | exact Or.inr rfl) (pe_op xo_mod (pe_callTy xc_int (by rfl) T.n_int (by decide +kernel) (pa_cons (pe_op (ko_add (K := K) rfl) (pe_op (ko_add (K := K) rfl) (pe_op xo_mul (xv 3) pe_int) (pe_op xo_mod (pe_callTy xc_int (by rfl) T.n_int (by decide +kernel) (pa_cons (xv 2) pa_nil)) pe_int)) pe_int) pa_nil)) pe_int))))
      (pss_one (ps_ret (pe_lst (pa_cons (xv 1) (pa_cons pe_int (pa_cons pe_int (pa_cons pe_int (pa_cons (xv 3) pa_nil))))))))))), ?_⟩
    obtain ⟨a, ns, rfl, hS, hl, q⟩ := h
    have hz : (ns.map V.int).length ≤ sizeLine := by rw [List.length_map, sl_big]; omega
    refine .inl ⟨a, rfl, ⟨_, hS⟩, fun D hD => ?_⟩
    refine lc_f (xs := ns.map V.int) id hS hD hz (fun _ => rfl) (fun x acc Q hx q => ?_) ?_
    · obtain ⟨i, _, rfl⟩ := List.mem_map.mp hx
      exact q
    rw [List.map_id]
    refine .inl ⟨D, rfl, ⟨_, SqL.of upd_same⟩, for_list (xs := ns.map V.int) (fun _ σ H1 => H1 = upd H D (.lst (ns.map V.int)) ∧ ∃ b y, σ = [some (.ref a), some (.ref D), y, some (.int b)]) ⟨rfl, 1, none, rfl⟩ (fun i σ H1 _ e => by rw [e.1]; exact SqL.of upd_same) (fun i x σ H1 hi e => ?_) (fun σ H1 e => ?_)⟩
    · obtain ⟨rfl, b, y, rfl⟩ := e
      obtain ⟨j, _, rfl⟩ := List.mem_map.mp (List.mem_of_getElem? hi)
      refine ⟨.inr ⟨by decide, by decide⟩, by decide, by decide, rfl, _, _, rfl⟩
    · obtain ⟨rfl, b, y, rfl⟩ := e
      refine ⟨sl_of (n := 5) rfl, fun s hs => q s D _ ?_ ?_ ⟨ns, 0, 0, 0, b, upd_same, ?_, ?_, Nat.zero_le _, hl, by decide, by decide⟩⟩
      · exact (same_new hD).trans (same_new hs)
      · exact (same_new hD).free hs
      · rw [upd_ne (ne_of_none upd_same hs)]; exact upd_same
      · exact ne_of_none upd_same hs
def sp__law_mix (K : PySem.W.Frag) : Sp := fun vs H Q _ => ∃ (c t : Int), vs = [.int c, .int t] ∧ 0 ≤ t ∧ t ≤ 1000000000005 ∧ ∀ (r : Int), 0 ≤ r → Q (.int r) H
theorem sc__law_mix : FnScope ["cell", "turn", "one"] ["cell", "turn"] (defScope (topS 5)) := ⟨rfl, rfl, rfl, by decide +kernel, rfl, by decide +kernel, by decide +kernel⟩
theorem ok__law_mix {P : Program} {w : World} {K : PySem.W.Frag} {mg : Str → Option Value} {base : Heap} (T : Top K mg) : FnOk P w K mg base CX0 1 T.a__law_mix T.fd__law_mix ["cell", "turn"] (sp__law_mix K) := by
  refine T.F__law_mix.ok (k := 0) sc__law_mix (fun vs H Q E h => ?_) (fun cdv A outer s0 H vs Q E hr h => ?_)
  · obtain ⟨c, t, rfl, _⟩ := h; rfl
  · have sc := sc__law_mix
    refine ⟨_, (pss_cons (ps_set (i := 2) sc.nd rfl (by first | exact Or.inl rfl | exact Or.inr rfl) (pe_op (ko_add (K := K) rfl) (pe_op (ko_add (K := K) rfl) (pe_op xo_mod (pe_callTy xc_int (by rfl) T.n_int (by decide +kernel) (pa_cons (xv 0) pa_nil)) pe_int) (pe_op xo_mul pe_int (xv 1))) pe_int))
      (pss_cons (ps_set (i := 2) sc.nd rfl (by first | exact Or.inl rfl | exact Or.inr rfl) (pe_op xo_mod (pe_callTy xc_int (by rfl) T.n_int (by decide +kernel) (pa_cons (pe_op (ko_add (K := K) rfl) (pe_op xo_mul (xv 2) (xv 2)) (xv 1)) pa_nil)) pe_int))
      (pss_one (ps_ret (pe_op xo_mod (pe_callTy xc_int (by rfl) T.n_int (by decide +kernel) (pa_cons (pe_op (ko_add (K := K) rfl) (pe_op xo_mul (xv 2) (pe_op (ko_add (K := K) rfl) (xv 2) pe_int)) (pe_op xo_mul pe_int (xv 1))) pa_nil)) pe_int))))), ?_⟩
    obtain ⟨c, t, rfl, h0, h1, q⟩ := h
    have e0 : 0 ≤ c.fmod 99989 := Int.fmod_nonneg_of_pos _ (by decide)
    have e1 : c.fmod 99989 < 99989 := Int.fmod_lt_of_pos _ (by decide)
    refine ⟨by decide, .inl ⟨by decide, by decide⟩, .inl ⟨by omega, by omega⟩, by decide, ?_⟩
    have f0 : 0 ≤ ((c.fmod 99989 + 331 * t + 17) * (c.fmod 99989 + 331 * t + 17) + t).fmod 99989 := Int.fmod_nonneg_of_pos _ (by decide)
    have f1 : ((c.fmod 99989 + 331 * t + 17) * (c.fmod 99989 + 331 * t + 17) + t).fmod 99989 < 99989 := Int.fmod_lt_of_pos _ (by decide)
    refine ⟨.inl ⟨by omega, by omega⟩, .inl ⟨by decide, by decide⟩, by decide, ?_⟩
    exact q _ (Int.fmod_nonneg_of_pos _ (by decide))
def sp__law_is_name (K : PySem.W.Frag) : Sp := fun vs H Q _ => ∃ (l : List Nat), vs = [.str (S l)] ∧ l.length ≤ sizeLine ∧ ∀ H', Same H H' → Q (.bl (nameL l)) H'
theorem sc__law_is_name : FnScope ["text", "sign"] ["text"] (defScope (topS 12)) := ⟨rfl, rfl, rfl, by decide +kernel, rfl, by decide +kernel, by decide +kernel⟩
theorem ok__law_is_name {P : Program} {w : World} {K : PySem.W.Frag} {mg : Str → Option Value} {base : Heap} (T : Top K mg) : FnOk P w K mg base CX0 1 T.a__law_is_name T.fd__law_is_name ["text"] (sp__law_is_name K) := by
  refine T.F__law_is_name.ok (k := 0) sc__law_is_name (fun vs H Q E h => ?_) (fun cdv A outer s0 H vs Q E hr h => ?_)
  · obtain ⟨l, rfl, _⟩ := h; rfl
  · have sc := sc__law_is_name
    refine ⟨_, (pss_cons (xs_if (PW.pt (xw_or (xtc (ko_eq (K := K) rfl hr.units) (xv 0) pe_str (nomark _)) (xw_or (xtc (ko_eq (K := K) rfl hr.units) (xv 0) pe_str (nomark _)) (xw_or (xtc xo_lt (pe_callB (kc_len (K := K) rfl) (by rfl) T.n_len (by decide +kernel) (pa_cons (xv 0) pa_nil)) pe_int (nomark _)) (pw_or1 (xtc xo_gt (pe_callB (kc_len (K := K) rfl) (by rfl) T.n_len (by decide +kernel) (pa_cons (xv 0) pa_nil)) pe_int (nomark _))))))) (pss_one (ps_ret pe_bl)) pss_nil)
      (pss_cons (xs_if (xtc (ko_notin (K := K) rfl) (pe_ix (kix (K := K) rfl) (xv 0) pe_int (fun _ _ => rfl)) pe_str (by rfl)) (pss_one (ps_ret pe_bl)) pss_nil)
      (pss_one (ps_ret (pe_cmpR (ko_eq (K := K) rfl hr.units) (pe_callB (kc_len (K := K) rfl) (by rfl) T.n_len (by decide +kernel) (pa_cons (pe_lc (own := [("sign", 1)]) (g := gName 1) rfl sc.nd (pi_str (xv 0)) (blkOk_by (N := ["text", "sign"]) (sc := defScope (topS 12)) (by decide +kernel)) (fun _ _ _ _ _ => (pg_name (i := 1) sc.nd rfl (by first | exact Or.inl rfl | exact Or.inr rfl))) (fun _ _ _ _ _ => (pts_one (xtc (ko_notin (K := K) rfl) (xv 1) pe_str (by rfl)))) (fun _ _ _ _ _ => (xv 1))) pa_nil)) pe_int (nomark _)))))), ?_⟩
    obtain ⟨l, rfl, hl, q⟩ := h
    have hz : (S l).length ≤ sizeLine := by rw [S_len]; exact hl
    have no : nameL l = false → Q (.bl false) H := fun e => by have := q H (Same.refl H); rwa [e] at this
    have bad : ¬ IsNm l → nameL l = false := fun h => by
      cases e : nameL l with
      | false => rfl
      | true => exact absurd (nameL_iff.mp e) h
    refine ⟨fun c => ⟨fun _ => ?_, no_tf⟩, fun c1 => ⟨fun c => ⟨fun _ => ?_, no_tf⟩, fun c2 => ⟨hz, fun c => ⟨fun _ => ?_, no_tf⟩, fun c3 => ⟨hz, fun c => ?_, fun c4 => ?_⟩⟩⟩⟩
    · rw [dec_S lit_sea] at c
      exact no (bad fun h => h.ns (of_decide_eq_true c))
    · rw [dec_S lit_it] at c
      exact no (bad fun h => h.ni (of_decide_eq_true c))
    · rw [S_len] at c
      have := of_decide_eq_true c
      exact no (bad fun h => by have := List.length_pos_iff.mpr h.ne; omega)
    · rw [S_len] at c
      have := of_decide_eq_true c
      exact no (bad fun h => by have := h.l1; omega)
    rw [dec_S lit_sea] at c1
    rw [dec_S lit_it] at c2
    rw [S_len] at c3 c4
    have d1 := of_decide_eq_false c1
    have d2 := of_decide_eq_false c2
    have d3 := of_decide_eq_false c3
    have d4 := of_decide_eq_false c4
    obtain ⟨a, t, rfl⟩ : ∃ a t, l = a :: t := by
      cases l with
      | nil => exact absurd (by decide) d3
      | cons a t => exact ⟨a, t, rfl⟩
    refine ⟨hz, a, atI_nat (j := 0) rfl, ?_⟩
    rw [lit_az]
    refine ⟨a, rfl, fun c => ?_, fun c => ?_⟩
    · have c' : ¬ a ∈ aZ := by simpa using c
      refine no (bad fun h => c' (mem_az.mpr ?_))
      have := h.w
      unfold word at this
      exact (Bool.and_eq_true _ _ ▸ this).1
    have ca : low a = true := mem_az.mp (by simpa using c)
    refine ⟨_, rfl, fun D hD => ?_⟩
    refine lc_str (l := a :: t) (fun x => .str (S [x])) (fun x => !decide (x ∈ aZ9)) hl (fun _ => rfl) (fun x acc Q' _ q' => ?_) (fun x acc Q' _ q' => q') ?_
    · rw [lit_az9]
      exact ⟨x, rfl, q'⟩
    refine ⟨_, Sq.l upd_same, ?_⟩
    rw [List.length_map]
    have e : decide (((((a :: t).filter fun x => !decide (x ∈ aZ9)).length : Nat) : Int) = 0) = nameL (a :: t) := by
      rw [Bool.eq_iff_iff, decide_eq_true_iff, nameL_iff]
      have e1 : (((((a :: t).filter fun x => !decide (x ∈ aZ9)).length : Nat) : Int) = 0) ↔ ((a :: t).filter fun x => !decide (x ∈ aZ9)).length = 0 := by omega
      rw [e1, filter_nil_iff]
      constructor
      · intro h
        refine ⟨?_, by omega, d1, d2⟩
        unfold word
        rw [Bool.and_eq_true]
        exact ⟨ca, List.all_eq_true.mpr fun x hx => mem_az9.mp (by simpa using h x hx)⟩
      · intro h x hx
        simpa using mem_az9.mpr (word_all h.w x hx)
    have z := fun o : HO => q _ (same_new (o := o) hD)
    rw [← e] at z
    exact z _
def sp__law_first_due (K : PySem.W.Frag) : Sp := fun vs H Q _ => ∃ (p : Addr) (ts : List (List Nat)), vs = [.ref p] ∧ H p = some (.lst (sv ts)) ∧ ts.length ≤ 1000 ∧ ∀ v, FD ts v → Q v H
theorem sc__law_first_due : FnScope ["items", "k"] ["items"] (defScope (topS 24)) := ⟨rfl, rfl, rfl, by decide +kernel, rfl, by decide +kernel, by decide +kernel⟩
theorem ok__law_first_due {P : Program} {w : World} {K : PySem.W.Frag} {mg : Str → Option Value} {base : Heap} (T : Top K mg) : FnOk P w K mg base CX0 1 T.a__law_first_due T.fd__law_first_due ["items"] (sp__law_first_due K) := by
  refine T.F__law_first_due.ok (k := 0) sc__law_first_due (fun vs H Q E h => ?_) (fun cdv A outer s0 H vs Q E hr h => ?_)
  · obtain ⟨p, ts, rfl, _⟩ := h; rfl
  · have sc := sc__law_first_due
    refine ⟨_, (pss_cons (ps_for PassesOwn.never rfl (pi_range1 (by rfl) T.n_range (pa_cons (pe_callB (kc_len (K := K) rfl) (by rfl) T.n_len (by decide +kernel) (pa_cons (xv 0) pa_nil)) pa_nil)) (pg_name (i := 1) sc.nd rfl (by first | exact Or.inl rfl | exact Or.inr rfl)) (pss_one (xs_if (xtc xo_lt (ke_bm (K := K) rfl PySem.F.plainAttrs_list PySem.F.slot_list_index PySem.F.type_list_index (km_index (K := K) rfl) (xv 0) (pa_cons (pe_ix (kix (K := K) rfl) (xv 0) (xv 1) (fun _ _ => rfl)) pa_nil)) (xv 1) (nomark _)) (pss_one (ps_ret (pe_ix (kix (K := K) rfl) (xv 0) (xv 1) (fun _ _ => rfl)))) pss_nil)))
      (pss_one (ps_ret pe_non))), ?_⟩
    obtain ⟨p, ts, rfl, hp, hl, q⟩ := h
    refine ⟨_, Sq.l hp, _, rfl, by rw [sv_len]; omega, by rw [sv_len]; omega, ?_⟩
    rw [Int.toNat_natCast, sv_len]
    refine for_range (lo := 0) (n := ts.length) (fun i σ H1 => H1 = H ∧ (∃ y : Option V, σ = [some (.ref p), y]) ∧ (ts.take i).Nodup) ⟨rfl, ⟨none, rfl⟩, by simp⟩ (fun i σ H1 hi hW => ?_) (fun σ H1 hW => ?_)
    · obtain ⟨rfl, ⟨y, rfl⟩, nd⟩ := hW
      obtain ⟨t, gt⟩ : ∃ t, ts[i]? = some t := ⟨_, List.getElem?_eq_getElem hi⟩
      obtain ⟨j, j1, j2, j3⟩ := first_at gt
      refine ⟨tyL hp, sv ts, _, Sq.l hp, at_int (by omega) (sv_get gt), sv ts, j, _, SqL.of hp, rfl, sv_flat ts, sv_get j2, by rw [str_eqv]; exact decide_eq_true rfl, fun m z' hm hz => ?_, fun c => ?_, fun c => ?_⟩
      · have hml : m < ts.length := by have := (List.getElem?_eq_some_iff.mp j2).1; omega
        have gm : ts[m]? = some ts[m] := List.getElem?_eq_getElem hml
        have := Option.some.inj (hz.symm.trans (sv_get gm))
        subst this
        rw [str_eqv]
        exact decide_eq_false fun e => j3 m hm (by rw [gm, e])
      · have c' : ((j : Nat) : Int) < 0 + (i : Nat) := of_decide_eq_true c
        refine ⟨sv ts, _, Sq.l hp, at_int (by omega) (sv_get gt), ?_⟩
        exact q _ (.inr ⟨i, t, gt, mem_take_iff.mpr ⟨j, by omega, j2⟩, nd, rfl⟩)
      · have c' : ¬ ((j : Nat) : Int) < 0 + (i : Nat) := of_decide_eq_false c
        refine ⟨rfl, ⟨_, rfl⟩, nd_snoc' gt nd fun hm => ?_⟩
        obtain ⟨m, m1, m2⟩ := mem_take_iff.mp hm
        exact j3 m (by omega) m2
    · obtain ⟨rfl, ⟨y, rfl⟩, nd⟩ := hW
      rw [List.take_length] at nd
      exact q _ (.inl ⟨rfl, nd⟩)
def sp__law_is_liking_due (K : PySem.W.Frag) : Sp := fun vs H Q _ => ∃ (p o : Addr) (ls ts : List (List Nat)), vs = [.ref p, .ref o] ∧ H p = some (.lst (sv ls)) ∧ H o = some (.lst (sv ts)) ∧ ls.length ≤ 1000 ∧ ts.length ≤ 1000 ∧ ts.Nodup ∧
  ∀ (b : Bool) H', (b = true ↔ ls.Perm ts) → Same H H' → Q (.bl b) H'
theorem sc__law_is_liking_due : FnScope ["liking", "listed", "thing"] ["liking", "listed"] (defScope (topS 25)) := ⟨rfl, rfl, rfl, by decide +kernel, rfl, by decide +kernel, by decide +kernel⟩
theorem ok__law_is_liking_due {P : Program} {w : World} {K : PySem.W.Frag} {mg : Str → Option Value} {base : Heap} (T : Top K mg) : FnOk P w K mg base CX0 1 T.a__law_is_liking_due T.fd__law_is_liking_due ["liking", "listed"] (sp__law_is_liking_due K) := by
  refine T.F__law_is_liking_due.ok (k := 0) sc__law_is_liking_due (fun vs H Q E h => ?_) (fun cdv A outer s0 H vs Q E hr h => ?_)
  · obtain ⟨p, o, ls, ts, rfl, _⟩ := h; rfl
  · have sc := sc__law_is_liking_due
    refine ⟨_, (pss_one (ps_ret (xe_and (pe_cmpR (ko_eq (K := K) rfl hr.units) (pe_callB (kc_len (K := K) rfl) (by rfl) T.n_len (by decide +kernel) (pa_cons (xv 0) pa_nil)) (pe_callB (kc_len (K := K) rfl) (by rfl) T.n_len (by decide +kernel) (pa_cons (xv 1) pa_nil)) (nomark _)) (pe_one (pe_cmpR (ko_eq (K := K) rfl hr.units) (pe_callB (kc_len (K := K) rfl) (by rfl) T.n_len (by decide +kernel) (pa_cons (pe_lc (own := [("thing", 2)]) (g := gName 2) rfl sc.nd (ki_seq (K := K) rfl (xv 1)) (blkOk_by (N := ["liking", "listed", "thing"]) (sc := defScope (topS 25)) (by decide +kernel)) (fun _ _ _ _ _ => (pg_name (i := 2) sc.nd rfl (by first | exact Or.inl rfl | exact Or.inr rfl))) (fun _ _ _ _ _ => (pts_one (xtc (ko_eq (K := K) rfl hr.units) (ke_bm (K := K) rfl PySem.F.plainAttrs_list PySem.F.slot_list_count PySem.F.type_list_count (km_count (K := K) rfl) (xv 0) (pa_cons (xv 2) pa_nil)) pe_int (nomark _)))) (fun _ _ _ _ _ => (xv 2))) pa_nil)) (pe_callB (kc_len (K := K) rfl) (by rfl) T.n_len (by decide +kernel) (pa_cons (xv 1) pa_nil)) (nomark _)))))), ?_⟩
    obtain ⟨p, o, ls, ts, rfl, hp, ho, l1, l2, nd, q⟩ := h
    refine ⟨_, Sq.l hp, _, Sq.l ho, fun c => ?_, fun c => ?_⟩
    · have c' : ((sv ls).length : Int) = ((sv ts).length : Int) := of_decide_eq_true c
      rw [sv_len, sv_len] at c'
      refine .inl ⟨o, rfl, ⟨_, SqL.of ho⟩, fun D hD => ?_⟩
      refine lc_fm (xs := sv ts) id (onP fun t => decide (ls.count t = 1)) (SqL.of ho) hD (by rw [sv_len, sl_big]; omega) (fun _ => rfl) (fun x acc Q' hx q' => ?_) (fun x acc Q' hx q' => q') ?_
      · obtain ⟨t, ht, rfl⟩ := sv_mem hx
        refine ⟨tyL (same_new hD _ _ hp), sv ls, SqL.of (same_new hD _ _ hp), rfl, sv_flat ls, ?_⟩
        rw [count_sv]
        have e : onP (fun t => decide (ls.count t = 1)) (.str (S t)) = decide (((ls.count t : Nat) : Int) = 1) := by
          show decide (ls.count t = 1) = _
          rw [decide_eq_decide]
          omega
        rw [e] at q'
        exact q'
      · rw [List.map_id, sv_filter]
        refine ⟨_, Sq.l upd_same, _, Sq.l (same_new hD _ _ ho), ?_⟩
        refine q _ _ ?_ (same_new hD)
        rw [decide_eq_true_iff, sv_len, sv_len, ← liking_iff nd]
        constructor
        · intro e
          refine ⟨by omega, fun t ht => ?_⟩
          have e' : (ts.filter fun t => decide (ls.count t = 1)).length = ts.length := by omega
          have := List.length_filter_eq_length_iff.mp e' t ht
          exact of_decide_eq_true this
        · rintro ⟨_, h⟩
          have : (ts.filter fun t => decide (ls.count t = 1)).length = ts.length := List.length_filter_eq_length_iff.mpr fun t ht => decide_eq_true (h t ht)
          omega
    · have c' : ¬ ((sv ls).length : Int) = ((sv ts).length : Int) := of_decide_eq_false c
      rw [sv_len, sv_len] at c'
      refine q false H ?_ (Same.refl H)
      exact ⟨fun e => Bool.noConfusion e, fun e => absurd (by rw [e.length_eq]) c'⟩
def sp__law_take (K : PySem.W.Frag) : Sp := fun vs H Q _ => ∃ (s cl : Addr) (n : Nat) (m : Int), vs = [.ref s, .int m] ∧ Sto s cl n H ∧ n < 1000000000000 ∧ m < 536870912 ∧
  ∀ (r : Nat) H', ((r : Int) < m ∨ r = 0) → Keep s H H' → Sto s cl (n + 1) H' → Q (.int (r : Nat)) H'
theorem sc__law_take : FnScope ["store", "many", "rest", "cell"] ["store", "many"] (defScope (topS 6)) := ⟨rfl, rfl, rfl, by decide +kernel, rfl, by decide +kernel, by decide +kernel⟩
theorem ok__law_take {P : Program} {w : World} {K : PySem.W.Frag} {mg : Str → Option Value} {base : Heap} (T : Top K mg) : FnOk P w K mg base CX0 2 T.a__law_take T.fd__law_take ["store", "many"] (sp__law_take K) := by
  refine T.F__law_take.ok (k := 1) sc__law_take (fun vs H Q E h => ?_) (fun cdv A outer s0 H vs Q E hr h => ?_)
  · obtain ⟨s, cl, n, m, rfl, _⟩ := h; rfl
  · have sc := sc__law_take
    refine ⟨_, (pss_cons (xs_if (xtc xo_lt (xv 1) pe_int (nomark _)) (pss_one (ps_ret pe_int)) pss_nil)
      (pss_cons (ps_asg (pe_op (ko_add (K := K) rfl) (pe_ix (kix (K := K) rfl) (xv 0) pe_int (fun _ _ => rfl)) pe_int) (pg_sub (xv 0) pe_int xset))
      (xss_cut (xs_if (PW.pt (xw_and (xtc (ko_eq (K := K) rfl hr.units) (pe_ix (kix (K := K) rfl) (xv 0) pe_int (fun _ _ => rfl)) pe_int (nomark _)) (xw_and (xtc xo_lt (pe_ix (kix (K := K) rfl) (xv 0) pe_int (fun _ _ => rfl)) (pe_callB (kc_len (K := K) rfl) (by rfl) T.n_len (by decide +kernel) (pa_cons (pe_ix (kix (K := K) rfl) (xv 0) pe_int (fun _ _ => rfl)) pa_nil)) (nomark _)) (pw_and1 (xtc xo_ge (pe_ix (kix (K := K) rfl) (pe_ix (kix (K := K) rfl) (xv 0) pe_int (fun _ _ => rfl)) (pe_ix (kix (K := K) rfl) (xv 0) pe_int (fun _ _ => rfl)) (fun _ _ => rfl)) (pe_op xo_pow pe_int pe_int) (nomark _)))))) (pss_cons (ps_asg (pe_ix (kix (K := K) rfl) (pe_ix (kix (K := K) rfl) (xv 0) pe_int (fun _ _ => rfl)) (pe_ix (kix (K := K) rfl) (xv 0) pe_int (fun _ _ => rfl)) (fun _ _ => rfl)) (pg_sub (xv 0) pe_int xset))
      (pss_one (ps_asg (pe_op (ko_add (K := K) rfl) (pe_ix (kix (K := K) rfl) (xv 0) pe_int (fun _ _ => rfl)) pe_int) (pg_sub (xv 0) pe_int xset)))) pss_nil)
      (pss_cons (xs_if (xtc xo_gt (pe_ix (kix (K := K) rfl) (xv 0) pe_int (fun _ _ => rfl)) pe_int (nomark _)) (pss_cons (ps_set (i := 2) sc.nd rfl (by first | exact Or.inl rfl | exact Or.inr rfl) (pe_ix (kix (K := K) rfl) (xv 0) pe_int (fun _ _ => rfl)))
      (pss_cons (ps_asg (pe_op xo_div (xv 2) (xv 1)) (pg_sub (xv 0) pe_int xset))
      (pss_one (ps_ret (pe_op xo_mod (pe_callTy xc_int (by rfl) T.n_int (by decide +kernel) (pa_cons (xv 2) pa_nil)) (xv 1)))))) pss_nil)
      (pss_cons (ps_set (i := 3) sc.nd rfl (by first | exact Or.inl rfl | exact Or.inr rfl) (pe_ix (kix (K := K) rfl) (xv 0) pe_int (fun _ _ => rfl)))
      (xss_cut (xs_if (xtc xo_lt (pe_ix (kix (K := K) rfl) (xv 0) pe_int (fun _ _ => rfl)) (pe_callB (kc_len (K := K) rfl) (by rfl) T.n_len (by decide +kernel) (pa_cons (pe_ix (kix (K := K) rfl) (xv 0) pe_int (fun _ _ => rfl)) pa_nil)) (nomark _)) (pss_cons (ps_set (i := 3) sc.nd rfl (by first | exact Or.inl rfl | exact Or.inr rfl) (pe_ix (kix (K := K) rfl) (pe_ix (kix (K := K) rfl) (xv 0) pe_int (fun _ _ => rfl)) (pe_ix (kix (K := K) rfl) (xv 0) pe_int (fun _ _ => rfl)) (fun _ _ => rfl)))
      (pss_one (ps_asg (pe_op (ko_add (K := K) rfl) (pe_ix (kix (K := K) rfl) (xv 0) pe_int (fun _ _ => rfl)) pe_int) (pg_sub (xv 0) pe_int xset)))) pss_nil)
      (pss_one (ps_ret (pe_op xo_mod (pe_callTy xc_int (by rfl) T.n_int (by decide +kernel) (pa_cons (pe_call (ok__law_mix T) (hr.mono (by decide)) (by rfl) T.g__law_mix T.F__law_mix.kp T.b__law_mix .nil pass0 (pa_cons (xv 3) (pa_cons (pe_ix (kix (K := K) rfl) (xv 0) pe_int (fun _ _ => rfl)) pa_nil))) pa_nil)) (xv 1)))))))))), ?_⟩
    obtain ⟨s, cl, n, m, rfl, S, hn, hm, q⟩ := h
    refine ⟨fun c => ?_, fun c => ?_⟩
    · exact q 0 H (.inr rfl) Keep.refl (S.mono (by omega))
    have c2 : ¬ m < 2 := of_decide_eq_false c
    obtain ⟨ns, i, d, b, e, h1, h2, h3, h4, h5, h6, h7⟩ := S.ex
    have hc : (ns.map V.int).length ≤ sizeLine := by rw [List.length_map, sl_big]; omega
    -- store[3] = store[3] + 1
    refine ⟨_, _, Sq.l h1, rfl, _, 3, h1, rfl, ?_⟩
    have k2 : ∀ H', Keep s (upd H s (sRow cl i (d + 1) b e)) H' → Keep s H H' := fun H' k => Keep.put.trans k
    -- the state of the row
    have row : ∀ {H' : Hp} {i' : Nat} {b' : Int}, Keep s H H' → H' s = some (sRow cl i' (d + 1) b' e) → i' ≤ ns.length → 0 ≤ b' → Sto s cl (n + 1) H' := fun {H' i' b'} k e1 e2 e3 => ⟨ns, i', d + 1, b', e, e1, k _ _ h3 h2, h3, e2, h5, e3, by omega⟩
    refine ⟨fun σ' H' => σ' = [some (.ref s), some (.int m), none, none] ∧ Keep s H H' ∧ ∃ (i' : Nat) (b' : Int), H' s = some (sRow cl i' (d + 1) b' e) ∧ i' ≤ ns.length ∧ 0 ≤ b', ?_, ?_⟩
    · have H1s : (upd H s (.lst [.ref cl, .int i, .int b, .int (d + 1), .int e])) s = some (.lst [.ref cl, .int i, .int b, .int (d + 1), .int e]) := upd_same
      have H1a : (upd H s (.lst [.ref cl, .int i, .int b, .int (d + 1), .int e])  ) cl = some (.lst (ns.map V.int)) := by rw [upd_ne h3]; exact h2
      have stay : (fun σ' H' => σ' = [some (V.ref s), some (V.int m), none, none] ∧ Keep s H H' ∧ ∃ (i' : Nat) (b' : Int), H' s = some (sRow cl i' (d + 1) b' e) ∧ i' ≤ ns.length ∧ 0 ≤ b') [some (V.ref s), some (V.int m), none, none] (upd H s (.lst [.ref cl, .int i, .int b, .int (d + 1), .int e])) :=
        ⟨rfl, Keep.put, i, b, upd_same, h4, h6⟩
      refine ⟨_, _, Sq.l H1s, rfl, fun c => ?_, fun c => ⟨no_ft, fun _ => stay⟩⟩
      refine ⟨_, _, Sq.l H1s, rfl, ?_⟩
      refine ⟨_, _, Sq.l H1s, rfl, _, Sq.l H1a, fun c => ?_, fun c => ⟨no_ft, fun _ => stay⟩⟩
      have ci : (i : Int) < ((ns.map V.int).length : Nat) := of_decide_eq_true c
      rw [List.length_map] at ci
      have hi : i < ns.length := by omega
      have g : (ns.map V.int)[i]? = some (.int ns[i]) := by rw [List.getElem?_map, List.getElem?_eq_getElem hi]; rfl
      refine ⟨_, _, Sq.l H1s, rfl, _, _, Sq.l H1s, rfl, _, _, Sq.l H1a, atI_nat g, ⟨by decide, by decide, by decide⟩, fun c => ?_, fun _ => stay⟩
      have cb := of_decide_eq_true c
      have cb0 : 0 ≤ ns[i] := Int.le_trans (by decide) cb
      refine ⟨_, _, Sq.l H1s, rfl, _, _, Sq.l H1s, rfl, _, _, Sq.l H1a, atI_nat g, _, 2, H1s, rfl, ?_⟩
      have H2s : ∀ o, (upd (upd H s (.lst [.ref cl, .int i, .int b, .int (d + 1), .int e])) s o) s = some o := fun o => upd_same
      refine ⟨_, _, Sq.l upd_same, rfl, _, 1, upd_same, rfl, ?_⟩
      exact ⟨rfl, Keep.put.trans (Keep.put.trans Keep.put), i + 1, ns[i], upd_same, hi, cb0⟩
    rintro σ' H1 ⟨rfl, kp, i', b', r1, r2, r3⟩
    have H1a : H1 cl = some (.lst (ns.map V.int)) := kp _ _ h3 h2
    refine ⟨_, _, Sq.l r1, rfl, fun c => ?_, fun c => ?_⟩
    · -- store[2] > 0
      have cb := of_decide_eq_true c
      refine ⟨_, _, Sq.l r1, rfl, ⟨by omega, by omega⟩, _, 2, r1, rfl, by omega, ?_⟩
      have z0 : 0 ≤ b'.fmod m := Int.fmod_nonneg_of_pos _ (by omega)
      have z1 : b'.fmod m < m := Int.fmod_lt_of_pos _ (by omega)
      have z2 : 0 ≤ b'.fdiv m := Int.fdiv_nonneg r3 (by omega)
      have z3 := q (b'.fmod m).toNat (upd H1 s (sRow cl i' (d + 1) (b'.fdiv m) e)) (.inl (by omega)) (kp.trans Keep.put) (row (kp.trans Keep.put) upd_same r2 z2)
      rw [Int.toNat_of_nonneg z0] at z3
      exact z3
    · have fin : ∀ (H2 : Hp) (x : Int) (i2 : Nat), Keep s H H2 → H2 s = some (sRow cl i2 (d + 1) b' e) → i2 ≤ ns.length → ∀ (g : ∀ r : Int, 0 ≤ r → Q (.int (r.fmod m)) H2), True := fun _ _ _ _ _ _ _ => trivial
      refine ⟨_, _, Sq.l r1, rfl, ?_⟩
      have out : ∀ (H2 : Hp) (i2 : Nat) (r : Int), Keep s H H2 → H2 s = some (sRow cl i2 (d + 1) b' e) → i2 ≤ ns.length → 0 ≤ r → Q (.int (r.fmod m)) H2 := fun H2 i2 r k1 k3 k4 hr => by
        have z0 : 0 ≤ r.fmod m := Int.fmod_nonneg_of_pos _ (by omega)
        have z1 : r.fmod m < m := Int.fmod_lt_of_pos _ (by omega)
        have z3 := q (r.fmod m).toNat H2 (.inl (by omega)) k1 (row k1 k3 k4 r3)
        rw [Int.toNat_of_nonneg z0] at z3
        exact z3
      refine ⟨fun σ' H' => (∃ x : Int, σ' = [some (.ref s), some (.int m), none, some (.int x)]) ∧ Keep s H H' ∧ ∃ (i' : Nat), H' s = some (sRow cl i' (d + 1) b' e) ∧ i' ≤ ns.length, ?_, ?_⟩
      · refine ⟨_, _, Sq.l r1, rfl, _, _, Sq.l r1, rfl, _, Sq.l H1a, fun c => ?_, fun c => ⟨⟨_, rfl⟩, kp, i', r1, r2⟩⟩
        have ci : (i' : Int) < ((ns.map V.int).length : Nat) := of_decide_eq_true c
        rw [List.length_map] at ci
        have hi : i' < ns.length := by omega
        have g : (ns.map V.int)[i']? = some (.int ns[i']) := by rw [List.getElem?_map, List.getElem?_eq_getElem hi]; rfl
        refine ⟨_, _, Sq.l r1, rfl, _, _, Sq.l r1, rfl, _, _, Sq.l H1a, atI_nat g, _, _, Sq.l r1, rfl, _, 1, r1, rfl, ?_⟩
        exact ⟨⟨_, rfl⟩, kp.trans Keep.put, i' + 1, upd_same, hi⟩
      rintro σ' H2 ⟨⟨x, rfl⟩, k1, i2, k3, k4⟩
      refine ⟨_, _, Sq.l k3, rfl, x, ((d + 1 : Nat) : Int), rfl, by omega, by omega, fun r hr => ⟨by omega, ?_⟩⟩
      exact out H2 i2 r k1 k3 k4 hr
def sp__law_yes (K : PySem.W.Frag) : Sp := fun vs H Q _ => ∃ (s cl : Addr) (n : Nat) (m : Int), vs = [.ref s, .int m] ∧ Sto s cl n H ∧ n < 1000000000000 ∧ m < 536870912 ∧
  ∀ (b : Bool) H', Keep s H H' → Sto s cl (n + 1) H' → Q (.bl b) H'
theorem sc__law_yes : FnScope ["store", "many"] ["store", "many"] (defScope (topS 7)) := ⟨rfl, rfl, rfl, by decide +kernel, rfl, by decide +kernel, by decide +kernel⟩
theorem ok__law_yes {P : Program} {w : World} {K : PySem.W.Frag} {mg : Str → Option Value} {base : Heap} (T : Top K mg) : FnOk P w K mg base CX0 3 T.a__law_yes T.fd__law_yes ["store", "many"] (sp__law_yes K) := by
  refine T.F__law_yes.ok (k := 2) sc__law_yes (fun vs H Q E h => ?_) (fun cdv A outer s0 H vs Q E hr h => ?_)
  · obtain ⟨s, cl, n, m, rfl, _⟩ := h; rfl
  · have sc := sc__law_yes
    refine ⟨_, (pss_one (ps_ret (pe_cmpR (ko_eq (K := K) rfl hr.units) (pe_call (ok__law_take T) (hr.mono (by decide)) (by rfl) T.g__law_take T.F__law_take.kp T.b__law_take .nil pass0 (pa_cons (xv 0) (pa_cons (xv 1) pa_nil))) pe_int (nomark _)))), ?_⟩
    obtain ⟨s, cl, n, m, rfl, S, hn, hm, q⟩ := h
    refine ⟨s, cl, n, m, rfl, S, hn, hm, fun r H1 _ k S1 => ?_⟩
    exact q _ _ k S1
def sp__law_pick (K : PySem.W.Frag) : Sp := fun vs H Q _ => ∃ (s cl : Addr) (n : Nat), Sto s cl n H ∧ n < 1000000000000 ∧
  ((∃ l : List Nat, vs = [.ref s, .str (S l)] ∧ l ≠ [] ∧ l.length ≤ 1000 ∧ ∀ c H', c ∈ l → Keep s H H' → Sto s cl (n + 1) H' → Q (.str (S [c])) H') ∨
   (∃ p xs, vs = [.ref s, .ref p] ∧ H p = some (.lst xs) ∧ p ≠ s ∧ xs ≠ [] ∧ xs.length ≤ 1000 ∧ ∀ v H', v ∈ xs → Keep s H H' → Sto s cl (n + 1) H' → Q v H'))
theorem sc__law_pick : FnScope ["store", "items"] ["store", "items"] (defScope (topS 8)) := ⟨rfl, rfl, rfl, by decide +kernel, rfl, by decide +kernel, by decide +kernel⟩
theorem ok__law_pick {P : Program} {w : World} {K : PySem.W.Frag} {mg : Str → Option Value} {base : Heap} (T : Top K mg) : FnOk P w K mg base CX0 3 T.a__law_pick T.fd__law_pick ["store", "items"] (sp__law_pick K) := by
  refine T.F__law_pick.ok (k := 2) sc__law_pick (fun vs H Q E h => ?_) (fun cdv A outer s0 H vs Q E hr h => ?_)
  · obtain ⟨s, cl, n, S, hn, ⟨l, rfl, _⟩ | ⟨p, xs, rfl, _⟩⟩ := h <;> rfl
  · have sc := sc__law_pick
    refine ⟨_, (pss_one (ps_ret (pe_ix (kix (K := K) rfl) (xv 1) (pe_call (ok__law_take T) (hr.mono (by decide)) (by rfl) T.g__law_take T.F__law_take.kp T.b__law_take .nil pass0 (pa_cons (xv 0) (pa_cons (pe_callB (kc_len (K := K) rfl) (by rfl) T.n_len (by decide +kernel) (pa_cons (xv 1) pa_nil)) pa_nil))) (fun _ _ => rfl)))), ?_⟩
    obtain ⟨s, cl, n, St, hn, ⟨l, rfl, h0, hl, q⟩ | ⟨p, xs, rfl, hp, ps, h0, hl, q⟩⟩ := h
    · have hz : (S l).length ≤ sizeLine := by rw [S_len, sl_big]; omega
      have h1 := List.length_pos_iff.mpr h0
      refine ⟨hz, s, cl, n, _, rfl, St, hn, by rw [S_len]; omega, fun r H1 hr k S1 => ?_⟩
      rw [S_len] at hr
      have hr' : r < l.length := by omega
      refine ⟨hz, l[r], atI_nat (List.getElem?_eq_getElem hr'), ?_⟩
      exact q _ _ (List.getElem_mem hr') k S1
    · have h1 := List.length_pos_iff.mpr h0
      refine ⟨xs, Sq.l hp, s, cl, n, _, rfl, St, hn, by omega, fun r H1 hr k S1 => ?_⟩
      have hr' : r < xs.length := by omega
      refine ⟨xs, xs[r], Sq.l (k _ _ ps hp), atI_nat (List.getElem?_eq_getElem hr'), ?_⟩
      exact q _ _ (List.getElem_mem hr') k S1
def sp__law_near (K : PySem.W.Frag) : Sp := fun vs H Q _ => ∃ (s cl : Addr) (n : Nat) (lo hi : Int), vs = [.ref s, .int lo, .int hi] ∧ Sto s cl n H ∧ n + 2 < 1000000000000 ∧ 0 ≤ lo ∧ lo ≤ hi ∧ hi ≤ 100000000 ∧
  ∀ (r : Nat) H', lo ≤ (r : Int) → (r : Int) ≤ hi → Keep s H H' → Sto s cl (n + 2) H' → Q (.int (r : Nat)) H'
theorem sc__law_near : FnScope ["store", "low", "high", "style"] ["store", "low", "high"] (defScope (topS 9)) := ⟨rfl, rfl, rfl, by decide +kernel, rfl, by decide +kernel, by decide +kernel⟩
theorem ok__law_near {P : Program} {w : World} {K : PySem.W.Frag} {mg : Str → Option Value} {base : Heap} (T : Top K mg) : FnOk P w K mg base CX0 3 T.a__law_near T.fd__law_near ["store", "low", "high"] (sp__law_near K) := by
  refine T.F__law_near.ok (k := 2) sc__law_near (fun vs H Q E h => ?_) (fun cdv A outer s0 H vs Q E hr h => ?_)
  · obtain ⟨s, cl, n, lo, hi, rfl, _⟩ := h; rfl
  · have sc := sc__law_near
    refine ⟨_, (pss_cons (ps_set (i := 3) sc.nd rfl (by first | exact Or.inl rfl | exact Or.inr rfl) (pe_call (ok__law_take T) (hr.mono (by decide)) (by rfl) T.g__law_take T.F__law_take.kp T.b__law_take .nil pass0 (pa_cons (xv 0) (pa_cons pe_int pa_nil))))
      (pss_cons (xs_if (xtc (ko_eq (K := K) rfl hr.units) (xv 3) pe_int (nomark _)) (pss_one (ps_ret (xv 1))) pss_nil)
      (pss_cons (xs_if (xtc (ko_eq (K := K) rfl hr.units) (xv 3) pe_int (nomark _)) (pss_one (ps_ret (xv 2))) pss_nil)
      (pss_one (ps_ret (pe_op (ko_add (K := K) rfl) (xv 1) (pe_call (ok__law_take T) (hr.mono (by decide)) (by rfl) T.g__law_take T.F__law_take.kp T.b__law_take .nil pass0 (pa_cons (xv 0) (pa_cons (pe_op (ko_add (K := K) rfl) (pe_op xo_sub (xv 2) (xv 1)) pe_int) pa_nil))))))))), ?_⟩
    obtain ⟨s, cl, n, lo, hi, rfl, St, hn, h0, h1, h2, q⟩ := h
    refine ⟨s, cl, n, _, rfl, St, by omega, by decide, fun r H1 hr k S1 => ?_⟩
    refine ⟨fun c => ?_, fun c => ⟨fun c => ?_, fun c => ?_⟩⟩
    · have e := q lo.toNat H1 (by omega) (by omega) k (S1.mono (by omega))
      rw [Int.toNat_of_nonneg h0] at e
      exact e
    · have e := q hi.toNat H1 (by omega) (by omega) k (S1.mono (by omega))
      rw [Int.toNat_of_nonneg (by omega)] at e
      exact e
    · refine ⟨s, cl, n + 1, _, rfl, S1, by omega, by omega, fun r2 H2 hr2 k2 S2 => ?_⟩
      have e := q (lo + r2).toNat H2 (by omega) (by omega) (k.trans k2) S2
      rw [Int.toNat_of_nonneg (by omega)] at e
      exact e
def sp__law_order (K : PySem.W.Frag) : Sp := fun vs H Q _ => ∃ (s cl : Addr) (n : Nat) (p : Addr) (xs : List V), vs = [.ref s, .ref p] ∧ Sto s cl n H ∧ n + 1002 < 1000000000000 ∧ H p = some (.lst xs) ∧ p ≠ s ∧ xs.length ≤ 1000 ∧
  ∀ (r : Addr) (ys : List V) H', ys.Perm xs → H r = none → H' r = some (.lst ys) → Keep s H H' → Sto s cl (n + 1002) H' → Q (.ref r) H'
theorem sc__law_order : FnScope ["store", "items", "style", "rest", "order", "k"] ["store", "items"] (defScope (topS 19)) := ⟨rfl, rfl, rfl, by decide +kernel, rfl, by decide +kernel, by decide +kernel⟩
theorem ok__law_order {P : Program} {w : World} {K : PySem.W.Frag} {mg : Str → Option Value} {base : Heap} (T : Top K mg) : FnOk P w K mg base CX0 3 T.a__law_order T.fd__law_order ["store", "items"] (sp__law_order K) := by
  refine T.F__law_order.ok (k := 2) sc__law_order (fun vs H Q E h => ?_) (fun cdv A outer s0 H vs Q E hr h => ?_)
  · obtain ⟨s, cl, n, p, xs, rfl, _⟩ := h; rfl
  · have sc := sc__law_order
    refine ⟨_, (pss_cons (ps_set (i := 2) sc.nd rfl (by first | exact Or.inl rfl | exact Or.inr rfl) (pe_call (ok__law_take T) (hr.mono (by decide)) (by rfl) T.g__law_take T.F__law_take.kp T.b__law_take .nil pass0 (pa_cons (xv 0) (pa_cons pe_int pa_nil))))
      (pss_cons (xs_if (xtc (ko_eq (K := K) rfl hr.units) (xv 2) pe_int (nomark _)) (pss_one (ps_ret (pe_callTy (kc_list (K := K) rfl rfl) (by rfl) T.n_list (by decide +kernel) (pa_cons (xv 1) pa_nil)))) pss_nil)
      (pss_cons (xs_if (xtc (ko_eq (K := K) rfl hr.units) (xv 2) pe_int (nomark _)) (pss_one (ps_ret (ke_rev (K := K) rfl (pe_callTy (kc_list (K := K) rfl rfl) (by rfl) T.n_list (by decide +kernel) (pa_cons (xv 1) pa_nil))))) pss_nil)
      (pss_cons (ps_set (i := 3) sc.nd rfl (by first | exact Or.inl rfl | exact Or.inr rfl) (pe_callTy (kc_list (K := K) rfl rfl) (by rfl) T.n_list (by decide +kernel) (pa_cons (xv 1) pa_nil)))
      (pss_cons (ps_set (i := 4) sc.nd rfl (by first | exact Or.inl rfl | exact Or.inr rfl) (pe_lst pa_nil))
      (pss_cons (ps_for PassesOwn.never rfl (pi_range1 (by rfl) T.n_range (pa_cons (pe_callB (kc_len (K := K) rfl) (by rfl) T.n_len (by decide +kernel) (pa_cons (xv 1) pa_nil)) pa_nil)) (pg_name (i := 5) sc.nd rfl (by first | exact Or.inl rfl | exact Or.inr rfl)) (pss_one (ps_expr (ke_bm (K := K) rfl PySem.F.plainAttrs_list PySem.F.slot_list_append PySem.F.type_list_append xm_append (xv 4) (pa_cons (ke_bm (K := K) rfl PySem.F.plainAttrs_list PySem.F.slot_list_pop PySem.F.type_list_pop xm_pop (xv 3) (pa_cons (pe_call (ok__law_take T) (hr.mono (by decide)) (by rfl) T.g__law_take T.F__law_take.kp T.b__law_take .nil pass0 (pa_cons (xv 0) (pa_cons (pe_callB (kc_len (K := K) rfl) (by rfl) T.n_len (by decide +kernel) (pa_cons (xv 3) pa_nil)) pa_nil))) pa_nil)) pa_nil)))))
      (pss_one (ps_ret (xv 4))))))))), ?_⟩
    obtain ⟨s, cl, n, p, xs, rfl, St, hn, hp, ps, hl, q⟩ := h
    refine ⟨s, cl, n, _, rfl, St, by omega, by decide, fun sty H1 _ k1 S1 => ?_⟩
    have hp1 := k1 _ _ ps hp
    refine ⟨fun c => ?_, fun c1 => ⟨fun c => ?_, fun c2 => ?_⟩⟩
    · refine ⟨xs, Sq.l hp1, fun r hr => ?_⟩
      exact q r xs _ (List.Perm.refl _) (k1.free (S1.ne hr) hr) upd_same (k1.trans (Keep.new hr)) ((S1.new hr).mono (by omega))
    · refine ⟨xs, Sq.l hp1, fun r hr => ⟨xs, SqL.of upd_same, fun r2 hr2 => ?_⟩⟩
      have S2 := S1.new (o := .lst xs) hr
      exact q r2 xs.reverse _ (List.reverse_perm xs) (k1.free (S2.ne hr2) ((same_new hr).free hr2)) upd_same (k1.trans ((Keep.new hr).trans (Keep.new hr2))) ((S2.new hr2).mono (by omega))
    refine ⟨xs, Sq.l hp1, fun ra hra => ⟨sl_of (n := 0) rfl, fun oa hoa => ?_⟩⟩
    have S2 : Sto s cl (n + 1) (upd (upd H1 ra (.lst xs)) oa (.lst [])) := (S1.new hra).new hoa
    have k2 : Keep s H (upd (upd H1 ra (.lst xs)) oa (.lst [])) := k1.trans ((Keep.new hra).trans (Keep.new hoa))
    have ras := S1.ne hra
    have rac := S1.nec hra
    have oas := (S1.new (o := .lst xs) hra).ne hoa
    have oac := (S1.new (o := .lst xs) hra).nec hoa
    have rao : ra ≠ oa := ne_of_none upd_same hoa
    have hoa0 : H oa = none := k1.free oas ((same_new hra).free hoa)
    have hra0 : H ra = none := k1.free ras hra
    have kput : ∀ {H' : Hp} {o : HO}, Keep s H H' → Keep s H (upd H' oa o) := fun {H' o} k b u ne e => (upd_ne (ne_of_none e hoa0)).trans (k b u ne e)
    have kputr : ∀ {H' : Hp} {o : HO}, Keep s H H' → Keep s H (upd H' ra o) := fun {H' o} k b u ne e => (upd_ne (ne_of_none e hra0)).trans (k b u ne e)
    refine ⟨_, Sq.l (k2 _ _ ps hp), ?_⟩
    refine ⟨_, rfl, by omega, by omega, ?_⟩
    rw [Int.toNat_natCast]
    refine for_range (lo := 0) (n := xs.length) (fun i σ H4 => ∃ (y : Option V) (rs os : List V), σ = [some (.ref s), some (.ref p), some (.int (sty : Nat)), some (.ref ra), some (.ref oa), y] ∧ rs.length = xs.length - i ∧ os.length = i ∧ (os ++ rs).Perm xs ∧
      H4 ra = some (.lst rs) ∧ H4 oa = some (.lst os) ∧ Keep s H H4 ∧ Sto s cl (n + 1 + i) H4) ⟨none, xs, [], rfl, rfl, rfl, List.Perm.refl _, (upd_ne rao).trans upd_same, upd_same, k2, S2⟩ (fun i σ H4 hi hW => ?_) (fun σ H4 hW => ?_)
    · obtain ⟨y, rs, os, rfl, l1, l2, pm, hra4, hoa4, k4, S4⟩ := hW
      refine ⟨tyL hoa4, tyL hra4, _, Sq.l hra4, s, cl, n + 1 + i, _, rfl, S4, by omega, by omega, fun r H5 hr k5 S5 => ?_⟩
      have hr' : r < rs.length := by omega
      refine ⟨rs, r, rs[r], k5 _ _ ras hra4, rfl, by omega, List.getElem?_eq_getElem hr', ?_⟩
      refine ⟨os, (upd_ne (Ne.symm rao)).trans (k5 _ _ oas hoa4), by rw [sl_big]; omega, ?_⟩
      refine ⟨_, rs.eraseIdx r, os ++ [rs[r]], rfl, by rw [List.length_eraseIdx_of_lt hr']; omega, by rw [List.length_append, l2]; rfl, ?_, (upd_ne rao).trans upd_same, upd_same, kput (kputr (k4.trans k5)), ((S5.put ras rac).put oas oac)⟩
      refine List.Perm.trans ?_ pm
      rw [List.append_assoc]
      exact List.Perm.append_left os (perm_pick (List.getElem?_eq_getElem hr'))
    · obtain ⟨y, rs, os, rfl, l1, l2, pm, hra4, hoa4, k4, S4⟩ := hW
      have : rs = [] := List.length_eq_zero_iff.mp (by omega)
      subst this
      rw [List.append_nil] at pm
      exact q oa os H4 pm hoa0 hoa4 k4 (S4.mono (by omega))
def sp__law_either (K : PySem.W.Frag) : Sp := fun vs H Q _ => ∃ (s cl : Addr) (n : Nat) (p : Addr) (xs : List V), vs = [.ref s, .ref p] ∧ Sto s cl n H ∧ n < 1000000000000 ∧ H p = some (.lst xs) ∧ p ≠ s ∧
  ∀ (r : Addr) H', Keep s H H' → Sto s cl (n + 1) H' → H r = none → (H' r = some (.lst xs) ∨ H' r = some (.tup xs)) → Q (.ref r) H'
theorem sc__law_either : FnScope ["store", "items"] ["store", "items"] (defScope (topS 11)) := ⟨rfl, rfl, rfl, by decide +kernel, rfl, by decide +kernel, by decide +kernel⟩
theorem ok__law_either {P : Program} {w : World} {K : PySem.W.Frag} {mg : Str → Option Value} {base : Heap} (T : Top K mg) : FnOk P w K mg base CX0 4 T.a__law_either T.fd__law_either ["store", "items"] (sp__law_either K) := by
  refine T.F__law_either.ok (k := 3) sc__law_either (fun vs H Q E h => ?_) (fun cdv A outer s0 H vs Q E hr h => ?_)
  · obtain ⟨s, cl, n, p, xs, rfl, _⟩ := h; rfl
  · have sc := sc__law_either
    refine ⟨_, (pss_cons (xs_if (xt (pe_call (ok__law_yes T) (hr.mono (by decide)) (by rfl) T.g__law_yes T.F__law_yes.kp T.b__law_yes .nil pass0 (pa_cons (xv 0) (pa_cons pe_int pa_nil)))) (pss_one (ps_ret (pe_callTy (kc_list (K := K) rfl rfl) (by rfl) T.n_list (by decide +kernel) (pa_cons (xv 1) pa_nil)))) pss_nil)
      (pss_one (ps_ret (pe_callTy (kc_tuple (K := K) rfl) (by rfl) T.n_tuple (by decide +kernel) (pa_cons (xv 1) pa_nil))))), ?_⟩
    obtain ⟨s, cl, n, p, xs, rfl, St, hn, hp, ps, q⟩ := h
    refine ⟨s, cl, n, _, rfl, St, hn, by decide, fun b H1 k S1 => ⟨fun _ => ?_, fun _ => ?_⟩⟩
    · refine ⟨xs, Sq.l (k _ _ ps hp), fun r hr => ?_⟩
      exact q r _ (k.trans (Keep.new hr)) (S1.new hr) (k.free (S1.ne hr) hr) (.inl upd_same)
    · refine .inl ⟨xs, SqL.of (k _ _ ps hp), fun r hr => ?_⟩
      exact q r _ (k.trans (Keep.new hr)) (S1.new hr) (k.free (S1.ne hr) hr) (.inr upd_same)
def sp__law_raw_name (K : PySem.W.Frag) : Sp := fun vs H Q _ => ∃ (s cl : Addr) (n : Nat), vs = [.ref s] ∧ Sto s cl n H ∧ n + 9 < 1000000000000 ∧
  ∀ (l : List Nat) H', IsNm l → Keep s H H' → Sto s cl (n + 9) H' → Q (.str (S l)) H'
theorem sc__law_raw_name : FnScope ["store", "name", "turn"] ["store"] (defScope (topS 13)) := ⟨rfl, rfl, rfl, by decide +kernel, rfl, by decide +kernel, by decide +kernel⟩
theorem ok__law_raw_name {P : Program} {w : World} {K : PySem.W.Frag} {mg : Str → Option Value} {base : Heap} (T : Top K mg) : FnOk P w K mg base CX0 4 T.a__law_raw_name T.fd__law_raw_name ["store"] (sp__law_raw_name K) := by
  refine T.F__law_raw_name.ok (k := 3) sc__law_raw_name (fun vs H Q E h => ?_) (fun cdv A outer s0 H vs Q E hr h => ?_)
  · obtain ⟨s, cl, n, rfl, _⟩ := h; rfl
  · have sc := sc__law_raw_name
    refine ⟨_, (pss_cons (ps_set (i := 1) sc.nd rfl (by first | exact Or.inl rfl | exact Or.inr rfl) (pe_call (ok__law_pick T) (hr.mono (by decide)) (by rfl) T.g__law_pick T.F__law_pick.kp T.b__law_pick .nil pass0 (pa_cons (xv 0) (pa_cons pe_str pa_nil))))
      (pss_cons (ps_for PassesOwn.never rfl (pi_range1 (by rfl) T.n_range (pa_cons (pe_call (ok__law_take T) (hr.mono (by decide)) (by rfl) T.g__law_take T.F__law_take.kp T.b__law_take .nil pass0 (pa_cons (xv 0) (pa_cons pe_int pa_nil))) pa_nil)) (pg_name (i := 2) sc.nd rfl (by first | exact Or.inl rfl | exact Or.inr rfl)) (pss_one (ps_set (i := 1) sc.nd rfl (by first | exact Or.inl rfl | exact Or.inr rfl) (pe_op (ko_add (K := K) rfl) (xv 1) (pe_call (ok__law_pick T) (hr.mono (by decide)) (by rfl) T.g__law_pick T.F__law_pick.kp T.b__law_pick .nil pass0 (pa_cons (xv 0) (pa_cons pe_str pa_nil)))))))
      (pss_cons (xs_if (PW.pt (xw_or (xtc (ko_eq (K := K) rfl hr.units) (xv 1) pe_str (nomark _)) (pw_or1 (xtc (ko_eq (K := K) rfl hr.units) (xv 1) pe_str (nomark _))))) (pss_one (ps_ret (pe_op (ko_add (K := K) rfl) (xv 1) pe_str))) pss_nil)
      (pss_one (ps_ret (xv 1)))))), ?_⟩
    obtain ⟨s, cl, n, rfl, St, hn, q⟩ := h
    rw [lit_az, lit_az9, lit_0]
    refine ⟨s, cl, n, St, by omega, .inl ⟨aZ, rfl, by decide, by decide, fun c H1 hc k1 S1 => ?_⟩⟩
    have w0 : word [c] = true := by
      show (low c && [c].all lowD) = true
      rw [mem_az.mp hc]
      simp [low_lowD (mem_az.mp hc)]
    refine ⟨s, cl, n + 1, _, rfl, S1, by omega, by decide, fun r H2 hr k2 S2 => ?_⟩
    refine ⟨r, rfl, by omega, by omega, ?_⟩
    refine for_range (lo := 0) (n := (r : Int).toNat) (fun i σ H3 => ∃ l y, σ = [some (.ref s), some (.str (S l)), y] ∧ word l = true ∧ l.length = i + 1 ∧ Keep s H H3 ∧ Sto s cl (n + 2 + i) H3) ⟨[c], none, rfl, w0, rfl, k1.trans k2, S2⟩ (fun i σ H3 hi hW => ?_) (fun σ H3 hW => ?_)
    · obtain ⟨l, y, rfl, w1, e1, k3, S3⟩ := hW
      refine ⟨s, cl, n + 2 + i, S3, by omega, .inl ⟨aZ9, rfl, by decide, by decide, fun c H4 hc k4 S4 => ?_⟩⟩
      refine ⟨by rw [S_len, S_len, sl_big]; show l.length + 1 ≤ _; omega, ?_⟩
      rw [S_cat]
      exact ⟨l ++ [c], some (.int (0 + i)), rfl, word_app w1 (fun x hx => by rw [List.mem_singleton.mp hx]; exact mem_az9.mp hc), by rw [List.length_append, e1]; rfl, k3.trans k4, S4⟩
    · obtain ⟨l, y, rfl, w1, e1, k3, S3⟩ := hW
      have hr7 : (r : Int).toNat ≤ 7 := by omega
      have Sf := S3.mono (show n + 2 + (r : Int).toNat ≤ n + 9 by omega)
      have sub : (l = [115, 101, 97] ∨ l = [105, 116]) → IsNm (l ++ [48]) := by
        rintro (rfl | rfl)
        · exact nameL_iff.mp (by decide)
        · exact nameL_iff.mp (by decide)
      have two : (l = [115, 101, 97] ∨ l = [105, 116]) → (S l).length + (S [48]).length ≤ sizeLine := by
        rintro (rfl | rfl) <;> (rw [sl_big]; decide)
      refine ⟨fun c => ⟨fun _ => ?_, no_tf⟩, fun c1 => ⟨fun c => ?_, fun c2 => ?_⟩⟩
      · rw [dec_S lit_sea] at c
        have e := of_decide_eq_true c
        refine ⟨two (.inl e), ?_⟩
        rw [S_cat]
        exact q _ _ (sub (.inl e)) k3 Sf
      · rw [dec_S lit_it] at c
        have e := of_decide_eq_true c
        refine ⟨two (.inr e), ?_⟩
        rw [S_cat]
        exact q _ _ (sub (.inr e)) k3 Sf
      · rw [dec_S lit_sea] at c1
        rw [dec_S lit_it] at c2
        exact q _ _ ⟨w1, by omega, of_decide_eq_false c1, of_decide_eq_false c2⟩ k3 Sf
def sp__law_many (K : PySem.W.Frag) : Sp := fun vs H Q _ => ∃ (s cl : Addr) (n : Nat) (p : Addr) (xs : List V) (m : Nat), vs = [.ref s, .ref p, .int (m : Nat)] ∧ Sto s cl n H ∧ n + 1000 < 1000000000000 ∧ H p = some (.lst xs) ∧ p ≠ s ∧ xs.length ≤ 1000 ∧ m ≤ 1000 ∧
  ∀ (r : Addr) (ys : List V) H', ys.length ≤ m → (∀ y ∈ ys, y ∈ xs) → H r = none → H' r = some (.lst ys) → Keep s H H' → Sto s cl (n + 1000) H' → Q (.ref r) H'
theorem sc__law_many : FnScope ["store", "items", "many", "k"] ["store", "items", "many"] (defScope (topS 20)) := ⟨rfl, rfl, rfl, by decide +kernel, rfl, by decide +kernel, by decide +kernel⟩
theorem ok__law_many {P : Program} {w : World} {K : PySem.W.Frag} {mg : Str → Option Value} {base : Heap} (T : Top K mg) : FnOk P w K mg base CX0 4 T.a__law_many T.fd__law_many ["store", "items", "many"] (sp__law_many K) := by
  refine T.F__law_many.ok (k := 3) sc__law_many (fun vs H Q E h => ?_) (fun cdv A outer s0 H vs Q E hr h => ?_)
  · obtain ⟨s, cl, n, p, xs, m, rfl, _⟩ := h; rfl
  · have sc := sc__law_many
    refine ⟨_, (pss_cons (xs_if (xtc (ko_eq (K := K) rfl hr.units) (pe_callB (kc_len (K := K) rfl) (by rfl) T.n_len (by decide +kernel) (pa_cons (xv 1) pa_nil)) pe_int (nomark _)) (pss_one (ps_ret (pe_lst pa_nil))) pss_nil)
      (pss_one (ps_ret (pe_lc (own := [("k", 3)]) (g := gName 3) rfl sc.nd (pi_range1 (by rfl) T.n_range (pa_cons (xv 2) pa_nil)) (blkOk_by (N := ["store", "items", "many", "k"]) (sc := defScope (topS 20)) (by decide +kernel)) (fun _ _ _ _ _ => (pg_name (i := 3) sc.nd rfl (by first | exact Or.inl rfl | exact Or.inr rfl))) (fun _ _ _ _ _ => pts_nil) (fun _ _ _ _ _ => (pe_call (ok__law_pick T) (hr.mono (by decide)) (by rfl) T.g__law_pick T.F__law_pick.kp T.b__law_pick .nil pass0 (pa_cons (xv 0) (pa_cons (xv 1) pa_nil)))))))), ?_⟩
    obtain ⟨s, cl, n, p, xs, m, rfl, St, hn, hp, ps, hl, hm, q⟩ := h
    refine ⟨_, Sq.l hp, fun c => ?_, fun c => ?_⟩
    · refine ⟨sl_of (n := 0) rfl, fun r hr => ?_⟩
      exact q r [] _ (Nat.zero_le _) (fun y hy => by simp at hy) hr upd_same (Keep.new hr) ((St.new hr).mono (by omega))
    have c' : ¬ ((xs.length : Nat) : Int) = 0 := of_decide_eq_false c
    have ne : xs ≠ [] := fun e => c' (by rw [e]; rfl)
    refine ⟨(m : Nat), rfl, by omega, by omega, fun D hD => ?_⟩
    rw [Int.toNat_natCast]
    have Ds := St.ne hD
    have Dc := St.nec hD
    refine lc_rng (lo := 0) (n := m) (fun i H1 => ∃ ys : List V, H1 D = some (.lst ys) ∧ ys.length = i ∧ (∀ y ∈ ys, y ∈ xs) ∧ Keep s H H1 ∧ Sto s cl (n + i) H1) (fun _ => rfl) ⟨[], upd_same, rfl, (fun y hy => by simp at hy), Keep.new hD, St.new hD⟩ (fun i H1 hi hW => ?_) (fun H1 hW => ?_)
    · obtain ⟨ys, h1, h2, h3, k1, S1⟩ := hW
      refine ⟨s, cl, n + i, S1, by omega, .inr ⟨p, xs, rfl, k1 _ _ ps hp, ps, ne, hl, fun v H2 hv k2 S2 => ?_⟩⟩
      refine ⟨ys, k2 _ _ Ds h1, by rw [sl_big]; omega, ys ++ [v], upd_same, by rw [List.length_append, h2]; rfl, fun y hy => ?_, ?_, S2.put Ds Dc⟩
      · rcases List.mem_append.mp hy with hy | hy
        · exact h3 y hy
        · rw [List.mem_singleton.mp hy]; exact hv
      · exact fun b u nb e => (upd_ne (ne_of_none e hD)).trans ((k1.trans k2) b u nb e)
    · obtain ⟨ys, h1, h2, h3, k1, S1⟩ := hW
      exact q D ys H1 (by omega) h3 hD h1 k1 (S1.mono (by omega))
def sp__law_repeated (K : PySem.W.Frag) : Sp := fun vs H Q _ => ∃ (s cl : Addr) (n : Nat) (p : Addr) (xs : List V), vs = [.ref s, .ref p] ∧ Sto s cl n H ∧ n + 2 < 1000000000000 ∧ H p = some (.lst xs) ∧ p ≠ s ∧ xs.length ≤ 1000 ∧ xs ≠ [] ∧
  ∀ (r t : Addr) (v : V) (ys : List V) H', ys.length = xs.length + 1 → (∀ y ∈ ys, y ∈ xs) → v ∈ xs → H r = none → H' r = some (.lst ys) → H' t = some (.tup [.ref r, v]) → Keep s H H' → Sto s cl (n + 2) H' → Q (.ref t) H'
theorem sc__law_repeated : FnScope ["store", "items", "again", "at"] ["store", "items"] (defScope (topS 21)) := ⟨rfl, rfl, rfl, by decide +kernel, rfl, by decide +kernel, by decide +kernel⟩
theorem ok__law_repeated {P : Program} {w : World} {K : PySem.W.Frag} {mg : Str → Option Value} {base : Heap} (T : Top K mg) : FnOk P w K mg base CX0 4 T.a__law_repeated T.fd__law_repeated ["store", "items"] (sp__law_repeated K) := by
  refine T.F__law_repeated.ok (k := 3) sc__law_repeated (fun vs H Q E h => ?_) (fun cdv A outer s0 H vs Q E hr h => ?_)
  · obtain ⟨s, cl, n, p, xs, rfl, _⟩ := h; rfl
  · have sc := sc__law_repeated
    refine ⟨_, (pss_cons (ps_set (i := 2) sc.nd rfl (by first | exact Or.inl rfl | exact Or.inr rfl) (pe_call (ok__law_pick T) (hr.mono (by decide)) (by rfl) T.g__law_pick T.F__law_pick.kp T.b__law_pick .nil pass0 (pa_cons (xv 0) (pa_cons (xv 1) pa_nil))))
      (pss_cons (ps_set (i := 3) sc.nd rfl (by first | exact Or.inl rfl | exact Or.inr rfl) (pe_call (ok__law_take T) (hr.mono (by decide)) (by rfl) T.g__law_take T.F__law_take.kp T.b__law_take .nil pass0 (pa_cons (xv 0) (pa_cons (pe_op (ko_add (K := K) rfl) (pe_callB (kc_len (K := K) rfl) (by rfl) T.n_len (by decide +kernel) (pa_cons (xv 1) pa_nil)) pe_int) pa_nil))))
      (pss_one (ps_ret (pe_tup (pa_cons (pe_op (ko_add (K := K) rfl) (pe_op (ko_add (K := K) rfl) (pe_slice (ksl (K := K) rfl) (pe_callTy (kc_list (K := K) rfl rfl) (by rfl) T.n_list (by decide +kernel) (pa_cons (xv 1) pa_nil)) po_none (po_some (xv 3))) (pe_lst (pa_cons (xv 2) pa_nil))) (pe_slice (ksl (K := K) rfl) (pe_callTy (kc_list (K := K) rfl rfl) (by rfl) T.n_list (by decide +kernel) (pa_cons (xv 1) pa_nil)) (po_some (xv 3)) po_none)) (pa_cons (xv 2) pa_nil))))))), ?_⟩
    obtain ⟨s, cl, n, p, xs, rfl, St, hn, hp, ps, hl, ne, q⟩ := h
    refine ⟨s, cl, n, St, by omega, .inr ⟨p, xs, rfl, hp, ps, ne, hl, fun v H1 hv k1 S1 => ?_⟩⟩
    refine ⟨_, Sq.l (k1 _ _ ps hp), s, cl, n + 1, _, rfl, S1, by omega, by omega, fun a H2 ha k2 S2 => ?_⟩
    have k12 := k1.trans k2
    have hp2 := k12 _ _ ps hp
    refine ⟨xs, Sq.l hp2, fun l1 n1 => ?_⟩
    refine ⟨_, rfl, xs, SqL.of upd_same, fun l2 n2 => ?_⟩
    rw [cutV_to]
    refine ⟨sl_of (n := 1) rfl, fun l3 n3 => ?_⟩
    have tl : (xs.take a).length ≤ xs.length := by rw [List.length_take]; omega
    have dl : (xs.drop a).length ≤ xs.length := by rw [List.length_drop]; omega
    refine .inl ⟨xs.take a, [v], same_new n3 _ _ upd_same, upd_same, by rw [sl_big]; show _ + 1 ≤ _; omega, fun l4 n4 => ?_⟩
    refine ⟨xs, Sq.l (same_new n4 _ _ (same_new n3 _ _ (same_new n2 _ _ (same_new n1 _ _ hp2)))), fun l5 n5 => ?_⟩
    refine ⟨_, rfl, xs, SqL.of upd_same, fun l6 n6 => ?_⟩
    rw [cutV_from]
    refine .inl ⟨xs.take a ++ [v], xs.drop a, same_new n6 _ _ (same_new n5 _ _ upd_same), upd_same, by rw [sl_big, List.length_append]; show _ + 1 + _ ≤ _; omega, fun l7 n7 => ?_⟩
    refine ⟨sl_of (n := 2) rfl, fun t nt => ?_⟩
    have sm : Same H2 _ := (same_new n1).trans ((same_new n2).trans ((same_new n3).trans ((same_new n4).trans ((same_new n5).trans (same_new (o := .lst (xs.drop a)) n6)))))
    have S6 := S2.same sm
    refine q l7 t v (xs.take a ++ [v] ++ xs.drop a) _ ?_ (fun y hy => ?_) hv (k12.free (S6.ne n7) (sm.free n7)) (same_new nt _ _ upd_same) upd_same (k12.trans ((Same.keep sm).trans ((Keep.new n7).trans (Keep.new nt)))) ((S6.new n7).new nt)
    · rw [List.length_append, List.length_append, List.length_take, List.length_drop]
      show _ + 1 + _ = _
      omega
    · rcases List.mem_append.mp hy with hy | hy
      · rcases List.mem_append.mp hy with hy | hy
        · exact List.mem_of_mem_take hy
        · rw [List.mem_singleton.mp hy]; exact hv
      · exact List.mem_of_mem_drop hy
def sp__law_bent_list (K : PySem.W.Frag) : Sp := fun vs H Q _ => ∃ (s cl : Addr) (n : Nat) (p o : Addr) (xs zs : List V), vs = [.ref s, .ref p, .ref o] ∧ Sto s cl n H ∧ n + 4 < 1000000000000 ∧ H p = some (.lst xs) ∧ p ≠ s ∧ xs.length ≤ 1000 ∧ H o = some (.lst zs) ∧ o ≠ s ∧ zs.length ≤ 1000 ∧ zs ≠ [] ∧
  ∀ (r : Addr) (ys : List V) H', ys.length ≤ xs.length + 1 → (∀ y ∈ ys, y ∈ xs ∨ y ∈ zs) → H r = none → H' r = some (.lst ys) → Keep s H H' → Sto s cl (n + 4) H' → Q (.ref r) H'
theorem sc__law_bent_list : FnScope ["store", "items", "others", "bent", "style", "at", "item"] ["store", "items", "others"] (defScope (topS 22)) := ⟨rfl, rfl, rfl, by decide +kernel, rfl, by decide +kernel, by decide +kernel⟩
theorem ok__law_bent_list {P : Program} {w : World} {K : PySem.W.Frag} {mg : Str → Option Value} {base : Heap} (T : Top K mg) : FnOk P w K mg base CX0 4 T.a__law_bent_list T.fd__law_bent_list ["store", "items", "others"] (sp__law_bent_list K) := by
  refine T.F__law_bent_list.ok (k := 3) sc__law_bent_list (fun vs H Q E h => ?_) (fun cdv A outer s0 H vs Q E hr h => ?_)
  · obtain ⟨s, cl, n, p, o, xs, zs, rfl, _⟩ := h; rfl
  · have sc := sc__law_bent_list
    refine ⟨_, (pss_cons (ps_set (i := 3) sc.nd rfl (by first | exact Or.inl rfl | exact Or.inr rfl) (pe_callTy (kc_list (K := K) rfl rfl) (by rfl) T.n_list (by decide +kernel) (pa_cons (xv 1) pa_nil)))
      (pss_cons (ps_set (i := 4) sc.nd rfl (by first | exact Or.inl rfl | exact Or.inr rfl) (pe_call (ok__law_take T) (hr.mono (by decide)) (by rfl) T.g__law_take T.F__law_take.kp T.b__law_take .nil pass0 (pa_cons (xv 0) (pa_cons pe_int pa_nil))))
      (pss_cons (ps_set (i := 5) sc.nd rfl (by first | exact Or.inl rfl | exact Or.inr rfl) (pe_call (ok__law_take T) (hr.mono (by decide)) (by rfl) T.g__law_take T.F__law_take.kp T.b__law_take .nil pass0 (pa_cons (xv 0) (pa_cons (pe_callB (kc_len (K := K) rfl) (by rfl) T.n_len (by decide +kernel) (pa_cons (xv 3) pa_nil)) pa_nil))))
      (xss_cut (xs_if (PW.pt (xw_or (xtc (ko_eq (K := K) rfl hr.units) (pe_callB (kc_len (K := K) rfl) (by rfl) T.n_len (by decide +kernel) (pa_cons (xv 3) pa_nil)) pe_int (nomark _)) (pw_or1 (xtc (ko_eq (K := K) rfl hr.units) (xv 4) pe_int (nomark _))))) (pss_one (ps_expr (ke_bm (K := K) rfl PySem.F.plainAttrs_list PySem.F.slot_list_insert PySem.F.type_list_insert xm_insert (xv 3) (pa_cons (pe_call (ok__law_take T) (hr.mono (by decide)) (by rfl) T.g__law_take T.F__law_take.kp T.b__law_take .nil pass0 (pa_cons (xv 0) (pa_cons (pe_op (ko_add (K := K) rfl) (pe_callB (kc_len (K := K) rfl) (by rfl) T.n_len (by decide +kernel) (pa_cons (xv 3) pa_nil)) pe_int) pa_nil))) (pa_cons (pe_call (ok__law_pick T) (hr.mono (by decide)) (by rfl) T.g__law_pick T.F__law_pick.kp T.b__law_pick .nil pass0 (pa_cons (xv 0) (pa_cons (xv 2) pa_nil))) pa_nil))))) (pss_one (xs_if (xtc (ko_eq (K := K) rfl hr.units) (xv 4) pe_int (nomark _)) (pss_one (ps_expr (ke_bm (K := K) rfl PySem.F.plainAttrs_list PySem.F.slot_list_pop PySem.F.type_list_pop xm_pop (xv 3) (pa_cons (xv 5) pa_nil)))) (pss_one (xs_if (xtc (ko_eq (K := K) rfl hr.units) (xv 4) pe_int (nomark _)) (pss_one (ps_expr (ke_bm (K := K) rfl PySem.F.plainAttrs_list PySem.F.slot_list_insert PySem.F.type_list_insert xm_insert (xv 3) (pa_cons (pe_call (ok__law_take T) (hr.mono (by decide)) (by rfl) T.g__law_take T.F__law_take.kp T.b__law_take .nil pass0 (pa_cons (xv 0) (pa_cons (pe_op (ko_add (K := K) rfl) (pe_callB (kc_len (K := K) rfl) (by rfl) T.n_len (by decide +kernel) (pa_cons (xv 3) pa_nil)) pe_int) pa_nil))) (pa_cons (pe_ix (kix (K := K) rfl) (xv 3) (xv 5) (fun _ _ => rfl)) pa_nil))))) (pss_one (xs_if (PW.pt (xw_and (xtc (ko_eq (K := K) rfl hr.units) (xv 4) pe_int (nomark _)) (pw_and1 (xtc xo_gt (pe_callB (kc_len (K := K) rfl) (by rfl) T.n_len (by decide +kernel) (pa_cons (xv 3) pa_nil)) pe_int (nomark _))))) (pss_cons (ps_set (i := 6) sc.nd rfl (by first | exact Or.inl rfl | exact Or.inr rfl) (ke_bm (K := K) rfl PySem.F.plainAttrs_list PySem.F.slot_list_pop PySem.F.type_list_pop xm_pop (xv 3) (pa_cons (xv 5) pa_nil)))
      (pss_one (ps_expr (ke_bm (K := K) rfl PySem.F.plainAttrs_list PySem.F.slot_list_insert PySem.F.type_list_insert xm_insert (xv 3) (pa_cons (pe_call (ok__law_take T) (hr.mono (by decide)) (by rfl) T.g__law_take T.F__law_take.kp T.b__law_take .nil pass0 (pa_cons (xv 0) (pa_cons (pe_op (ko_add (K := K) rfl) (pe_callB (kc_len (K := K) rfl) (by rfl) T.n_len (by decide +kernel) (pa_cons (xv 3) pa_nil)) pe_int) pa_nil))) (pa_cons (xv 6) pa_nil)))))) (pss_one (xs_if (xtc (ko_eq (K := K) rfl hr.units) (xv 4) pe_int (nomark _)) (pss_one (ps_asg (pe_call (ok__law_pick T) (hr.mono (by decide)) (by rfl) T.g__law_pick T.F__law_pick.kp T.b__law_pick .nil pass0 (pa_cons (xv 0) (pa_cons (xv 2) pa_nil))) (pg_sub (xv 3) (xv 5) xset))) (pss_one (ps_set (i := 3) sc.nd rfl (by first | exact Or.inl rfl | exact Or.inr rfl) (pe_lst pa_nil))))))))))))
      (pss_one (ps_ret (xv 3))))))), ?_⟩
    obtain ⟨s, cl, n, p, o, xs, zs, rfl, St, hn, hp, ps, hl, ho, os, hzl, zne, q⟩ := h
    refine ⟨xs, Sq.l hp, fun b hb => ?_⟩
    have S0 := St.new (o := .lst xs) hb
    have bs := St.ne hb
    have bc := St.nec hb
    refine ⟨s, cl, n, _, rfl, S0, by omega, by decide, fun sty H1 _ k1 S1 => ?_⟩
    have hb1 := k1 _ _ bs upd_same
    refine ⟨_, Sq.l hb1, s, cl, n + 1, _, rfl, S1, by omega, by omega, fun a H2 ha k2 S2 => ?_⟩
    have hb2 := k2 _ _ bs hb1
    have k02 : Keep s H H2 := (Keep.new hb).trans (k1.trans k2)
    have kput : ∀ {H' : Hp} {o : HO}, Keep s H H' → Keep s H (upd H' b o) := fun {H' o} k c u ne e => (upd_ne (ne_of_none e hb)).trans (k c u ne e)
    -- how every way ends
    have fin : ∀ (ys : List V) H', ys.length ≤ xs.length + 1 → (∀ y ∈ ys, y ∈ xs ∨ y ∈ zs) → H' b = some (.lst ys) → Keep s H H' → Sto s cl (n + 4) H' → Q (.ref b) H' := fun ys H' h1 h2 h3 h4 h5 => q b ys H' h1 h2 hb h3 h4 h5
    -- one put in
    have ins : ∀ (xs' : List V) (i : Nat) (v : V), xs'.length ≤ xs.length → (∀ y ∈ xs', y ∈ xs ∨ y ∈ zs) → (v ∈ xs ∨ v ∈ zs) → (xs'.take i ++ [v] ++ xs'.drop i).length ≤ xs.length + 1 ∧ (∀ y ∈ xs'.take i ++ [v] ++ xs'.drop i, y ∈ xs ∨ y ∈ zs) := by
      intro xs' i v h1 h2 h3
      refine ⟨?_, fun y hy => ?_⟩
      · rw [List.length_append, List.length_append, List.length_take, List.length_drop]
        show _ + 1 + _ ≤ _
        omega
      · rcases List.mem_append.mp hy with hy | hy
        · rcases List.mem_append.mp hy with hy | hy
          · exact h2 y (List.mem_of_mem_take hy)
          · rw [List.mem_singleton.mp hy]; exact h3
        · exact h2 y (List.mem_of_mem_drop hy)
    have lz : xs.length < sizeLine := by rw [sl_big]; omega
    refine ⟨fun σ' H' => (∃ (b' : Addr) (y : Option V) (ys : List V), σ' = [some (.ref s), some (.ref p), some (.ref o), some (.ref b'), some (.int (sty : Nat)), some (.int (a : Nat)), y] ∧ ys.length ≤ xs.length + 1 ∧ (∀ y ∈ ys, y ∈ xs ∨ y ∈ zs) ∧ H b' = none ∧ H' b' = some (.lst ys) ∧ Keep s H H' ∧ Sto s cl (n + 4) H'), ?_, ?_⟩
    · have one : ∀ (H' : Hp) (ys : List V), ys.length ≤ xs.length + 1 → (∀ y ∈ ys, y ∈ xs ∨ y ∈ zs) → H' b = some (.lst ys) → Keep s H H' → Sto s cl (n + 4) H' → ∀ y : Option V,
        (∃ (b' : Addr) (y' : Option V) (ys : List V), [some (V.ref s), some (V.ref p), some (V.ref o), some (V.ref b), some (V.int (sty : Nat)), some (V.int (a : Nat)), y] = [some (V.ref s), some (V.ref p), some (V.ref o), some (V.ref b'), some (V.int (sty : Nat)), some (V.int (a : Nat)), y'] ∧ ys.length ≤ xs.length + 1 ∧ (∀ y ∈ ys, y ∈ xs ∨ y ∈ zs) ∧ H b' = none ∧ H' b' = some (.lst ys) ∧ Keep s H H' ∧ Sto s cl (n + 4) H') :=
        fun H' ys h1 h2 h3 h4 h5 y => ⟨b, y, ys, rfl, h1, h2, hb, h3, h4, h5⟩
      have xin : ∀ y ∈ xs, y ∈ xs ∨ y ∈ zs := fun y hy => .inl hy
      refine ⟨_, Sq.l hb2, fun c => ⟨fun _ => ?_, no_tf⟩, fun c1 => ⟨fun c => ?_, fun c2 => ⟨fun c => ?_, fun c3 => ⟨fun c => ?_, fun c4 => ⟨fun c5 => ⟨_, Sq.l hb2, fun c => ?_, fun c6 => ⟨fun c => ?_, fun c7 => ?_⟩⟩, fun c5 => ⟨no_ft, fun _ => ⟨fun c => ?_, fun c7 => ?_⟩⟩⟩⟩⟩⟩⟩
      · refine ⟨tyL hb2, _, Sq.l hb2, s, cl, n + 2, _, rfl, S2, by omega, by omega, fun r H3 hr k3 S3 => ?_⟩
        refine ⟨s, cl, n + 3, S3, by omega, .inr ⟨o, zs, rfl, k3 _ _ os (k02 _ _ os ho), os, zne, hzl, fun v H4 hv k4 S4 => ?_⟩⟩
        refine ⟨xs, k4 _ _ bs (k3 _ _ bs hb2), lz, by omega, by omega, ?_⟩
        obtain ⟨i1, i2⟩ := ins xs ((r : Nat) : Int).toNat v (Nat.le_refl _) xin (.inr hv)
        exact one _ _ i1 i2 upd_same (kput (k02.trans (k3.trans k4))) (S4.put bs bc) _
      · refine ⟨tyL hb2, _, Sq.l hb2, s, cl, n + 2, _, rfl, S2, by omega, by omega, fun r H3 hr k3 S3 => ?_⟩
        refine ⟨s, cl, n + 3, S3, by omega, .inr ⟨o, zs, rfl, k3 _ _ os (k02 _ _ os ho), os, zne, hzl, fun v H4 hv k4 S4 => ?_⟩⟩
        refine ⟨xs, k4 _ _ bs (k3 _ _ bs hb2), lz, by omega, by omega, ?_⟩
        obtain ⟨i1, i2⟩ := ins xs ((r : Nat) : Int).toNat v (Nat.le_refl _) xin (.inr hv)
        exact one _ _ i1 i2 upd_same (kput (k02.trans (k3.trans k4))) (S4.put bs bc) _
      · skip
        have nz : ¬ ((xs.length : Nat) : Int) = 0 := of_decide_eq_false c1
        have ha' : a < xs.length := by omega
        have ga : xs[a]? = some xs[a] := List.getElem?_eq_getElem ha'
        have gm : xs[a] ∈ xs := List.getElem_mem ha'
        refine ⟨tyL hb2, xs, a, xs[a], hb2, rfl, by omega, ga, ?_⟩
        exact one _ _ (by rw [List.length_eraseIdx_of_lt ha']; omega) (fun y hy => .inl ((List.eraseIdx_sublist xs a).subset hy)) upd_same (kput k02) ((S2.put bs bc).mono (by omega)) _
      · skip
        have nz : ¬ ((xs.length : Nat) : Int) = 0 := of_decide_eq_false c1
        have ha' : a < xs.length := by omega
        have ga : xs[a]? = some xs[a] := List.getElem?_eq_getElem ha'
        have gm : xs[a] ∈ xs := List.getElem_mem ha'
        refine ⟨tyL hb2, _, Sq.l hb2, s, cl, n + 2, _, rfl, S2, by omega, by omega, fun r H3 hr k3 S3 => ?_⟩
        refine ⟨xs, xs[a], Sq.l (k3 _ _ bs hb2), atI_nat ga, xs, k3 _ _ bs hb2, lz, by omega, by omega, ?_⟩
        obtain ⟨i1, i2⟩ := ins xs ((r : Nat) : Int).toNat xs[a] (Nat.le_refl _) xin (.inl gm)
        exact one _ _ i1 i2 upd_same (kput (k02.trans k3)) ((S3.put bs bc).mono (by omega)) _
      · skip
        have nz : ¬ ((xs.length : Nat) : Int) = 0 := of_decide_eq_false c1
        have ha' : a < xs.length := by omega
        have ga : xs[a]? = some xs[a] := List.getElem?_eq_getElem ha'
        have gm : xs[a] ∈ xs := List.getElem_mem ha'
        refine ⟨tyL hb2, xs, a, xs[a], hb2, rfl, by omega, ga, ?_⟩
        have el : (xs.eraseIdx a).length = xs.length - 1 := List.length_eraseIdx_of_lt ha'
        refine ⟨tyL upd_same, _, Sq.l upd_same, s, cl, n + 2, _, rfl, S2.put bs bc, by omega, by omega, fun r H3 hr k3 S3 => ?_⟩
        refine ⟨xs.eraseIdx a, k3 _ _ bs upd_same, by omega, by omega, by omega, ?_⟩
        obtain ⟨i1, i2⟩ := ins (xs.eraseIdx a) ((r : Nat) : Int).toNat xs[a] (by omega) (fun y hy => .inl ((List.eraseIdx_sublist xs a).subset hy)) (.inl gm)
        exact one _ _ i1 i2 upd_same (kput ((kput k02).trans k3)) ((S3.put bs bc).mono (by omega)) _
      · skip
        have nz : ¬ ((xs.length : Nat) : Int) = 0 := of_decide_eq_false c1
        have ha' : a < xs.length := by omega
        have ga : xs[a]? = some xs[a] := List.getElem?_eq_getElem ha'
        have gm : xs[a] ∈ xs := List.getElem_mem ha'
        refine ⟨s, cl, n + 2, S2, by omega, .inr ⟨o, zs, rfl, k02 _ _ os ho, os, zne, hzl, fun v H3 hv k3 S3 => ?_⟩⟩
        refine ⟨xs, a, k3 _ _ bs hb2, ixN_nat ha', ?_⟩
        exact one _ _ (by rw [List.length_set]; omega) (fun y hy => (List.mem_or_eq_of_mem_set hy).elim .inl fun e => .inr (e ▸ hv)) upd_same (kput (k02.trans k3)) ((S3.put bs bc).mono (by omega)) _
      · refine ⟨sl_of (n := 0) rfl, fun b' hb' => ?_⟩
        exact ⟨b', none, [], rfl, Nat.zero_le _, (fun y hy => by simp at hy), k02.free (S2.ne hb') hb', upd_same, k02.trans (Keep.new hb'), (S2.new hb').mono (by omega)⟩
      · skip
        have nz : ¬ ((xs.length : Nat) : Int) = 0 := of_decide_eq_false c1
        have ha' : a < xs.length := by omega
        have ga : xs[a]? = some xs[a] := List.getElem?_eq_getElem ha'
        have gm : xs[a] ∈ xs := List.getElem_mem ha'
        refine ⟨s, cl, n + 2, S2, by omega, .inr ⟨o, zs, rfl, k02 _ _ os ho, os, zne, hzl, fun v H3 hv k3 S3 => ?_⟩⟩
        refine ⟨xs, a, k3 _ _ bs hb2, ixN_nat ha', ?_⟩
        exact one _ _ (by rw [List.length_set]; omega) (fun y hy => (List.mem_or_eq_of_mem_set hy).elim .inl fun e => .inr (e ▸ hv)) upd_same (kput (k02.trans k3)) ((S3.put bs bc).mono (by omega)) _
      · refine ⟨sl_of (n := 0) rfl, fun b' hb' => ?_⟩
        exact ⟨b', none, [], rfl, Nat.zero_le _, (fun y hy => by simp at hy), k02.free (S2.ne hb') hb', upd_same, k02.trans (Keep.new hb'), (S2.new hb').mono (by omega)⟩
    rintro σ' H' ⟨b', y, ys, rfl, h1, h2, h3, h4, h5, h6⟩
    exact q b' ys H' h1 h2 h3 h4 h5 h6
def sp__law_name (K : PySem.W.Frag) : Sp := fun vs H Q _ => ∃ (s cl : Addr) (n : Nat) (p : Addr) (ts : List (List Nat)), vs = [.ref s, .ref p] ∧ Sto s cl n H ∧ n + 10 < 1000000000000 ∧ H p = some (.lst (sv ts)) ∧ p ≠ s ∧ ts.length ≤ 250 ∧ Fines ts ∧
  ∀ (l : List Nat) H', l ∉ ts → l.length ≤ 8 → Fine l → ((∀ t ∈ ts, word t = true) → IsNm l) → Keep s H H' → Sto s cl (n + 10) H' → Q (.str (S l)) H'
theorem sc__law_name : FnScope ["store", "taken", "style", "words", "name", "k", "other"] ["store", "taken"] (defScope (topS 14)) := ⟨rfl, rfl, rfl, by decide +kernel, rfl, by decide +kernel, by decide +kernel⟩
theorem ok__law_name {P : Program} {w : World} {K : PySem.W.Frag} {mg : Str → Option Value} {base : Heap} (T : Top K mg) : FnOk P w K mg base CX0 5 T.a__law_name T.fd__law_name ["store", "taken"] (sp__law_name K) := by
  refine T.F__law_name.ok (k := 4) sc__law_name (fun vs H Q E h => ?_) (fun cdv A outer s0 H vs Q E hr h => ?_)
  · obtain ⟨s, cl, n, p, ts, rfl, _⟩ := h; rfl
  · have sc := sc__law_name
    refine ⟨_, (pss_cons (ps_set (i := 2) sc.nd rfl (by first | exact Or.inl rfl | exact Or.inr rfl) (pe_call (ok__law_take T) (hr.mono (by decide)) (by rfl) T.g__law_take T.F__law_take.kp T.b__law_take .nil pass0 (pa_cons (xv 0) (pa_cons pe_int pa_nil))))
      (pss_cons (ps_set (i := 3) sc.nd rfl (by first | exact Or.inl rfl | exact Or.inr rfl) (pe_lst (pa_cons pe_str (pa_cons pe_str (pa_cons pe_str (pa_cons pe_str (pa_cons pe_str (pa_cons pe_str (pa_cons pe_str (pa_cons pe_str (pa_cons pe_str (pa_cons pe_str (pa_cons pe_str (pa_cons pe_str pa_nil))))))))))))))
      (xss_cut (xs_if (xtc (ko_eq (K := K) rfl hr.units) (xv 2) pe_int (nomark _)) (pss_one (ps_set (i := 4) sc.nd rfl (by first | exact Or.inl rfl | exact Or.inr rfl) (pe_call (ok__law_pick T) (hr.mono (by decide)) (by rfl) T.g__law_pick T.F__law_pick.kp T.b__law_pick .nil pass0 (pa_cons (xv 0) (pa_cons (pe_op (ko_add (K := K) rfl) (xv 3) (pe_lst (pa_cons pe_str (pa_cons pe_str (pa_cons pe_str (pa_cons pe_str (pa_cons pe_str (pa_cons pe_str (pa_cons pe_str (pa_cons pe_str (pa_cons pe_str pa_nil))))))))))) pa_nil))))) (pss_one (xs_if (PW.pt (xw_and (xtc (ko_eq (K := K) rfl hr.units) (xv 2) pe_int (nomark _)) (pw_and1 (xtc xo_gt (pe_callB (kc_len (K := K) rfl) (by rfl) T.n_len (by decide +kernel) (pa_cons (xv 1) pa_nil)) pe_int (nomark _))))) (pss_one (ps_set (i := 4) sc.nd rfl (by first | exact Or.inl rfl | exact Or.inr rfl) (pe_op (ko_add (K := K) rfl) (pe_slice (ksl (K := K) rfl) (pe_call (ok__law_pick T) (hr.mono (by decide)) (by rfl) T.g__law_pick T.F__law_pick.kp T.b__law_pick .nil pass0 (pa_cons (xv 0) (pa_cons (xv 1) pa_nil))) po_none (po_some pe_int)) (pe_call (ok__law_pick T) (hr.mono (by decide)) (by rfl) T.g__law_pick T.F__law_pick.kp T.b__law_pick .nil pass0 (pa_cons (xv 0) (pa_cons pe_str pa_nil)))))) (pss_one (ps_set (i := 4) sc.nd rfl (by first | exact Or.inl rfl | exact Or.inr rfl) (pe_call (ok__law_raw_name T) (hr.mono (by decide)) (by rfl) T.g__law_raw_name T.F__law_raw_name.kp T.b__law_raw_name .nil pass0 (pa_cons (xv 0) pa_nil)))))))
      (xss_cut (xs_if (PW.pt (xw_and (xt (pe_call (ok__law_is_name T) (hr.mono (by decide)) (by rfl) T.g__law_is_name T.F__law_is_name.kp T.b__law_is_name .nil pass0 (pa_cons (xv 4) pa_nil))) (pw_and1 (xtc (ko_notin (K := K) rfl) (xv 4) (xv 1) (by rfl))))) (pss_one (ps_ret (xv 4))) pss_nil)
      (pss_cons (ps_for PassesOwn.never rfl (pi_range1 (by rfl) T.n_range (pa_cons (pe_op (ko_add (K := K) rfl) (pe_callB (kc_len (K := K) rfl) (by rfl) T.n_len (by decide +kernel) (pa_cons (xv 1) pa_nil)) pe_int) pa_nil)) (pg_name (i := 5) sc.nd rfl (by first | exact Or.inl rfl | exact Or.inr rfl)) (pss_cons (ps_set (i := 6) sc.nd rfl (by first | exact Or.inl rfl | exact Or.inr rfl) (pe_op (ko_add (K := K) rfl) (pe_slice (ksl (K := K) rfl) (xv 4) po_none (po_some pe_int)) (pe_callTy xc_str (by rfl) T.n_str (by decide +kernel) (pa_cons (xv 5) pa_nil))))
      (pss_one (xs_if (xtc (ko_notin (K := K) rfl) (xv 6) (xv 1) (by rfl)) (pss_one (ps_ret (xv 6))) pss_nil))))
      (pss_one (ps_ret (xv 4)))))))), ?_⟩
    obtain ⟨s, cl, n, p, ts, rfl, St, hn, hp, ps, hl, hf, q⟩ := h
    rw [lit_a09]
    refine ⟨s, cl, n, _, rfl, St, by omega, by decide, fun st H1 _ k1 S1 => ?_⟩
    refine ⟨sl_of (n := 12) rfl, fun w hw => ?_⟩
    refine ⟨fun σ' H' => ∃ l w', σ' = [some (.ref s), some (.ref p), some (.int (st : Nat)), some w', some (.str (S l)), none, none] ∧ l.length ≤ 8 ∧ Fine l ∧ ((∀ t ∈ ts, word t = true) → word l = true) ∧ Keep s H H' ∧ Sto s cl (n + 10) H', ?_, ?_⟩
    · have k2 := fun o : HO => k1.trans (Keep.new (s := s) (o := o) hw)
      refine ⟨fun c => ?_, fun c => ⟨fun c2 => ⟨_, Sq.l (k2 _ _ _ ps hp), fun c3 => ?_, fun c3 => ?_⟩, fun c2 => ⟨no_ft, fun _ => ?_⟩⟩⟩
      · refine ⟨sl_of (n := 9) rfl, fun w2 hw2 => .inl ⟨_, _, (upd_ne (ne_of_none upd_same hw2)).trans upd_same, upd_same, by rw [sl_big]; decide, fun w3 hw3 => ?_⟩⟩
        refine ⟨s, cl, n + 1, ((S1.new hw).new hw2).new hw3, by omega, .inr ⟨w3, _, rfl, upd_same, (((S1.new hw).new hw2)).ne hw3, (by intro e; cases e), by decide, fun v H4 hv k4 S4 => ?_⟩⟩
        have hv' : v ∈ sv W21 := words_eq ▸ hv
        obtain ⟨l, hl', rfl⟩ := sv_mem hv'
        have nm := w21_nm l hl'
        exact ⟨l, _, rfl, nm.l1, nm.fine, fun _ => nm.w, (k2 _).trans ((Keep.new hw2).trans ((Keep.new hw3).trans k4)), S4.mono (by omega)⟩
      · have c3' : (0 : Int) < ((sv ts).length : Nat) := of_decide_eq_true c3
        rw [sv_len] at c3'
        have ne : sv ts ≠ [] := fun e => by
          have := congrArg List.length e
          rw [sv_len] at this
          simp at this
          rw [this] at c3'
          simp at c3'
        refine ⟨s, cl, n + 1, S1.new hw, by omega, .inr ⟨p, sv ts, rfl, k2 _ _ _ ps hp, ps, ne, by rw [sv_len]; omega, fun v H4 hv k4 S4 => ?_⟩⟩
        obtain ⟨t, ht, rfl⟩ := sv_mem hv
        have ft := hf t ht
        refine ⟨7, rfl, by rw [S_len, sl_big]; have := ft.l; omega, ?_⟩
        rw [cut7]
        refine ⟨s, cl, n + 2, S4, by omega, .inl ⟨_, rfl, by decide, by decide, fun c' H5 hc' k5 S5 => ?_⟩⟩
        have l7 : (t.take 7).length ≤ 7 := by rw [List.length_take]; omega
        refine ⟨by rw [S_len, S_len, sl_big]; show _ + 1 ≤ _; omega, ?_⟩
        rw [S_cat]
        have hc'' : lowD c' = true := by
          have : ∀ x ∈ ([97, 48, 57, 122, 116] : List Nat), lowD x = true := by decide
          exact this c' hc'
        refine ⟨t.take 7 ++ [c'], _, rfl, by rw [List.length_append]; show _ + 1 ≤ _; omega, ⟨by rw [List.length_append]; show _ + 1 ≤ _; omega, fun x hx => ?_⟩, fun h => word_app (word_take (h t ht) (by decide)) (fun x hx => by rw [List.mem_singleton.mp hx]; exact hc''), (k2 _).trans (k4.trans k5), S5.mono (by omega)⟩
        rcases List.mem_append.mp hx with hx | hx
        · exact ft.a x (List.mem_of_mem_take hx)
        · rw [List.mem_singleton.mp hx]; have := lowD_lt hc''; omega
      · exact ⟨s, cl, n + 1, rfl, S1.new hw, by omega, fun l H4 nm k4 S4 => ⟨l, _, rfl, nm.l1, nm.fine, fun _ => nm.w, (k2 _).trans k4, S4.mono (by omega)⟩⟩
      · exact ⟨s, cl, n + 1, rfl, S1.new hw, by omega, fun l H4 nm k4 S4 => ⟨l, _, rfl, nm.l1, nm.fine, fun _ => nm.w, (k2 _).trans k4, S4.mono (by omega)⟩⟩
    rintro σ' H3 ⟨l, w', rfl, l8, fl, wl, k3, S3⟩
    refine ⟨fun σ' H' => σ' = [some (.ref s), some (.ref p), some (.int (st : Nat)), some w', some (.str (S l)), none, none] ∧ Keep s H H' ∧ Sto s cl (n + 10) H', ?_, ?_⟩
    · refine ⟨l, rfl, by rw [sl_big]; omega, fun H4 sm => ⟨fun c1 => ?_, fun c1 => ⟨no_ft, fun _ => ⟨rfl, k3.trans (Same.keep sm), S3.same sm⟩⟩⟩⟩
      refine ⟨sv ts, Sq.l (sm _ _ (k3 _ _ ps hp)), rfl, sv_flat ts, fun c2 => ?_, fun c2 => ⟨rfl, k3.trans (Same.keep sm), S3.same sm⟩⟩
      have c2' : (!inV (.str (S l)) (sv ts)) = true := c2
      rw [inV_sv] at c2'
      exact q l H4 (by simpa using c2') l8 fl (fun _ => nameL_iff.mp c1) (k3.trans (Same.keep sm)) (S3.same sm)
    rintro σ' H4 ⟨rfl, k4, S4⟩
    refine ⟨_, Sq.l (k4 _ _ ps hp), _, rfl, by omega, by rw [sv_len]; omega, ?_⟩
    rw [sv_len, show (((ts.length : Nat) : Int) + 1).toNat = ts.length + 1 by omega]
    refine for_range (lo := 0) (n := ts.length + 1) (fun i σ H5 => ∃ a b, σ = [some (.ref s), some (.ref p), some (.int (st : Nat)), some w', some (.str (S l)), a, b] ∧ Keep s H H5 ∧ Sto s cl (n + 10) H5 ∧ ∀ j, j < i → (l.take 5 ++ TL.numL j) ∈ ts) ⟨none, none, rfl, k4, S4, fun j hj => absurd hj (Nat.not_lt_zero j)⟩ (fun i σ H5 hi hW => ?_) (fun σ H5 hW => ?_)
    · obtain ⟨a, b, rfl, k5, S5, al⟩ := hW
      have l5 : (l.take 5).length ≤ 5 := by rw [List.length_take]; omega
      have d3 := TL.numL_len (n := i) (k := 3) (by decide) (by omega)
      refine ⟨5, rfl, by rw [S_len, sl_big]; omega, log_ok (by omega), ?_⟩
      rw [cut5, num_S0]
      refine ⟨by rw [S_len, S_len, sl_big]; omega, ?_⟩
      rw [S_cat]
      refine ⟨sv ts, Sq.l (k5 _ _ ps hp), rfl, sv_flat ts, fun c => ?_, fun c => ?_⟩
      · have c2 : (!inV (.str (S (l.take 5 ++ TL.numL i))) (sv ts)) = true := c
        rw [inV_sv] at c2
        refine q _ H5 (by simpa using c2) (by rw [List.length_append]; omega) ⟨by rw [List.length_append]; omega, fun x hx => ?_⟩ (fun h => nm_dig (word_take (wl h) (by decide)) l5 (by omega)) k5 S5
        rcases List.mem_append.mp hx with hx | hx
        · exact fl.a x (List.mem_of_mem_take hx)
        · have := lowD_lt (num_fine x hx); omega
      · have c2 : (!inV (.str (S (l.take 5 ++ TL.numL i))) (sv ts)) = false := c
        rw [inV_sv] at c2
        refine ⟨_, _, rfl, k5, S5, fun j hj => ?_⟩
        by_cases e : j = i
        · rw [e]; simpa using c2
        · exact al j (by omega)
    · obtain ⟨a, b, rfl, k5, S5, al⟩ := hW
      exact (pigeon al).elim
def sp__law_bad_name (K : PySem.W.Frag) : Sp := fun vs H Q _ => ∃ (s cl : Addr) (n : Nat), vs = [.ref s] ∧ Sto s cl n H ∧ n + 12 < 1000000000000 ∧
  ∀ (l : List Nat) H', ¬ IsNm l → Fine l → Keep s H H' → Sto s cl (n + 12) H' → Q (.str (S l)) H'
theorem sc__law_bad_name : FnScope ["store", "style", "name", "at"] ["store"] (defScope (topS 16)) := ⟨rfl, rfl, rfl, by decide +kernel, rfl, by decide +kernel, by decide +kernel⟩
theorem ok__law_bad_name {P : Program} {w : World} {K : PySem.W.Frag} {mg : Str → Option Value} {base : Heap} (T : Top K mg) : FnOk P w K mg base CX0 5 T.a__law_bad_name T.fd__law_bad_name ["store"] (sp__law_bad_name K) := by
  refine T.F__law_bad_name.ok (k := 4) sc__law_bad_name (fun vs H Q E h => ?_) (fun cdv A outer s0 H vs Q E hr h => ?_)
  · obtain ⟨s, cl, n, rfl, _⟩ := h; rfl
  · have sc := sc__law_bad_name
    refine ⟨_, (pss_cons (ps_set (i := 1) sc.nd rfl (by first | exact Or.inl rfl | exact Or.inr rfl) (pe_call (ok__law_take T) (hr.mono (by decide)) (by rfl) T.g__law_take T.F__law_take.kp T.b__law_take .nil pass0 (pa_cons (xv 0) (pa_cons pe_int pa_nil))))
      (pss_cons (ps_set (i := 2) sc.nd rfl (by first | exact Or.inl rfl | exact Or.inr rfl) (pe_call (ok__law_raw_name T) (hr.mono (by decide)) (by rfl) T.g__law_raw_name T.F__law_raw_name.kp T.b__law_raw_name .nil pass0 (pa_cons (xv 0) pa_nil)))
      (pss_cons (xs_if (xtc xo_lt (xv 1) pe_int (nomark _)) (pss_one (ps_ret (pe_ix (kix (K := K) rfl) (pe_lst (pa_cons pe_str (pa_cons pe_str (pa_cons pe_str pa_nil)))) (xv 1) (fun _ _ => rfl)))) pss_nil)
      (pss_cons (xs_if (xtc (ko_eq (K := K) rfl hr.units) (xv 1) pe_int (nomark _)) (pss_one (ps_ret (pe_op (ko_add (K := K) rfl) (pe_call (ok__law_pick T) (hr.mono (by decide)) (by rfl) T.g__law_pick T.F__law_pick.kp T.b__law_pick .nil pass0 (pa_cons (xv 0) (pa_cons pe_str pa_nil))) (pe_slice (ksl (K := K) rfl) (xv 2) po_none (po_some pe_int))))) pss_nil)
      (pss_cons (xs_if (xtc (ko_eq (K := K) rfl hr.units) (xv 1) pe_int (nomark _)) (pss_one (ps_ret (pe_slice (ksl (K := K) rfl) (pe_op xo_mul (xv 2) pe_int) po_none (po_some pe_int)))) pss_nil)
      (pss_cons (xs_if (xtc (ko_eq (K := K) rfl hr.units) (xv 1) pe_int (nomark _)) (pss_one (ps_ret (pe_slice (ksl (K := K) rfl) (pe_op xo_mul (xv 2) pe_int) po_none (po_some (pe_op (ko_add (K := K) rfl) pe_int (pe_call (ok__law_take T) (hr.mono (by decide)) (by rfl) T.g__law_take T.F__law_take.kp T.b__law_take .nil pass0 (pa_cons (xv 0) (pa_cons pe_int pa_nil)))))))) pss_nil)
      (pss_cons (xs_if (xtc (ko_eq (K := K) rfl hr.units) (xv 1) pe_int (nomark _)) (pss_one (ps_ret (pe_upper (xv 2)))) pss_nil)
      (pss_cons (ps_set (i := 3) sc.nd rfl (by first | exact Or.inl rfl | exact Or.inr rfl) (pe_call (ok__law_take T) (hr.mono (by decide)) (by rfl) T.g__law_take T.F__law_take.kp T.b__law_take .nil pass0 (pa_cons (xv 0) (pa_cons (pe_op (ko_add (K := K) rfl) (pe_callB (kc_len (K := K) rfl) (by rfl) T.n_len (by decide +kernel) (pa_cons (xv 2) pa_nil)) pe_int) pa_nil))))
      (pss_one (ps_ret (pe_op (ko_add (K := K) rfl) (pe_op (ko_add (K := K) rfl) (pe_slice (ksl (K := K) rfl) (xv 2) po_none (po_some (xv 3))) (pe_call (ok__law_pick T) (hr.mono (by decide)) (by rfl) T.g__law_pick T.F__law_pick.kp T.b__law_pick .nil pass0 (pa_cons (xv 0) (pa_cons pe_str pa_nil)))) (pe_slice (ksl (K := K) rfl) (xv 2) (po_some (xv 3)) po_none)))))))))))), ?_⟩
    obtain ⟨s, cl, n, rfl, St, hn, q⟩ := h
    rw [lit_e, lit_sea, lit_it, lit_dg, lit_bad]
    refine ⟨s, cl, n, _, rfl, St, by omega, by decide, fun sty H1 _ k1 S1 => ?_⟩
    refine ⟨s, cl, n + 1, rfl, S1, by omega, fun l H2 nm k2 S2 => ?_⟩
    have k12 := k1.trans k2
    have l8 := nm.l1
    have fl := nm.fine
    have lp := List.length_pos_iff.mpr nm.ne
    have sz : (S l).length ≤ sizeLine := by rw [S_len, sl_big]; omega
    refine ⟨fun c => ?_, fun c1 => ⟨fun c => ?_, fun c2 => ⟨fun c => ?_, fun c3 => ⟨fun c => ?_, fun c4 => ⟨fun c => ?_, fun c5 => ?_⟩⟩⟩⟩⟩
    · have c' : (sty : Int) < 3 := of_decide_eq_true c
      refine ⟨sl_of (n := 3) rfl, fun w hw => ?_⟩
      have kk : ∀ o, Keep s H (upd H2 w o) := fun o => k12.trans (Keep.new hw)
      have SS : ∀ o, Sto s cl (n + 12) (upd H2 w o) := fun o => (S2.new hw).mono (by omega)
      have : sty = 0 ∨ sty = 1 ∨ sty = 2 := by omega
      rcases this with rfl | rfl | rfl
      · refine ⟨_, _, Sq.l upd_same, atI_nat (j := 0) rfl, ?_⟩
        exact q [] _ (fun z => z.ne rfl) ⟨by decide, by simp⟩ (kk _) (SS _)
      · refine ⟨_, _, Sq.l upd_same, atI_nat (j := 1) rfl, ?_⟩
        exact q _ _ (fun z => z.ns rfl) ⟨by decide, by decide⟩ (kk _) (SS _)
      · refine ⟨_, _, Sq.l upd_same, atI_nat (j := 2) rfl, ?_⟩
        exact q _ _ (fun z => z.ni rfl) ⟨by decide, by decide⟩ (kk _) (SS _)
    · refine ⟨s, cl, n + 10, S2, by omega, .inl ⟨_, rfl, by decide, by decide, fun c' H3 hc' k3 S3 => ?_⟩⟩
      have dg : 48 ≤ c' ∧ c' ≤ 57 := by
        have : ∀ x ∈ ([48, 49, 50, 51, 52, 53, 54, 55, 56, 57] : List Nat), 48 ≤ x ∧ x ≤ 57 := by decide
        exact this c' hc'
      refine ⟨7, rfl, sz, ?_⟩
      rw [cut7]
      have tl : (l.take 7).length ≤ 7 := by rw [List.length_take]; omega
      refine ⟨by rw [S_len, S_len, sl_big]; show 1 + _ ≤ _; omega, ?_⟩
      rw [S_cat]
      refine q _ _ (not_word_head (by unfold low; rw [decide_eq_false (by omega : ¬ 97 ≤ c')]; rfl)) ⟨by show (l.take 7).length + 1 ≤ _; omega, fun x hx => ?_⟩ (k12.trans k3) (S3.mono (by omega))
      rcases List.mem_cons.mp hx with e | hx
      · omega
      · exact fl.a x (List.mem_of_mem_take hx)
    · refine ⟨mul_ok l 9 (by decide) (by rw [sl_big]; omega), ?_⟩
      rw [show PySem.Txt.mul (S l) 9 = S (rep 9 l) from mul_S l 9]
      refine ⟨9, rfl, by rw [S_len, rep_len, sl_big]; omega, ?_⟩
      rw [cut9]
      have tl : ((rep 9 l).take 9).length = 9 := by rw [List.length_take, rep_len]; omega
      exact q _ _ (fun z => by have := z.l1; omega) ⟨by omega, fun x hx => fl.a x (rep_sub (List.mem_of_mem_take hx))⟩ k12 (S2.mono (by omega))
    · refine ⟨mul_ok l 100 (by decide) (by rw [sl_big]; omega), ?_⟩
      rw [show PySem.Txt.mul (S l) 100 = S (rep 100 l) from mul_S l 100]
      refine ⟨s, cl, n + 10, _, rfl, S2, by omega, by decide, fun r H3 hr k3 S3 => ?_⟩
      refine ⟨_, rfl, by rw [S_len, rep_len, sl_big]; omega, ?_⟩
      rw [show (9 : Int) + (r : Nat) = ((9 + r : Nat) : Int) by omega, cut_to]
      have tl : ((rep 100 l).take (9 + r)).length = min (9 + r) (100 * l.length) := by rw [List.length_take, rep_len]
      exact q _ _ (fun z => by have := z.l1; omega) ⟨by omega, fun x hx => fl.a x (rep_sub (List.mem_of_mem_take hx))⟩ (k12.trans k3) (S3.mono (by omega))
    · refine ⟨⟨_, rfl⟩, _, rfl, rfl, by rw [S_len]; omega, ?_⟩
      rw [upper_S fl.all]
      exact q _ _ (up_not nm) (up_fine fl) k12 (S2.mono (by omega))
    · refine ⟨sz, s, cl, n + 10, _, rfl, S2, by omega, by rw [S_len]; omega, fun a H3 ha k3 S3 => ?_⟩
      refine ⟨_, rfl, sz, ?_⟩
      rw [cut_to]
      refine ⟨s, cl, n + 11, S3, by omega, .inl ⟨badL, rfl, by decide, by decide, fun c' H4 hc' k4 S4 => ?_⟩⟩
      have tl1 : (l.take a).length ≤ 8 := by rw [List.length_take]; omega
      have tl2 : (l.drop a).length ≤ 8 := by rw [List.length_drop]; omega
      refine ⟨by rw [S_len, S_len, sl_big]; show _ + 1 ≤ _; omega, ?_⟩
      rw [S_cat]
      refine ⟨_, rfl, sz, ?_⟩
      rw [cut_from]
      refine ⟨by rw [S_len, S_len, List.length_append, sl_big]; show _ + 1 + _ ≤ _; omega, ?_⟩
      rw [S_cat]
      have hb : lowD c' = false ∧ c' < 128 := by
        have : ∀ x ∈ badL, lowD x = false ∧ x < 128 := by decide
        exact this c' hc'
      refine q _ _ (not_nm_bad (c := c') (by simp) hb.1) ⟨by rw [List.length_append, List.length_append]; show _ + 1 + _ ≤ _; omega, fun x hx => ?_⟩ (k12.trans (k3.trans k4)) (S4.mono (by omega))
      rcases List.mem_append.mp hx with hx | hx
      · rcases List.mem_append.mp hx with hx | hx
        · exact fl.a x (List.mem_of_mem_take hx)
        · rw [List.mem_singleton.mp hx]; exact hb.2
      · exact fl.a x (List.mem_of_mem_drop hx)
def sp__law_names (K : PySem.W.Frag) : Sp := fun vs H Q _ => ∃ (s cl : Addr) (n : Nat) (m : Nat), vs = [.ref s, .int (m : Nat)] ∧ Sto s cl n H ∧ n + 300 < 1000000000000 ∧ m ≤ 26 ∧
  ∀ (p : Addr) (ts : List (List Nat)) H', ts.length = m → ts.Nodup → (∀ t ∈ ts, IsNm t) → H p = none → H' p = some (.lst (sv ts)) → Keep s H H' → Sto s cl (n + 300) H' → Q (.ref p) H'
theorem sc__law_names : FnScope ["store", "many", "style", "letters", "names", "stem", "at", "k", "letter"] ["store", "many"] (defScope (topS 15)) := ⟨rfl, rfl, rfl, by decide +kernel, rfl, by decide +kernel, by decide +kernel⟩
theorem ok__law_names {P : Program} {w : World} {K : PySem.W.Frag} {mg : Str → Option Value} {base : Heap} (T : Top K mg) : FnOk P w K mg base CX0 6 T.a__law_names T.fd__law_names ["store", "many"] (sp__law_names K) := by
  refine T.F__law_names.ok (k := 5) sc__law_names (fun vs H Q E h => ?_) (fun cdv A outer s0 H vs Q E hr h => ?_)
  · obtain ⟨s, cl, n, m, rfl, _⟩ := h; rfl
  · have sc := sc__law_names
    refine ⟨_, (pss_cons (ps_set (i := 2) sc.nd rfl (by first | exact Or.inl rfl | exact Or.inr rfl) (pe_call (ok__law_take T) (hr.mono (by decide)) (by rfl) T.g__law_take T.F__law_take.kp T.b__law_take .nil pass0 (pa_cons (xv 0) (pa_cons pe_int pa_nil))))
      (pss_cons (ps_set (i := 3) sc.nd rfl (by first | exact Or.inl rfl | exact Or.inr rfl) (pe_callTy (kc_list (K := K) rfl rfl) (by rfl) T.n_list (by decide +kernel) (pa_cons pe_str pa_nil)))
      (pss_cons (ps_set (i := 4) sc.nd rfl (by first | exact Or.inl rfl | exact Or.inr rfl) (pe_lst pa_nil))
      (pss_cons (ps_set (i := 5) sc.nd rfl (by first | exact Or.inl rfl | exact Or.inr rfl) pe_str)
      (pss_cons (ps_set (i := 6) sc.nd rfl (by first | exact Or.inl rfl | exact Or.inr rfl) pe_int)
      (xss_cut (xs_if (xtc (ko_eq (K := K) rfl hr.units) (xv 2) pe_int (nomark _)) (pss_cons (ps_set (i := 5) sc.nd rfl (by first | exact Or.inl rfl | exact Or.inr rfl) (pe_slice (ksl (K := K) rfl) (pe_op (ko_add (K := K) rfl) (pe_call (ok__law_raw_name T) (hr.mono (by decide)) (by rfl) T.g__law_raw_name T.F__law_raw_name.kp T.b__law_raw_name .nil pass0 (pa_cons (xv 0) pa_nil)) pe_str) po_none (po_some (pe_op (ko_add (K := K) rfl) pe_int (pe_call (ok__law_take T) (hr.mono (by decide)) (by rfl) T.g__law_take T.F__law_take.kp T.b__law_take .nil pass0 (pa_cons (xv 0) (pa_cons pe_int pa_nil)))))))
      (pss_one (ps_set (i := 6) sc.nd rfl (by first | exact Or.inl rfl | exact Or.inr rfl) (pe_call (ok__law_take T) (hr.mono (by decide)) (by rfl) T.g__law_take T.F__law_take.kp T.b__law_take .nil pass0 (pa_cons (xv 0) (pa_cons (pe_op (ko_add (K := K) rfl) (pe_callB (kc_len (K := K) rfl) (by rfl) T.n_len (by decide +kernel) (pa_cons (xv 5) pa_nil)) pe_int) pa_nil)))))) pss_nil)
      (pss_cons (ps_for PassesOwn.never rfl (pi_range1 (by rfl) T.n_range (pa_cons (xv 1) pa_nil)) (pg_name (i := 7) sc.nd rfl (by first | exact Or.inl rfl | exact Or.inr rfl)) (pss_one (xs_if (xtc xo_gt (xv 2) pe_int (nomark _)) (pss_one (ps_expr (ke_bm (K := K) rfl PySem.F.plainAttrs_list PySem.F.slot_list_append PySem.F.type_list_append xm_append (xv 4) (pa_cons (pe_call (ok__law_name T) (hr.mono (by decide)) (by rfl) T.g__law_name T.F__law_name.kp T.b__law_name .nil pass0 (pa_cons (xv 0) (pa_cons (xv 4) pa_nil))) pa_nil)))) (pss_cons (ps_set (i := 8) sc.nd rfl (by first | exact Or.inl rfl | exact Or.inr rfl) (ke_bm (K := K) rfl PySem.F.plainAttrs_list PySem.F.slot_list_pop PySem.F.type_list_pop xm_pop (xv 3) (pa_cons (pe_call (ok__law_take T) (hr.mono (by decide)) (by rfl) T.g__law_take T.F__law_take.kp T.b__law_take .nil pass0 (pa_cons (xv 0) (pa_cons (pe_callB (kc_len (K := K) rfl) (by rfl) T.n_len (by decide +kernel) (pa_cons (xv 3) pa_nil)) pa_nil))) pa_nil)))
      (xss_cut (xs_if (xtc (ko_eq (K := K) rfl hr.units) (xv 2) pe_int (nomark _)) (pss_one (ps_set (i := 8) sc.nd rfl (by first | exact Or.inl rfl | exact Or.inr rfl) (pe_op xo_mul (xv 8) (pe_op (ko_add (K := K) rfl) pe_int (pe_call (ok__law_take T) (hr.mono (by decide)) (by rfl) T.g__law_take T.F__law_take.kp T.b__law_take .nil pass0 (pa_cons (xv 0) (pa_cons pe_int pa_nil))))))) pss_nil)
      (pss_one (ps_expr (ke_bm (K := K) rfl PySem.F.plainAttrs_list PySem.F.slot_list_append PySem.F.type_list_append xm_append (xv 4) (pa_cons (pe_op (ko_add (K := K) rfl) (pe_op (ko_add (K := K) rfl) (pe_slice (ksl (K := K) rfl) (xv 5) po_none (po_some (xv 6))) (xv 8)) (pe_slice (ksl (K := K) rfl) (xv 5) (po_some (xv 6)) po_none)) pa_nil)))))))))
      (pss_one (ps_ret (xv 4)))))))))), ?_⟩
    obtain ⟨s, cl, n, m, rfl, St, hn, hm, q⟩ := h
    rw [lit_az, lit_quays, lit_e]
    refine ⟨s, cl, n, _, rfl, St, by omega, by decide, fun sty H1 _ k1 S1 => ?_⟩
    refine ⟨by rw [S_len, sl_big]; decide, fun la hla => ?_⟩
    rw [signs_S]
    refine ⟨sl_of (n := 0) rfl, fun na hna => ?_⟩
    have k2 : Keep s H (upd (upd H1 la (.lst (sv (aZ.map fun c => [c])))) na (.lst [])) := k1.trans ((Keep.new hla).trans (Keep.new hna))
    have S2 : Sto s cl (n + 1) (upd (upd H1 la (.lst (sv (aZ.map fun c => [c])))) na (.lst [])) := (S1.new hla).new hna
    have las : la ≠ s := S1.ne hla
    have lac : la ≠ cl := S1.nec hla
    have nas : na ≠ s := (S1.new hla).ne hna
    have nac : na ≠ cl := (S1.new hla).nec hna
    have lna : la ≠ na := ne_of_none upd_same hna
    have hna0 : H na = none := k1.free nas ((same_new hla).free hna)
    have hla0 : H la = none := k1.free las hla
    -- what is written to them is not seen from before
    have kput : ∀ {H' : Hp} {o : HO}, Keep s H H' → Keep s H (upd H' na o) := fun {H' o} k b u ne e => (upd_ne (ne_of_none e hna0)).trans (k b u ne e)
    have kputl : ∀ {H' : Hp} {o : HO}, Keep s H H' → Keep s H (upd H' la o) := fun {H' o} k b u ne e => (upd_ne (ne_of_none e hla0)).trans (k b u ne e)
    refine ⟨fun σ' H' => ∃ (st : List Nat) (a : Nat), σ' = [some (.ref s), some (.int (m : Nat)), some (.int (sty : Nat)), some (.ref la), some (.ref na), some (.str (S st)), some (.int (a : Nat)), none, none] ∧ (sty = 3 → word st = true ∧ 4 ≤ st.length ∧ st.length ≤ 7) ∧ (sty ≠ 3 → st = []) ∧
      H' la = some (.lst (sv (aZ.map fun c => [c]))) ∧ H' na = some (.lst []) ∧ Keep s H H' ∧ Sto s cl (n + 12) H', ?_, ?_⟩
    · refine ⟨fun c => ?_, fun c => ?_⟩
      · have c3 : (sty : Int) = 3 := of_decide_eq_true c
        refine ⟨s, cl, n + 1, rfl, S2, by omega, fun l H3 nm k3 S3 => ?_⟩
        have l8 := nm.l1
        have lp := List.length_pos_iff.mpr nm.ne
        refine ⟨by rw [S_len, S_len, sl_big]; show _ + 5 ≤ _; omega, ?_⟩
        rw [S_cat]
        refine ⟨s, cl, n + 10, _, rfl, S3, by omega, by decide, fun r H4 hr k4 S4 => ?_⟩
        have ll : (l ++ [113, 117, 97, 121, 115]).length = l.length + 5 := by rw [List.length_append]; rfl
        refine ⟨_, rfl, by rw [S_len, sl_big, ll]; omega, ?_⟩
        rw [show (4 : Int) + (r : Nat) = ((4 + r : Nat) : Int) by omega, cut_to]
        have wl : word (l ++ [113, 117, 97, 121, 115]) = true := word_app nm.w (by decide)
        have tl : ((l ++ [113, 117, 97, 121, 115]).take (4 + r)).length = min (4 + r) (l.length + 5) := by rw [List.length_take, ll]
        refine ⟨by rw [S_len, tl, sl_big]; omega, s, cl, n + 11, _, rfl, S4, by omega, by rw [S_len, tl]; omega, fun a H5 ha k5 S5 => ?_⟩
        refine ⟨_, a, rfl, fun _ => ⟨word_take wl (by omega), by rw [tl]; omega, by rw [tl]; omega⟩, fun h => absurd (by omega) h, ?_, ?_, k2.trans (k3.trans (k4.trans k5)), S5⟩
        · exact k5 _ _ las (k4 _ _ las (k3 _ _ las ((upd_ne lna).trans upd_same)))
        · exact k5 _ _ nas (k4 _ _ nas (k3 _ _ nas upd_same))
      · have c3 : ¬ (sty : Int) = 3 := of_decide_eq_false c
        exact ⟨[], 0, rfl, fun h => absurd (by omega) c3, fun _ => rfl, (upd_ne lna).trans upd_same, upd_same, k2, S2.mono (by omega)⟩
    rintro σ' H3 ⟨st, a, rfl, hst, hst', hl3, hn3, k3, S3⟩
    refine ⟨(m : Nat), rfl, by omega, by omega, ?_⟩
    rw [Int.toNat_natCast]
    refine for_range (lo := 0) (n := m) (fun i σ H4 => ∃ (x y : Option V) (ts : List (List Nat)) (ls : List Nat), σ = [some (.ref s), some (.int (m : Nat)), some (.int (sty : Nat)), some (.ref la), some (.ref na), some (.str (S st)), some (.int (a : Nat)), x, y] ∧
      ts.length = i ∧ ts.Nodup ∧ (∀ t ∈ ts, IsNm t) ∧ H4 na = some (.lst (sv ts)) ∧ Keep s H H4 ∧ Sto s cl (n + 12 + 11 * i) H4 ∧
      (sty ≤ 3 → H4 la = some (.lst (sv (ls.map fun c => [c]))) ∧ ls.length = 26 - i ∧ ls.Nodup ∧ (∀ c ∈ ls, low c = true) ∧ ∀ t ∈ ts, ∃ c r, c ∉ ls ∧ 1 ≤ r ∧ t = st.take a ++ rep r [c] ++ st.drop a))
      ⟨none, none, [], aZ, rfl, rfl, List.nodup_nil, (fun t ht => by simp at ht), hn3, k3, S3, fun _ => ⟨hl3, by decide, by decide, (fun c hc => mem_az.mp hc), fun t ht => by simp at ht⟩⟩ (fun i σ H4 hi hW => ?_) (fun σ H4 hW => ?_)
    · obtain ⟨x, y, ts, ls, rfl, e1, nd, nm, hn4, k4, S4, more⟩ := hW
      have hfin : Fines ts := fun t ht => (nm t ht).fine
      refine ⟨fun c => ?_, fun c => ?_⟩
      · have c3 : (3 : Int) < (sty : Nat) := of_decide_eq_true c
        refine ⟨tyL hn4, s, cl, n + 12 + 11 * i, na, ts, rfl, S4, by omega, hn4, nas, by omega, hfin, fun l H5 hno l8 fl isn k5 S5 => ?_⟩
        have nml := isn fun t ht => (nm t ht).w
        refine ⟨_, k5 _ _ nas hn4, by rw [sv_len, sl_big]; omega, ?_⟩
        refine ⟨_, _, ts ++ [l], ls, rfl, by rw [List.length_append, e1]; rfl, ?_, ?_, upd_same.trans (by rw [sv_app]; rfl), kput (k4.trans k5), (S5.put nas nac).mono (by omega), fun h => absurd h (by omega)⟩
        · exact List.nodup_append.mpr ⟨nd, (by simp), fun u hu v hv e => hno (by rw [List.mem_singleton.mp hv] at e; exact e ▸ hu)⟩
        · intro t ht
          rcases List.mem_append.mp ht with ht | ht
          · exact nm t ht
          · rw [List.mem_singleton.mp ht]; exact nml
      · have c3 : ¬ (3 : Int) < (sty : Nat) := of_decide_eq_false c
        obtain ⟨hl4, lsl, lnd, low', made⟩ := more (by omega)
        refine ⟨tyL hl4, _, Sq.l hl4, s, cl, n + 12 + 11 * i, _, rfl, S4, by omega, by rw [one_len]; omega, fun r H5 hr k5 S5 => ?_⟩
        rw [one_len] at hr
        have hr' : r < ls.length := by omega
        obtain ⟨c, hc⟩ : ∃ c, ls[r]? = some c := ⟨_, List.getElem?_eq_getElem hr'⟩
        have cl' : low c = true := low' c (List.mem_of_getElem? hc)
        obtain ⟨cno, lnd', lsub⟩ := nd_erase lnd hc
        refine ⟨_, r, _, k5 _ _ las hl4, rfl, by omega, one_get hc, ?_⟩
        rw [one_erase]
        have lsl' : (ls.eraseIdx r).length = 26 - (i + 1) := by rw [List.length_eraseIdx_of_lt hr', lsl]; omega
        have stw : (st = [] ∨ (word st = true ∧ 4 ≤ st.length ∧ st.length ≤ 7)) := by
          by_cases z : sty = 3
          · exact .inr (hst z)
          · exact .inl (hst' z)
        have st7 : st.length ≤ 7 := by rcases stw with rfl | ⟨_, _, h⟩; · exact Nat.zero_le _
                                       · exact h
        refine ⟨fun σ' H' => ∃ (q' : Nat) (x : Option V), σ' = [some (.ref s), some (.int (m : Nat)), some (.int (sty : Nat)), some (.ref la), some (.ref na), some (.str (S st)), some (.int (a : Nat)), x, some (.str (S (rep q' [c])))] ∧ 1 ≤ q' ∧ q' ≤ 8 ∧ (sty ≠ 2 → q' = 1) ∧
          H' la = some (.lst (sv ((ls.eraseIdx r).map fun c => [c]))) ∧ H' na = some (.lst (sv ts)) ∧ Keep s H H' ∧ Sto s cl (n + 12 + 11 * i + 2) H', ?_, ?_⟩
        · have hna5 : (upd H5 la (.lst (sv ((ls.eraseIdx r).map fun c => [c])))) na = some (.lst (sv ts)) := (upd_ne (Ne.symm lna)).trans (k5 _ _ nas hn4)
          have kk : Keep s H (upd H5 la (.lst (sv ((ls.eraseIdx r).map fun c => [c])))) := kputl (k4.trans k5)
          have SS : Sto s cl (n + 12 + 11 * i + 1) (upd H5 la (.lst (sv ((ls.eraseIdx r).map fun c => [c])))) := S5.put las lac
          refine ⟨fun c2 => ?_, fun c2 => ?_⟩
          · refine ⟨s, cl, n + 12 + 11 * i + 1, _, rfl, SS, by omega, by decide, fun r2 H6 hr2 k6 S6 => ?_⟩
            have e12 : (1 : Int) + (r2 : Nat) = ((1 + r2 : Nat) : Int) := by omega
            refine ⟨by rw [e12]; exact mul_ok _ _ (by omega) (by rw [sl_big]; show 1 * _ ≤ _; omega), ?_⟩
            rw [e12, mul_S]
            exact ⟨1 + r2, _, rfl, by omega, by omega, fun h => absurd (by have := of_decide_eq_true c2; omega) h, k6 _ _ las upd_same, k6 _ _ nas hna5, kk.trans k6, S6⟩
          · exact ⟨1, _, rfl, by omega, by omega, fun _ => rfl, upd_same, hna5, kk, SS.mono (by omega)⟩
        rintro σ' H6 ⟨q', x', rfl, q1, q8, qs, hl6, hn6, k6, S6⟩
        have rl : (rep q' [c]).length = q' := by rw [rep_len]; show q' * 1 = q'; omega
        have tl1 : (st.take a).length ≤ 7 := by rw [List.length_take]; omega
        have tl2 : (st.drop a).length ≤ 7 := by rw [List.length_drop]; omega
        have sz : (S st).length ≤ sizeLine := by rw [S_len, sl_big]; omega
        refine ⟨tyL hn6, _, rfl, sz, ?_⟩
        rw [cut_to]
        refine ⟨by rw [S_len, S_len, rl, sl_big]; omega, ?_⟩
        rw [S_cat]
        refine ⟨_, rfl, sz, ?_⟩
        rw [cut_from]
        refine ⟨by rw [S_len, S_len, List.length_append, rl, sl_big]; omega, ?_⟩
        rw [S_cat]
        refine ⟨_, hn6, by rw [sv_len, sl_big]; omega, ?_⟩
        have nml : IsNm (st.take a ++ rep q' [c] ++ st.drop a) := mid_nm (by
          rcases stw with h | ⟨h1, h2, h3⟩
          · exact .inl ⟨h, q1, q8⟩
          · refine .inr ⟨h1, h2, h3, qs fun e => ?_⟩
            have := hst' (by omega)
            rw [this] at h2
            simp at h2) cl'
        have old : ∀ t ∈ ts, ∃ c0 r0, c0 ∉ ls.eraseIdx r ∧ 1 ≤ r0 ∧ t = st.take a ++ rep r0 [c0] ++ st.drop a := fun t ht => by
          obtain ⟨c0, r0, h1, h2, h3⟩ := made t ht
          exact ⟨c0, r0, fun hm => h1 (lsub _ hm), h2, h3⟩
        have hno : (st.take a ++ rep q' [c] ++ st.drop a) ∉ ts := fun hm => by
          obtain ⟨c0, r0, h1, h2, h3⟩ := made _ hm
          have := mid_ne q1 h2 h3
          exact h1 (this ▸ List.mem_of_getElem? hc)
        refine ⟨_, _, ts ++ [st.take a ++ rep q' [c] ++ st.drop a], ls.eraseIdx r, rfl, by rw [List.length_append, e1]; rfl, ?_, ?_, upd_same.trans (by rw [sv_app]; rfl), kput k6, (S6.put nas nac).mono (by omega), fun h => ⟨(upd_ne lna).trans hl6, lsl', lnd', fun x hx => low' x (lsub x hx), ?_⟩⟩
        · exact List.nodup_append.mpr ⟨nd, (by simp), fun u hu v hv e => hno (by rw [List.mem_singleton.mp hv] at e; exact e ▸ hu)⟩
        · intro t ht
          rcases List.mem_append.mp ht with ht | ht
          · exact nm t ht
          · rw [List.mem_singleton.mp ht]; exact nml
        · intro t ht
          rcases List.mem_append.mp ht with ht | ht
          · exact old t ht
          · rw [List.mem_singleton.mp ht]; exact ⟨c, q', cno, q1, rfl⟩
    · obtain ⟨x, y, ts, ls, rfl, e1, nd, nm, hn4, k4, S4, more⟩ := hW
      exact q na ts H4 e1 nd nm hna0 hn4 k4 (S4.mono (by omega))
def sp__law_other (K : PySem.W.Frag) : Sp := fun vs H Q _ => ∃ (s cl : Addr) (n : Nat) (p : Addr) (ts : List (List Nat)), vs = [.ref s, .ref p] ∧ Sto s cl n H ∧ n + 14 < 1000000000000 ∧ H p = some (.lst (sv ts)) ∧ p ≠ s ∧ ts.length ≤ 250 ∧ (∀ t ∈ ts, t.length ≤ 200) ∧ Fines ts ∧
  ∀ (l : List Nat) H', Fine l → ((∀ t ∈ ts, IsNm t) → l ∉ ts) → Keep s H H' → Sto s cl (n + 14) H' → Q (.str (S l)) H'
theorem sc__law_other : FnScope ["store", "names", "style"] ["store", "names"] (defScope (topS 17)) := ⟨rfl, rfl, rfl, by decide +kernel, rfl, by decide +kernel, by decide +kernel⟩
theorem ok__law_other {P : Program} {w : World} {K : PySem.W.Frag} {mg : Str → Option Value} {base : Heap} (T : Top K mg) : FnOk P w K mg base CX0 6 T.a__law_other T.fd__law_other ["store", "names"] (sp__law_other K) := by
  refine T.F__law_other.ok (k := 5) sc__law_other (fun vs H Q E h => ?_) (fun cdv A outer s0 H vs Q E hr h => ?_)
  · obtain ⟨s, cl, n, p, ts, rfl, _⟩ := h; rfl
  · have sc := sc__law_other
    refine ⟨_, (pss_cons (ps_set (i := 2) sc.nd rfl (by first | exact Or.inl rfl | exact Or.inr rfl) (pe_call (ok__law_take T) (hr.mono (by decide)) (by rfl) T.g__law_take T.F__law_take.kp T.b__law_take .nil pass0 (pa_cons (xv 0) (pa_cons pe_int pa_nil))))
      (pss_cons (xs_if (xtc (ko_eq (K := K) rfl hr.units) (xv 2) pe_int (nomark _)) (pss_one (ps_ret (pe_call (ok__law_bad_name T) (hr.mono (by decide)) (by rfl) T.g__law_bad_name T.F__law_bad_name.kp T.b__law_bad_name .nil pass0 (pa_cons (xv 0) pa_nil)))) pss_nil)
      (xss_cut (xs_if (PW.pt (xw_and (xtc (ko_eq (K := K) rfl hr.units) (xv 2) pe_int (nomark _)) (pw_and1 (xtc xo_gt (pe_callB (kc_len (K := K) rfl) (by rfl) T.n_len (by decide +kernel) (pa_cons (xv 1) pa_nil)) pe_int (nomark _))))) (pss_one (ps_ret (pe_upper (pe_call (ok__law_pick T) (hr.mono (by decide)) (by rfl) T.g__law_pick T.F__law_pick.kp T.b__law_pick .nil pass0 (pa_cons (xv 0) (pa_cons (xv 1) pa_nil)))))) pss_nil)
      (xss_cut (xs_if (PW.pt (xw_and (xtc (ko_eq (K := K) rfl hr.units) (xv 2) pe_int (nomark _)) (pw_and1 (xtc xo_gt (pe_callB (kc_len (K := K) rfl) (by rfl) T.n_len (by decide +kernel) (pa_cons (xv 1) pa_nil)) pe_int (nomark _))))) (pss_one (ps_ret (pe_op (ko_add (K := K) rfl) (pe_call (ok__law_pick T) (hr.mono (by decide)) (by rfl) T.g__law_pick T.F__law_pick.kp T.b__law_pick .nil pass0 (pa_cons (xv 0) (pa_cons (xv 1) pa_nil))) pe_str))) pss_nil)
      (pss_one (ps_ret (pe_call (ok__law_name T) (hr.mono (by decide)) (by rfl) T.g__law_name T.F__law_name.kp T.b__law_name .nil pass0 (pa_cons (xv 0) (pa_cons (xv 1) pa_nil))))))))), ?_⟩
    obtain ⟨s, cl, n, p, ts, rfl, St, hn, hp, ps, hl, h200, hf, q⟩ := h
    rw [lit_nl]
    refine ⟨s, cl, n, _, rfl, St, by omega, by decide, fun sty H1 _ k1 S1 => ?_⟩
    refine ⟨fun c => ?_, fun c0 => ?_⟩
    · exact ⟨s, cl, n + 1, rfl, S1, by omega, fun l H2 no fl k2 S2 => q l H2 fl (fun al hm => no (al l hm)) (k1.trans k2) (S2.mono (by omega))⟩
    refine ⟨fun σ' H' => σ' = [some (.ref s), some (.ref p), some (.int (sty : Nat))] ∧ H' = H1, ?_, ?_⟩
    · refine ⟨fun c => ⟨_, Sq.l (k1 _ _ ps hp), fun c2 => ?_, fun _ => ⟨rfl, rfl⟩⟩, fun c => ⟨no_ft, fun _ => ⟨rfl, rfl⟩⟩⟩
      refine ⟨s, cl, n + 1, S1, by omega, .inr ⟨p, sv ts, rfl, k1 _ _ ps hp, ps, sv_nonempty (of_decide_eq_true c2), by rw [sv_len]; omega, fun v H2 hv k2 S2 => ?_⟩⟩
      obtain ⟨t, ht, rfl⟩ := sv_mem hv
      have ft := hf t ht
      have := ft.l
      refine ⟨⟨_, rfl⟩, _, rfl, rfl, by rw [S_len]; omega, ?_⟩
      rw [upper_S ft.all]
      exact q _ _ (up_fine ft) (fun al hm => up_not (al t ht) (al _ hm)) (k1.trans k2) (S2.mono (by omega))
    rintro σ' H2 ⟨rfl, rfl⟩
    refine ⟨fun σ' H' => σ' = [some (.ref s), some (.ref p), some (.int (sty : Nat))] ∧ H' = H2, ?_, ?_⟩
    · refine ⟨fun c => ⟨_, Sq.l (k1 _ _ ps hp), fun c2 => ?_, fun _ => ⟨rfl, rfl⟩⟩, fun c => ⟨no_ft, fun _ => ⟨rfl, rfl⟩⟩⟩
      refine ⟨s, cl, n + 1, S1, by omega, .inr ⟨p, sv ts, rfl, k1 _ _ ps hp, ps, sv_nonempty (of_decide_eq_true c2), by rw [sv_len]; omega, fun v H3 hv k2 S2 => ?_⟩⟩
      obtain ⟨t, ht, rfl⟩ := sv_mem hv
      have ft := hf t ht
      have t200 := h200 t ht
      refine ⟨by rw [S_len, S_len, sl_big]; show _ + 1 ≤ _; omega, ?_⟩
      rw [S_cat]
      refine q _ _ ⟨by rw [List.length_append]; show _ + 1 ≤ _; omega, fun x hx => ?_⟩ (fun al hm => not_nm_bad (c := 10) (by simp) (by decide) (al _ hm)) (k1.trans k2) (S2.mono (by omega))
      rcases List.mem_append.mp hx with hx | hx
      · exact ft.a x hx
      · rw [List.mem_singleton.mp hx]; decide
    rintro σ' H3 ⟨rfl, rfl⟩
    exact ⟨s, cl, n + 1, p, ts, rfl, S1, by omega, k1 _ _ ps hp, ps, hl, hf, fun l H4 no _ fl _ k2 S2 => q l H4 fl (fun _ => no) (k1.trans k2) (S2.mono (by omega))⟩
def sp__law_strings (K : PySem.W.Frag) : Sp := fun vs H Q _ => ∃ (s cl : Addr) (n : Nat) (m : Nat), vs = [.ref s, .int (m : Nat)] ∧ Sto s cl n H ∧ n + 302 < 1000000000000 ∧ m ≤ 26 ∧
  ∀ (p : Addr) (ts : List (List Nat)) H', ts.length = m → ts.Nodup → (∀ t ∈ ts, t.length ≤ 9) → Fines ts → H p = none → H' p = some (.lst (sv ts)) → Keep s H H' → Sto s cl (n + 302) H' → Q (.ref p) H'
theorem sc__law_strings : FnScope ["store", "many", "names", "style", "name"] ["store", "many"] (defScope (topS 18)) := ⟨rfl, rfl, rfl, by decide +kernel, rfl, by decide +kernel, by decide +kernel⟩
theorem ok__law_strings {P : Program} {w : World} {K : PySem.W.Frag} {mg : Str → Option Value} {base : Heap} (T : Top K mg) : FnOk P w K mg base CX0 7 T.a__law_strings T.fd__law_strings ["store", "many"] (sp__law_strings K) := by
  refine T.F__law_strings.ok (k := 6) sc__law_strings (fun vs H Q E h => ?_) (fun cdv A outer s0 H vs Q E hr h => ?_)
  · obtain ⟨s, cl, n, m, rfl, _⟩ := h; rfl
  · have sc := sc__law_strings
    refine ⟨_, (pss_cons (ps_set (i := 2) sc.nd rfl (by first | exact Or.inl rfl | exact Or.inr rfl) (pe_call (ok__law_names T) (hr.mono (by decide)) (by rfl) T.g__law_names T.F__law_names.kp T.b__law_names .nil pass0 (pa_cons (xv 0) (pa_cons (xv 1) pa_nil))))
      (pss_cons (ps_set (i := 3) sc.nd rfl (by first | exact Or.inl rfl | exact Or.inr rfl) (pe_call (ok__law_take T) (hr.mono (by decide)) (by rfl) T.g__law_take T.F__law_take.kp T.b__law_take .nil pass0 (pa_cons (xv 0) (pa_cons pe_int pa_nil))))
      (pss_cons (xs_if (xtc (ko_eq (K := K) rfl hr.units) (xv 3) pe_int (nomark _)) (pss_one (ps_ret (pe_lc (own := [("name", 4)]) (g := gName 4) rfl sc.nd (ki_seq (K := K) rfl (xv 2)) (blkOk_by (N := ["store", "many", "names", "style", "name"]) (sc := defScope (topS 18)) (by decide +kernel)) (fun _ _ _ _ _ => (pg_name (i := 4) sc.nd rfl (by first | exact Or.inl rfl | exact Or.inr rfl))) (fun _ _ _ _ _ => pts_nil) (fun _ _ _ _ _ => (pe_op (ko_add (K := K) rfl) pe_str (xv 4)))))) pss_nil)
      (pss_cons (xs_if (xtc (ko_eq (K := K) rfl hr.units) (xv 3) pe_int (nomark _)) (pss_one (ps_ret (pe_lc (own := [("name", 4)]) (g := gName 4) rfl sc.nd (ki_seq (K := K) rfl (xv 2)) (blkOk_by (N := ["store", "many", "names", "style", "name"]) (sc := defScope (topS 18)) (by decide +kernel)) (fun _ _ _ _ _ => (pg_name (i := 4) sc.nd rfl (by first | exact Or.inl rfl | exact Or.inr rfl))) (fun _ _ _ _ _ => pts_nil) (fun _ _ _ _ _ => (pe_upper (xv 4)))))) pss_nil)
      (xss_cut (xs_if (PW.pt (xw_and (xtc (ko_eq (K := K) rfl hr.units) (xv 3) pe_int (nomark _)) (pw_and1 (xtc xo_gt (xv 1) pe_int (nomark _))))) (pss_one (ps_asg pe_str (pg_sub (xv 2) (pe_call (ok__law_take T) (hr.mono (by decide)) (by rfl) T.g__law_take T.F__law_take.kp T.b__law_take .nil pass0 (pa_cons (xv 0) (pa_cons (xv 1) pa_nil))) xset))) pss_nil)
      (pss_one (ps_ret (xv 2)))))))), ?_⟩
    obtain ⟨s, cl, n, m, rfl, St, hn, hm, q⟩ := h
    rw [lit_sp, lit_e]
    refine ⟨s, cl, n, m, rfl, St, by omega, hm, fun p ts H1 e1 nd nm fp hp k1 S1 => ?_⟩
    have ps : p ≠ s := fun e => by obtain ⟨o, z⟩ := St.got; rw [← e, fp] at z; cases z
    have pc : p ≠ cl := St.nec fp
    refine ⟨s, cl, n + 300, _, rfl, S1, by omega, by decide, fun sty H2 _ k2 S2 => ?_⟩
    have hp2 := k2 _ _ ps hp
    have k12 := k1.trans k2
    have lz : (sv ts).length ≤ sizeLine := by rw [sv_len, sl_big]; omega
    refine ⟨fun c => ?_, fun c1 => ⟨fun c => ?_, fun c2 => ?_⟩⟩
    · refine .inl ⟨p, rfl, ⟨_, SqL.of hp2⟩, fun D hD => ?_⟩
      refine lc_f (xs := sv ts) (onS fun t => 32 :: t) (SqL.of hp2) hD lz (fun _ => rfl) (fun x acc Q' hx q' => ?_) ?_
      · obtain ⟨t, ht, rfl⟩ := sv_mem hx
        have := (nm t ht).l1
        refine ⟨by rw [S_len, S_len, sl_big]; show 1 + _ ≤ _; omega, ?_⟩
        rw [S_cat]
        exact q'
      · rw [sv_on]
        refine q D _ _ (by rw [List.length_map]; exact e1) (nd_map nd fun a _ b _ e => (List.cons.inj e).2) (fun t ht => ?_) (fun t ht => ?_) (k12.free (S2.ne hD) hD) upd_same (k12.trans (Keep.new hD)) ((S2.new hD).mono (by omega))
        · obtain ⟨u, hu, rfl⟩ := List.mem_map.mp ht
          have := (nm u hu).l1
          show u.length + 1 ≤ 9
          omega
        · obtain ⟨u, hu, rfl⟩ := List.mem_map.mp ht
          have := (nm u hu).l1
          refine ⟨by show u.length + 1 ≤ _; omega, fun x hx => ?_⟩
          rcases List.mem_cons.mp hx with e | hx
          · omega
          · exact (nm u hu).fine.a x hx
    · refine .inl ⟨p, rfl, ⟨_, SqL.of hp2⟩, fun D hD => ?_⟩
      refine lc_f (xs := sv ts) (onS fun t => t.map up1) (SqL.of hp2) hD lz (fun _ => rfl) (fun x acc Q' hx q' => ?_) ?_
      · obtain ⟨t, ht, rfl⟩ := sv_mem hx
        have := (nm t ht).l1
        refine ⟨⟨_, rfl⟩, _, rfl, rfl, by rw [S_len]; omega, ?_⟩
        rw [upper_S (nm t ht).fine.all]
        exact q'
      · rw [sv_on]
        refine q D _ _ (by rw [List.length_map]; exact e1) (nd_map nd fun a ha b hb e => up_inj (word_all (nm a ha).w) (word_all (nm b hb).w) e) (fun t ht => ?_) (fun t ht => ?_) (k12.free (S2.ne hD) hD) upd_same (k12.trans (Keep.new hD)) ((S2.new hD).mono (by omega))
        · obtain ⟨u, hu, rfl⟩ := List.mem_map.mp ht
          have := (nm u hu).l1
          rw [List.length_map]
          omega
        · obtain ⟨u, hu, rfl⟩ := List.mem_map.mp ht
          exact up_fine (nm u hu).fine
    refine ⟨fun σ' H' => ∃ us : List (List Nat), σ' = [some (.ref s), some (.int (m : Nat)), some (.ref p), some (.int (sty : Nat)), none] ∧ us.length = m ∧ us.Nodup ∧ (∀ t ∈ us, t.length ≤ 9) ∧ Fines us ∧ H' p = some (.lst (sv us)) ∧ Keep s H H' ∧ Sto s cl (n + 302) H', ?_, ?_⟩
    · have t9 : ∀ t ∈ ts, t.length ≤ 9 := fun t ht => Nat.le_trans (nm t ht).l1 (by decide)
      refine ⟨fun c => ⟨fun c3 => ?_, fun _ => ⟨ts, rfl, e1, nd, t9, nm_fines nm, hp2, k12, S2.mono (by omega)⟩⟩, fun c => ⟨no_ft, fun _ => ⟨ts, rfl, e1, nd, t9, nm_fines nm, hp2, k12, S2.mono (by omega)⟩⟩⟩
      have c3' : (0 : Int) < (m : Nat) := of_decide_eq_true c3
      refine ⟨s, cl, n + 301, _, rfl, S2, by omega, by omega, fun r H3 hr k3 S3 => ?_⟩
      have hp3 := k3 _ _ ps hp2
      refine ⟨_, r, hp3, by rw [sv_len, e1]; exact ixN_nat (by omega), ?_⟩
      rw [sv_set]
      have kk : Keep s H (upd H3 p (.lst (sv (ts.set r [])))) := fun b u ne e => (upd_ne (ne_of_none e fp)).trans ((k12.trans k3) b u ne e)
      refine ⟨_, rfl, by rw [List.length_set]; exact e1, nd_set nd (fun t ht => (nm t ht).ne), fun t ht => ?_, fun t ht => ?_, upd_same, kk, S3.put ps pc⟩
      · rcases List.mem_or_eq_of_mem_set ht with ht | e
        · exact t9 t ht
        · rw [e]; decide
      · rcases List.mem_or_eq_of_mem_set ht with ht | e
        · exact (nm t ht).fine
        · rw [e]; exact ⟨by decide, by simp⟩
    rintro σ' H3 ⟨us, rfl, u1, u2, u3, u4, u5, u6, u7⟩
    exact q p us H3 u1 u2 u3 u4 fp u5 u6 u7
theorem sc__law_same : FnScope ["actual", "expected", "k"] ["actual", "expected"] (defScope (topS 10)) := ⟨rfl, rfl, rfl, by decide +kernel, rfl, by decide +kernel, by decide +kernel⟩
def sp__law_same (K : PySem.W.Frag) : Sp := fun vs H Q _ => ∃ x y, vs = [x, y] ∧ Rep H 7 x y ∧ Q (.bl true) H
theorem same_step {P : Program} {w : World} {K : PySem.W.Frag} {mg : Str → Option Value} {base : Heap} (T : Top K mg) (n : Nat) (spI : Sp) (ih : FnOk P w K mg base CX0 n T.a__law_same T.fd__law_same ["actual", "expected"] spI)
    (hI : ∀ (m : Nat) (H : Hp) (x y : V) (Q : VK) (E : XK), n = m + 1 → Rep H m x y → Q (.bl true) H → spI [x, y] H Q E) :
    FnOk P w K mg base CX0 (n + 1) T.a__law_same T.fd__law_same ["actual", "expected"] (fun vs H Q _ => ∃ x y, vs = [x, y] ∧ Rep H n x y ∧ Q (.bl true) H) := by
  refine T.F__law_same.ok (k := n) sc__law_same (fun vs H Q E h => ?_) (fun cdv A outer s0 H vs Q E hr h => ?_)
  · obtain ⟨x, y, rfl, _⟩ := h; rfl
  · have sc := sc__law_same
    refine ⟨_, (pss_cons (xs_if (PW.pt (xw_or (xt (pe_callB (xc_isi .list) (by rfl) T.n_isinstance (by decide +kernel) (pa_cons (xv 1) (pa_cons (pe_bltn (v := .ty "list") (by rfl) T.n_list (by decide +kernel) rfl) pa_nil)))) (pw_or1 (xt (pe_callB (xc_isi .tuple) (by rfl) T.n_isinstance (by decide +kernel) (pa_cons (xv 1) (pa_cons (pe_bltn (v := .ty "tuple") (by rfl) T.n_tuple (by decide +kernel) rfl) pa_nil))))))) (xss_cut (xs_if (PW.pt (xw_and (xt (pe_callB (xc_isi .list) (by rfl) T.n_isinstance (by decide +kernel) (pa_cons (xv 1) (pa_cons (pe_bltn (v := .ty "list") (by rfl) T.n_list (by decide +kernel) rfl) pa_nil)))) (pw_and1 (pt_not (xt (pe_callB (xc_isi .list) (by rfl) T.n_isinstance (by decide +kernel) (pa_cons (xv 0) (pa_cons (pe_bltn (v := .ty "list") (by rfl) T.n_list (by decide +kernel) rfl) pa_nil)))))))) (pss_one (ps_ret pe_bl)) pss_nil)
      (xss_cut (xs_if (PW.pt (xw_and (xt (pe_callB (xc_isi .tuple) (by rfl) T.n_isinstance (by decide +kernel) (pa_cons (xv 1) (pa_cons (pe_bltn (v := .ty "tuple") (by rfl) T.n_tuple (by decide +kernel) rfl) pa_nil)))) (pw_and1 (pt_not (xt (pe_callB (xc_isi .tuple) (by rfl) T.n_isinstance (by decide +kernel) (pa_cons (xv 0) (pa_cons (pe_bltn (v := .ty "tuple") (by rfl) T.n_tuple (by decide +kernel) rfl) pa_nil)))))))) (pss_one (ps_ret pe_bl)) pss_nil)
      (pss_cons (xs_if (xtc (ko_ne (K := K) rfl hr.units) (pe_callB (kc_len (K := K) rfl) (by rfl) T.n_len (by decide +kernel) (pa_cons (xv 0) pa_nil)) (pe_callB (kc_len (K := K) rfl) (by rfl) T.n_len (by decide +kernel) (pa_cons (xv 1) pa_nil)) (nomark _)) (pss_one (ps_ret pe_bl)) pss_nil)
      (pss_cons (ps_for PassesOwn.never rfl (pi_range1 (by rfl) T.n_range (pa_cons (pe_callB (kc_len (K := K) rfl) (by rfl) T.n_len (by decide +kernel) (pa_cons (xv 1) pa_nil)) pa_nil)) (pg_name (i := 2) sc.nd rfl (by first | exact Or.inl rfl | exact Or.inr rfl)) (pss_one (xs_if (pt_not (xt (pe_call ih hr (by rfl) T.g__law_same T.F__law_same.kp T.b__law_same .nil pass0 (pa_cons (pe_ix (kix (K := K) rfl) (xv 0) (xv 2) (fun _ _ => rfl)) (pa_cons (pe_ix (kix (K := K) rfl) (xv 1) (xv 2) (fun _ _ => rfl)) pa_nil))))) (pss_one (ps_ret pe_bl)) pss_nil)))
      (pss_one (ps_ret pe_bl)))))) pss_nil)
      (pss_cons (xs_if (xtc xo_is (xv 1) pe_non (nomark _)) (pss_one (ps_ret (pe_cmpR xo_is (xv 0) pe_non (nomark _)))) pss_nil)
      (pss_cons (xs_if (xt (pe_callB (xc_isi .bool) (by rfl) T.n_isinstance (by decide +kernel) (pa_cons (xv 1) (pa_cons (pe_bltn (v := .ty "bool") (by rfl) T.n_bool (by decide +kernel) rfl) pa_nil)))) (pss_one (ps_ret (xe_and (pe_callB (xc_isi .bool) (by rfl) T.n_isinstance (by decide +kernel) (pa_cons (xv 0) (pa_cons (pe_bltn (v := .ty "bool") (by rfl) T.n_bool (by decide +kernel) rfl) pa_nil))) (pe_one (pe_cmpR (ko_eq (K := K) rfl hr.units) (xv 0) (xv 1) (nomark _)))))) pss_nil)
      (pss_cons (xs_if (xt (pe_callB (xc_isi .int) (by rfl) T.n_isinstance (by decide +kernel) (pa_cons (xv 1) (pa_cons (pe_bltn (v := .ty "int") (by rfl) T.n_int (by decide +kernel) rfl) pa_nil)))) (pss_one (ps_ret (xe_and (pe_callB (xc_isi .int) (by rfl) T.n_isinstance (by decide +kernel) (pa_cons (xv 0) (pa_cons (pe_bltn (v := .ty "int") (by rfl) T.n_int (by decide +kernel) rfl) pa_nil))) (xe_and (xe_not (pe_callB (xc_isi .bool) (by rfl) T.n_isinstance (by decide +kernel) (pa_cons (xv 0) (pa_cons (pe_bltn (v := .ty "bool") (by rfl) T.n_bool (by decide +kernel) rfl) pa_nil)))) (pe_one (pe_cmpR (ko_eq (K := K) rfl hr.units) (xv 0) (xv 1) (nomark _))))))) pss_nil)
      (pss_one (ps_ret (xe_and (pe_callB (xc_isi .str) (by rfl) T.n_isinstance (by decide +kernel) (pa_cons (xv 0) (pa_cons (pe_bltn (v := .ty "str") (by rfl) T.n_str (by decide +kernel) rfl) pa_nil))) (pe_one (pe_cmpR (ko_eq (K := K) rfl hr.units) (xv 0) (xv 1) (nomark _)))))))))), ?_⟩
    obtain ⟨x, y, rfl, hR, q⟩ := h
    have none_of : ∀ {v : V}, Rep H n x y → True := fun _ => trivial
    cases y with
    | ref b =>
      cases n with
      | zero => cases x <;> exact hR.elim
      | succ n =>
        cases x with
        | ref a =>
          have hI := fun H x y Q E => hI n H x y Q E rfl
          rcases hR with ⟨xs, ys, ha, hb, el, hz, hr'⟩ | ⟨xs, ys, ha, hb, el, hz, hr'⟩
          · refine ⟨rfl, .inl ⟨⟨_, hb⟩, fun _ => ⟨fun _ => ?_, no_tf⟩, fun c => no_tf c⟩⟩
            have sa : Sq K H a xs := Sq.l ha
            have sb : Sq K H b ys := Sq.l hb
            refine ⟨fun σ' H' => σ' = [some (.ref a), some (.ref b), none] ∧ H' = H, ?_, ?_⟩
            · exact ⟨rfl, .inl ⟨⟨_, hb⟩, fun _ => ⟨rfl, .inl ⟨⟨_, ha⟩, no_ft, fun _ => ⟨rfl, rfl⟩⟩⟩, fun c => no_tf c⟩⟩
            rintro σ' H' ⟨rfl, rfl⟩
            refine ⟨fun σ'' H'' => σ'' = [some (.ref a), some (.ref b), none] ∧ H'' = H', ?_, ?_⟩
            · exact ⟨rfl, .inl ⟨⟨_, hb⟩, fun c => no_ft c, fun _ => ⟨no_ft, fun _ => ⟨rfl, rfl⟩⟩⟩⟩
            rintro σ'' H'' ⟨rfl, rfl⟩
            refine ⟨_, sa, _, sb, fun c => ?_, fun _ => ?_⟩
            · have c' : (!decide (((xs.length : Nat) : Int) = ((ys.length : Nat) : Int))) = true := c
              rw [el, decide_eq_true rfl] at c'
              exact Bool.noConfusion c'
            refine ⟨_, sb, _, rfl, by omega, by omega, ?_⟩
            rw [Int.toNat_natCast]
            refine for_range (lo := 0) (n := ys.length) (fun i σ H3 => H3 = H'' ∧ ∃ z : Option V, σ = [some (.ref a), some (.ref b), z]) ⟨rfl, none, rfl⟩ (fun i σ H3 hi hW => ?_) (fun σ H3 hW => ?_)
            · obtain ⟨rfl, z, rfl⟩ := hW
              have gx : xs[i]? = some xs[i] := List.getElem?_eq_getElem (by omega)
              have gy : ys[i]? = some ys[i] := List.getElem?_eq_getElem hi
              refine ⟨xs, xs[i], sa, at_int (by omega) gx, ys, ys[i], sb, at_int (by omega) gy, ?_⟩
              exact hI _ _ _ _ _ (hr' i _ _ gx gy) ⟨no_ft, fun _ => ⟨rfl, _, rfl⟩⟩
            · obtain ⟨rfl, z, rfl⟩ := hW
              exact q
          · refine ⟨rfl, .inr ⟨⟨_, hb⟩, fun c => no_ft c, fun _ => ⟨rfl, .inr ⟨⟨_, hb⟩, fun _ => ?_, fun c => no_tf c⟩⟩⟩⟩
            have sa : Sq K H a xs := Sq.t ha
            have sb : Sq K H b ys := Sq.t hb
            refine ⟨fun σ' H' => σ' = [some (.ref a), some (.ref b), none] ∧ H' = H, ?_, ?_⟩
            · exact ⟨rfl, .inr ⟨⟨_, hb⟩, fun c => no_ft c, fun _ => ⟨no_ft, fun _ => ⟨rfl, rfl⟩⟩⟩⟩
            rintro σ' H' ⟨rfl, rfl⟩
            refine ⟨fun σ'' H'' => σ'' = [some (.ref a), some (.ref b), none] ∧ H'' = H', ?_, ?_⟩
            · exact ⟨rfl, .inr ⟨⟨_, hb⟩, fun _ => ⟨rfl, .inr ⟨⟨_, ha⟩, no_ft, fun _ => ⟨rfl, rfl⟩⟩⟩, fun c => no_tf c⟩⟩
            rintro σ'' H'' ⟨rfl, rfl⟩
            refine ⟨_, sa, _, sb, fun c => ?_, fun _ => ?_⟩
            · have c' : (!decide (((xs.length : Nat) : Int) = ((ys.length : Nat) : Int))) = true := c
              rw [el, decide_eq_true rfl] at c'
              exact Bool.noConfusion c'
            refine ⟨_, sb, _, rfl, by omega, by omega, ?_⟩
            rw [Int.toNat_natCast]
            refine for_range (lo := 0) (n := ys.length) (fun i σ H3 => H3 = H'' ∧ ∃ z : Option V, σ = [some (.ref a), some (.ref b), z]) ⟨rfl, none, rfl⟩ (fun i σ H3 hi hW => ?_) (fun σ H3 hW => ?_)
            · obtain ⟨rfl, z, rfl⟩ := hW
              have gx : xs[i]? = some xs[i] := List.getElem?_eq_getElem (by omega)
              have gy : ys[i]? = some ys[i] := List.getElem?_eq_getElem hi
              refine ⟨xs, xs[i], sa, at_int (by omega) gx, ys, ys[i], sb, at_int (by omega) gy, ?_⟩
              exact hI _ _ _ _ _ (hr' i _ _ gx gy) ⟨no_ft, fun _ => ⟨rfl, _, rfl⟩⟩
            · obtain ⟨rfl, z, rfl⟩ := hW
              exact q
        | _ => exact hR.elim
    | non =>
      have ex : x = .non := by cases x <;> first | rfl | (cases n <;> exact hR.elim)
      subst ex
      exact ⟨rfl, fun c => no_ft c, fun _ => ⟨rfl, fun c => no_ft c, fun _ => ⟨fun _ => q, fun c => no_tf c⟩⟩⟩
    | bl b =>
      have ex : x = .bl b := by cases x <;> first | (cases n <;> exact congrArg V.bl hR) | (cases n <;> exact hR.elim)
      subst ex
      refine ⟨rfl, fun c => no_ft c, fun _ => ⟨rfl, fun c => no_ft c, fun _ => ⟨fun c => absurd (of_decide_eq_true c) (by intro z; cases z), fun _ => ⟨rfl, fun _ => ⟨rfl, fun _ => ?_, fun c => no_tf c⟩, fun c => no_tf c⟩⟩⟩⟩
      have z : decide (b = b) = true := decide_eq_true rfl
      rw [← z] at q
      exact q
    | int i =>
      have ex : x = .int i := by cases x <;> first | (cases n <;> exact congrArg V.int hR) | (cases n <;> exact hR.elim)
      subst ex
      refine ⟨rfl, fun c => no_ft c, fun _ => ⟨rfl, fun c => no_ft c, fun _ => ⟨fun c => absurd (of_decide_eq_true c) (by intro z; cases z), fun _ => ⟨rfl, fun c => no_ft c, fun _ => ⟨rfl, fun _ => ⟨rfl, fun _ => ⟨rfl, fun _ => ?_, fun c => no_tf c⟩, fun c => no_tf c⟩, fun c => no_tf c⟩⟩⟩⟩⟩
      have z : decide (i = i) = true := decide_eq_true rfl
      rw [← z] at q
      exact q
    | str z =>
      have ex : x = .str z := by cases x <;> first | (cases n <;> exact congrArg V.str hR) | (cases n <;> exact hR.elim)
      subst ex
      refine ⟨rfl, fun c => no_ft c, fun _ => ⟨rfl, fun c => no_ft c, fun _ => ⟨fun c => absurd (of_decide_eq_true c) (by intro z; cases z), fun _ => ⟨rfl, fun c => no_ft c, fun _ => ⟨rfl, fun c => no_ft c, fun _ => ⟨rfl, fun _ => ?_, fun c => no_tf c⟩⟩⟩⟩⟩⟩
      have z : decide (z = z) = true := decide_eq_true rfl
      rw [← z] at q
      exact q
    | byt _ => cases n <;> cases x <;> exact hR.elim
    | flt _ => cases n <;> cases x <;> exact hR.elim
    | ty _ => cases n <;> cases x <;> exact hR.elim
theorem ok_same_n {P : Program} {w : World} {K : PySem.W.Frag} {mg : Str → Option Value} {base : Heap} (T : Top K mg) : ∀ n : Nat, FnOk P w K mg base CX0 (n + 1) T.a__law_same T.fd__law_same ["actual", "expected"] (fun vs H Q _ => ∃ x y, vs = [x, y] ∧ Rep H n x y ∧ Q (.bl true) H)
  | 0 => same_step T 0 _ fn_never (fun m _ _ _ _ _ e => by cases e)
  | n + 1 => same_step T (n + 1) _ (ok_same_n T n) (fun m H x y Q E e hR q => by cases e; exact ⟨x, y, rfl, hR, q⟩)
theorem ok__law_same {P : Program} {w : World} {K : PySem.W.Frag} {mg : Str → Option Value} {base : Heap} (T : Top K mg) : FnOk P w K mg base CX0 8 T.a__law_same T.fd__law_same ["actual", "expected"] (sp__law_same K) := ok_same_n T 7
def sp__law_items (K : PySem.W.Frag) : Sp := fun vs H Q _ => ∃ (s cl : Addr) (n : Nat), vs = [.ref s] ∧ Sto s cl n H ∧ n + 1400 < 1000000000000 ∧
  ∀ (r : Addr) (ts : List (List Nat)) H', ts.length ≤ 201 → Fines ts → H r = none → H' r = some (.lst (sv ts)) → Keep s H H' → Sto s cl (n + 1400) H' → Q (.ref r) H'
theorem sc__law_items : FnScope ["store", "style", "stem", "items", "k"] ["store"] (defScope (topS 23)) := ⟨rfl, rfl, rfl, by decide +kernel, rfl, by decide +kernel, by decide +kernel⟩
theorem ok__law_items {P : Program} {w : World} {K : PySem.W.Frag} {mg : Str → Option Value} {base : Heap} (T : Top K mg) : FnOk P w K mg base CX0 8 T.a__law_items T.fd__law_items ["store"] (sp__law_items K) := by
  refine T.F__law_items.ok (k := 7) sc__law_items (fun vs H Q E h => ?_) (fun cdv A outer s0 H vs Q E hr h => ?_)
  · obtain ⟨s, cl, n, rfl, _⟩ := h; rfl
  · have sc := sc__law_items
    refine ⟨_, (pss_cons (ps_set (i := 1) sc.nd rfl (by first | exact Or.inl rfl | exact Or.inr rfl) (pe_call (ok__law_take T) (hr.mono (by decide)) (by rfl) T.g__law_take T.F__law_take.kp T.b__law_take .nil pass0 (pa_cons (xv 0) (pa_cons pe_int pa_nil))))
      (pss_cons (xs_if (xtc xo_lt (xv 1) pe_int (nomark _)) (pss_one (ps_ret (pe_call (ok__law_many T) (hr.mono (by decide)) (by rfl) T.g__law_many T.F__law_many.kp T.b__law_many .nil pass0 (pa_cons (xv 0) (pa_cons (pe_call (ok__law_strings T) (hr.mono (by decide)) (by rfl) T.g__law_strings T.F__law_strings.kp T.b__law_strings .nil pass0 (pa_cons (xv 0) (pa_cons (pe_op (ko_add (K := K) rfl) pe_int (pe_call (ok__law_take T) (hr.mono (by decide)) (by rfl) T.g__law_take T.F__law_take.kp T.b__law_take .nil pass0 (pa_cons (xv 0) (pa_cons pe_int pa_nil)))) pa_nil))) (pa_cons (pe_call (ok__law_near T) (hr.mono (by decide)) (by rfl) T.g__law_near T.F__law_near.kp T.b__law_near .nil pass0 (pa_cons (xv 0) (pa_cons pe_int (pa_cons pe_int pa_nil)))) pa_nil)))))) pss_nil)
      (xss_cut (xs_if (xtc (ko_eq (K := K) rfl hr.units) (xv 1) pe_int (nomark _)) (pss_cons (ps_set (i := 2) sc.nd rfl (by first | exact Or.inl rfl | exact Or.inr rfl) (pe_call (ok__law_raw_name T) (hr.mono (by decide)) (by rfl) T.g__law_raw_name T.F__law_raw_name.kp T.b__law_raw_name .nil pass0 (pa_cons (xv 0) pa_nil)))
      (pss_one (ps_setLc (i := 3) (own := [("k", 4)]) (g := gName 4) rfl sc.nd rfl rfl (sw_true rfl rfl rfl (by decide +kernel)) (pi_range1 (by rfl) T.n_range (pa_cons (pe_call (ok__law_near T) (hr.mono (by decide)) (by rfl) T.g__law_near T.F__law_near.kp T.b__law_near .nil pass0 (pa_cons (xv 0) (pa_cons pe_int (pa_cons pe_int pa_nil)))) pa_nil)) (blkOk_by (N := ["store", "style", "stem", "items", "k"]) (sc := defScope (topS 23)) (by decide +kernel)) (fun _ _ _ _ _ => (pg_name (i := 4) sc.nd rfl (by first | exact Or.inl rfl | exact Or.inr rfl))) (fun _ _ _ _ _ => pts_nil) (fun _ _ _ _ _ => (pe_op (ko_add (K := K) rfl) (xv 2) (pe_callTy xc_str (by rfl) T.n_str (by decide +kernel) (pa_cons (xv 4) pa_nil))))))) (pss_one (ps_set (i := 3) sc.nd rfl (by first | exact Or.inl rfl | exact Or.inr rfl) (pe_call (ok__law_strings T) (hr.mono (by decide)) (by rfl) T.g__law_strings T.F__law_strings.kp T.b__law_strings .nil pass0 (pa_cons (xv 0) (pa_cons (pe_call (ok__law_near T) (hr.mono (by decide)) (by rfl) T.g__law_near T.F__law_near.kp T.b__law_near .nil pass0 (pa_cons (xv 0) (pa_cons pe_int (pa_cons pe_int pa_nil)))) pa_nil))))))
      (xss_cut (xs_if (PW.pt (xw_and (xtc xo_lt (xv 1) pe_int (nomark _)) (pw_and1 (xtc xo_gt (pe_callB (kc_len (K := K) rfl) (by rfl) T.n_len (by decide +kernel) (pa_cons (xv 3) pa_nil)) pe_int (nomark _))))) (pss_one (ps_ret (pe_ix (kix (K := K) rfl) (pe_call (ok__law_repeated T) (hr.mono (by decide)) (by rfl) T.g__law_repeated T.F__law_repeated.kp T.b__law_repeated .nil pass0 (pa_cons (xv 0) (pa_cons (xv 3) pa_nil))) pe_int (fun _ _ => rfl)))) pss_nil)
      (pss_one (ps_ret (xv 3))))))), ?_⟩
    obtain ⟨s, cl, n, rfl, St, hn, q⟩ := h
    have back : ∀ {ys : List V} {ts : List (List Nat)}, (∀ y ∈ ys, y ∈ sv ts) → Fines ts → ∃ us, ys = sv us ∧ Fines us := by
      intro ys ts hm hf
      induction ys with
      | nil => exact ⟨[], rfl, fun t ht => by simp at ht⟩
      | cons y r ih =>
        obtain ⟨us, e, f⟩ := ih fun z hz => hm z (List.mem_cons_of_mem _ hz)
        obtain ⟨t, ht, e2⟩ := sv_mem (hm y List.mem_cons_self)
        exact ⟨t :: us, by rw [e, e2]; rfl, fun z hz => (List.mem_cons.mp hz).elim (fun h => h ▸ hf t ht) (f z)⟩
    refine ⟨s, cl, n, _, rfl, St, by omega, by decide, fun sty H1 _ k1 S1 => ?_⟩
    refine ⟨fun c => ?_, fun c1 => ?_⟩
    · refine ⟨s, cl, n + 1, _, rfl, S1, by omega, by decide, fun a H2 ha k2 S2 => ?_⟩
      refine ⟨s, cl, n + 2, 1 + a, ?_, S2, by omega, by omega, fun p ts H3 e1 nd t9 hf fp hp k3 S3 => ?_⟩
      · rw [show ((1 + a : Nat) : Int) = 1 + (a : Nat) by omega]
        rfl
      have k13 := k1.trans (k2.trans k3)
      have pss : p ≠ s := S2.ne fp
      refine ⟨s, cl, n + 2 + 302, 0, 12, rfl, S3, by omega, by decide, by decide, by decide, fun m H4 m0 m12 k4 S4 => ?_⟩
      refine ⟨s, cl, n + 2 + 302 + 2, p, sv ts, m, rfl, S4, by omega, k4 _ _ pss hp, pss, by rw [sv_len]; omega, by omega, fun r ys H5 l5 in5 fr hr5 k5 S5 => ?_⟩
      obtain ⟨us, rfl, fu⟩ := back in5 hf
      rw [sv_len] at l5
      exact q r us H5 (by omega) fu ((k13.trans k4).free (S4.ne fr) fr) hr5 (k13.trans (k4.trans k5)) (S5.mono (by omega))
    refine ⟨fun σ' H' => ∃ (p : Addr) (ts : List (List Nat)) (st : V) (y : Option V) (z : Option V), σ' = [some (.ref s), some (.int (sty : Nat)), y, some (.ref p), z] ∧ ts.length ≤ 200 ∧ Fines ts ∧ H p = none ∧ H' p = some (.lst (sv ts)) ∧ Keep s H H' ∧ Sto s cl (n + 320) H', ?_, ?_⟩
    · refine ⟨fun c => ?_, fun c2 => ?_⟩
      · refine ⟨s, cl, n + 1, rfl, S1, by omega, fun l H2 nm k2 S2 => ?_⟩
        refine ⟨s, cl, n + 1 + 9, 0, 200, rfl, S2, by omega, by decide, by decide, by decide, fun m H3 m0 m200 k3 S3 => ?_⟩
        refine ⟨_, rfl, by omega, by omega, fun D hD => ?_⟩
        rw [Int.toNat_natCast]
        have k13 := k1.trans (k2.trans k3)
        have Ds := S3.ne hD
        have l8 := nm.l1
        refine lc_rng (lo := 0) (n := m) (fun i H4 => H4 = upd H3 D (.lst (sv ((List.range i).map fun j => l ++ TL.numL j)))) (fun _ => rfl) rfl (fun i H4 hi e => ?_) (fun H4 e => ?_)
        · subst e
          refine ⟨log_ok (by omega), ?_⟩
          rw [num_S0]
          have d3 := TL.numL_len (n := i) (k := 3) (by decide) (by omega)
          refine ⟨by rw [S_len, S_len, sl_big]; omega, _, upd_same, ?_, ?_⟩
          · rw [sv_len, List.length_map, List.length_range, sl_big]; omega
          · rw [upd_upd, S_cat, List.range_succ, List.map_append, sv_app]
            rfl
        · subst e
          refine ⟨D, _, .non, _, _, rfl, by rw [List.length_map, List.length_range]; omega, fun t ht => ?_, k13.free Ds hD, upd_same, k13.trans (Keep.new hD), (S3.new hD).mono (by omega)⟩
          obtain ⟨j, hj, rfl⟩ := List.mem_map.mp ht
          have := List.mem_range.mp hj
          have d3 := TL.numL_len (n := j) (k := 3) (by decide) (by omega)
          refine ⟨by rw [List.length_append]; omega, fun x hx => ?_⟩
          rcases List.mem_append.mp hx with hx | hx
          · exact nm.fine.a x hx
          · have := lowD_lt (num_fine x hx); omega
      · refine ⟨s, cl, n + 1, 0, 20, rfl, S1, by omega, by decide, by decide, by decide, fun m H2 m0 m20 k2 S2 => ?_⟩
        refine ⟨s, cl, n + 1 + 2, m, rfl, S2, by omega, by omega, fun p ts H3 e1 nd t9 hf fp hp k3 S3 => ?_⟩
        exact ⟨p, ts, .non, _, _, rfl, by omega, hf, (k1.trans k2).free (S2.ne fp) fp, hp, k1.trans (k2.trans k3), S3.mono (by omega)⟩
    rintro σ' H2 ⟨p, ts, st, y, z, rfl, l2, f2, fp, hp, k2, S2⟩
    have pss : p ≠ s := St.ne fp
    refine ⟨fun σ' H' => σ' = [some (.ref s), some (.int (sty : Nat)), y, some (.ref p), z] ∧ H' = H2, ?_, ?_⟩
    · refine ⟨fun c => ⟨_, Sq.l hp, fun c3 => ?_, fun _ => ⟨rfl, rfl⟩⟩, fun c => ⟨no_ft, fun _ => ⟨rfl, rfl⟩⟩⟩
      refine ⟨s, cl, n + 320, p, sv ts, rfl, S2, by omega, hp, pss, by rw [sv_len]; omega, sv_nonempty (of_decide_eq_true c3), fun r t v ys H3 l3 in3 _ fr hr ht k3 S3 => ?_⟩
      obtain ⟨us, rfl, fu⟩ := back in3 f2
      rw [sv_len, sv_len] at l3
      refine ⟨_, _, Sq.t ht, atI_nat (j := 0) rfl, ?_⟩
      exact q r us H3 (by omega) fu (k2.free (S2.ne fr) fr) hr (k2.trans k3) (S3.mono (by omega))
    rintro σ' H3 ⟨rfl, rfl⟩
    exact q p ts H3 (by omega) f2 fp hp k2 (S2.mono (by omega))
def sp__law_is_told (K : PySem.W.Frag) : Sp := fun vs H Q _ => ∃ (s cl : Addr) (n : Nat) (p : Addr) (ts : List (List Nat)), vs = [.ref s, .ref p] ∧ Sto s cl n H ∧ n + 1 < 1000000000000 ∧ H p = some (.lst (sv ts)) ∧ p ≠ s ∧ ts.length ≤ 1000 ∧ Fines ts ∧
  ∀ H', Keep s H H' → Sto s cl (n + 1) H' → Q (.bl true) H'
theorem sc__law_is_told : FnScope ["store", "items", "passed", "turn"] ["store", "items"] (defScope (topS 26)) := ⟨rfl, rfl, rfl, by decide +kernel, rfl, by decide +kernel, by decide +kernel⟩
theorem ok__law_is_told {P : Program} {w : World} {K : PySem.W.Frag} {mg : Str → Option Value} {base : Heap} (T : Top K mg) : FnOk P w K mg base CX0 9 T.a__law_is_told T.fd__law_is_told ["store", "items"] (sp__law_is_told K) := by
  refine T.F__law_is_told.ok (k := 8) sc__law_is_told (fun vs H Q E h => ?_) (fun cdv A outer s0 H vs Q E hr h => ?_)
  · obtain ⟨s, cl, n, p, ts, rfl, _⟩ := h; rfl
  · have sc := sc__law_is_told
    refine ⟨_, (pss_cons (ps_set (i := 2) sc.nd rfl (by first | exact Or.inl rfl | exact Or.inr rfl) (pe_call (ok__law_either T) (hr.mono (by decide)) (by rfl) T.g__law_either T.F__law_either.kp T.b__law_either .nil pass0 (pa_cons (xv 0) (pa_cons (xv 1) pa_nil))))
      (pss_cons (ps_for PassesOwn.never rfl (pi_range1 (by rfl) T.n_range (pa_cons pe_int pa_nil)) (pg_name (i := 3) sc.nd rfl (by first | exact Or.inl rfl | exact Or.inr rfl)) (pss_one (xs_if (pt_not (xt (pe_call (ok__law_same T) (hr.mono (by decide)) (by rfl) T.g__law_same T.F__law_same.kp T.b__law_same .nil pass0 (pa_cons (pe_call (ok_first_duplicate T) (hr.mono (by decide)) (by rfl) T.g_first_duplicate T.F_first_duplicate.kp T.b_first_duplicate .nil pass0 (pa_cons (xv 2) pa_nil)) (pa_cons (pe_call (ok__law_first_due T) (hr.mono (by decide)) (by rfl) T.g__law_first_due T.F__law_first_due.kp T.b__law_first_due .nil pass0 (pa_cons (xv 1) pa_nil)) pa_nil))))) (pss_one (ps_ret pe_bl)) pss_nil)))
      (pss_one (ps_ret (pe_cmpR (ko_eq (K := K) rfl hr.units) (pe_callTy (kc_list (K := K) rfl rfl) (by rfl) T.n_list (by decide +kernel) (pa_cons (xv 2) pa_nil)) (xv 1) (nomark _)))))), ?_⟩
    obtain ⟨s, cl, n, p, ts, rfl, St, hn, hp, ps, hl, hf, q⟩ := h
    refine ⟨s, cl, n, p, _, rfl, St, by omega, hp, ps, fun r H1 k1 S1 fr hr => ?_⟩
    have rs := St.ne fr
    refine ⟨2, rfl, by decide, by decide, ?_⟩
    refine for_range (lo := 0) (n := 2) (fun i σ H2 => (∃ y : Option V, σ = [some (.ref s), some (.ref p), some (.ref r), y]) ∧ Same H1 H2) ⟨⟨none, rfl⟩, Same.refl _⟩ (fun i σ H2 hi hW => ?_) (fun σ H2 hW => ?_)
    · obtain ⟨⟨y, rfl⟩, sm⟩ := hW
      refine ⟨r, ts, rfl, hr.imp (sm _ _) (sm _ _), hl, fun v H3 fd1 sm3 => ?_⟩
      refine ⟨p, ts, rfl, sm3 _ _ (sm _ _ (k1 _ _ ps hp)), hl, fun v' fd2 => ?_⟩
      exact ⟨v, v', rfl, fd1.rep fd2, no_ft, fun _ => ⟨⟨_, rfl⟩, sm.trans sm3⟩⟩
    · obtain ⟨⟨y, rfl⟩, sm⟩ := hW
      have kk := k1.trans (Same.keep sm)
      refine ⟨sv ts, (hr.imp (sm _ _) (sm _ _)).elim Sq.l Sq.t, fun l hl' => ?_⟩
      refine ⟨.list (dS ts), .list (dS ts), .lst (SqL.of upd_same) (dp_sv _), .lst (SqL.of (same_new hl' _ _ (kk _ _ ps hp))) (dp_sv _), shaped_dS hf, shaped_dS hf, ?_⟩
      have z := fun o : HO => q _ (kk.trans (Keep.new (o := o) hl')) ((S1.same sm).new hl')
      rw [← eqv_self ts] at z
      exact z _
def sp__law_is_judged (K : PySem.W.Frag) : Sp := fun vs H Q _ => ∃ (s cl : Addr) (n : Nat) (p o : Addr) (ls ts : List (List Nat)), vs = [.ref s, .ref p, .ref o] ∧ Sto s cl n H ∧ n + 2 < 1000000000000 ∧ H p = some (.lst (sv ls)) ∧ p ≠ s ∧ H o = some (.lst (sv ts)) ∧ o ≠ s ∧ ls.length < 64 ∧ ts.length < 64 ∧ Fines ls ∧ Fines ts ∧ ts.Nodup ∧
  ∀ H', Keep s H H' → Sto s cl (n + 2) H' → Q (.bl true) H'
theorem sc__law_is_judged : FnScope ["store", "liking", "listed", "passed", "chosen", "turn"] ["store", "liking", "listed"] (defScope (topS 27)) := ⟨rfl, rfl, rfl, by decide +kernel, rfl, by decide +kernel, by decide +kernel⟩
theorem ok__law_is_judged {P : Program} {w : World} {K : PySem.W.Frag} {mg : Str → Option Value} {base : Heap} (T : Top K mg) : FnOk P w K mg base CX0 9 T.a__law_is_judged T.fd__law_is_judged ["store", "liking", "listed"] (sp__law_is_judged K) := by
  refine T.F__law_is_judged.ok (k := 8) sc__law_is_judged (fun vs H Q E h => ?_) (fun cdv A outer s0 H vs Q E hr h => ?_)
  · obtain ⟨s, cl, n, p, o, ls, ts, rfl, _⟩ := h; rfl
  · have sc := sc__law_is_judged
    refine ⟨_, (pss_cons (ps_set (i := 3) sc.nd rfl (by first | exact Or.inl rfl | exact Or.inr rfl) (pe_call (ok__law_either T) (hr.mono (by decide)) (by rfl) T.g__law_either T.F__law_either.kp T.b__law_either .nil pass0 (pa_cons (xv 0) (pa_cons (xv 1) pa_nil))))
      (pss_cons (ps_set (i := 4) sc.nd rfl (by first | exact Or.inl rfl | exact Or.inr rfl) (pe_call (ok__law_either T) (hr.mono (by decide)) (by rfl) T.g__law_either T.F__law_either.kp T.b__law_either .nil pass0 (pa_cons (xv 0) (pa_cons (xv 2) pa_nil))))
      (pss_cons (ps_for PassesOwn.never rfl (pi_range1 (by rfl) T.n_range (pa_cons pe_int pa_nil)) (pg_name (i := 5) sc.nd rfl (by first | exact Or.inl rfl | exact Or.inr rfl)) (pss_one (xs_if (pt_not (xt (pe_call (ok__law_same T) (hr.mono (by decide)) (by rfl) T.g__law_same T.F__law_same.kp T.b__law_same .nil pass0 (pa_cons (pe_call (ok_is_liking T) (hr.mono (by decide)) (by rfl) T.g_is_liking T.F_is_liking.kp T.b_is_liking .nil pass0 (pa_cons (xv 3) (pa_cons (xv 4) pa_nil))) (pa_cons (pe_call (ok__law_is_liking_due T) (hr.mono (by decide)) (by rfl) T.g__law_is_liking_due T.F__law_is_liking_due.kp T.b__law_is_liking_due .nil pass0 (pa_cons (xv 1) (pa_cons (xv 2) pa_nil))) pa_nil))))) (pss_one (ps_ret pe_bl)) pss_nil)))
      (pss_one (ps_ret (xe_and (pe_cmpR (ko_eq (K := K) rfl hr.units) (pe_callTy (kc_list (K := K) rfl rfl) (by rfl) T.n_list (by decide +kernel) (pa_cons (xv 3) pa_nil)) (xv 1) (nomark _)) (pe_one (pe_cmpR (ko_eq (K := K) rfl hr.units) (pe_callTy (kc_list (K := K) rfl rfl) (by rfl) T.n_list (by decide +kernel) (pa_cons (xv 4) pa_nil)) (xv 2) (nomark _))))))))), ?_⟩
    obtain ⟨s, cl, n, p, o, ls, ts, rfl, St, hn, hp, ps, ho, os, l1, l2, f1, f2, nd, q⟩ := h
    refine ⟨s, cl, n, p, _, rfl, St, by omega, hp, ps, fun r H1 k1 S1 fr hr => ?_⟩
    have rs := St.ne fr
    refine ⟨s, cl, n + 1, o, _, rfl, S1, by omega, k1 _ _ os ho, os, fun r2 H2 k2 S2 fr2 hr2 => ?_⟩
    have r2s := S1.ne fr2
    have hr' := hr.imp (k2 _ _ rs) (k2 _ _ rs)
    have k12 := k1.trans k2
    refine ⟨2, rfl, by decide, by decide, ?_⟩
    refine for_range (lo := 0) (n := 2) (fun i σ H3 => (∃ y : Option V, σ = [some (.ref s), some (.ref p), some (.ref o), some (.ref r), some (.ref r2), y]) ∧ Same H2 H3) ⟨⟨none, rfl⟩, Same.refl _⟩ (fun i σ H3 hi hW => ?_) (fun σ H3 hW => ?_)
    · obtain ⟨⟨y, rfl⟩, sm⟩ := hW
      refine ⟨r, r2, ls, ts, rfl, hr'.imp (sm _ _) (sm _ _), hr2.imp (sm _ _) (sm _ _), l1, l2, f1, f2, fun b H4 hb sm4 => ?_⟩
      have sm' := sm.trans sm4
      refine ⟨p, o, ls, ts, rfl, sm' _ _ (k12 _ _ ps hp), sm' _ _ (k12 _ _ os ho), by omega, by omega, nd, fun b' H5 hb' sm5 => ?_⟩
      have e : b = b' := by rw [Bool.eq_iff_iff, hb, hb']
      exact ⟨_, _, rfl, e, no_ft, fun _ => ⟨⟨_, rfl⟩, sm'.trans sm5⟩⟩
    · obtain ⟨⟨y, rfl⟩, sm⟩ := hW
      have kk := k12.trans (Same.keep sm)
      have SS := S2.same sm
      refine ⟨sv ls, (hr'.imp (sm _ _) (sm _ _)).elim Sq.l Sq.t, fun l hl' => ?_⟩
      refine ⟨.list (dS ls), .list (dS ls), .lst (SqL.of upd_same) (dp_sv _), .lst (SqL.of (same_new hl' _ _ (kk _ _ ps hp))) (dp_sv _), shaped_dS f1, shaped_dS f1, fun _ => ?_, fun c => ?_⟩
      · refine ⟨sv ts, ((hr2.imp (sm _ _) (sm _ _)).imp (same_new hl' _ _) (same_new hl' _ _)).elim Sq.l Sq.t, fun l2' hl2 => ?_⟩
        refine ⟨.list (dS ts), .list (dS ts), .lst (SqL.of upd_same) (dp_sv _), .lst (SqL.of (same_new hl2 _ _ (same_new hl' _ _ (kk _ _ os ho)))) (dp_sv _), shaped_dS f2, shaped_dS f2, ?_⟩
        have z := fun (o1 o2 : HO) (h : upd H3 l o1 l2' = none) => q _ (kk.trans ((Keep.new (o := o1) hl').trans (Keep.new (o := o2) h))) ((SS.new hl').new h)
        rw [← eqv_self ts] at z
        exact z _ _ hl2
      · rw [eqv_self] at c
        exact no_tf c
def sp_law (K : PySem.W.Frag) : Sp := fun vs H Q _ => ∃ (a : Addr) (ns : List Int), vs = [.ref a] ∧ SqL K H a (ns.map V.int) ∧ ns.length ≤ 63 ∧ ∀ H', Q (.bl true) H'
theorem sc_law : FnScope ["script", "store", "items", "longer", "listed", "good", "strange", "bent", "twice", "liking", "passed"] ["script"] (defScope (topS 28)) := ⟨rfl, rfl, rfl, by decide +kernel, rfl, by decide +kernel, by decide +kernel⟩
theorem ok_law {P : Program} {w : World} {K : PySem.W.Frag} {mg : Str → Option Value} {base : Heap} (T : Top K mg) : FnOk P w K mg base CX0 10 T.a_law T.fd_law ["script"] (sp_law K) := by
  refine T.F_law.ok (k := 9) sc_law (fun vs H Q E h => ?_) (fun cdv A outer s0 H vs Q E hr h => ?_)
  · obtain ⟨a, ns, rfl, _⟩ := h; rfl
  · have sc := sc_law
    refine ⟨_, (pss_cons (ps_set (i := 1) sc.nd rfl (by first | exact Or.inl rfl | exact Or.inr rfl) (pe_call (ok__law_store T) (hr.mono (by decide)) (by rfl) T.g__law_store T.F__law_store.kp T.b__law_store .nil pass0 (pa_cons (xv 0) pa_nil)))
      (pss_cons (ps_set (i := 2) sc.nd rfl (by first | exact Or.inl rfl | exact Or.inr rfl) (pe_call (ok__law_items T) (hr.mono (by decide)) (by rfl) T.g__law_items T.F__law_items.kp T.b__law_items .nil pass0 (pa_cons (xv 1) pa_nil)))
      (pss_cons (xs_if (PW.pt (xw_or (pt_not (xt (pe_call (ok__law_is_told T) (hr.mono (by decide)) (by rfl) T.g__law_is_told T.F__law_is_told.kp T.b__law_is_told .nil pass0 (pa_cons (xv 1) (pa_cons (xv 2) pa_nil))))) (pw_or1 (pt_not (xt (pe_call (ok__law_is_told T) (hr.mono (by decide)) (by rfl) T.g__law_is_told T.F__law_is_told.kp T.b__law_is_told .nil pass0 (pa_cons (xv 1) (pa_cons (ke_rev (K := K) rfl (xv 2)) pa_nil)))))))) (pss_one (ps_ret pe_bl)) pss_nil)
      (pss_cons (ps_set (i := 3) sc.nd rfl (by first | exact Or.inl rfl | exact Or.inr rfl) (pe_callTy (kc_list (K := K) rfl rfl) (by rfl) T.n_list (by decide +kernel) (pa_cons (xv 2) pa_nil)))
      (xss_cut (xs_if (PW.pt (xw_and (xtc xo_gt (pe_callB (kc_len (K := K) rfl) (by rfl) T.n_len (by decide +kernel) (pa_cons (xv 2) pa_nil)) pe_int (nomark _)) (pw_and1 (pt_not (xt (pe_call (ok__law_same T) (hr.mono (by decide)) (by rfl) T.g__law_same T.F__law_same.kp T.b__law_same .nil pass0 (pa_cons (pe_kw0 (ok_first_duplicate T) (hr.mono (by decide)) (by rfl) T.g_first_duplicate T.F_first_duplicate.kp T.kb_first_duplicate pass0 (pk_cons (xv 3) pk_nil)) (pa_cons (pe_call (ok__law_first_due T) (hr.mono (by decide)) (by rfl) T.g__law_first_due T.F__law_first_due.kp T.b__law_first_due .nil pass0 (pa_cons (xv 2) pa_nil)) pa_nil)))))))) (pss_one (ps_ret pe_bl)) pss_nil)
      (pss_cons (ps_expr (ke_bm (K := K) rfl PySem.F.plainAttrs_list PySem.F.slot_list_append PySem.F.type_list_append xm_append (xv 3) (pa_cons (pe_call (ok__law_pick T) (hr.mono (by decide)) (by rfl) T.g__law_pick T.F__law_pick.kp T.b__law_pick .nil pass0 (pa_cons (xv 1) (pa_cons (pe_op (ko_add (K := K) rfl) (xv 2) (pe_lst (pa_cons pe_str pa_nil))) pa_nil))) pa_nil)))
      (pss_cons (xs_if (pt_not (xt (pe_call (ok__law_same T) (hr.mono (by decide)) (by rfl) T.g__law_same T.F__law_same.kp T.b__law_same .nil pass0 (pa_cons (pe_call (ok_first_duplicate T) (hr.mono (by decide)) (by rfl) T.g_first_duplicate T.F_first_duplicate.kp T.b_first_duplicate .nil pass0 (pa_cons (xv 3) pa_nil)) (pa_cons (pe_call (ok__law_first_due T) (hr.mono (by decide)) (by rfl) T.g__law_first_due T.F__law_first_due.kp T.b__law_first_due .nil pass0 (pa_cons (xv 3) pa_nil)) pa_nil))))) (pss_one (ps_ret pe_bl)) pss_nil)
      (pss_cons (ps_set (i := 4) sc.nd rfl (by first | exact Or.inl rfl | exact Or.inr rfl) (pe_call (ok__law_strings T) (hr.mono (by decide)) (by rfl) T.g__law_strings T.F__law_strings.kp T.b__law_strings .nil pass0 (pa_cons (xv 1) (pa_cons (pe_call (ok__law_near T) (hr.mono (by decide)) (by rfl) T.g__law_near T.F__law_near.kp T.b__law_near .nil pass0 (pa_cons (xv 1) (pa_cons pe_int (pa_cons (xe_if (xt (pe_call (ok__law_yes T) (hr.mono (by decide)) (by rfl) T.g__law_yes T.F__law_yes.kp T.b__law_yes .nil pass0 (pa_cons (xv 1) (pa_cons pe_int pa_nil)))) pe_int pe_int) pa_nil)))) pa_nil))))
      (pss_cons (ps_set (i := 5) sc.nd rfl (by first | exact Or.inl rfl | exact Or.inr rfl) (pe_call (ok__law_order T) (hr.mono (by decide)) (by rfl) T.g__law_order T.F__law_order.kp T.b__law_order .nil pass0 (pa_cons (xv 1) (pa_cons (xv 4) pa_nil))))
      (pss_cons (ps_set (i := 6) sc.nd rfl (by first | exact Or.inl rfl | exact Or.inr rfl) (pe_op (ko_add (K := K) rfl) (xv 4) (pe_lst (pa_cons (pe_call (ok__law_other T) (hr.mono (by decide)) (by rfl) T.g__law_other T.F__law_other.kp T.b__law_other .nil pass0 (pa_cons (xv 1) (pa_cons (xv 4) pa_nil))) pa_nil))))
      (pss_cons (ps_set (i := 7) sc.nd rfl (by first | exact Or.inl rfl | exact Or.inr rfl) (pe_call (ok__law_bent_list T) (hr.mono (by decide)) (by rfl) T.g__law_bent_list T.F__law_bent_list.kp T.b__law_bent_list .nil pass0 (pa_cons (xv 1) (pa_cons (xv 5) (pa_cons (xv 6) pa_nil)))))
      (pss_cons (ps_set (i := 8) sc.nd rfl (by first | exact Or.inl rfl | exact Or.inr rfl) (pe_call (ok__law_bent_list T) (hr.mono (by decide)) (by rfl) T.g__law_bent_list T.F__law_bent_list.kp T.b__law_bent_list .nil pass0 (pa_cons (xv 1) (pa_cons (xv 7) (pa_cons (xv 6) pa_nil)))))
      (pss_cons (ps_for PassesOwn.never rfl (ki_seq (K := K) rfl (pe_lst (pa_cons (xv 5) (pa_cons (xv 7) (pa_cons (xv 5) (pa_cons (xv 8) (pa_cons (xv 7) (pa_cons (xv 4) pa_nil)))))))) (pg_name (i := 9) sc.nd rfl (by first | exact Or.inl rfl | exact Or.inr rfl)) (pss_one (xs_if (pt_not (xt (pe_call (ok__law_is_judged T) (hr.mono (by decide)) (by rfl) T.g__law_is_judged T.F__law_is_judged.kp T.b__law_is_judged .nil pass0 (pa_cons (xv 1) (pa_cons (xv 9) (pa_cons (xv 4) pa_nil)))))) (pss_one (ps_ret pe_bl)) pss_nil)))
      (pss_cons (ps_set (i := 10) sc.nd rfl (by first | exact Or.inl rfl | exact Or.inr rfl) (pe_callTy (kc_list (K := K) rfl rfl) (by rfl) T.n_list (by decide +kernel) (pa_cons (xv 5) pa_nil)))
      (pss_cons (xs_if (pt_not (xt (pe_call (ok__law_same T) (hr.mono (by decide)) (by rfl) T.g__law_same T.F__law_same.kp T.b__law_same .nil pass0 (pa_cons (pe_kw0 (ok_is_liking T) (hr.mono (by decide)) (by rfl) T.g_is_liking T.F_is_liking.kp T.kb_is_liking pass0 (pk_cons (xv 10) (pk_cons (xv 4) pk_nil))) (pa_cons pe_bl pa_nil))))) (pss_one (ps_ret pe_bl)) pss_nil)
      (pss_cons (ps_expr (ke_bm (K := K) rfl PySem.F.plainAttrs_list PySem.F.slot_list_append PySem.F.type_list_append xm_append (xv 10) (pa_cons (pe_call (ok__law_pick T) (hr.mono (by decide)) (by rfl) T.g__law_pick T.F__law_pick.kp T.b__law_pick .nil pass0 (pa_cons (xv 1) (pa_cons (xv 6) pa_nil))) pa_nil)))
      (pss_one (ps_ret (pe_call (ok__law_same T) (hr.mono (by decide)) (by rfl) T.g__law_same T.F__law_same.kp T.b__law_same .nil pass0 (pa_cons (pe_call (ok_is_liking T) (hr.mono (by decide)) (by rfl) T.g_is_liking T.F_is_liking.kp T.b_is_liking .nil pass0 (pa_cons (xv 10) (pa_cons (xv 4) pa_nil))) (pa_cons (pe_call (ok__law_is_liking_due T) (hr.mono (by decide)) (by rfl) T.g__law_is_liking_due T.F__law_is_liking_due.kp T.b__law_is_liking_due .nil pass0 (pa_cons (xv 10) (pa_cons (xv 4) pa_nil))) pa_nil))))))))))))))))))))), ?_⟩
    obtain ⟨a, ns, rfl, hS, hl, q⟩ := h
    rw [lit_new]
    refine ⟨a, ns, rfl, hS, hl, fun s cl H1 sm1 fs S1 => ?_⟩
    refine ⟨s, cl, 0, rfl, S1, by decide, fun it ts H2 l2 f2 fit hit k2 S2 => ?_⟩
    have its := S1.ne fit
    have itc := S1.nec fit
    refine ⟨s, cl, _, it, ts, rfl, S2, by decide, hit, its, by omega, f2, fun H3 k3 S3 => ⟨no_ft, fun _ => ?_⟩⟩
    refine ⟨sv ts, SqL.of (k3 _ _ its hit), fun rv hrv => ?_⟩
    rw [sv_rev]
    refine ⟨s, cl, _, rv, ts.reverse, rfl, S3.new hrv, by decide, upd_same, S3.ne hrv, by rw [List.length_reverse]; omega, f2.sub fun t ht => List.mem_reverse.mp ht, fun H4 k4 S4 => ⟨no_ft, fun _ => ?_⟩⟩
    have hit4 : H4 it = some (.lst (sv ts)) := k4 _ _ its (same_new hrv _ _ (k3 _ _ its hit))
    refine ⟨sv ts, Sq.l hit4, fun lo hlo => ?_⟩
    have los := S4.ne hlo
    have loc := S4.nec hlo
    have itlo : it ≠ lo := ne_of_none hit4 hlo
    have S5 := S4.new (o := .lst (sv ts)) hlo
    refine ⟨fun σ' H' => σ' = [some (.ref a), some (.ref s), some (.ref it), some (.ref lo), none, none, none, none, none, none, none] ∧ Same (upd H4 lo (.lst (sv ts))) H', ?_, ?_⟩
    · refine ⟨_, Sq.l (same_new hlo _ _ hit4), fun c => ?_, fun _ => ⟨no_ft, fun _ => ⟨rfl, Same.refl _⟩⟩⟩
      refine ⟨rfl, rfl, lo, ts, rfl, .inl upd_same, by omega, fun v H6 fd1 sm6 => ?_⟩
      refine ⟨it, ts, rfl, sm6 _ _ (same_new hlo _ _ hit4), by omega, fun v' fd2 => ?_⟩
      exact ⟨v, v', rfl, fd1.rep fd2, no_ft, fun _ => ⟨rfl, sm6⟩⟩
    rintro σ' H6 ⟨rfl, sm6⟩
    have S6 := S5.same sm6
    have hit6 : H6 it = some (.lst (sv ts)) := sm6 _ _ (same_new hlo _ _ hit4)
    have hlo6 : H6 lo = some (.lst (sv ts)) := sm6 _ _ upd_same
    refine ⟨tyL hlo6, sl_of (n := 1) rfl, fun nw hnw => .inl ⟨sv ts, [.str (S [110, 101, 119])], same_new hnw _ _ hit6, upd_same, by rw [sv_len, sl_big]; show _ + 1 ≤ _; omega, fun ad had => ?_⟩⟩
    rw [sv_one, ← sv_app]
    have fnew : Fines (ts ++ [[110, 101, 119]]) := fun t ht => (List.mem_append.mp ht).elim (f2 t) fun h => by
      rw [List.mem_singleton.mp h]; exact ⟨by decide, by decide⟩
    refine ⟨s, cl, _, (S6.new hnw).new had, by decide, .inr ⟨ad, _, rfl, upd_same, (S6.new hnw).ne had, by rw [sv_app]; intro e; have := congrArg List.length e; rw [List.length_append] at this; simp [sv] at this, by rw [sv_len, List.length_append]; show _ + 1 ≤ _; omega, fun v H7 hv k7 S7 => ?_⟩⟩
    obtain ⟨t, ht, rfl⟩ := sv_mem hv
    have ft := fnew t ht
    have hlo7 : H7 lo = some (.lst (sv ts)) := k7 _ _ los (same_new had _ _ (same_new hnw _ _ hlo6))
    refine ⟨sv ts, hlo7, by rw [sv_len, sl_big]; omega, ?_⟩
    rw [sv_one, ← sv_app]
    have S8 := S7.put (o := .lst (sv (ts ++ [t]))) los loc
    refine ⟨lo, ts ++ [t], rfl, .inl upd_same, by rw [List.length_append]; show _ + 1 ≤ _; omega, fun v1 H9 fd1 sm9 => ?_⟩
    refine ⟨lo, ts ++ [t], rfl, sm9 _ _ upd_same, by rw [List.length_append]; show _ + 1 ≤ _; omega, fun v2 fd2 => ⟨v1, v2, rfl, fd1.rep fd2, no_ft, fun _ => ?_⟩⟩
    have S9 := S8.same sm9
    -- listed
    refine ⟨s, cl, _, 4, rfl, S9, by decide, by decide, fun b H10 k10 S10 => join_tC fun v hv => ?_⟩
    obtain ⟨hi, rfl, hi7, hi20⟩ : ∃ hi : Int, v = .int hi ∧ 7 ≤ hi ∧ hi ≤ 20 := by
      rcases hv with rfl | rfl
      · exact ⟨20, rfl, by decide, by decide⟩
      · exact ⟨7, rfl, by decide, by decide⟩
    refine ⟨s, cl, _, 0, hi, rfl, S10, by decide, by decide, by omega, by omega, fun m H11 m0 m1 k11 S11 => ?_⟩
    refine ⟨s, cl, _, m, rfl, S11, by decide, by omega, fun li lts H12 e12 nd12 t9 f12 fli hli k12 S12 => ?_⟩
    have lis := S11.ne fli
    have m20 : lts.length ≤ 20 := by omega
    refine ⟨s, cl, _, li, sv lts, rfl, S12, by decide, hli, lis, by rw [sv_len]; omega, fun go gys H13 pm13 fgo hgo k13 S13 => ?_⟩
    obtain ⟨gts, rfl, pmg⟩ := sv_perm pm13
    have gos := S12.ne fgo
    have fg : Fines gts := f12.sub fun t ht => pmg.mem_iff.mp ht
    have lg : gts.length = lts.length := pmg.length_eq
    have hli13 := k13 _ _ lis hli
    refine ⟨s, cl, _, li, lts, rfl, S13, by decide, hli13, lis, by omega, fun t ht => Nat.le_trans (t9 t ht) (by decide), f12, fun ol H14 fo _ k14 S14 => ?_⟩
    refine ⟨sl_of (n := 1) rfl, fun x hx => .inl ⟨sv lts, [.str (S ol)], same_new hx _ _ (k14 _ _ lis hli13), upd_same, by rw [sv_len, sl_big]; show _ + 1 ≤ _; omega, fun st hst => ?_⟩⟩
    rw [sv_one, ← sv_app]
    have S15 : Sto s cl _ (upd (upd H14 x (.lst (sv [ol]))) st (.lst (sv (lts ++ [ol])))) := (S14.new hx).new hst
    have sts : st ≠ s := (S14.new hx).ne hst
    have fst' : Fines (lts ++ [ol]) := fun t ht => (List.mem_append.mp ht).elim (f12 t) fun h => by rw [List.mem_singleton.mp h]; exact fo
    have sm15 : Same H14 (upd (upd H14 x (.lst (sv [ol]))) st (.lst (sv (lts ++ [ol])))) := (same_new hx).trans (same_new hst)
    have hgo15 := sm15 _ _ (k14 _ _ gos hgo)
    have hli15 := sm15 _ _ (k14 _ _ lis hli13)
    have lst1 : (lts ++ [ol]).length = lts.length + 1 := by rw [List.length_append]; rfl
    refine ⟨s, cl, _, go, st, sv gts, sv (lts ++ [ol]), rfl, S15, by decide, hgo15, gos, by rw [sv_len]; omega, upd_same, sts, by rw [sv_len]; omega, by rw [sv_app]; intro e; have := congrArg List.length e; rw [List.length_append] at this; simp [sv] at this, fun be bys H16 lb inb fbe hbe k16 S16 => ?_⟩
    obtain ⟨bts, rfl, fb⟩ := sv_back inb fg fst'
    rw [sv_len, sv_len] at lb
    have bes := S15.ne fbe
    refine ⟨s, cl, _, be, st, sv bts, sv (lts ++ [ol]), rfl, S16, by decide, hbe, bes, by rw [sv_len]; omega, k16 _ _ sts upd_same, sts, by rw [sv_len]; omega, by rw [sv_app]; intro e; have := congrArg List.length e; rw [List.length_append] at this; simp [sv] at this, fun tw tys H17 lt int ftw htw k17 S17 => ?_⟩
    obtain ⟨tts, rfl, ftt⟩ := sv_back int fb fst'
    rw [sv_len, sv_len] at lt
    have tws := S16.ne ftw
    have hgo17 := k17 _ _ gos (k16 _ _ gos hgo15)
    have hli17 := k17 _ _ lis (k16 _ _ lis hli15)
    have hbe17 := k17 _ _ bes hbe
    have hst17 : H17 st = some (.lst (sv (lts ++ [ol]))) := k17 _ _ sts (k16 _ _ sts upd_same)
    -- each of the six is judged
    refine .inl ⟨sl_of (n := 6) rfl, fun lk hlk => ⟨lk, rfl, ⟨_, SqL.of upd_same⟩, ?_⟩⟩
    have lks := S17.ne hlk
    have six : ∀ v ∈ ([.ref go, .ref be, .ref go, .ref tw, .ref be, .ref li] : List V), ∃ r ls, v = .ref r ∧ H17 r = some (.lst (sv ls)) ∧ r ≠ s ∧ ls.length < 64 ∧ Fines ls := by
      intro v hv
      simp only [List.mem_cons, List.not_mem_nil, or_false] at hv
      rcases hv with rfl | rfl | rfl | rfl | rfl | rfl
      · exact ⟨go, gts, rfl, hgo17, gos, by omega, fg⟩
      · exact ⟨be, bts, rfl, hbe17, bes, by omega, fb⟩
      · exact ⟨go, gts, rfl, hgo17, gos, by omega, fg⟩
      · exact ⟨tw, tts, rfl, htw, tws, by omega, ftt⟩
      · exact ⟨be, bts, rfl, hbe17, bes, by omega, fb⟩
      · exact ⟨li, lts, rfl, hli17, lis, by omega, f12⟩
    refine for_list (xs := [.ref go, .ref be, .ref go, .ref tw, .ref be, .ref li]) (fun i σ H' => (∃ y : Option V, σ = [some (.ref a), some (.ref s), some (.ref it), some (.ref lo), some (.ref li), some (.ref go), some (.ref st), some (.ref be), some (.ref tw), y, none]) ∧ Keep s (upd H17 lk (.lst [.ref go, .ref be, .ref go, .ref tw, .ref be, .ref li])) H' ∧ Sto s cl (10000 + 2 * i) H')
      ⟨⟨none, rfl⟩, Keep.refl, (S17.new hlk).mono (by decide)⟩ (fun i σ H' _ hW => SqL.of (hW.2.1 _ _ lks upd_same)) (fun i v σ H' hi hW => ?_) (fun σ H' hW => ?_)
    · obtain ⟨⟨y, rfl⟩, kW, SW⟩ := hW
      obtain ⟨r, ls, rfl, h1, h2, h3, h4⟩ := six v (List.mem_of_getElem? hi)
      have i6 : i < 6 := (List.getElem?_eq_some_iff.mp hi).1
      exact ⟨s, cl, _, r, li, ls, lts, rfl, SW, by omega, kW _ _ h2 (same_new hlk _ _ h1), h2, kW _ _ lis (same_new hlk _ _ hli17), lis, h3, by omega, h4, f12, nd12, fun H'' k'' S'' => ⟨no_ft, fun _ => ⟨⟨_, rfl⟩, kW.trans k'', S''⟩⟩⟩
    obtain ⟨⟨y, rfl⟩, kW, SW⟩ := hW
    have hgo18 := kW _ _ gos (same_new hlk _ _ hgo17)
    have hli18 := kW _ _ lis (same_new hlk _ _ hli17)
    have hst18 := kW _ _ sts (same_new hlk _ _ hst17)
    refine ⟨sv gts, Sq.l hgo18, fun pa hpa => ?_⟩
    have pas := SW.ne hpa
    have pac := SW.nec hpa
    refine ⟨rfl, rfl, pa, li, gts, lts, rfl, .inl upd_same, .inl (same_new hpa _ _ hli18), by omega, by omega, fg, f12, fun b1 H19 hb1 sm19 => ?_⟩
    refine ⟨.bl b1, .bl true, rfl, hb1.mpr pmg, no_ft, fun _ => ?_⟩
    have S19 := (SW.new (o := .lst (sv gts)) hpa).same sm19
    have hpa19 : H19 pa = some (.lst (sv gts)) := sm19 _ _ upd_same
    have hst19 := sm19 _ _ (same_new hpa _ _ hst18)
    have hli19 := sm19 _ _ (same_new hpa _ _ hli18)
    refine ⟨tyL hpa19, s, cl, _, S19, by show 10000 + 2 * 6 < 1000000000000; decide, .inr ⟨st, _, rfl, hst19, sts, by rw [sv_app]; intro e; have := congrArg List.length e; rw [List.length_append] at this; simp [sv] at this, by rw [sv_len]; omega, fun v H20 hv k20 S20 => ?_⟩⟩
    obtain ⟨u, hu, rfl⟩ := sv_mem hv
    refine ⟨sv gts, k20 _ _ pas hpa19, by rw [sv_len, sl_big]; omega, ?_⟩
    rw [sv_one, ← sv_app]
    have pali : li ≠ pa := ne_of_none hli18 hpa
    have hli20 : (upd H20 pa (.lst (sv (gts ++ [u])))) li = some (.lst (sv lts)) := (upd_ne pali).trans (k20 _ _ lis hli19)
    have fgu : Fines (gts ++ [u]) := fun t ht => (List.mem_append.mp ht).elim (fg t) fun h => by rw [List.mem_singleton.mp h]; exact fst' u hu
    have lgu : (gts ++ [u]).length = gts.length + 1 := by rw [List.length_append]; rfl
    refine ⟨pa, li, gts ++ [u], lts, rfl, .inl upd_same, .inl hli20, by omega, by omega, fgu, f12, fun b2 H21 hb2 sm21 => ?_⟩
    refine ⟨pa, li, gts ++ [u], lts, rfl, sm21 _ _ upd_same, sm21 _ _ hli20, by omega, by omega, nd12, fun b3 H22 hb3 sm22 => ?_⟩
    have e : b2 = b3 := by rw [Bool.eq_iff_iff, hb2, hb3]
    exact ⟨_, _, rfl, e, q _⟩
theorem all_mk {l : PySem.W.OpenLaw} {w : World} {K : PySem.W.Frag} {h : Heap} {mg : Str → Option Value} {fa : Addr} (X : K.In h) (G : h.Ns mainGlobals mg) (hfa : mg "law" = some (.ref fa))
    {f0 : Addr} {od0 an0 : Option Addr} {sl0 : Array (Option Value)} {oc0 kV0 dc0 pm0 cd0 ct0 : Value}
    (a0 : PySem.W.nsIn K mainGlobals "first_duplicate" = some (some (.ref f0))) (l0 : K.lookup f0 = some ⟨oc0, od0, .func (PySem.W.fnOf "first_duplicate" "first_duplicate" (defArgs (topS 1)) (defBody (topS 1)) (defScope (topS 1)) .none kV0 dc0 pm0 an0 cd0 ct0), sl0⟩) (c0 : PySem.W.codeIn K cd0 "first_duplicate" = true) (k0 : PySem.W.keepIn K (.ref f0) = true)
    {f1 : Addr} {od1 an1 : Option Addr} {sl1 : Array (Option Value)} {oc1 kV1 dc1 pm1 cd1 ct1 : Value}
    (a1 : PySem.W.nsIn K mainGlobals "is_liking" = some (some (.ref f1))) (l1 : K.lookup f1 = some ⟨oc1, od1, .func (PySem.W.fnOf "is_liking" "is_liking" (defArgs (topS 2)) (defBody (topS 2)) (defScope (topS 2)) .none kV1 dc1 pm1 an1 cd1 ct1), sl1⟩) (c1 : PySem.W.codeIn K cd1 "is_liking" = true) (k1 : PySem.W.keepIn K (.ref f1) = true)
    {f2 : Addr} {od2 an2 : Option Addr} {sl2 : Array (Option Value)} {oc2 kV2 dc2 pm2 cd2 ct2 : Value}
    (a2 : PySem.W.nsIn K mainGlobals "_law_store" = some (some (.ref f2))) (l2 : K.lookup f2 = some ⟨oc2, od2, .func (PySem.W.fnOf "_law_store" "_law_store" (defArgs (topS 4)) (defBody (topS 4)) (defScope (topS 4)) .none kV2 dc2 pm2 an2 cd2 ct2), sl2⟩) (c2 : PySem.W.codeIn K cd2 "_law_store" = true) (k2 : PySem.W.keepIn K (.ref f2) = true)
    {f3 : Addr} {od3 an3 : Option Addr} {sl3 : Array (Option Value)} {oc3 kV3 dc3 pm3 cd3 ct3 : Value}
    (a3 : PySem.W.nsIn K mainGlobals "_law_mix" = some (some (.ref f3))) (l3 : K.lookup f3 = some ⟨oc3, od3, .func (PySem.W.fnOf "_law_mix" "_law_mix" (defArgs (topS 5)) (defBody (topS 5)) (defScope (topS 5)) .none kV3 dc3 pm3 an3 cd3 ct3), sl3⟩) (c3 : PySem.W.codeIn K cd3 "_law_mix" = true) (k3 : PySem.W.keepIn K (.ref f3) = true)
    {f4 : Addr} {od4 an4 : Option Addr} {sl4 : Array (Option Value)} {oc4 kV4 dc4 pm4 cd4 ct4 : Value}
    (a4 : PySem.W.nsIn K mainGlobals "_law_is_name" = some (some (.ref f4))) (l4 : K.lookup f4 = some ⟨oc4, od4, .func (PySem.W.fnOf "_law_is_name" "_law_is_name" (defArgs (topS 12)) (defBody (topS 12)) (defScope (topS 12)) .none kV4 dc4 pm4 an4 cd4 ct4), sl4⟩) (c4 : PySem.W.codeIn K cd4 "_law_is_name" = true) (k4 : PySem.W.keepIn K (.ref f4) = true)
    {f5 : Addr} {od5 an5 : Option Addr} {sl5 : Array (Option Value)} {oc5 kV5 dc5 pm5 cd5 ct5 : Value}
    (a5 : PySem.W.nsIn K mainGlobals "_law_first_due" = some (some (.ref f5))) (l5 : K.lookup f5 = some ⟨oc5, od5, .func (PySem.W.fnOf "_law_first_due" "_law_first_due" (defArgs (topS 24)) (defBody (topS 24)) (defScope (topS 24)) .none kV5 dc5 pm5 an5 cd5 ct5), sl5⟩) (c5 : PySem.W.codeIn K cd5 "_law_first_due" = true) (k5 : PySem.W.keepIn K (.ref f5) = true)
    {f6 : Addr} {od6 an6 : Option Addr} {sl6 : Array (Option Value)} {oc6 kV6 dc6 pm6 cd6 ct6 : Value}
    (a6 : PySem.W.nsIn K mainGlobals "_law_is_liking_due" = some (some (.ref f6))) (l6 : K.lookup f6 = some ⟨oc6, od6, .func (PySem.W.fnOf "_law_is_liking_due" "_law_is_liking_due" (defArgs (topS 25)) (defBody (topS 25)) (defScope (topS 25)) .none kV6 dc6 pm6 an6 cd6 ct6), sl6⟩) (c6 : PySem.W.codeIn K cd6 "_law_is_liking_due" = true) (k6 : PySem.W.keepIn K (.ref f6) = true)
    {f7 : Addr} {od7 an7 : Option Addr} {sl7 : Array (Option Value)} {oc7 kV7 dc7 pm7 cd7 ct7 : Value}
    (a7 : PySem.W.nsIn K mainGlobals "_law_take" = some (some (.ref f7))) (l7 : K.lookup f7 = some ⟨oc7, od7, .func (PySem.W.fnOf "_law_take" "_law_take" (defArgs (topS 6)) (defBody (topS 6)) (defScope (topS 6)) .none kV7 dc7 pm7 an7 cd7 ct7), sl7⟩) (c7 : PySem.W.codeIn K cd7 "_law_take" = true) (k7 : PySem.W.keepIn K (.ref f7) = true)
    {f8 : Addr} {od8 an8 : Option Addr} {sl8 : Array (Option Value)} {oc8 kV8 dc8 pm8 cd8 ct8 : Value}
    (a8 : PySem.W.nsIn K mainGlobals "_law_yes" = some (some (.ref f8))) (l8 : K.lookup f8 = some ⟨oc8, od8, .func (PySem.W.fnOf "_law_yes" "_law_yes" (defArgs (topS 7)) (defBody (topS 7)) (defScope (topS 7)) .none kV8 dc8 pm8 an8 cd8 ct8), sl8⟩) (c8 : PySem.W.codeIn K cd8 "_law_yes" = true) (k8 : PySem.W.keepIn K (.ref f8) = true)
    {f9 : Addr} {od9 an9 : Option Addr} {sl9 : Array (Option Value)} {oc9 kV9 dc9 pm9 cd9 ct9 : Value}
    (a9 : PySem.W.nsIn K mainGlobals "_law_pick" = some (some (.ref f9))) (l9 : K.lookup f9 = some ⟨oc9, od9, .func (PySem.W.fnOf "_law_pick" "_law_pick" (defArgs (topS 8)) (defBody (topS 8)) (defScope (topS 8)) .none kV9 dc9 pm9 an9 cd9 ct9), sl9⟩) (c9 : PySem.W.codeIn K cd9 "_law_pick" = true) (k9 : PySem.W.keepIn K (.ref f9) = true)
    {f10 : Addr} {od10 an10 : Option Addr} {sl10 : Array (Option Value)} {oc10 kV10 dc10 pm10 cd10 ct10 : Value}
    (a10 : PySem.W.nsIn K mainGlobals "_law_near" = some (some (.ref f10))) (l10 : K.lookup f10 = some ⟨oc10, od10, .func (PySem.W.fnOf "_law_near" "_law_near" (defArgs (topS 9)) (defBody (topS 9)) (defScope (topS 9)) .none kV10 dc10 pm10 an10 cd10 ct10), sl10⟩) (c10 : PySem.W.codeIn K cd10 "_law_near" = true) (k10 : PySem.W.keepIn K (.ref f10) = true)
    {f11 : Addr} {od11 an11 : Option Addr} {sl11 : Array (Option Value)} {oc11 kV11 dc11 pm11 cd11 ct11 : Value}
    (a11 : PySem.W.nsIn K mainGlobals "_law_order" = some (some (.ref f11))) (l11 : K.lookup f11 = some ⟨oc11, od11, .func (PySem.W.fnOf "_law_order" "_law_order" (defArgs (topS 19)) (defBody (topS 19)) (defScope (topS 19)) .none kV11 dc11 pm11 an11 cd11 ct11), sl11⟩) (c11 : PySem.W.codeIn K cd11 "_law_order" = true) (k11 : PySem.W.keepIn K (.ref f11) = true)
    {f12 : Addr} {od12 an12 : Option Addr} {sl12 : Array (Option Value)} {oc12 kV12 dc12 pm12 cd12 ct12 : Value}
    (a12 : PySem.W.nsIn K mainGlobals "_law_either" = some (some (.ref f12))) (l12 : K.lookup f12 = some ⟨oc12, od12, .func (PySem.W.fnOf "_law_either" "_law_either" (defArgs (topS 11)) (defBody (topS 11)) (defScope (topS 11)) .none kV12 dc12 pm12 an12 cd12 ct12), sl12⟩) (c12 : PySem.W.codeIn K cd12 "_law_either" = true) (k12 : PySem.W.keepIn K (.ref f12) = true)
    {f13 : Addr} {od13 an13 : Option Addr} {sl13 : Array (Option Value)} {oc13 kV13 dc13 pm13 cd13 ct13 : Value}
    (a13 : PySem.W.nsIn K mainGlobals "_law_raw_name" = some (some (.ref f13))) (l13 : K.lookup f13 = some ⟨oc13, od13, .func (PySem.W.fnOf "_law_raw_name" "_law_raw_name" (defArgs (topS 13)) (defBody (topS 13)) (defScope (topS 13)) .none kV13 dc13 pm13 an13 cd13 ct13), sl13⟩) (c13 : PySem.W.codeIn K cd13 "_law_raw_name" = true) (k13 : PySem.W.keepIn K (.ref f13) = true)
    {f14 : Addr} {od14 an14 : Option Addr} {sl14 : Array (Option Value)} {oc14 kV14 dc14 pm14 cd14 ct14 : Value}
    (a14 : PySem.W.nsIn K mainGlobals "_law_many" = some (some (.ref f14))) (l14 : K.lookup f14 = some ⟨oc14, od14, .func (PySem.W.fnOf "_law_many" "_law_many" (defArgs (topS 20)) (defBody (topS 20)) (defScope (topS 20)) .none kV14 dc14 pm14 an14 cd14 ct14), sl14⟩) (c14 : PySem.W.codeIn K cd14 "_law_many" = true) (k14 : PySem.W.keepIn K (.ref f14) = true)
    {f15 : Addr} {od15 an15 : Option Addr} {sl15 : Array (Option Value)} {oc15 kV15 dc15 pm15 cd15 ct15 : Value}
    (a15 : PySem.W.nsIn K mainGlobals "_law_repeated" = some (some (.ref f15))) (l15 : K.lookup f15 = some ⟨oc15, od15, .func (PySem.W.fnOf "_law_repeated" "_law_repeated" (defArgs (topS 21)) (defBody (topS 21)) (defScope (topS 21)) .none kV15 dc15 pm15 an15 cd15 ct15), sl15⟩) (c15 : PySem.W.codeIn K cd15 "_law_repeated" = true) (k15 : PySem.W.keepIn K (.ref f15) = true)
    {f16 : Addr} {od16 an16 : Option Addr} {sl16 : Array (Option Value)} {oc16 kV16 dc16 pm16 cd16 ct16 : Value}
    (a16 : PySem.W.nsIn K mainGlobals "_law_bent_list" = some (some (.ref f16))) (l16 : K.lookup f16 = some ⟨oc16, od16, .func (PySem.W.fnOf "_law_bent_list" "_law_bent_list" (defArgs (topS 22)) (defBody (topS 22)) (defScope (topS 22)) .none kV16 dc16 pm16 an16 cd16 ct16), sl16⟩) (c16 : PySem.W.codeIn K cd16 "_law_bent_list" = true) (k16 : PySem.W.keepIn K (.ref f16) = true)
    {f17 : Addr} {od17 an17 : Option Addr} {sl17 : Array (Option Value)} {oc17 kV17 dc17 pm17 cd17 ct17 : Value}
    (a17 : PySem.W.nsIn K mainGlobals "_law_name" = some (some (.ref f17))) (l17 : K.lookup f17 = some ⟨oc17, od17, .func (PySem.W.fnOf "_law_name" "_law_name" (defArgs (topS 14)) (defBody (topS 14)) (defScope (topS 14)) .none kV17 dc17 pm17 an17 cd17 ct17), sl17⟩) (c17 : PySem.W.codeIn K cd17 "_law_name" = true) (k17 : PySem.W.keepIn K (.ref f17) = true)
    {f18 : Addr} {od18 an18 : Option Addr} {sl18 : Array (Option Value)} {oc18 kV18 dc18 pm18 cd18 ct18 : Value}
    (a18 : PySem.W.nsIn K mainGlobals "_law_bad_name" = some (some (.ref f18))) (l18 : K.lookup f18 = some ⟨oc18, od18, .func (PySem.W.fnOf "_law_bad_name" "_law_bad_name" (defArgs (topS 16)) (defBody (topS 16)) (defScope (topS 16)) .none kV18 dc18 pm18 an18 cd18 ct18), sl18⟩) (c18 : PySem.W.codeIn K cd18 "_law_bad_name" = true) (k18 : PySem.W.keepIn K (.ref f18) = true)
    {f19 : Addr} {od19 an19 : Option Addr} {sl19 : Array (Option Value)} {oc19 kV19 dc19 pm19 cd19 ct19 : Value}
    (a19 : PySem.W.nsIn K mainGlobals "_law_names" = some (some (.ref f19))) (l19 : K.lookup f19 = some ⟨oc19, od19, .func (PySem.W.fnOf "_law_names" "_law_names" (defArgs (topS 15)) (defBody (topS 15)) (defScope (topS 15)) .none kV19 dc19 pm19 an19 cd19 ct19), sl19⟩) (c19 : PySem.W.codeIn K cd19 "_law_names" = true) (k19 : PySem.W.keepIn K (.ref f19) = true)
    {f20 : Addr} {od20 an20 : Option Addr} {sl20 : Array (Option Value)} {oc20 kV20 dc20 pm20 cd20 ct20 : Value}
    (a20 : PySem.W.nsIn K mainGlobals "_law_other" = some (some (.ref f20))) (l20 : K.lookup f20 = some ⟨oc20, od20, .func (PySem.W.fnOf "_law_other" "_law_other" (defArgs (topS 17)) (defBody (topS 17)) (defScope (topS 17)) .none kV20 dc20 pm20 an20 cd20 ct20), sl20⟩) (c20 : PySem.W.codeIn K cd20 "_law_other" = true) (k20 : PySem.W.keepIn K (.ref f20) = true)
    {f21 : Addr} {od21 an21 : Option Addr} {sl21 : Array (Option Value)} {oc21 kV21 dc21 pm21 cd21 ct21 : Value}
    (a21 : PySem.W.nsIn K mainGlobals "_law_strings" = some (some (.ref f21))) (l21 : K.lookup f21 = some ⟨oc21, od21, .func (PySem.W.fnOf "_law_strings" "_law_strings" (defArgs (topS 18)) (defBody (topS 18)) (defScope (topS 18)) .none kV21 dc21 pm21 an21 cd21 ct21), sl21⟩) (c21 : PySem.W.codeIn K cd21 "_law_strings" = true) (k21 : PySem.W.keepIn K (.ref f21) = true)
    {f22 : Addr} {od22 an22 : Option Addr} {sl22 : Array (Option Value)} {oc22 kV22 dc22 pm22 cd22 ct22 : Value}
    (a22 : PySem.W.nsIn K mainGlobals "_law_same" = some (some (.ref f22))) (l22 : K.lookup f22 = some ⟨oc22, od22, .func (PySem.W.fnOf "_law_same" "_law_same" (defArgs (topS 10)) (defBody (topS 10)) (defScope (topS 10)) .none kV22 dc22 pm22 an22 cd22 ct22), sl22⟩) (c22 : PySem.W.codeIn K cd22 "_law_same" = true) (k22 : PySem.W.keepIn K (.ref f22) = true)
    {f23 : Addr} {od23 an23 : Option Addr} {sl23 : Array (Option Value)} {oc23 kV23 dc23 pm23 cd23 ct23 : Value}
    (a23 : PySem.W.nsIn K mainGlobals "_law_items" = some (some (.ref f23))) (l23 : K.lookup f23 = some ⟨oc23, od23, .func (PySem.W.fnOf "_law_items" "_law_items" (defArgs (topS 23)) (defBody (topS 23)) (defScope (topS 23)) .none kV23 dc23 pm23 an23 cd23 ct23), sl23⟩) (c23 : PySem.W.codeIn K cd23 "_law_items" = true) (k23 : PySem.W.keepIn K (.ref f23) = true)
    {f24 : Addr} {od24 an24 : Option Addr} {sl24 : Array (Option Value)} {oc24 kV24 dc24 pm24 cd24 ct24 : Value}
    (a24 : PySem.W.nsIn K mainGlobals "_law_is_told" = some (some (.ref f24))) (l24 : K.lookup f24 = some ⟨oc24, od24, .func (PySem.W.fnOf "_law_is_told" "_law_is_told" (defArgs (topS 26)) (defBody (topS 26)) (defScope (topS 26)) .none kV24 dc24 pm24 an24 cd24 ct24), sl24⟩) (c24 : PySem.W.codeIn K cd24 "_law_is_told" = true) (k24 : PySem.W.keepIn K (.ref f24) = true)
    {f25 : Addr} {od25 an25 : Option Addr} {sl25 : Array (Option Value)} {oc25 kV25 dc25 pm25 cd25 ct25 : Value}
    (a25 : PySem.W.nsIn K mainGlobals "_law_is_judged" = some (some (.ref f25))) (l25 : K.lookup f25 = some ⟨oc25, od25, .func (PySem.W.fnOf "_law_is_judged" "_law_is_judged" (defArgs (topS 27)) (defBody (topS 27)) (defScope (topS 27)) .none kV25 dc25 pm25 an25 cd25 ct25), sl25⟩) (c25 : PySem.W.codeIn K cd25 "_law_is_judged" = true) (k25 : PySem.W.keepIn K (.ref f25) = true)
    {f26 : Addr} {od26 an26 : Option Addr} {sl26 : Array (Option Value)} {oc26 kV26 dc26 pm26 cd26 ct26 : Value}
    (a26 : PySem.W.nsIn K mainGlobals "law" = some (some (.ref f26))) (l26 : K.lookup f26 = some ⟨oc26, od26, .func (PySem.W.fnOf "law" "law" (defArgs (topS 28)) (defBody (topS 28)) (defScope (topS 28)) .none kV26 dc26 pm26 an26 cd26 ct26), sl26⟩) (c26 : PySem.W.codeIn K cd26 "law" = true) (k26 : PySem.W.keepIn K (.ref f26) = true)
    (z_bool : PySem.W.nsIn K mainGlobals "bool" = some none)
    (z_int : PySem.W.nsIn K mainGlobals "int" = some none)
    (z_isinstance : PySem.W.nsIn K mainGlobals "isinstance" = some none)
    (z_len : PySem.W.nsIn K mainGlobals "len" = some none)
    (z_list : PySem.W.nsIn K mainGlobals "list" = some none)
    (z_range : PySem.W.nsIn K mainGlobals "range" = some none)
    (z_sorted : PySem.W.nsIn K mainGlobals "sorted" = some none)
    (z_str : PySem.W.nsIn K mainGlobals "str" = some none)
    (z_tuple : PySem.W.nsIn K mainGlobals "tuple" = some none)
    : ∃ fd : FuncData, (∀ (s : Shared) (v : Value), BindsTo s fd ⟨[v], []⟩ [("script", v)]) ∧ ∀ base : Heap, K.In base → base.Ns mainGlobals mg → FnOk l.prog w K mg base CX0 10 fa fd ["script"] (sp_law K) := by
  have e := hfa.symm.trans (PySem.W.mg_of X G a26)
  cases e
  have F0 := fun_mk (st := (topS 1)) l0 c0 k0
  have b0 := F0.binds (ps := ["items"]) fun _ _ _ _ _ _ us hl => match us, hl with | [_], _ => rfl
  have F1 := fun_mk (st := (topS 2)) l1 c1 k1
  have b1 := F1.binds (ps := ["liking", "things"]) fun _ _ _ _ _ _ us hl => match us, hl with | [_, _], _ => rfl
  have F2 := fun_mk (st := (topS 4)) l2 c2 k2
  have b2 := F2.binds (ps := ["script"]) fun _ _ _ _ _ _ us hl => match us, hl with | [_], _ => rfl
  have F3 := fun_mk (st := (topS 5)) l3 c3 k3
  have b3 := F3.binds (ps := ["cell", "turn"]) fun _ _ _ _ _ _ us hl => match us, hl with | [_, _], _ => rfl
  have F4 := fun_mk (st := (topS 12)) l4 c4 k4
  have b4 := F4.binds (ps := ["text"]) fun _ _ _ _ _ _ us hl => match us, hl with | [_], _ => rfl
  have F5 := fun_mk (st := (topS 24)) l5 c5 k5
  have b5 := F5.binds (ps := ["items"]) fun _ _ _ _ _ _ us hl => match us, hl with | [_], _ => rfl
  have F6 := fun_mk (st := (topS 25)) l6 c6 k6
  have b6 := F6.binds (ps := ["liking", "listed"]) fun _ _ _ _ _ _ us hl => match us, hl with | [_, _], _ => rfl
  have F7 := fun_mk (st := (topS 6)) l7 c7 k7
  have b7 := F7.binds (ps := ["store", "many"]) fun _ _ _ _ _ _ us hl => match us, hl with | [_, _], _ => rfl
  have F8 := fun_mk (st := (topS 7)) l8 c8 k8
  have b8 := F8.binds (ps := ["store", "many"]) fun _ _ _ _ _ _ us hl => match us, hl with | [_, _], _ => rfl
  have F9 := fun_mk (st := (topS 8)) l9 c9 k9
  have b9 := F9.binds (ps := ["store", "items"]) fun _ _ _ _ _ _ us hl => match us, hl with | [_, _], _ => rfl
  have F10 := fun_mk (st := (topS 9)) l10 c10 k10
  have b10 := F10.binds (ps := ["store", "low", "high"]) fun _ _ _ _ _ _ us hl => match us, hl with | [_, _, _], _ => rfl
  have F11 := fun_mk (st := (topS 19)) l11 c11 k11
  have b11 := F11.binds (ps := ["store", "items"]) fun _ _ _ _ _ _ us hl => match us, hl with | [_, _], _ => rfl
  have F12 := fun_mk (st := (topS 11)) l12 c12 k12
  have b12 := F12.binds (ps := ["store", "items"]) fun _ _ _ _ _ _ us hl => match us, hl with | [_, _], _ => rfl
  have F13 := fun_mk (st := (topS 13)) l13 c13 k13
  have b13 := F13.binds (ps := ["store"]) fun _ _ _ _ _ _ us hl => match us, hl with | [_], _ => rfl
  have F14 := fun_mk (st := (topS 20)) l14 c14 k14
  have b14 := F14.binds (ps := ["store", "items", "many"]) fun _ _ _ _ _ _ us hl => match us, hl with | [_, _, _], _ => rfl
  have F15 := fun_mk (st := (topS 21)) l15 c15 k15
  have b15 := F15.binds (ps := ["store", "items"]) fun _ _ _ _ _ _ us hl => match us, hl with | [_, _], _ => rfl
  have F16 := fun_mk (st := (topS 22)) l16 c16 k16
  have b16 := F16.binds (ps := ["store", "items", "others"]) fun _ _ _ _ _ _ us hl => match us, hl with | [_, _, _], _ => rfl
  have F17 := fun_mk (st := (topS 14)) l17 c17 k17
  have b17 := F17.binds (ps := ["store", "taken"]) fun _ _ _ _ _ _ us hl => match us, hl with | [_, _], _ => rfl
  have F18 := fun_mk (st := (topS 16)) l18 c18 k18
  have b18 := F18.binds (ps := ["store"]) fun _ _ _ _ _ _ us hl => match us, hl with | [_], _ => rfl
  have F19 := fun_mk (st := (topS 15)) l19 c19 k19
  have b19 := F19.binds (ps := ["store", "many"]) fun _ _ _ _ _ _ us hl => match us, hl with | [_, _], _ => rfl
  have F20 := fun_mk (st := (topS 17)) l20 c20 k20
  have b20 := F20.binds (ps := ["store", "names"]) fun _ _ _ _ _ _ us hl => match us, hl with | [_, _], _ => rfl
  have F21 := fun_mk (st := (topS 18)) l21 c21 k21
  have b21 := F21.binds (ps := ["store", "many"]) fun _ _ _ _ _ _ us hl => match us, hl with | [_, _], _ => rfl
  have F22 := fun_mk (st := (topS 10)) l22 c22 k22
  have b22 := F22.binds (ps := ["actual", "expected"]) fun _ _ _ _ _ _ us hl => match us, hl with | [_, _], _ => rfl
  have F23 := fun_mk (st := (topS 23)) l23 c23 k23
  have b23 := F23.binds (ps := ["store"]) fun _ _ _ _ _ _ us hl => match us, hl with | [_], _ => rfl
  have F24 := fun_mk (st := (topS 26)) l24 c24 k24
  have b24 := F24.binds (ps := ["store", "items"]) fun _ _ _ _ _ _ us hl => match us, hl with | [_, _], _ => rfl
  have F25 := fun_mk (st := (topS 27)) l25 c25 k25
  have b25 := F25.binds (ps := ["store", "liking", "listed"]) fun _ _ _ _ _ _ us hl => match us, hl with | [_, _, _], _ => rfl
  have F26 := fun_mk (st := (topS 28)) l26 c26 k26
  have b26 := F26.binds (ps := ["script"]) fun _ _ _ _ _ _ us hl => match us, hl with | [_], _ => rfl
  have kb0 := fun_kb (ps := ["items"]) (ks := ["items"]) F0 fun _ _ _ _ _ _ us ws h1 h2 => match us, ws, h1, h2 with | [], [_], _, _ => rfl
  have kb1 := fun_kb (ps := ["liking", "things"]) (ks := ["liking", "things"]) F1 fun _ _ _ _ _ _ us ws h1 h2 => match us, ws, h1, h2 with | [], [_, _], _, _ => rfl
  exact ⟨_, fun s v => .of_eq rfl, fun base _ _ => ok_law { a_first_duplicate := _, fd_first_duplicate := _, F_first_duplicate := F0, g_first_duplicate := PySem.W.mg_of X G a0, b_first_duplicate := b0, a_is_liking := _, fd_is_liking := _, F_is_liking := F1, g_is_liking := PySem.W.mg_of X G a1, b_is_liking := b1, a__law_store := _, fd__law_store := _, F__law_store := F2, g__law_store := PySem.W.mg_of X G a2, b__law_store := b2, a__law_mix := _, fd__law_mix := _, F__law_mix := F3, g__law_mix := PySem.W.mg_of X G a3, b__law_mix := b3, a__law_is_name := _, fd__law_is_name := _, F__law_is_name := F4, g__law_is_name := PySem.W.mg_of X G a4, b__law_is_name := b4, a__law_first_due := _, fd__law_first_due := _, F__law_first_due := F5, g__law_first_due := PySem.W.mg_of X G a5, b__law_first_due := b5, a__law_is_liking_due := _, fd__law_is_liking_due := _, F__law_is_liking_due := F6, g__law_is_liking_due := PySem.W.mg_of X G a6, b__law_is_liking_due := b6, a__law_take := _, fd__law_take := _, F__law_take := F7, g__law_take := PySem.W.mg_of X G a7, b__law_take := b7, a__law_yes := _, fd__law_yes := _, F__law_yes := F8, g__law_yes := PySem.W.mg_of X G a8, b__law_yes := b8, a__law_pick := _, fd__law_pick := _, F__law_pick := F9, g__law_pick := PySem.W.mg_of X G a9, b__law_pick := b9, a__law_near := _, fd__law_near := _, F__law_near := F10, g__law_near := PySem.W.mg_of X G a10, b__law_near := b10, a__law_order := _, fd__law_order := _, F__law_order := F11, g__law_order := PySem.W.mg_of X G a11, b__law_order := b11, a__law_either := _, fd__law_either := _, F__law_either := F12, g__law_either := PySem.W.mg_of X G a12, b__law_either := b12, a__law_raw_name := _, fd__law_raw_name := _, F__law_raw_name := F13, g__law_raw_name := PySem.W.mg_of X G a13, b__law_raw_name := b13, a__law_many := _, fd__law_many := _, F__law_many := F14, g__law_many := PySem.W.mg_of X G a14, b__law_many := b14, a__law_repeated := _, fd__law_repeated := _, F__law_repeated := F15, g__law_repeated := PySem.W.mg_of X G a15, b__law_repeated := b15, a__law_bent_list := _, fd__law_bent_list := _, F__law_bent_list := F16, g__law_bent_list := PySem.W.mg_of X G a16, b__law_bent_list := b16, a__law_name := _, fd__law_name := _, F__law_name := F17, g__law_name := PySem.W.mg_of X G a17, b__law_name := b17, a__law_bad_name := _, fd__law_bad_name := _, F__law_bad_name := F18, g__law_bad_name := PySem.W.mg_of X G a18, b__law_bad_name := b18, a__law_names := _, fd__law_names := _, F__law_names := F19, g__law_names := PySem.W.mg_of X G a19, b__law_names := b19, a__law_other := _, fd__law_other := _, F__law_other := F20, g__law_other := PySem.W.mg_of X G a20, b__law_other := b20, a__law_strings := _, fd__law_strings := _, F__law_strings := F21, g__law_strings := PySem.W.mg_of X G a21, b__law_strings := b21, a__law_same := _, fd__law_same := _, F__law_same := F22, g__law_same := PySem.W.mg_of X G a22, b__law_same := b22, a__law_items := _, fd__law_items := _, F__law_items := F23, g__law_items := PySem.W.mg_of X G a23, b__law_items := b23, a__law_is_told := _, fd__law_is_told := _, F__law_is_told := F24, g__law_is_told := PySem.W.mg_of X G a24, b__law_is_told := b24, a__law_is_judged := _, fd__law_is_judged := _, F__law_is_judged := F25, g__law_is_judged := PySem.W.mg_of X G a25, b__law_is_judged := b25, a_law := _, fd_law := _, F_law := F26, g_law := PySem.W.mg_of X G a26, b_law := b26, kb_first_duplicate := kb0, kb_is_liking := kb1, n_bool := PySem.W.mg_none_of X G z_bool, n_int := PySem.W.mg_none_of X G z_int, n_isinstance := PySem.W.mg_none_of X G z_isinstance, n_len := PySem.W.mg_none_of X G z_len, n_list := PySem.W.mg_none_of X G z_list, n_range := PySem.W.mg_none_of X G z_range, n_sorted := PySem.W.mg_none_of X G z_sorted, n_str := PySem.W.mg_none_of X G z_str, n_tuple := PySem.W.mg_none_of X G z_tuple }⟩
end RK
open PySem PySem.W PyProof.Rows
set_option maxHeartbeats 0 in
theorem PySem.Challenge.cw_riverkeeps_k03_duplicates_and_likings_holds : PySem.Challenge.rw_riverkeeps_k03_duplicates_and_likings.Holds := by
  w_on; o_law; k_head; (case hw => w_witness2)
  k_fill
  refine L2.walk_of (l := PySem.Challenge.rw_riverkeeps_k03_duplicates_and_likings) (n := 63) (k := 10) (x := "script") (CX := fun _ => L2.CX0) (sp := fun w => RK.sp_law _) rfl (by decide) rfl ⟨rfl, by decide, by decide⟩ (fun w h Y => PySem.W.kIn_of Y) ?F (fun _ _ a ns hl _ hS => ⟨a, ns, rfl, hS, hl, fun _ => rfl⟩) (fun _ _ _ _ _ h => h)
  case F =>
    intro w mg fa h KX G hmg
    refine' RK.all_mk KX G hmg ?a0 ?l0 ?c0 ?k0 ?a1 ?l1 ?c1 ?k1 ?a2 ?l2 ?c2 ?k2 ?a3 ?l3 ?c3 ?k3 ?a4 ?l4 ?c4 ?k4 ?a5 ?l5 ?c5 ?k5 ?a6 ?l6 ?c6 ?k6 ?a7 ?l7 ?c7 ?k7 ?a8 ?l8 ?c8 ?k8 ?a9 ?l9 ?c9 ?k9 ?a10 ?l10 ?c10 ?k10 ?a11 ?l11 ?c11 ?k11 ?a12 ?l12 ?c12 ?k12 ?a13 ?l13 ?c13 ?k13 ?a14 ?l14 ?c14 ?k14 ?a15 ?l15 ?c15 ?k15 ?a16 ?l16 ?c16 ?k16 ?a17 ?l17 ?c17 ?k17 ?a18 ?l18 ?c18 ?k18 ?a19 ?l19 ?c19 ?k19 ?a20 ?l20 ?c20 ?k20 ?a21 ?l21 ?c21 ?k21 ?a22 ?l22 ?c22 ?k22 ?a23 ?l23 ?c23 ?k23 ?a24 ?l24 ?c24 ?k24 ?a25 ?l25 ?c25 ?k25 ?a26 ?l26 ?c26 ?k26 ?z_bool ?z_int ?z_isinstance ?z_len ?z_list ?z_range ?z_sorted ?z_str ?z_tuple
    (case a0 => k_is)
    (case l0 => k_is)
    (case c0 => k_is)
    (case k0 => k_is)
    (case a1 => k_is)
    (case l1 => k_is)
    (case c1 => k_is)
    (case k1 => k_is)
    (case a2 => k_is)
    (case l2 => k_is)
    (case c2 => k_is)
    (case k2 => k_is)
    (case a3 => k_is)
    (case l3 => k_is)
    (case c3 => k_is)
    (case k3 => k_is)
    (case a4 => k_is)
    (case l4 => k_is)
    (case c4 => k_is)
    (case k4 => k_is)
    (case a5 => k_is)
    (case l5 => k_is)
    (case c5 => k_is)
    (case k5 => k_is)
    (case a6 => k_is)
    (case l6 => k_is)
    (case c6 => k_is)
    (case k6 => k_is)
    (case a7 => k_is)
    (case l7 => k_is)
    (case c7 => k_is)
    (case k7 => k_is)
    (case a8 => k_is)
    (case l8 => k_is)
    (case c8 => k_is)
    (case k8 => k_is)
    (case a9 => k_is)
    (case l9 => k_is)
    (case c9 => k_is)
    (case k9 => k_is)
    (case a10 => k_is)
    (case l10 => k_is)
    (case c10 => k_is)
    (case k10 => k_is)
    (case a11 => k_is)
    (case l11 => k_is)
    (case c11 => k_is)
    (case k11 => k_is)
    (case a12 => k_is)
    (case l12 => k_is)
    (case c12 => k_is)
    (case k12 => k_is)
    (case a13 => k_is)
    (case l13 => k_is)
    (case c13 => k_is)
    (case k13 => k_is)
    (case a14 => k_is)
    (case l14 => k_is)
    (case c14 => k_is)
    (case k14 => k_is)
    (case a15 => k_is)
    (case l15 => k_is)
    (case c15 => k_is)
    (case k15 => k_is)
    (case a16 => k_is)
    (case l16 => k_is)
    (case c16 => k_is)
    (case k16 => k_is)
    (case a17 => k_is)
    (case l17 => k_is)
    (case c17 => k_is)
    (case k17 => k_is)
    (case a18 => k_is)
    (case l18 => k_is)
    (case c18 => k_is)
    (case k18 => k_is)
    (case a19 => k_is)
    (case l19 => k_is)
    (case c19 => k_is)
    (case k19 => k_is)
    (case a20 => k_is)
    (case l20 => k_is)
    (case c20 => k_is)
    (case k20 => k_is)
    (case a21 => k_is)
    (case l21 => k_is)
    (case c21 => k_is)
    (case k21 => k_is)
    (case a22 => k_is)
    (case l22 => k_is)
    (case c22 => k_is)
    (case k22 => k_is)
    (case a23 => k_is)
    (case l23 => k_is)
    (case c23 => k_is)
    (case k23 => k_is)
    (case a24 => k_is)
    (case l24 => k_is)
    (case c24 => k_is)
    (case k24 => k_is)
    (case a25 => k_is)
    (case l25 => k_is)
    (case c25 => k_is)
    (case k25 => k_is)
    (case a26 => k_is)
    (case l26 => k_is)
    (case c26 => k_is)
    (case k26 => k_is)
    (case z_bool => k_is)
    (case z_int => k_is)
    (case z_isinstance => k_is)
    (case z_len => k_is)
    (case z_list => k_is)
    (case z_range => k_is)
    (case z_sorted => k_is)
    (case z_str => k_is)
    (case z_tuple => k_is)
