import PyProof.Rows.All
import PySem.Challenge.RW_foldlines_k14_whole_tidy_calls_come_back
import Wide.All
import OpenK.AllK
import Wide.FinOn
import HandS.ForMost
import HandS.ForExc
import HandS.IsInst
import HandS.Evl
import HandS.DictComp
import HandS.Zip
import HandS.Star
import HandS.Walk
import HandS.Words
import KE.GoesEnum
import HandS.ListItems
import HandS.Set
import HandS.TupAny
import HandS.ExcInit
import HandS.ExcIs
import HandS.ExcField
import HandS.Property
import HandS.ClsMeth
import HandS.More
import KE.KDictLaws
import HandS.Lambda
import HandS.Style
import HandS.CallLocal
import HandS.Defaults
import HandS.Ends
section
set_option Elab.async false
set_option linter.all false
set_option maxRecDepth 100000
set_option maxHeartbeats 2000000
/-! Readings without their names: what is wanted of a piece of syntax as it stands. -/
namespace Fx
open PySem PySem.Spec PyProof.Rows L2
open Evl (Ex fresh_back)

/-! ### a piece of syntax as its own reading -/
@[irreducible] def RE (X : Cx) (e : Expr) : TE := fun σ H Q => ∀ pins s, Inv X pins σ H s → wpAny (model X.prog X.w) X.A (eval e X.env) (EP X pins σ Q) X.xe s
@[irreducible] def RT (X : Cx) (e : Expr) : TT := fun σ H Q => ∀ pins s, Inv X pins σ H s → wpAny (model X.prog X.w) X.A (isTrue e X.env (eval e X.env)) (TP X pins σ Q) X.xe s
@[irreducible] def RW (X : Cx) (e : Expr) : TT := fun σ H Q => ∀ wh pins s, Inv X pins σ H s → wpAny (model X.prog X.w) X.A (isTrue e X.env wh) (TP X pins σ Q) X.xe s
@[irreducible] def RA (X : Cx) (es : List Expr) : TA := fun σ H Q => ∀ pos pins s, Inv X pins σ H s → wpAny (model X.prog X.w) X.A (spliced (backTo pos (starEach es X.env))) (AP X pins σ Q) X.xe s
@[irreducible] def RS (X : Cx) (st : Stmt) : TS := fun D σ H => ∀ pins s, Inv X pins σ H s → wpAny (model X.prog X.w) X.A (exec st X.env) (SP X pins D) X.xe s
@[irreducible] def RB (X : Cx) (sts : List Stmt) : TS := fun D σ H => ∀ pins s, Inv X pins σ H s → wpAny (model X.prog X.w) X.A (execs sts X.env) (SP X pins D) X.xe s
section
variable {X : Cx} {e a b c f g o : Expr} {es : List Expr} {st : Stmt} {sts : List Stmt} {σ : L2.St} {H : Hp} {Q Q' : VK} {QB QB' : Bool → Hp → Prop} {QA QA' : List V → Hp → Prop} {D : Ends} {pos : Pos}
theorem pe_RE : PE X e (RE X e) := by delta RE; exact ⟨fun pins s σ H Q I h => h pins s I⟩
theorem pt_RT : PT X e (RT X e) := by delta RT; exact ⟨fun pins s σ H Q I h => h pins s I⟩
theorem pw_RW : PW X e (RW X e) := by delta RW; exact ⟨fun wh pins s σ H Q I h => h wh pins s I⟩
theorem pa_RA : PA X es (RA X es) := by delta RA; exact ⟨fun pos pins s σ H Q I h => h pos pins s I⟩
theorem ps_RS : PS X st (RS X st) := by delta RS; exact ⟨fun pins s σ H D I h => h pins s I⟩
theorem pss_RB : PSs X sts (RB X sts) := by delta RB; exact ⟨fun pins s σ H D I h => h pins s I⟩
theorem re_of {t : TE} (h : PE X e t) (q : t σ H Q) : RE X e σ H Q := by delta RE; exact fun pins s I => h.run pins s σ H Q I q
theorem rt_of {t : TT} (h : PT X e t) (q : t σ H QB) : RT X e σ H QB := by delta RT; exact fun pins s I => h.run pins s σ H QB I q
theorem rw_of {t : TT} (h : PW X e t) (q : t σ H QB) : RW X e σ H QB := by delta RW; exact fun wh pins s I => h.run wh pins s σ H QB I q
theorem ra_of {t : TA} (h : PA X es t) (q : t σ H QA) : RA X es σ H QA := by delta RA; exact fun pos pins s I => h.run pos pins s σ H QA I q
theorem rs_of {t : TS} (h : PS X st t) (q : t D σ H) : RS X st D σ H := by delta RS; exact fun pins s I => h.run pins s σ H D I q
theorem rb_of {t : TS} (h : PSs X sts t) (q : t D σ H) : RB X sts D σ H := by delta RB; exact fun pins s I => h.run pins s σ H D I q
theorem RE.run (h : RE X e σ H Q) : ∀ pins s, Inv X pins σ H s → wpAny (model X.prog X.w) X.A (eval e X.env) (EP X pins σ Q) X.xe s := by delta RE at h; exact h
theorem RE.made (h : ∀ pins s, Inv X pins σ H s → wpAny (model X.prog X.w) X.A (eval e X.env) (EP X pins σ Q) X.xe s) : RE X e σ H Q := by delta RE; exact h
theorem RT.run (h : RT X e σ H QB) : ∀ pins s, Inv X pins σ H s → wpAny (model X.prog X.w) X.A (isTrue e X.env (eval e X.env)) (TP X pins σ QB) X.xe s := by delta RT at h; exact h
theorem RT.made (h : ∀ pins s, Inv X pins σ H s → wpAny (model X.prog X.w) X.A (isTrue e X.env (eval e X.env)) (TP X pins σ QB) X.xe s) : RT X e σ H QB := by delta RT; exact h
theorem RW.run (h : RW X e σ H QB) : ∀ wh pins s, Inv X pins σ H s → wpAny (model X.prog X.w) X.A (isTrue e X.env wh) (TP X pins σ QB) X.xe s := by delta RW at h; exact h
theorem RW.made (h : ∀ wh pins s, Inv X pins σ H s → wpAny (model X.prog X.w) X.A (isTrue e X.env wh) (TP X pins σ QB) X.xe s) : RW X e σ H QB := by delta RW; exact h
theorem RA.run (h : RA X es σ H QA) : ∀ pos pins s, Inv X pins σ H s → wpAny (model X.prog X.w) X.A (spliced (backTo pos (starEach es X.env))) (AP X pins σ QA) X.xe s := by delta RA at h; exact h
theorem RA.made (h : ∀ pos pins s, Inv X pins σ H s → wpAny (model X.prog X.w) X.A (spliced (backTo pos (starEach es X.env))) (AP X pins σ QA) X.xe s) : RA X es σ H QA := by delta RA; exact h
theorem RS.run (h : RS X st D σ H) : ∀ pins s, Inv X pins σ H s → wpAny (model X.prog X.w) X.A (exec st X.env) (SP X pins D) X.xe s := by delta RS at h; exact h
theorem RS.made (h : ∀ pins s, Inv X pins σ H s → wpAny (model X.prog X.w) X.A (exec st X.env) (SP X pins D) X.xe s) : RS X st D σ H := by delta RS; exact h
theorem RB.run (h : RB X sts D σ H) : ∀ pins s, Inv X pins σ H s → wpAny (model X.prog X.w) X.A (execs sts X.env) (SP X pins D) X.xe s := by delta RB at h; exact h
theorem RB.made (h : ∀ pins s, Inv X pins σ H s → wpAny (model X.prog X.w) X.A (execs sts X.env) (SP X pins D) X.xe s) : RB X sts D σ H := by delta RB; exact h
theorem RE.mono (h : RE X e σ H Q) (k : ∀ v H', Q v H' → Q' v H') : RE X e σ H Q' := by delta RE at h ⊢; exact fun pins s I => thn (h pins s I) fun u s' ⟨v, H', I', r, q⟩ => ⟨v, H', I', r, k v H' q⟩
theorem RT.mono (h : RT X e σ H QB) (k : ∀ v H', QB v H' → QB' v H') : RT X e σ H QB' := by delta RT at h ⊢; exact fun pins s I => thn (h pins s I) fun u s' ⟨H', I', q⟩ => ⟨H', I', k u H' q⟩
theorem RA.mono (h : RA X es σ H QA) (k : ∀ v H', QA v H' → QA' v H') : RA X es σ H QA' := by delta RA at h ⊢; exact fun pos pins s I => thn (h pos pins s I) fun u s' ⟨v, H', I', r, q⟩ => ⟨v, H', I', r, k v H' q⟩

/-! ### expressions -/
theorem re_var (i : Nat) {x : Str} {v : V} (hs : σ[i]? = some (some v)) (h : Q v H) (hN : X.N[i]? = some x := by rfl) (hv : Vis X.env.scope x := by first | exact Or.inl rfl | exact Or.inr (Or.inl rfl) | exact Or.inr (Or.inr rfl))
    (hd : (x == ("__debug__" : Str)) = false := by decide) (hcd : (x == ("__classdict__" : Str)) = false := by decide) : RE X (.Name x pos) σ H Q := re_of (pe_var (i := i) hN hv hd hcd) ⟨v, hs, h⟩
theorem re_int {i : Int} {j} (h : Q (.int i) H) : RE X (.Constant (.int i) j pos) σ H Q := re_of pe_int h
theorem re_bl {i : Bool} {j} (h : Q (.bl i) H) : RE X (.Constant (.bool i) j pos) σ H Q := re_of pe_bl h
theorem re_non {j} (h : Q .non H) : RE X (.Constant .none j pos) σ H Q := re_of pe_non h
theorem re_str {x : Str} {j} (h : Q (.str x) H) : RE X (.Constant (.str x) j pos) σ H Q := re_of pe_str h
theorem re_glob {x : Str} {v : V} {u : Value} (hm : X.mg x = some u) (r : RelV v u) (h : Q v H) (hg : Gl X x := by rfl) (hd : (x == ("__debug__" : Str)) = false := by decide) : RE X (.Name x pos) σ H Q := re_of (pe_glob hg hm r hd) h
/-- a module's int -/
theorem re_gint {x : Str} {i : Int} (hm : ∃ t, X.mg x = some (.int i t)) (h : Q (.int i) H) (hg : Gl X x := by rfl) (hd : (x == ("__debug__" : Str)) = false := by decide) : RE X (.Name x pos) σ H Q := hm.elim fun t hm => re_of (pe_glob (v := .int i) hg hm ⟨t, rfl⟩ hd) h
theorem re_ty {x : Str} {T : String} (hm : X.mg x = none) (h : Q (.ty T) H) (hv : bootBuiltins x = some (.type T) := by decide +kernel) (hg : Gl X x := by rfl) (hn : x ≠ "__name__" := by decide) (hd : (x == ("__debug__" : Str)) = false := by decide) :
    RE X (.Name x pos) σ H Q := re_of (pe_bltn (v := .ty T) hg hm hv rfl hn hd) h
theorem re_op {op : Operator} {r : R2} (ho : OpR X (binaryOp op) r) (h : RE X a σ H fun x H1 => RE X b σ H1 fun y H2 => r x y H2 Q) : RE X (.BinOp a op b pos) σ H Q := re_of (pe_op ho pe_RE pe_RE) h
theorem re_un {op : UnaryOp} {r} (ho : UnR X (unaryOp op) r) (h : RE X a σ H fun x H1 => r x H1 Q) : RE X (.UnaryOp op a pos) σ H Q := re_of (pe_un ho pe_RE) h
theorem re_cmp {op : CmpOp} {r : R2} (ho : OpR X (compareOp op) r) (h : RE X a σ H fun x H1 => RE X b σ H1 fun y H2 => r x y H2 Q) (hm : behindInMarks op b = false := by first | exact nobehind _ (by decide) (by decide) | rfl) : RE X (.Compare a [op] [b] pos) σ H Q :=
  re_of (pe_cmpR ho pe_RE pe_RE hm) h
theorem re_chain {op op' : CmpOp} {r r' : R2} (ho : OpR X (compareOp op) r) (ho' : OpR X (compareOp op') r')
    (h : RE X a σ H fun x H1 => RE X b σ H1 fun y H2 => r x y H2 fun z H3 => ∃ k, z = .bl k ∧ (if k = true then RE X c σ H3 fun w' H4 => r' y w' H4 Q else Q (.bl false) H3)) (hl : lastMarks [op, op'] [b, c] = false := by rfl) : RE X (.Compare a [op, op'] [b, c] pos) σ H Q :=
  re_of (pe_chain ho ho' pe_RE pe_RE pe_RE hl) h
theorem re_and (h : RE X a σ H fun x H1 => ∃ k, x = .bl k ∧ if k = true then RE X (.BoolOp .And (b :: es) pos) σ H1 Q else Q (.bl false) H1) : RE X (.BoolOp .And (a :: b :: es) pos) σ H Q := re_of (pe_and pe_RE pe_RE) h
theorem re_or (h : RE X a σ H fun x H1 => ∃ k, x = .bl k ∧ if k = true then Q (.bl true) H1 else RE X (.BoolOp .Or (b :: es) pos) σ H1 Q) : RE X (.BoolOp .Or (a :: b :: es) pos) σ H Q := re_of (pe_or pe_RE pe_RE) h
theorem re_one {op} (h : RE X a σ H Q) : RE X (.BoolOp op [a] pos) σ H Q := re_of (pe_one pe_RE) h
theorem re_not (h : RE X a σ H fun x H1 => ∃ k, x = .bl k ∧ Q (.bl (!k)) H1) : RE X (.UnaryOp .Not a pos) σ H Q := re_of (pe_not pe_RE) h
theorem re_if (h : RT X c σ H fun k H1 => if k = true then RE X a σ H1 Q else RE X b σ H1 Q) : RE X (.IfExp c a b pos) σ H Q := re_of (pe_ifExp pt_RT pe_RE pe_RE) h
theorem ra_nil (h : QA [] H) : RA X [] σ H QA := ra_of pa_nil h
theorem ra_cons (h : RE X e σ H fun x H1 => RA X es σ H1 fun xs H2 => QA (x :: xs) H2) (hs : starEach (e :: es) X.env = (false, eval e X.env) :: starEach es X.env := by rfl) : RA X (e :: es) σ H QA := ra_of (pa_cons pe_RE pa_RA hs) h
/-- a display: a new object, all else stays -/
theorem re_tup {x1} (h : RA X es σ H fun xs H1 => xs.length ≤ 100000 ∧ ∀ p H2, H1 p = none → Ex H1 H2 → H2 p = some (.tup xs) → Q (.ref p) H2) : RE X (.Tuple es x1 pos) σ H Q :=
  re_of (pe_tup pa_RA) (h.mono fun xs H1 ⟨z, q⟩ => ⟨Evl.sz_of z, fun p hp => q p _ hp (Ex.new hp) upd_same⟩)
theorem re_lst (h : RA X es σ H fun xs H1 => xs.length ≤ 100000 ∧ ∀ p H2, H1 p = none → Ex H1 H2 → H2 p = some (.lst xs) → Q (.ref p) H2) : RE X (.List es pos) σ H Q :=
  re_of (pe_lst pa_RA) (h.mono fun xs H1 ⟨z, q⟩ => ⟨Evl.sz_of z, fun p hp => q p _ hp (Ex.new hp) upd_same⟩)
/-- subscripts -/
theorem re_ixL (h : RE X a σ H fun x H1 => RE X b σ H1 fun y H2 => ∃ p xs i v, x = .ref p ∧ y = .int i ∧ SqL X.K H2 p xs ∧ atI xs i = some v ∧ Q v H2) (hs : PlainIx b := by exact fun _ _ => rfl) : RE X (.Subscript a b pos) σ H Q := re_of (pe_ix ix_list pe_RE pe_RE hs) h
theorem re_ixT (h : RE X a σ H fun x H1 => RE X b σ H1 fun y H2 => ∃ p xs i v, x = .ref p ∧ y = .int i ∧ SqT X.K H2 p xs ∧ atI xs i = some v ∧ Q v H2) (hs : PlainIx b := by exact fun _ _ => rfl) : RE X (.Subscript a b pos) σ H Q := re_of (pe_ix ix_tup pe_RE pe_RE hs) h
/-- built-ins by name -/
theorem re_cb {x : Str} {id : String} {p} {r} (hc : CallR X (.builtin id) r) (hm : X.mg x = none) (h : RA X (e :: es) σ H fun vs H1 => r vs H1 Q) (hv : bootBuiltins x = some (.builtin id) := by decide +kernel) (hg : Gl X x := by rfl) (hn : x ≠ "__name__" := by decide)
    (hdb : (x == ("__debug__" : Str)) = false := by decide) (h1 : starEach (e :: es) X.env = (false, eval e X.env) :: starEach es X.env := by rfl) (h2 : (backTo pos (starEach es X.env)).any (·.1) = false := by rfl) : RE X (.Call (.Name x p) (e :: es) [] pos) σ H Q :=
  re_of (pe_callB hc hg hm hv pa_RA hn hdb h1 h2) h
theorem re_ct {x : Str} {T : String} {p} {r} (hc : CallR X (.type T) r) (hm : X.mg x = none) (h : RA X (e :: es) σ H fun vs H1 => r vs H1 Q) (hv : bootBuiltins x = some (.type T) := by decide +kernel) (hg : Gl X x := by rfl) (hn : x ≠ "__name__" := by decide)
    (hdb : (x == ("__debug__" : Str)) = false := by decide) (h1 : starEach (e :: es) X.env = (false, eval e X.env) :: starEach es X.env := by rfl) (h2 : (backTo pos (starEach es X.env)).any (·.1) = false := by rfl) : RE X (.Call (.Name x p) (e :: es) [] pos) σ H Q :=
  re_of (pe_callTy hc hg hm hv pa_RA hn hdb h1 h2) h

/-! ### tests -/
theorem rt_val (h : RE X e σ H fun x H1 => ∃ k, x = .bl k ∧ QB k H1) (he : ∀ whole, isTrue e X.env whole = (do let v ← whole; standAt e.pos; holding [v] (truthy v)) := by intro _; rfl) : RT X e σ H QB := rt_of (pt_val pe_RE he) h
theorem rt_cmp {op : CmpOp} {r : R2} (ho : OpR X (compareOp op) r) (h : RE X a σ H fun x H1 => RE X b σ H1 fun y H2 => r x y H2 fun z H3 => ∃ k, z = .bl k ∧ QB k H3) (hm : behindInMarks op b = false := by first | exact nobehind _ (by decide) (by decide) | rfl) :
    RT X (.Compare a [op] [b] pos) σ H QB := rt_of (pt_cmpR ho pe_RE pe_RE hm) h
theorem rt_chain {op op' : CmpOp} {r r' : R2} (ho : OpR X (compareOp op) r) (ho' : OpR X (compareOp op') r')
    (h : RE X a σ H fun x H1 => RE X b σ H1 fun y H2 => r x y H2 fun z H3 => ∃ k, z = .bl k ∧ (if k = true then RE X c σ H3 fun w' H4 => r' y w' H4 fun u H5 => ∃ k', u = .bl k' ∧ QB k' H5 else ∃ k', V.bl false = .bl k' ∧ QB k' H3)) (hl : lastMarks [op, op'] [b, c] = false := by rfl) :
    RT X (.Compare a [op, op'] [b, c] pos) σ H QB := rt_of (pt_chain ho ho' pe_RE pe_RE pe_RE hl) h
theorem rt_w (h : RW X e σ H QB) : RT X e σ H QB := rt_of (PW.pt pw_RW) h
theorem rw_and (h : RT X a σ H fun k H1 => if k = true then RW X (.BoolOp .And (b :: es) pos) σ H1 QB else QB false H1) : RW X (.BoolOp .And (a :: b :: es) pos) σ H QB := rw_of (pw_and pt_RT pw_RW) h
theorem rw_or (h : RT X a σ H fun k H1 => if k = true then QB true H1 else RW X (.BoolOp .Or (b :: es) pos) σ H1 QB) : RW X (.BoolOp .Or (a :: b :: es) pos) σ H QB := rw_of (pw_or pt_RT pw_RW) h
theorem rw_and1 (h : RT X a σ H QB) : RW X (.BoolOp .And [a] pos) σ H QB := rw_of (pw_and1 pt_RT) h
theorem rw_or1 (h : RT X a σ H QB) : RW X (.BoolOp .Or [a] pos) σ H QB := rw_of (pw_or1 pt_RT) h
theorem rt_not (h : RT X a σ H fun k H1 => QB (!k) H1) : RT X (.UnaryOp .Not a pos) σ H QB := rt_of (pt_not pt_RT) h

/-! ### statements -/
theorem rb_nil (h : D.nx σ H) : RB X [] D σ H := rb_of pss_nil h
theorem rb_cons (h : RS X st { D with nx := RB X sts D } σ H) : RB X (st :: sts) D σ H := rb_of (pss_cons ps_RS pss_RB) h
theorem rb_one (h : RS X st D σ H) : RB X [st] D σ H := rb_of (pss_one ps_RS) h
theorem rs_ret (h : RE X e σ H D.rt) : RS X (.Return (some e) pos) D σ H := rs_of (ps_ret pe_RE) h
theorem rs_retN (h : D.rt .non H) : RS X (.Return none pos) D σ H := rs_of ps_retN h
theorem rs_if {x y : List Stmt} (h : RT X c σ H fun k H1 => if k = true then RB X x D σ H1 else RB X y D σ H1) : RS X (.If c x y pos) D σ H := rs_of (ps_if pt_RT pss_RB pss_RB) h
theorem rs_set (i : Nat) {x : Str} {p} (hN : X.N.Nodup) (h : RE X e σ H fun v H1 => D.nx (σ.set i (some v)) H1) (hi : X.N[i]? = some x := by rfl) (hx : Loc X.env.scope x := by first | exact Or.inl rfl | exact Or.inr rfl)
    (hs : swapsWith e (some (.Name x p)) pos.line X.env = pure false := by rfl) (hf : X.fn x = true ∨ X.env.scope.names.lookup x = some .local := by first | exact .inl rfl | exact .inr rfl | assumption) :
    RS X (.Assign [.Name x p] e pos) D σ H := rs_of (ps_set (i := i) hN hi hx pe_RE hs hf) h
theorem rs_expr (h : RE X e σ H fun _ H1 => D.nx σ H1) (hs : swapsWith e none pos.line X.env = pure false := by rfl) : RS X (.Expr e pos) D σ H := rs_of (ps_expr pe_RE hs) h
theorem ifT {A B : Prop} (h : A) : if true = true then A else B := by rw [if_pos rfl]; exact h
theorem ifF {A B : Prop} (h : B) : if false = true then A else B := by rw [if_neg Bool.false_ne_true]; exact h
theorem ifB {k : Bool} {A B : Prop} (h1 : k = true → A) (h2 : k = false → B) : if k = true then A else B := by
  cases k with
  | true => exact ifT (h1 rfl)
  | false => exact ifF (h2 rfl)
end
end Fx
end
section
set_option Elab.async false
set_option linter.all false
set_option maxRecDepth 100000
set_option maxHeartbeats 2000000
/-! Plain data in the abstract heap: what a value stands for; isinstance and repr of it. -/
namespace Fx
open PySem PySem.Spec PyProof.Rows L2
open Evl (Ex fresh_back)

/-- the key of an entry -/
def kD : Key → PyData
  | .inl i => .int i
  | .inr x => .str x
mutual
inductive D (K : PySem.W.Frag) (H : Hp) : V → PyData → Prop
  | non : D K H .non .none
  | bl (b : Bool) : D K H (.bl b) (.bool b)
  | int (i : Int) : D K H (.int i) (.int i)
  | str (x : Str) : D K H (.str x) (.str x)
  | lst {a : Addr} {xs : List V} {ds : List PyData} : SqL K H a xs → DA K H xs ds → D K H (.ref a) (.list ds)
  | tup {a : Addr} {xs : List V} {ds : List PyData} : SqT K H a xs → DA K H xs ds → D K H (.ref a) (.tuple ds)
  | dic {a : Addr} {kvs : List (Key × V)} {ds : List (PyData × PyData)} : Rd H a (.dK kvs) → DK K H kvs ds → D K H (.ref a) (.dict ds)
inductive DA (K : PySem.W.Frag) (H : Hp) : List V → List PyData → Prop
  | nil : DA K H [] []
  | cons {v : V} {vs : List V} {d : PyData} {ds : List PyData} : D K H v d → DA K H vs ds → DA K H (v :: vs) (d :: ds)
inductive DK (K : PySem.W.Frag) (H : Hp) : List (Key × V) → List (PyData × PyData) → Prop
  | nil : DK K H [] []
  | cons {k : Key} {v : V} {vs : List (Key × V)} {d : PyData} {ds : List (PyData × PyData)} : D K H v d → DK K H vs ds → DK K H ((k, v) :: vs) ((kD k, d) :: ds)
end
section
variable {K : PySem.W.Frag} {H H' : Hp}
mutual
theorem D.mono (e : Ex H H') {v : V} : ∀ {d : PyData}, D K H v d → D K H' v d
  | .none, h => by cases h; exact .non
  | .bool b, h => by cases h; exact .bl b
  | .int i, h => by cases h; exact .int i
  | .str x, h => by cases h; exact .str x
  | .list ds, h => by cases h with | lst a b => exact .lst (Evl.ex_l e a) (DA.mono e b)
  | .tuple ds, h => by cases h with | tup a b => exact .tup (Evl.ex_t e a) (DA.mono e b)
  | .dict ds, h => by cases h with | dic a b => exact .dic (Evl.ex_rd e a) (DK.mono e b)
theorem DA.mono (e : Ex H H') : ∀ {ds : List PyData} {vs : List V}, DA K H vs ds → DA K H' vs ds
  | [], _, h => by cases h; exact .nil
  | d :: ds, _, h => by cases h with | cons a b => exact .cons (D.mono e a) (DA.mono e b)
theorem DK.mono (e : Ex H H') : ∀ {ds : List (PyData × PyData)} {vs : List (Key × V)}, DK K H vs ds → DK K H' vs ds
  | [], _, h => by cases h; exact .nil
  | (_, d) :: ds, _, h => by cases h with | cons a b => exact .cons (D.mono e a) (DK.mono e b)
end
/-- what can be read stays -/
def Ez (H H' : Hp) : Prop := ∀ a u, Rd H a u → Rd H' a u
theorem ez_l {a : Addr} {xs : List V} (e : Ez H H') (h : SqL K H a xs) : SqL K H' a xs := h.imp (e _ _) id
theorem ez_t {a : Addr} {xs : List V} (e : Ez H H') (h : SqT K H a xs) : SqT K H' a xs := h.imp (e _ _) id
theorem Ez.of (e : Ex H H') : Ez H H' := fun _ _ h => Evl.ex_rd e h
theorem Ez.trans {H'' : Hp} (e : Ez H H') (e' : Ez H' H'') : Ez H H'' := fun a u h => e' a u (e a u h)
mutual
theorem D.monoZ (e : Ez H H') {v : V} : ∀ {d : PyData}, D K H v d → D K H' v d
  | .none, h => by cases h; exact .non
  | .bool b, h => by cases h; exact .bl b
  | .int i, h => by cases h; exact .int i
  | .str x, h => by cases h; exact .str x
  | .list ds, h => by cases h with | lst a b => exact .lst (ez_l e a) (DA.monoZ e b)
  | .tuple ds, h => by cases h with | tup a b => exact .tup (ez_t e a) (DA.monoZ e b)
  | .dict ds, h => by cases h with | dic a b => exact .dic (e _ _ a) (DK.monoZ e b)
theorem DA.monoZ (e : Ez H H') : ∀ {ds : List PyData} {vs : List V}, DA K H vs ds → DA K H' vs ds
  | [], _, h => by cases h; exact .nil
  | d :: ds, _, h => by cases h with | cons a b => exact .cons (D.monoZ e a) (DA.monoZ e b)
theorem DK.monoZ (e : Ez H H') : ∀ {ds : List (PyData × PyData)} {vs : List (Key × V)}, DK K H vs ds → DK K H' vs ds
  | [], _, h => by cases h; exact .nil
  | (_, d) :: ds, _, h => by cases h with | cons a b => exact .cons (D.monoZ e a) (DK.monoZ e b)
end
/-- a lock -/
theorem Ez.lock {d : Addr} {u : HO} {od : Obj} (h : H d = some u) (hu : ∀ o u', u ≠ .frz o u') : Ez H (upd H d (.frz od u)) := fun a w h' => by
  by_cases e : a = d
  · subst e
    rcases h' with h' | ⟨o, h'⟩
    · obtain rfl := Option.some.inj (h.symm.trans h')
      exact .inr ⟨od, upd_same⟩
    · exact absurd (Option.some.inj (h.symm.trans h')) (hu _ _)
  · rcases h' with h' | ⟨o, h'⟩
    · exact .inl ((upd_ne e).trans h')
    · exact .inr ⟨o, (upd_ne e).trans h'⟩
/-- behind a lock -/
theorem ex_unlock {d : Addr} {u : HO} {od : Obj} (h : H d = some u) (e : Ex (upd H d (.frz od u)) H') : Ex H (upd H' d u) := fun a o ha => by
  by_cases z : a = d
  · subst z
    rw [upd_same, ← h, ha]
  · rw [upd_ne z]
    exact e _ _ ((upd_ne z).trans ha)
theorem DA.length : ∀ {vs : List V} {ds : List PyData}, DA K H vs ds → vs.length = ds.length
  | _, _, .nil => rfl
  | _, _, .cons _ t => by rw [List.length_cons, List.length_cons, DA.length t]
theorem DA.get : ∀ {vs : List V} {ds : List PyData} {i : Nat} {d : PyData}, DA K H vs ds → ds[i]? = some d → ∃ v, vs[i]? = some v ∧ D K H v d
  | _, _, _, _, .nil, h => by simp at h
  | _, _, 0, _, .cons a _, h => by
    have e := Option.some.inj h
    subst e
    exact ⟨_, rfl, a⟩
  | _, _, i + 1, _, .cons _ t, h => DA.get (i := i) t h
theorem DA.getV : ∀ {vs : List V} {ds : List PyData} {i : Nat} {v : V}, DA K H vs ds → vs[i]? = some v → ∃ d, ds[i]? = some d ∧ D K H v d
  | _, _, _, _, .nil, h => by simp at h
  | _, _, 0, _, .cons a _, h => by
    have e := Option.some.inj h
    subst e
    exact ⟨_, rfl, a⟩
  | _, _, i + 1, _, .cons _ t, h => DA.getV (i := i) t h
theorem DA.drop : ∀ {vs : List V} {ds : List PyData} (n : Nat), DA K H vs ds → DA K H (vs.drop n) (ds.drop n)
  | _, _, 0, h => h
  | _, _, _ + 1, .nil => .nil
  | _, _, n + 1, .cons _ t => DA.drop n t
theorem DA.app : ∀ {vs ws : List V} {ds es : List PyData}, DA K H vs ds → DA K H ws es → DA K H (vs ++ ws) (ds ++ es)
  | _, _, _, _, .nil, h => h
  | _, _, _, _, .cons a t, h => .cons a (DA.app t h)
theorem DA.ints : ∀ (ns : List Int), DA K H (ns.map V.int) (ns.map PyData.int)
  | [] => .nil
  | n :: r => .cons (.int n) (DA.ints r)
end

/-! ### isinstance -/
def tyN : PyData → String
  | .none => "NoneType"
  | .bool _ => "bool"
  | .int _ => "int"
  | .str _ => "str"
  | .list _ => "list"
  | .tuple _ => "tuple"
  | .dict _ => "dict"
theorem D.ty {K : PySem.W.Frag} {H : Hp} {v : V} {d : PyData} (h : D K H v d) : TyX K H v (.type (tyN d)) := by
  cases h with
  | non => exact .base .non
  | bl b => exact .base (.bl b)
  | int i => exact .base (.int i)
  | str x => exact .base (.str x)
  | lst a _ =>
    rcases a with (a | ⟨o, a⟩) | ⟨o, its, n, hk, hc, _⟩
    · exact .base (.lst a)
    · exact .base (.frz a)
    · exact .kList hk hc
  | tup a _ =>
    rcases a with (a | ⟨o, a⟩) | ⟨o, its, n, hk, hc, _⟩
    · exact .base (.tup a)
    · exact .fTuple a
    · exact .kTuple hk hc
  | dic a _ =>
    rcases a with a | ⟨o, a⟩
    · exact .base (.dK a)
    · exact .fDict a
def isI : PyData → Bool | .int _ => true | .bool _ => true | _ => false
def isB : PyData → Bool | .bool _ => true | _ => false
def isS : PyData → Bool | .str _ => true | _ => false
def isT : PyData → Bool | .tuple _ => true | _ => false
def isL : PyData → Bool | .list _ => true | _ => false
def isD : PyData → Bool | .dict _ => true | _ => false
theorem kit_I (d : PyData) : kitB (tyN d) "int" = some (isI d) := by
  cases d with
  | none => exact (by decide +kernel : kitB "NoneType" "int" = some false)
  | bool _ => exact (by decide +kernel : kitB "bool" "int" = some true)
  | int _ => exact (by decide +kernel : kitB "int" "int" = some true)
  | str _ => exact (by decide +kernel : kitB "str" "int" = some false)
  | list _ => exact (by decide +kernel : kitB "list" "int" = some false)
  | tuple _ => exact (by decide +kernel : kitB "tuple" "int" = some false)
  | dict _ => exact (by decide +kernel : kitB "dict" "int" = some false)
theorem kit_B (d : PyData) : kitB (tyN d) "bool" = some (isB d) := by
  cases d with
  | none => exact (by decide +kernel : kitB "NoneType" "bool" = some false)
  | bool _ => exact (by decide +kernel : kitB "bool" "bool" = some true)
  | int _ => exact (by decide +kernel : kitB "int" "bool" = some false)
  | str _ => exact (by decide +kernel : kitB "str" "bool" = some false)
  | list _ => exact (by decide +kernel : kitB "list" "bool" = some false)
  | tuple _ => exact (by decide +kernel : kitB "tuple" "bool" = some false)
  | dict _ => exact (by decide +kernel : kitB "dict" "bool" = some false)
theorem kit_S (d : PyData) : kitB (tyN d) "str" = some (isS d) := by
  cases d with
  | none => exact (by decide +kernel : kitB "NoneType" "str" = some false)
  | bool _ => exact (by decide +kernel : kitB "bool" "str" = some false)
  | int _ => exact (by decide +kernel : kitB "int" "str" = some false)
  | str _ => exact (by decide +kernel : kitB "str" "str" = some true)
  | list _ => exact (by decide +kernel : kitB "list" "str" = some false)
  | tuple _ => exact (by decide +kernel : kitB "tuple" "str" = some false)
  | dict _ => exact (by decide +kernel : kitB "dict" "str" = some false)
theorem kit_T (d : PyData) : kitB (tyN d) "tuple" = some (isT d) := by
  cases d with
  | none => exact (by decide +kernel : kitB "NoneType" "tuple" = some false)
  | bool _ => exact (by decide +kernel : kitB "bool" "tuple" = some false)
  | int _ => exact (by decide +kernel : kitB "int" "tuple" = some false)
  | str _ => exact (by decide +kernel : kitB "str" "tuple" = some false)
  | list _ => exact (by decide +kernel : kitB "list" "tuple" = some false)
  | tuple _ => exact (by decide +kernel : kitB "tuple" "tuple" = some true)
  | dict _ => exact (by decide +kernel : kitB "dict" "tuple" = some false)
theorem kit_L (d : PyData) : kitB (tyN d) "list" = some (isL d) := by
  cases d with
  | none => exact (by decide +kernel : kitB "NoneType" "list" = some false)
  | bool _ => exact (by decide +kernel : kitB "bool" "list" = some false)
  | int _ => exact (by decide +kernel : kitB "int" "list" = some false)
  | str _ => exact (by decide +kernel : kitB "str" "list" = some false)
  | list _ => exact (by decide +kernel : kitB "list" "list" = some true)
  | tuple _ => exact (by decide +kernel : kitB "tuple" "list" = some false)
  | dict _ => exact (by decide +kernel : kitB "dict" "list" = some false)
theorem kit_D (d : PyData) : kitB (tyN d) "dict" = some (isD d) := by
  cases d with
  | none => exact (by decide +kernel : kitB "NoneType" "dict" = some false)
  | bool _ => exact (by decide +kernel : kitB "bool" "dict" = some false)
  | int _ => exact (by decide +kernel : kitB "int" "dict" = some false)
  | str _ => exact (by decide +kernel : kitB "str" "dict" = some false)
  | list _ => exact (by decide +kernel : kitB "list" "dict" = some false)
  | tuple _ => exact (by decide +kernel : kitB "tuple" "dict" = some false)
  | dict _ => exact (by decide +kernel : kitB "dict" "dict" = some true)
section
variable {X : Cx} {e a b c f g o : Expr} {es : List Expr} {σ : L2.St} {H : Hp} {Q : VK} {D' : Ends} {pos p p2 : Pos}
/-- isinstance(e, T) -/
theorem re_isi {x : Str} {T : String} {is : PyData → Bool} (kit : ∀ d, kitB (tyN d) T = some (is d)) (hI : X.mg "isinstance" = none) (hT : X.mg x = none) (h : RE X e σ H fun v H1 => ∃ d, D X.K H1 v d ∧ Q (.bl (is d)) H1)
    (hv : bootBuiltins x = some (.type T) := by decide +kernel) (hg : Gl X "isinstance" := by rfl) (hg2 : Gl X x := by rfl) (hn : x ≠ "__name__" := by decide) (hd : (x == ("__debug__" : Str)) = false := by decide)
    (h1 : starEach [e, .Name x p2] X.env = (false, eval e X.env) :: starEach [.Name x p2] X.env := by rfl) : RE X (.Call (.Name "isinstance" p) [e, .Name x p2] [] pos) σ H Q :=
  re_cb (h1 := h1) (hg := hg) call_isi hI (ra_cons (h.mono fun v H1 ⟨d, hd', q⟩ => ra_cons (re_ty hT (ra_nil ⟨v, .ty T, .type (tyN d), .type T, is d, rfl, .ty T, hd'.ty, kit_ty (kit d), q⟩) hv hg2 hn hd) rfl) h1)
/-- isinstance(e, (T, U)) -/
theorem re_isi2 {x y : Str} {T U : String} {is1 is2 : PyData → Bool} {k} {p3 pt : Pos} (kit1 : ∀ d, kitB (tyN d) T = some (is1 d)) (kit2 : ∀ d, kitB (tyN d) U = some (is2 d)) (hI : X.mg "isinstance" = none) (hT : X.mg x = none) (hU : X.mg y = none)
    (h : RE X e σ H fun v H1 => ∃ d, D X.K H1 v d ∧ ∀ H2, Ex H1 H2 → Q (.bl (is1 d || is2 d)) H2)
    (hv : bootBuiltins x = some (.type T) := by decide +kernel) (hw : bootBuiltins y = some (.type U) := by decide +kernel) (hg : Gl X "isinstance" := by rfl) (hg2 : Gl X x := by rfl) (hg3 : Gl X y := by rfl) (hn : x ≠ "__name__" := by decide) (hn3 : y ≠ "__name__" := by decide)
    (hd : (x == ("__debug__" : Str)) = false := by decide) (hd3 : (y == ("__debug__" : Str)) = false := by decide)
    (h1 : starEach [e, .Tuple [.Name x p2, .Name y p3] k pt] X.env = (false, eval e X.env) :: starEach [.Tuple [.Name x p2, .Name y p3] k pt] X.env := by rfl) : RE X (.Call (.Name "isinstance" p) [e, .Tuple [.Name x p2, .Name y p3] k pt] [] pos) σ H Q := by
  refine re_cb (h1 := h1) (hg := hg) call_isiT hI (ra_cons (h.mono fun v H1 ⟨d, hd', q⟩ => ra_cons (re_tup (ra_cons (re_ty hT (ra_cons (re_ty hU (ra_nil ⟨(show 2 ≤ 100000 by decide), fun t H2 ht e2 h2 => ?_⟩) hw hg3 hn3 hd3) rfl) hv hg2 hn hd) rfl)) rfl) h1)
  refine ra_nil ⟨v, t, [.ty T, .ty U], .type (tyN d), [.type T, .type U], is1 d || is2 d, rfl, h2, .cons (.ty T) (.cons (.ty U) .nil), (hd'.mono e2).ty, ?_, q H2 e2⟩
  refine kitAny_cons (kit_ty (kit1 d)) (fun z => ?_) fun z => by rw [z]; rfl
  refine kitAny_cons (kit_ty (kit2 d)) (fun y => ?_) fun y => by rw [y, Bool.or_true]
  rw [z, y]
  exact kitAny_nil
end
end Fx

namespace Fx
open PySem PySem.Spec PyProof.Rows L2
section
variable {K : PySem.W.Frag} {H H' : Hp}
theorem DK.length : ∀ {vs : List (Key × V)} {ds : List (PyData × PyData)}, DK K H vs ds → vs.length = ds.length
  | _, _, .nil => rfl
  | _, _, .cons _ t => by rw [List.length_cons, List.length_cons, DK.length t]
theorem DK.getV : ∀ {vs : List (Key × V)} {ds : List (PyData × PyData)} {i : Nat} {k : Key} {v : V}, DK K H vs ds → vs[i]? = some (k, v) → ∃ d, ds[i]? = some (kD k, d) ∧ D K H v d
  | _, _, _, _, _, .nil, h => by simp at h
  | _, _, 0, _, _, .cons a _, h => by
    have e := Option.some.inj h
    obtain ⟨rfl, rfl⟩ := Prod.mk.inj e
    exact ⟨_, rfl, a⟩
  | _, _, i + 1, _, _, .cons _ t, h => DK.getV (i := i) t h
theorem kD_inj {a b : Key} (h : kD a = kD b) : a = b := by
  cases a with
  | inl a => cases b with
    | inl b => exact congrArg Sum.inl (PyData.int.inj h)
    | inr b => exact nomatch h
  | inr a => cases b with
    | inl b => exact nomatch h
    | inr b => exact congrArg Sum.inr (PyData.str.inj h)
theorem kV_kD {K : PySem.W.Frag} {H : Hp} (k : Key) : D K H (kV k) (kD k) := by
  cases k with
  | inl i => exact .int i
  | inr x => exact .str x
end
end Fx
end
section
set_option Elab.async false
set_option linter.all false
set_option maxRecDepth 100000
set_option maxHeartbeats 2000000
/-! Loops and comprehensions over what is walked. -/
namespace Fx
open PySem PySem.Spec PyProof.Rows L2
open Evl (Ex fresh_back)
open RZ

def RI (X : Cx) (tg iter : Expr) : TI := fun σ H R => ∀ pins s, Inv X pins σ H s → wpAny (model X.prog X.w) X.A (eval iter X.env) (fun v s1 => wpAny (model X.prog X.w) X.A (pyIter v) (PIE X pins σ tg R) X.xe s1) X.xe s
section
variable {X : Cx} {e a b c tg iter o : Expr} {es : List Expr} {σ : L2.St} {H : Hp} {Q : VK} {R R' : It → Hp → Prop} {pos p : Pos} {D : Ends}
theorem pi_RI : PI X tg iter (RI X tg iter) := ⟨fun pins s σ H R I h => h pins s I⟩
theorem ri_of {wi : TI} (h : PI X tg iter wi) (q : wi σ H R) : RI X tg iter σ H R := fun pins s I => h.run pins s σ H R I q
theorem RI.mono (h : RI X tg iter σ H R) (k : ∀ J H', R J H' → R' J H') : RI X tg iter σ H R' := fun pins s I =>
  thn (h pins s I) fun v s1 h1 => thn h1 fun u s2 ⟨it, fp, tn, J, H', a, b, c, d, e, f⟩ => ⟨it, fp, tn, J, H', a, b, c, d, e, k J H' f⟩
theorem ri_list (h : RE X iter σ H fun x H1 => ∃ a xs, x = .ref a ∧ SqL X.K H1 a xs ∧ R (Itl X.K a) H1) : RI X tg iter σ H R := ri_of (pi_list pe_RE) (h.mono fun x H1 ⟨a, xs, e, q, r⟩ => ⟨a, e, ⟨xs, q⟩, r⟩)
theorem ri_tup (h : RE X iter σ H fun x H1 => ∃ a xs, x = .ref a ∧ SqT X.K H1 a xs ∧ R (Itt X.K a) H1) : RI X tg iter σ H R := ri_of (pi_tup pe_RE) (h.mono fun x H1 ⟨a, xs, e, q, r⟩ => ⟨a, e, ⟨xs, q⟩, r⟩)
theorem ri_str (h : RE X iter σ H fun x H1 => ∃ z, x = .str z ∧ R (Its z) H1) : RI X tg iter σ H R := ri_of (pi_str pe_RE) h
theorem ri_zipT {elts : List Expr} {kk : Nat} {tpos : Pos} (hm : X.mg "zip" = none) (h : RA X [a, b] σ H fun vs H1 => ∃ p q xs ys, vs = [.ref p, .ref q] ∧ SqT X.K H1 p xs ∧ SqT X.K H1 q ys ∧ R (ItzT X.K p q) H1) (hg : Gl X "zip" := by rfl)
    (hs : starEach [a, b] X.env = (false, eval a X.env) :: starEach [b] X.env := by rfl) (hpl : (backTo pos (starEach [b] X.env)).any (·.1) = false := by rfl) : RI X (.Tuple elts kk tpos) (.Call (.Name "zip" p) [a, b] [] pos) σ H R :=
  ri_of (pi_zipA hg hm pa_RA hs hpl) (h.mono fun vs H1 ⟨p, q, xs, ys, e, h1, h2, r⟩ => ⟨p, q, xs, ys, e, .inr ⟨h1, h2, r⟩⟩)
theorem ri_enum {elts : List Expr} {kk : Nat} {tpos : Pos} (hm : X.mg "enumerate" = none) (h : RA X [a] σ H fun vs H1 => ∃ p xs, vs = [.ref p] ∧ SqL X.K H1 p xs ∧ R (Ite X.K p) H1) (hg : Gl X "enumerate" := by rfl)
    (hs : starEach [a] X.env = [(false, eval a X.env)] := by rfl) : RI X (.Tuple elts kk tpos) (.Call (.Name "enumerate" p) [a] [] pos) σ H R := ri_of (pi_enum hg hm pa_RA hs) h
theorem ri_range {n : Int} (hm : X.mg "range" = none) (h : RA X [a] σ H fun vs H1 => ∃ j : Int, vs = [.int j] ∧ -(2 ^ 62) ≤ j ∧ j < 2 ^ 62 ∧ R (Itr 0 j.toNat) H1) (hg : Gl X "range" := by rfl)
    (hs : starEach [a] X.env = [(false, eval a X.env)] := by rfl) : RI X tg (.Call (.Name "range" p) [a] [] pos) σ H R := ri_of (pi_range1 hg hm pa_RA hs) h

/-- the pairs of zip over two tuples -/
theorem walk_zipT {K : PySem.W.Frag} {a b : Addr} {xs ys : List V} (hl : xs.length = ys.length) : Walk (ItzT K a b) xs.length (fun H => SqT K H a xs ∧ SqT K H b ys) (YPair (fun i => xs[i]?) (fun i => ys[i]?)) := by
  refine ⟨fun i _ hi q => ?_, fun _ q => ?_, fun i H v H' _ q y => ?_⟩
  · exact ⟨xs, ys, xs[i], ys[i]'(by omega), q.1, q.2, by simp [hi], by simp [show i < ys.length by omega]⟩
  · exact ⟨xs, ys, q.1, q.2, .inl (Nat.le_refl _)⟩
  · obtain ⟨T, x, z, h1, h2, h3, h4, h5⟩ := y
    exact ⟨T, x, z, h1, h2, h3, h4 xs q.1, h5 ys q.2⟩

/-! ### list comprehensions whose items are told without the heap -/
section
variable {elt : Expr} {scope : Scope} {own : List (Str × Nat)} {g : TG} {n : Nat} {Y : Nat → Hp → V → Hp → Prop}
abbrev Blk (X : Cx) (scope : Scope) (s : Shared) (H : Hp) (C : Addr) (cl : List (Str × Addr)) (fp : List Addr) : Cx := X.blk s H scope (compEnvC scope cl C X.env) fp
theorem ex_mut {H H' : Hp} {p : Addr} {o : HO} (e : Ex H H') (h : H p = none) : Ex H (upd H' p o) := Evl.Ex.mut e h
abbrev GoodG (g : TG) : Prop := ∀ x σ H (Q Q' : L2.St → Hp → Prop), (∀ σ H, Q σ H → Q' σ H) → g x σ H Q → g x σ H Q'
theorem good_name {i : Nat} : GoodG (gName i) := fun x σ H Q Q' k h => k _ _ h
theorem good_tup2 {K : PySem.W.Frag} {i j : Nat} : GoodG (gTup K 2 (gCons (gName i) (gCons (gName j) gNil))) := fun x σ H Q Q' k h => by
  obtain ⟨a, xs, e1, e2, e3, v, r, e4, v2, r2, e5, e6, q⟩ := h
  exact ⟨a, xs, e1, e2, e3, v, r, e4, v2, r2, e5, e6, k _ _ q⟩
/-- [elt for target in iter] -/
theorem re_lc (hc : X.calm = true) (hN : X.N.Nodup) (ok : BlkOk X.N X.env.scope scope own) (hg : ∀ s H C cl fp, PG (Blk X scope s H C cl fp) tg g) (gm : GoodG g)
    (h : RI X tg iter σ H fun J H1 => ∃ (n : Nat) (G : Hp → Prop) (Y : Nat → Hp → V → Hp → Prop) (Acc : Nat → List V → Prop), Walk J n G Y ∧ n ≤ 40000 ∧ (∀ H', Ex H1 H' → G H') ∧ Acc 0 [] ∧
      (∀ i x H2 H3, i < n → Ex H1 H2 → Y i H2 x H3 → Ex H2 H3 ∧ g x (wipe σ (own.map (·.2))) H3 fun σ2 H4 => wipe σ2 (own.map (·.2)) = wipe σ (own.map (·.2)) ∧ Ex H3 H4 ∧ ∀ s0 H0 C cl fp,
        RE (Blk X scope s0 H0 C cl fp) elt σ2 H4 fun y H6 => Ex H4 H6 ∧ ∀ acc, Acc i acc → Acc (i + 1) (acc ++ [y])) ∧
      ∀ p ys H2, H1 p = none → Ex H1 H2 → H2 p = some (.lst ys) → ys.length = n → Acc n ys → Q (.ref p) H2)
    (hs : ∀ x, foldedSetIterable iter X.env x = pure x := by intro _; rfl) : RE X (.ListComp elt [⟨tg, iter, [], 0⟩] scope pos) σ H Q := by
  refine re_of (pe_lc (own := own) (g := g) (tt := tYes) (te := fun σ H Q => ∀ s0 H0 C cl fp, RE (Blk X scope s0 H0 C cl fp) elt σ H Q) hc hN pi_RI ok hg (fun _ _ _ _ _ => pts_nil) (fun s H C cl fp => ⟨fun pins s' σ H' Q I q => (q s H C cl fp).run pins s' I⟩) hs) ?_
  refine h.mono fun J H1 ⟨n, G, Y, Acc, w, hn, hG, h0, turn, fin⟩ Dl hD => ?_
  refine lc_it w (g := g) (tt := tYes) (te := fun σ H Q => ∀ s0 H0 C cl fp, RE (Blk X scope s0 H0 C cl fp) elt σ H Q) (fun i H' => Ex H1 H' ∧ ∃ acc, H' Dl = some (.lst acc) ∧ acc.length = i ∧ Acc i acc)
    ⟨Evl.Ex.new hD, [], upd_same, rfl, h0⟩ (fun i H' _ p => hG H' p.1) (fun i x H2 H3 hi p y => ?_) fun H' ⟨e, acc, a1, a2, a3⟩ => fin Dl acc H' hD e a1 a2 a3
  obtain ⟨e2, acc, a1, a2, a3⟩ := p
  obtain ⟨e3, t⟩ := turn i x H2 H3 hi e2 y
  refine gm _ _ _ _ _ (fun σ2 H4 ⟨hw, e4, t⟩ => ⟨hw, ?_⟩) t
  simp only [tYes, if_true]
  intro s0 H0 C cl fp
  refine (t s0 H0 C cl fp).mono fun y' H6 ⟨e6, k⟩ => ?_
  have e26 : Ex H2 H6 := (e3.trans e4).trans e6
  exact ⟨acc, e26 _ _ a1, Nat.lt_of_lt_of_le (show acc.length < 100000 by omega) (by decide), ex_mut (e2.trans e26) hD, acc ++ [y'], upd_same, by rw [List.length_append]; simp [a2], k acc a3⟩
/-- [elt for target in iter if test] -/
theorem re_lcIf (hc : X.calm = true) (hN : X.N.Nodup) (ok : BlkOk X.N X.env.scope scope own) (hg : ∀ s H C cl fp, PG (Blk X scope s H C cl fp) tg g) (gm : GoodG g)
    (h : RI X tg iter σ H fun J H1 => ∃ (n : Nat) (G : Hp → Prop) (Y : Nat → Hp → V → Hp → Prop) (Acc : Nat → List V → Prop), Walk J n G Y ∧ n ≤ 40000 ∧ (∀ H', Ex H1 H' → G H') ∧ Acc 0 [] ∧
      (∀ i x H2 H3, i < n → Ex H1 H2 → Y i H2 x H3 → Ex H2 H3 ∧ g x (wipe σ (own.map (·.2))) H3 fun σ2 H4 => wipe σ2 (own.map (·.2)) = wipe σ (own.map (·.2)) ∧ Ex H3 H4 ∧ ∀ s0 H0 C cl fp,
        RT (Blk X scope s0 H0 C cl fp) c σ2 H4 fun k H5 => Ex H4 H5 ∧ (k = true → ∀ s0 H0 C cl fp, RE (Blk X scope s0 H0 C cl fp) elt σ2 H5 fun y H6 => Ex H5 H6 ∧ ∀ acc, Acc i acc → Acc (i + 1) (acc ++ [y])) ∧ (k = false → ∀ acc, Acc i acc → Acc (i + 1) acc)) ∧
      ∀ p ys H2, H1 p = none → Ex H1 H2 → H2 p = some (.lst ys) → ys.length ≤ n → Acc n ys → Q (.ref p) H2)
    (hs : ∀ x, foldedSetIterable iter X.env x = pure x := by intro _; rfl) : RE X (.ListComp elt [⟨tg, iter, [c], 0⟩] scope pos) σ H Q := by
  refine re_of (pe_lc (own := own) (g := g) (tt := fun σ H Q => ∀ s0 H0 C cl fp, RT (Blk X scope s0 H0 C cl fp) c σ H Q) (te := fun σ H Q => ∀ s0 H0 C cl fp, RE (Blk X scope s0 H0 C cl fp) elt σ H Q) hc hN pi_RI ok hg
    (fun s H C cl fp => pts_one ⟨fun pins s' σ H' Q I q => (q s H C cl fp).run pins s' I⟩) (fun s H C cl fp => ⟨fun pins s' σ H' Q I q => (q s H C cl fp).run pins s' I⟩) hs) ?_
  refine h.mono fun J H1 ⟨n, G, Y, Acc, w, hn, hG, h0, turn, fin⟩ Dl hD => ?_
  refine lc_it w (g := g) (tt := fun σ H Q => ∀ s0 H0 C cl fp, RT (Blk X scope s0 H0 C cl fp) c σ H Q) (te := fun σ H Q => ∀ s0 H0 C cl fp, RE (Blk X scope s0 H0 C cl fp) elt σ H Q) (fun i H' => Ex H1 H' ∧ ∃ acc, H' Dl = some (.lst acc) ∧ acc.length ≤ i ∧ Acc i acc)
    ⟨Evl.Ex.new hD, [], upd_same, Nat.le_refl _, h0⟩ (fun i H' _ p => hG H' p.1) (fun i x H2 H3 hi p y => ?_) fun H' ⟨e, acc, a1, a2, a3⟩ => fin Dl acc H' hD e a1 a2 a3
  obtain ⟨e2, acc, a1, a2, a3⟩ := p
  obtain ⟨e3, t⟩ := turn i x H2 H3 hi e2 y
  refine gm _ _ _ _ _ (fun σ2 H4 ⟨hw, e4, t⟩ => ⟨hw, fun s0 H0 C cl fp => (t s0 H0 C cl fp).mono fun k H5 ⟨e5, t1, t2⟩ => ?_⟩) t
  have e25 : Ex H2 H5 := (e3.trans e4).trans e5
  refine ifB (fun hk => ?_) fun hk => ?_
  · intro s0' H0' C' cl' fp'
    refine (t1 hk s0' H0' C' cl' fp').mono fun y' H6 ⟨e6, k⟩ => ?_
    have e26 : Ex H2 H6 := e25.trans e6
    exact ⟨acc, e26 _ _ a1, Nat.lt_of_lt_of_le (show acc.length < 100000 by omega) (by decide), ex_mut (e2.trans e26) hD, acc ++ [y'], upd_same, by rw [List.length_append]; simp; omega, k acc a3⟩
  · exact ⟨e2.trans e25, acc, e25 _ _ a1, by omega, t2 hk acc a3⟩

/-! ### for -/
theorem rs_for {body : List Stmt} (hp : PassesOwn (model X.prog X.w) X.A X.env X.xe) (hc : X.calm = true) (hg : PG X tg g) (gm : GoodG g)
    (h : RI X tg iter σ H fun J H1 => ∃ (n : Nat) (G : Hp → Prop) (Y : Nat → Hp → V → Hp → Prop) (Pv : Nat → L2.St → Hp → Prop), Walk J n G Y ∧ Pv 0 σ H1 ∧ (∀ i σ H, i ≤ n → Pv i σ H → G H) ∧
      (∀ i x σ H H', i < n → Pv i σ H → Y i H x H' → g x σ H' fun σ2 H2 => RB X body { D with nx := Pv (i + 1), ct := Pv (i + 1), bk := D.nx } σ2 H2) ∧ ∀ σ H, Pv n σ H → D.nx σ H)
    (hs : ∀ x, foldedSetIterable iter X.env x = pure x := by intro _; rfl) : RS X (.For tg iter body [] pos) D σ H :=
  rs_of (ps_for hp hc pi_RI hg pss_RB hs) (h.mono fun J H1 ⟨n, G, Y, Pv, w, h0, hG, st, fin⟩ => for_it w Pv h0 hG st fin)
theorem rs_while {body : List Stmt} {m0 : Nat} (hp : PassesOwn (model X.prog X.w) X.A X.env X.xe) (W : Nat → L2.St → Hp → Prop) (h0 : W m0 σ H)
    (h : ∀ m σ H, W m σ H → RT X c σ H fun b H1 => if b = true then ∃ N : L2.St → Hp → Prop, (∀ σ' H', N σ' H' → ∃ m', m' < m ∧ W m' σ' H') ∧ RB X body { D with nx := N, ct := N, bk := D.nx } σ H1 else D.nx σ H1) : RS X (.While c body [] pos) D σ H :=
  rs_of (ps_while hp pt_RT pss_RB) ⟨W, ⟨m0, h0⟩, h⟩
end
end
end Fx
end
section
set_option Elab.async false
set_option linter.all false
set_option maxRecDepth 100000
set_option maxHeartbeats 2000000
namespace Fl
open PySem PySem.Spec PyProof.Rows L2
def top (i : Nat) : Stmt := PySem.Challenge.pw_foldlines_k14_whole_tidy_calls_come_back.main.body.getD i (.Pass ⟨0, 0, 0, 0⟩)
abbrev s_invalidfunctions_init : Stmt := inClass (top 2) 0
abbrev s_invalidinputs_init : Stmt := inClass (top 3) 0
abbrev s_il_init : Stmt := inClass (top 4) 0
abbrev s_invalidtext_init : Stmt := inClass (top 5) 0
abbrev s_untidy_init : Stmt := inClass (top 6) 0
abbrev s_un_init : Stmt := inClass (top 7) 0
abbrev s_toomany_init : Stmt := inClass (top 8) 0
abbrev s_is_int : Stmt := top 18
abbrev s_is_number : Stmt := top 19
abbrev s_is_word : Stmt := top 20
abbrev s_is_list : Stmt := top 21
abbrev s_is_filled_list : Stmt := top 22
abbrev s_are_numbers : Stmt := top 23
abbrev s_wrapped : Stmt := top 24
abbrev s_is_line : Stmt := top 31
abbrev s_fits : Stmt := top 32
abbrev s_named_function : Stmt := top 33
abbrev s_named_label : Stmt := top 34
abbrev s_marks_of : Stmt := top 35
abbrev s_reached_ways : Stmt := top 37
abbrev s_leads : Stmt := top 38
abbrev s_rows_of : Stmt := top 39
abbrev s_row_behind : Stmt := top 40
abbrev s_entry_of : Stmt := top 41
abbrev s_has_value : Stmt := top 42
abbrev s_own_indexes : Stmt := top 43
abbrev s_own_behind : Stmt := top 44
abbrev s_is_tidy : Stmt := top 45
abbrev s_needs_own : Stmt := top 46
abbrev s_check_functions : Stmt := top 48
abbrev s_are_functions : Stmt := top 49
abbrev s_first_wrong : Stmt := top 50
abbrev s_names_are_there : Stmt := top 51
abbrev s_check_lengths : Stmt := top 52
abbrev s_text_of : Stmt := top 54
abbrev s_u_function_text : Stmt := top 55
abbrev s_line_text : Stmt := top 56
abbrev s_functions_of : Stmt := top 57
abbrev s_u_is_head : Stmt := top 58
abbrev s_line_of : Stmt := top 59
abbrev s_part_of : Stmt := top 60
abbrev s_init : Stmt := inClass (top 62) 3
abbrev s_keep : Stmt := inClass (top 62) 4
abbrev s_of : Stmt := inClass (top 62) 5
abbrev s_program_read : Stmt := inClass (top 62) 6
abbrev s_functions : Stmt := inClass (top 62) 10
abbrev s_names : Stmt := inClass (top 62) 11
abbrev s_program_text : Stmt := inClass (top 62) 13
abbrev s_places : Stmt := inClass (top 62) 15
abbrev s_getitem : Stmt := inClass (top 62) 19
abbrev s_contains : Stmt := inClass (top 62) 20
abbrev s_program_iter : Stmt := inClass (top 62) 21
abbrev s_len : Stmt := inClass (top 62) 22
abbrev s_eq : Stmt := inClass (top 62) 23
abbrev s_machine_init : Stmt := inClass (top 64) 0
abbrev s_pass_marks : Stmt := top 65
abbrev s_do_line : Stmt := top 66
abbrev s_m_num : Stmt := top 67
abbrev s_m_copy : Stmt := top 68
abbrev s_m_add : Stmt := top 69
abbrev s_m_sub : Stmt := top 70
abbrev s_m_mul : Stmt := top 71
abbrev s_m_same : Stmt := top 72
abbrev s_m_less : Stmt := top 73
abbrev s_m_are_numbers : Stmt := top 74
abbrev s_m_take_in : Stmt := top 75
abbrev s_m_put_out : Stmt := top 76
abbrev s_m_push : Stmt := top 77
abbrev s_m_pop : Stmt := top 78
abbrev s_m_read : Stmt := top 79
abbrev s_m_write : Stmt := top 80
abbrev s_m_jump : Stmt := top 81
abbrev s_m_if : Stmt := top 82
abbrev s_m_unless : Stmt := top 83
abbrev s_m_call : Stmt := top 84
abbrev s_m_callr : Stmt := top 85
abbrev s_m_tail : Stmt := top 86
abbrev s_m_keep_behind : Stmt := top 87
abbrev s_m_enter : Stmt := top 88
abbrev s_m_back : Stmt := top 89
abbrev s_m_stop : Stmt := top 90
abbrev s_run_init : Stmt := inClass (top 93) 0
abbrev s_run_end : Stmt := inClass (top 93) 2
abbrev s_run_steps : Stmt := inClass (top 93) 3
abbrev s_run_place : Stmt := inClass (top 93) 4
abbrev s_run_depth : Stmt := inClass (top 93) 5
abbrev s_run_step : Stmt := inClass (top 93) 7
abbrev s_run_go : Stmt := inClass (top 93) 8
abbrev s_pen : Stmt := top 95
abbrev s_draw : Stmt := top 96
abbrev s_pick : Stmt := top 97
abbrev s_words : Stmt := top 98
abbrev s_number : Stmt := top 99
abbrev s_plain_line : Stmt := top 100
abbrev s_called : Stmt := top 101
abbrev s_lcall : Stmt := top 102
abbrev s_item : Stmt := top 103
abbrev s_items : Stmt := top 104
abbrev s_lines : Stmt := top 105
abbrev s_plain : Stmt := top 106
abbrev s_l_inputs : Stmt := top 107
abbrev s_l_beyond_marks : Stmt := top 108
abbrev s_law : Stmt := top 109
end Fl
end
section
set_option Elab.async false
set_option linter.all false
set_option maxRecDepth 100000
set_option maxHeartbeats 2000000
namespace Fl
open PySem PySem.Spec PyProof.Rows L2 Fx
open Evl (Ex fresh_back)
/-- a global def that keeps its promise -/
structure Cl (P : Program) (w : World) (K : PySem.W.Frag) (mg : Str → Option Value) (base : Heap) (CX : CXT) (k : Nat) (x : Str) (sp : Sp) : Prop where
  ex : ∃ f fd ps, mg x = some (.ref f) ∧ PySem.W.keepIn K (.ref f) = true ∧ Binds K fd ps [] ∧ FnOk P w K mg base CX k f fd ps sp
section
variable {X : Cx} {e : Expr} {es : List Expr} {σ : L2.St} {H : Hp} {Q : VK} {pos p : Pos}
theorem re_callX {CX : CXT} {k j : Nat} {x : Str} {sp : Sp} {E : XK} (c : Cl X.prog X.w X.K X.mg X.base CX k x sp) (hr : Room j X.A) (hx : Passes CX X E) (h : RA X (e :: es) σ H fun vs H1 => sp vs H1 Q E) (hk : k ≤ j := by decide) (hg : Gl X x := by rfl)
    (hd : (x == ("__debug__" : Str)) = false := by decide) (h1 : starEach (e :: es) X.env = (false, eval e X.env) :: starEach es X.env := by rfl) (h2 : (backTo pos (starEach es X.env)).any (·.1) = false := by rfl) : RE X (.Call (.Name x p) (e :: es) [] pos) σ H Q := by
  obtain ⟨f, fd, ps, hm, hk', hb, F⟩ := c.ex
  refine re_of (pe_call F (hr.mono hk) hg hm hk' hb .nil hx pa_RA hd h1 h2) ?_
  exact h.mono fun vs H1 q => by rw [List.append_nil]; exact q
/-- a call of a def that lets nothing out -/
theorem re_call {k j : Nat} {x : Str} {sp : Sp} (c : Cl X.prog X.w X.K X.mg X.base CX0 k x sp) (hr : Room j X.A) (h : RA X (e :: es) σ H fun vs H1 => sp vs H1 Q E0) (hk : k ≤ j := by decide) (hg : Gl X x := by rfl)
    (hd : (x == ("__debug__" : Str)) = false := by decide) (h1 : starEach (e :: es) X.env = (false, eval e X.env) :: starEach es X.env := by rfl) (h2 : (backTo pos (starEach es X.env)).any (·.1) = false := by rfl) : RE X (.Call (.Name x p) (e :: es) [] pos) σ H Q :=
  re_callX c hr pass0 h hk hg hd h1 h2
theorem Binds.of {K : PySem.W.Frag} : True := True.intro
end
/-- promises about data -/
def sp1 (K : PySem.W.Frag) (Pre : PyData → Prop) (R : PyData → V → Hp → Prop) : Sp := fun vs H Q _ => ∃ v d, vs = [v] ∧ D K H v d ∧ Pre d ∧ ∀ r H', Ex H H' → R d r H' → Q r H'
def sp2 (K : PySem.W.Frag) (Pre : PyData → PyData → Prop) (R : PyData → PyData → V → Hp → Prop) : Sp := fun vs H Q _ => ∃ v u d b, vs = [v, u] ∧ D K H v d ∧ D K H u b ∧ Pre d b ∧ ∀ r H', Ex H H' → R d b r H' → Q r H'
abbrev spB (K : PySem.W.Frag) (Pre : PyData → Prop) (m : PyData → Bool) : Sp := sp1 K Pre fun d r _ => r = .bl (m d)
theorem sp1_len {K Pre R vs H Q E} (h : sp1 K Pre R vs H Q E) {ps : List Str} (hl : ps.length = 1) : vs.length = ps.length := by
  obtain ⟨v, d, rfl, _⟩ := h
  exact hl.symm
theorem sp2_len {K Pre R vs H Q E} (h : sp2 K Pre R vs H Q E) {ps : List Str} (hl : ps.length = 2) : vs.length = ps.length := by
  obtain ⟨v, u, d, b, rfl, _⟩ := h
  exact hl.symm

/-! ### the mirror: values -/
def isIntD (d : PyData) : Bool := isI d && !isB d
theorem isIntD_int {d : PyData} (h : isIntD d = true) : ∃ i, d = .int i := by
  cases d with
  | int i => exact ⟨i, rfl⟩
  | _ => exact absurd (show false = true from h) Bool.false_ne_true
def isNumD : PyData → Bool
  | .int i => decide (-2147483648 ≤ i) && decide (i ≤ 2147483647)
  | _ => false
def isWordS (s : Str) : Bool := decide (1 ≤ s.length) && decide (s.length ≤ 8) && s.cps.toList.all fun c => decide (97 ≤ c) && decide (c ≤ 122)
def isWordD : PyData → Bool
  | .str s => isWordS s
  | _ => false
def isListD (d : PyData) : Bool := isL d || isT d
def dlen : PyData → Nat
  | .list xs => xs.length
  | .tuple xs => xs.length
  | .dict xs => xs.length
  | _ => 0
def isFilledD (d : PyData) : Bool := isListD d && decide (0 < dlen d)
/-- texts within the line's bound -/
def shortS : PyData → Prop
  | .str s => s.length ≤ 100000
  | _ => True

/-- the built-in names that the module leaves, and its numbers -/
structure Gb (mg : Str → Option Value) : Prop where
  isinstance : mg "isinstance" = none
  int : mg "int" = none
  bool : mg "bool" = none
  str : mg "str" = none
  len : mg "len" = none
  all : mg "all" = none
  list : mg "list" = none
  tuple : mg "tuple" = none
  dict : mg "dict" = none
  zip : mg "zip" = none
  sum : mg "sum" = none
  enumerate : mg "enumerate" = none
  sorted : mg "sorted" = none
  max : mg "max" = none
  leastN : ∃ t, mg "LEAST_NUMBER" = some (.int (-2147483648) t)
  greatestN : ∃ t, mg "GREATEST_NUMBER" = some (.int 2147483647 t)
  letters : ∃ t, mg "MAX_LETTERS" = some (.int 8 t)
  entry : ∃ t, mg "MAX_ENTRY" = some (.int 59 t)
  regs : ∃ t, mg "REGISTERS" = some (.int 6 t)
  lines : ∃ t, mg "MAX_LINES" = some (.int 60 t)
  allL : ∃ t, mg "MAX_ALL" = some (.int 240 t)
  funs : ∃ t, mg "MAX_FUNCTIONS" = some (.int 24 t)
/-- where sizes are asked -/
structure Gs (mg : Str → Option Value) : Prop where
  leastS : ∃ t, mg "LEAST_SHORT" = some (.int (-8) t)
  greatestS : ∃ t, mg "GREATEST_SHORT" = some (.int 7 t)

section
variable {P : Program} {w : World} {K : PySem.W.Frag} {mg : Str → Option Value} {base : Heap} {f : Addr} {fd : FuncData}
theorem sc_is_int : FnScope ["value"] ["value"] (defScope s_is_int) := ⟨rfl, rfl, rfl, by decide +kernel, rfl, by decide +kernel, by decide +kernel⟩
abbrev sp_is_int (K : PySem.W.Frag) : Sp := spB K (fun _ => True) isIntD
theorem ok_is_int (F : Fun K "is_int" "is_int" s_is_int f fd) (G : Gb mg) : FnOk P w K mg base CX0 1 f fd ["value"] (sp_is_int K) := by
  refine F.ok sc_is_int (fun vs H Q E h => sp1_len h rfl) (fun cdv A outer s H vs Q E hr h => ⟨RB _ _, pss_RB, ?_⟩)
  obtain ⟨v, d, rfl, hd, _, q⟩ := h
  refine rb_one (rs_ret (re_and (re_isi kit_I G.isinstance G.int (re_var 0 rfl ⟨d, hd, _, rfl, ifB (fun e => ?_) fun e => ?_⟩))))
  · refine re_one (re_not (re_isi kit_B G.isinstance G.bool (re_var 0 rfl ⟨d, hd, _, rfl, q _ _ (Ex.refl _) ?_⟩)))
    show V.bl _ = V.bl (isI d && !isB d)
    rw [e]; rfl
  · refine q _ _ (Ex.refl _) ?_
    show V.bl _ = V.bl (isI d && !isB d)
    rw [e]; rfl
theorem sc_is_number : FnScope ["value"] ["value"] (defScope s_is_number) := ⟨rfl, rfl, rfl, by decide +kernel, rfl, by decide +kernel, by decide +kernel⟩
abbrev sp_is_number (K : PySem.W.Frag) : Sp := spB K (fun _ => True) isNumD
theorem ok_is_number (F : Fun K "is_number" "is_number" s_is_number f fd) (G : Gb mg) (c1 : Cl P w K mg base CX0 1 "is_int" (sp_is_int K)) : FnOk P w K mg base CX0 2 f fd ["value"] (sp_is_number K) := by
  refine F.ok sc_is_number (fun vs H Q E h => sp1_len h rfl) (fun cdv A outer s H vs Q E hr h => ⟨RB _ _, pss_RB, ?_⟩)
  obtain ⟨v, d, rfl, hd, _, q⟩ := h
  refine rb_one (rs_ret (re_and (re_call c1 hr (ra_cons (re_var 0 rfl (ra_nil ⟨v, d, rfl, hd, trivial, fun r H1 e1 hr1 => ?_⟩))))))
  subst hr1
  refine ⟨_, rfl, ifB (fun e => ?_) fun e => ?_⟩
  · obtain ⟨i, rfl⟩ := isIntD_int e
    cases hd
    refine re_one (re_chain op_le op_le (re_gint G.leastN (re_var 0 rfl ⟨_, _, rfl, rfl, _, rfl, ifB (fun e => ?_) fun e => ?_⟩)))
    · refine re_gint G.greatestN ⟨_, _, rfl, rfl, q _ _ e1 ?_⟩
      show V.bl _ = V.bl (decide _ && decide _)
      rw [e]; rfl
    · refine q _ _ e1 ?_
      show V.bl _ = V.bl (decide _ && decide _)
      rw [e]; rfl
  · refine q _ _ e1 ?_
    cases d with
    | int i => exact absurd (show true = false from e).symm Bool.false_ne_true
    | _ => rfl

/-! ### words -/
theorem lt_one (a b : Nat) : ([a] < [b]) ↔ (a < b) := by
  refine ⟨fun z => ?_, fun z => List.Lex.rel z⟩
  cases z with
  | rel z => exact z
  | cons z => cases z
theorem low_letter (c : Nat) : (!decide (([c] : List Nat) < (Str.ofString "a").cps.toList)) = decide (97 ≤ c) := by
  have e : (Str.ofString "a").cps.toList = [97] := by decide +kernel
  rw [e, decide_eq_decide.mpr (lt_one c 97)]
  by_cases h : c < 97
  · rw [decide_eq_true h, decide_eq_false (by omega)]; rfl
  · rw [decide_eq_false h, decide_eq_true (by omega)]; rfl
theorem high_letter (c : Nat) : (!decide ((Str.ofString "z").cps.toList < ([c] : List Nat))) = decide (c ≤ 122) := by
  have e : (Str.ofString "z").cps.toList = [122] := by decide +kernel
  rw [e, decide_eq_decide.mpr (lt_one 122 c)]
  by_cases h : 122 < c
  · rw [decide_eq_true h, decide_eq_false (by omega)]; rfl
  · rw [decide_eq_false h, decide_eq_true (by omega)]; rfl
def isLetter (c : Nat) : Bool := decide (97 ≤ c) && decide (c ≤ 122)
theorem take_snoc {α : Type} {l : List α} {i : Nat} {x : α} (h : l[i]? = some x) : l.take (i + 1) = l.take i ++ [x] := by
  rw [List.take_add_one, h]; rfl
theorem sc_is_word : FnScope ["value", "letter"] ["value"] (defScope s_is_word) := ⟨rfl, rfl, rfl, by decide +kernel, rfl, by decide +kernel, by decide +kernel⟩
abbrev sp_is_word (K : PySem.W.Frag) : Sp := spB K shortS isWordD
theorem ok_is_word (F : Fun K "is_word" "is_word" s_is_word f fd) (G : Gb mg) : FnOk P w K mg base CX0 1 f fd ["value"] (sp_is_word K) := by
  refine F.ok sc_is_word (fun vs H Q E h => sp1_len h rfl) (fun cdv A outer s H vs Q E hr h => ⟨RB _ _, pss_RB, ?_⟩)
  obtain ⟨v, d, rfl, hd, hs, q⟩ := h
  refine rb_cons (rs_if (rt_w (rw_or (rt_not (rt_val (re_isi kit_S G.isinstance G.str (re_var 0 rfl ⟨d, hd, _, rfl, ifB (fun e => ?_) fun e => ?_⟩)))))))
  · refine ifT (rb_one (rs_ret (re_bl (q _ _ (Ex.refl _) ?_))))
    cases d with
    | str x => exact absurd (show (false : Bool) = true from e) Bool.false_ne_true
    | _ => rfl
  obtain ⟨x, rfl⟩ : ∃ x, d = .str x := by
    cases d with
    | str x => exact ⟨x, rfl⟩
    | _ => exact absurd (show (true : Bool) = false from e).symm Bool.false_ne_true
  cases hd
  have hx : x.length ≤ 100000 := hs
  refine rw_or1 (rt_not (rt_chain op_le op_le (re_int (re_cb call_len G.len (ra_cons (re_var 0 rfl (ra_nil ⟨_, x.length, rfl, ⟨Evl.sz_of hx, rfl⟩, _, _, rfl, rfl, _, rfl, ?_⟩)))))))
  refine ifB (fun e1 => ?_) fun e1 => ?_
  · have e1 := of_decide_eq_true e1
    refine re_gint G.letters ⟨_, _, rfl, rfl, _, rfl, ?_⟩
    by_cases e2 : (x.length : Int) ≤ 8
    · rw [decide_eq_true e2]
      refine ifF ?_
      have h8 : isWordS x = (x.cps.toList.all isLetter) := by
        show (decide _ && decide _ && _) = _
        rw [decide_eq_true (show 1 ≤ x.length by omega), decide_eq_true (show x.length ≤ 8 by omega)]
        rfl
      refine rb_nil (rb_one (rs_ret ?_))
      refine re_cb (cr_all rfl) G.all (ra_cons ?_)
      refine (re_lc (own := [("letter", 1)]) (g := gName 1) rfl sc_is_word.nd (blkOk_by (N := ["value", "letter"]) (sc := defScope s_is_word) (by decide +kernel)) (fun _ _ _ _ _ => pg_name (i := 1) sc_is_word.nd rfl (Or.inl rfl)) good_name
        (ri_str (re_var 0 rfl ⟨x, rfl, _, _, _, fun i ys => ys = (x.cps.toList.take i).map fun c => V.bl (isLetter c), walk_str, Nat.le_trans (show x.cps.size ≤ 8 from (by show x.length ≤ 8; omega)) (by decide), fun _ _ => trivial, rfl, ?_, ?_⟩)))
      · rintro i v H2 H3 hi e2 ⟨rfl, c, hc, rfl⟩
        have hc' : x.cps.toList[i]? = some c := by rw [Array.getElem?_toList]; exact hc
        refine ⟨Ex.refl _, rfl, Ex.refl _, fun s0 H0 C cl fp => ?_⟩
        refine re_chain op_le_str op_le_str (re_str (re_var 1 rfl ⟨_, _, rfl, rfl, _, rfl, ?_⟩))
        rw [low_letter c]
        refine ifB (fun e => ?_) fun e => ?_
        · refine re_str ⟨_, _, rfl, rfl, Ex.refl _, fun acc ha => ?_⟩
          subst ha
          rw [high_letter c, take_snoc hc', List.map_append]
          show _ = _ ++ [V.bl (decide _ && decide _)]
          rw [e]; rfl
        · refine ⟨Ex.refl _, fun acc ha => ?_⟩
          subst ha
          rw [take_snoc hc', List.map_append]
          show _ = _ ++ [V.bl (decide _ && decide _)]
          rw [e]; rfl
      · rintro p ys H2 hp e2 h2 hl rfl
        have et : x.cps.toList.take x.cps.size = x.cps.toList := List.take_of_length_le (by rw [Array.length_toList]; exact Nat.le_refl _)
        refine ra_nil ⟨p, x.cps.toList.map isLetter, rfl, .inl (.inl ?_), q _ _ e2 ?_⟩
        · rw [h2, et, List.map_map]; rfl
        · show V.bl _ = V.bl (isWordS x)
          rw [h8, List.all_map]; rfl
    · rw [decide_eq_false e2]
      refine ifT (rb_one (rs_ret (re_bl (q _ _ (Ex.refl _) ?_))))
      show V.bl _ = V.bl (isWordS x)
      unfold isWordS
      rw [decide_eq_false (show ¬ x.length ≤ 8 by omega), Bool.and_false, Bool.false_and]
  · refine ⟨_, rfl, ifT (rb_one (rs_ret (re_bl (q _ _ (Ex.refl _) ?_))))⟩
    have e1 : ¬ (1 : Int) ≤ x.length := fun z => by rw [decide_eq_true z] at e1; exact Bool.noConfusion e1
    show V.bl _ = V.bl (isWordS x)
    unfold isWordS
    rw [decide_eq_false (show ¬ 1 ≤ x.length by omega), Bool.false_and, Bool.false_and]
theorem sc_is_list : FnScope ["value"] ["value"] (defScope s_is_list) := ⟨rfl, rfl, rfl, by decide +kernel, rfl, by decide +kernel, by decide +kernel⟩
abbrev sp_is_list (K : PySem.W.Frag) : Sp := spB K (fun _ => True) isListD
theorem ok_is_list (F : Fun K "is_list" "is_list" s_is_list f fd) (G : Gb mg) : FnOk P w K mg base CX0 1 f fd ["value"] (sp_is_list K) := by
  refine F.ok sc_is_list (fun vs H Q E h => sp1_len h rfl) (fun cdv A outer s H vs Q E hr h => ⟨RB _ _, pss_RB, ?_⟩)
  obtain ⟨v, d, rfl, hd, _, q⟩ := h
  exact rb_one (rs_ret (re_isi2 kit_L kit_T G.isinstance G.list G.tuple (re_var 0 rfl ⟨d, hd, fun H2 e2 => q _ _ e2 rfl⟩)))
/-- len of a list or a tuple (or a dict) -/
theorem _root_.Fx.D.lenV {H : Hp} {v : V} {d : PyData} (h : D K H v d) (hl : isListD d = true) : LenV K v H (dlen d) := by
  cases h with
  | lst a b => exact .inl ⟨_, a, b.length.symm⟩
  | tup a b => exact .inr ⟨_, a, b.length.symm⟩
  | _ => exact absurd (show false = true from hl) Bool.false_ne_true
theorem sc_is_filled_list : FnScope ["value"] ["value"] (defScope s_is_filled_list) := ⟨rfl, rfl, rfl, by decide +kernel, rfl, by decide +kernel, by decide +kernel⟩
abbrev sp_is_filled_list (K : PySem.W.Frag) : Sp := spB K (fun _ => True) isFilledD
theorem ok_is_filled_list (F : Fun K "is_filled_list" "is_filled_list" s_is_filled_list f fd) (G : Gb mg) (c1 : Cl P w K mg base CX0 1 "is_list" (sp_is_list K)) : FnOk P w K mg base CX0 2 f fd ["value"] (sp_is_filled_list K) := by
  refine F.ok sc_is_filled_list (fun vs H Q E h => sp1_len h rfl) (fun cdv A outer s H vs Q E hr h => ⟨RB _ _, pss_RB, ?_⟩)
  obtain ⟨v, d, rfl, hd, _, q⟩ := h
  refine rb_one (rs_ret (re_and (re_call c1 hr (ra_cons (re_var 0 rfl (ra_nil ⟨v, d, rfl, hd, trivial, fun r H1 e1 hr1 => ?_⟩))))))
  subst hr1
  refine ⟨_, rfl, ifB (fun e => ?_) fun e => ?_⟩
  · refine re_one (re_cmp op_gt (re_cb call_len G.len (ra_cons (re_var 0 rfl (ra_nil ⟨_, _, rfl, (hd.mono e1).lenV e, re_int ⟨_, _, rfl, rfl, q _ _ e1 ?_⟩⟩)))))
    show V.bl _ = V.bl (isListD d && decide _)
    rw [e, Bool.true_and]
    exact congrArg V.bl (decide_eq_decide.mpr (by omega))
  · refine q _ _ e1 ?_
    show V.bl _ = V.bl (isListD d && decide _)
    rw [e]; rfl
end
end Fl
end
section
set_option Elab.async false
set_option linter.all false
set_option maxRecDepth 100000
set_option maxHeartbeats 2000000
/-! == of data with a text. -/
namespace Fx
open PySem PySem.Spec PyProof.Rows L2
open Evl (Ex fresh_back)
open PySem.SeqAt
theorem dict_eq_declines_str (l : Addr) (es : Array DictEntry) (n : Nat) (dd : Option Addr) (sl : Array (Option Value)) (b : Str) (u : Tok) :
    Meets (Builtin.«dict.__eq__» ⟨[.ref l, .str b u], []⟩) (fun _ R s => s.heap.get? l = some { cls := .type "dict", dict := dd, data := .dict es n, slots := sl } ∧ R (.ok (.ret .notImplemented)) s) :=
  .of_wp fun prog w A R s h => by obtain ⟨hp, g, d, tk, os⟩ := s; obtain ⟨hl, h⟩ := h; have f1 := F.sub_str_dict; wp_walk using wpAny_loadPart' hl; exact ⟨_, rfl, h⟩
theorem str_eq_declines_dict (b : Str) (u : Tok) (l : Addr) (es : Array DictEntry) (n : Nat) (dd : Option Addr) (sl : Array (Option Value)) :
    Meets (Builtin.«str.__eq__» ⟨[.str b u, .ref l], []⟩) (fun _ R s => s.heap.get? l = some { cls := .type "dict", dict := dd, data := .dict es n, slots := sl } ∧ R (.ok (.ret .notImplemented)) s) :=
  .of_wp fun prog w A R s h => by obtain ⟨hp, g, d, tk, os⟩ := s; obtain ⟨hl, h⟩ := h; wp_walk using wpAny_loadPart' hl, wpAny_load hl; exact ⟨_, rfl, h⟩
section
variable {A : Around} {s : Shared}
theorem rc_dict_str {l : Addr} {es : Array DictEntry} {n : Nat} {dd : Option Addr} {sl : Array (Option Value)} (b : Str) (u : Tok) (ho : s.heap.get? l = some { cls := .type "dict", dict := dd, data := .dict es n, slots := sl }) (hu : A.units < cLine)
    {prog : Program} {w : World} {E : Value → Shared → Prop} {Q : Value → Shared → Prop} (h : Q (.bool false) s) : wpAny (model prog w) A (richCompare .Eq (.ref l) (.str b u)) Q E s :=
  rc_eq_decline_or (k := false) ⟨_, ho, rfl⟩ (typeIs_str s b u) (by decide) F.sub_str_dict F.slot_dict_eq F.slot_str_eq_refl
    (fun _ hq => call_meets F.slot_dict_eq ⟨_, ho, rfl⟩ F.entry_dict_eq (F.args_dict_eq_2 _ _) (dict_eq_declines_str l es n dd sl b u) ⟨ho, hq⟩)
    (fun _ hq => call_meets F.slot_str_eq_refl (typeIs_str s b u) F.entry_str_eq (F.args_str_eq_2 _ _) (str_eq_declines_dict b u l es n dd sl) ⟨ho, hq⟩)
    (fun _ hq => wpAny_of_eq (rfl : isSame (.ref l) (.str b u) = pure false) hq) (.inr hu) h
end
def strIs (z : Str) : PyData → Bool
  | .str x => decide (x = z)
  | _ => false
section
variable {X : Cx}
def rEqS (K : PySem.W.Frag) : R2 := fun x y H Q => ∃ d z, D K H x d ∧ y = .str z ∧ Q (.bl (strIs z d)) H
theorem op_eqS (hu : X.A.units < cLine) : OpR X (compareOp .Eq) (rEqS X.K) := by
  intro pins s σ H x y v u Q I rx ry h
  obtain ⟨d, z, hd, rfl, q⟩ := h
  obtain ⟨t, rfl⟩ := (show ∃ t, u = Value.str z t from ry)
  have fin : EP X pins σ Q (.bool (strIs z d)) s := ⟨.bl _, H, I, rfl, q⟩
  cases hd with
  | non => exact op_eq pins s σ H _ (.str z) _ _ Q I rx ⟨t, rfl⟩ ⟨rfl, q⟩
  | bl b => exact op_eq pins s σ H _ (.str z) _ _ Q I rx ⟨t, rfl⟩ ⟨rfl, by rw [decide_eq_false (fun e => nomatch e)]; exact q⟩
  | int b => exact op_eq pins s σ H _ (.str z) _ _ Q I rx ⟨t, rfl⟩ ⟨rfl, by rw [decide_eq_false (fun e => nomatch e)]; exact q⟩
  | str b => exact op_eq pins s σ H _ (.str z) _ _ Q I rx ⟨t, rfl⟩ ⟨rfl, by
      have e : decide (V.str b = V.str z) = decide (b = z) := decide_eq_decide.mpr ⟨fun e => V.str.inj e, fun e => by rw [e]⟩
      rw [e]; exact q⟩
  | lst a _ =>
    obtain rfl : v = Value.ref _ := rx
    obtain ⟨its, _, pl, _⟩ := I.list a
    exact RcAt.list_str z t pl.isList hu _ _ _ _ fin
  | tup a _ =>
    obtain rfl : v = Value.ref _ := rx
    obtain ⟨its, _, ⟨o, h1, h2, n, h3⟩, _⟩ := I.tuple a
    exact RcAt.tuple_str z t ⟨o, h1, h2, n, h3⟩ hu _ _ _ _ fin
  | dic a _ =>
    obtain rfl : v = Value.ref _ := rx
    obtain ⟨_, _, vs, _, o, es, ep, h1, h2, h3, _⟩ := rd_of I.hok a
    obtain ⟨oc, od, dt, sl⟩ := o
    have e1 : oc = .type "dict" := h2.1
    subst e1
    have e2 : dt = .dict es ep := h3
    subst e2
    exact rc_dict_str z t h1 hu fin
end
end Fx
end
section
set_option Elab.async false
set_option linter.all false
set_option maxRecDepth 100000
set_option maxHeartbeats 2000000
namespace Fl
open PySem PySem.Spec PyProof.Rows L2 Fx
open Evl (Ex fresh_back)
open RZ
/-! ### the mirror: lines -/
/-- the kinds of the parts behind each word -/
def forms : List (Str × List Str) := [("num", ["reg", "number"]), ("copy", ["reg", "reg"]), ("add", ["reg", "reg", "reg"]), ("sub", ["reg", "reg", "reg"]), ("mul", ["reg", "reg", "reg"]), ("addr", ["reg", "word"]), ("same", ["reg", "reg"]), ("less", ["reg", "reg"]),
  ("in", ["reg"]), ("out", ["reg"]), ("push", ["reg or link"]), ("pop", ["reg or link"]), ("read", ["reg", "entry"]), ("write", ["entry", "reg"]), ("mark", ["word"]), ("jump", ["word"]), ("if", ["word"]), ("unless", ["word"]), ("call", ["word"]), ("callr", ["reg"]), ("tail", ["word"]), ("back", []), ("stop", [])]
def sizes : List (Str × Int) := [("addr", 3), ("mark", 0), ("jump", 2), ("if", 2), ("unless", 2), ("call", 2), ("tail", 2)]
def regB : PyData → Bool
  | .int i => decide (0 ≤ i) && decide (i < 6)
  | _ => false
def entB : PyData → Bool
  | .int i => decide (0 ≤ i) && decide (i ≤ 59)
  | _ => false
def fitsD (kind : Str) (d : PyData) : Bool :=
  if kind = "word" then isWordD d else if kind = "number" then isNumD d else if kind = "entry" then entB d else if kind = "reg or link" ∧ strIs "link" d = true then true else regB d
def isLineD : PyData → Bool
  | .tuple (.str w :: xs) => match forms.lookup w with
    | some kinds => decide (xs.length = kinds.length) && (kinds.zip xs).all fun p => fitsD p.1 p.2
    | none => false
  | _ => false
/-- the module's tables -/
structure Frm (K : PySem.W.Frag) (w : World) (mg : Str → Option Value) : Prop where
  forms : ∃ a es n, mg "FORMS" = some (.ref a) ∧ KDict K w a es n ∧ ∀ z : Str, match forms.lookup z with
    | some kinds => ∃ b, PySem.W.nsIn K a z = some (some (.ref b)) ∧ ∀ H, SqT K H b (kinds.map V.str)
    | none => PySem.W.nsIn K a z = some none
section
variable {P : Program} {w : World} {K : PySem.W.Frag} {mg : Str → Option Value} {base : Heap} {f : Addr} {fd : FuncData}
theorem sc_fits : FnScope ["kind", "part"] ["kind", "part"] (defScope s_fits) := ⟨rfl, rfl, rfl, by decide +kernel, rfl, by decide +kernel, by decide +kernel⟩
def sp_fits (K : PySem.W.Frag) : Sp := fun vs H Q _ => ∃ (kind : Str) (v : V) (d : PyData), vs = [.str kind, v] ∧ D K H v d ∧ shortS d ∧ ∀ r H', Ex H H' → r = .bl (fitsD kind d) → Q r H'
theorem eqK {a b : Str} : decide (V.str a = V.str b) = decide (a = b) := decide_eq_decide.mpr ⟨fun e => V.str.inj e, fun e => by rw [e]⟩
theorem ok_fits (F : Fun K "_fits" "_fits" s_fits f fd) (G : Gb mg) (c1 : Cl P w K mg base CX0 1 "is_word" (sp_is_word K)) (c2 : Cl P w K mg base CX0 2 "is_number" (sp_is_number K)) (c3 : Cl P w K mg base CX0 1 "is_int" (sp_is_int K)) :
    FnOk P w K mg base CX0 3 f fd ["kind", "part"] (sp_fits K) := by
  refine F.ok sc_fits (fun vs H Q E h => ?_) (fun cdv A outer s H vs Q E hr h => ⟨RB _ _, pss_RB, ?_⟩)
  · obtain ⟨_, _, _, rfl, _⟩ := h; rfl
  obtain ⟨kind, v, d, rfl, hd, hs, q⟩ := h
  refine rb_cons (rs_if (rt_cmp op_eq (re_var 0 rfl (re_str ⟨rfl, _, rfl, ?_⟩))))
  rw [eqK]
  by_cases k1 : kind = "word"
  · rw [decide_eq_true k1]
    refine ifT (rb_one (rs_ret (re_call c1 hr (ra_cons (re_var 1 rfl (ra_nil ⟨v, d, rfl, hd, hs, fun r H1 e1 h1 => q _ _ e1 ?_⟩))))))
    rw [h1]; unfold fitsD; rw [if_pos k1]
  rw [decide_eq_false k1]
  refine ifF (rb_nil (rb_cons (rs_if (rt_cmp op_eq (re_var 0 rfl (re_str ⟨rfl, _, rfl, ?_⟩))))))
  rw [eqK]
  by_cases k2 : kind = "number"
  · rw [decide_eq_true k2]
    refine ifT (rb_one (rs_ret (re_call c2 hr (ra_cons (re_var 1 rfl (ra_nil ⟨v, d, rfl, hd, trivial, fun r H1 e1 h1 => q _ _ e1 ?_⟩))))))
    rw [h1]; unfold fitsD; rw [if_neg k1, if_pos k2]
  rw [decide_eq_false k2]
  refine ifF (rb_nil (rb_cons (rs_if (rt_cmp op_eq (re_var 0 rfl (re_str ⟨rfl, _, rfl, ?_⟩))))))
  rw [eqK]
  by_cases k3 : kind = "entry"
  · rw [decide_eq_true k3]
    refine ifT (rb_one (rs_ret (re_and (re_call c3 hr (ra_cons (re_var 1 rfl (ra_nil ⟨v, d, rfl, hd, trivial, fun r H1 e1 h1 => ?_⟩)))))))
    subst h1
    have ed : fitsD kind d = entB d := by unfold fitsD; rw [if_neg k1, if_neg k2, if_pos k3]
    refine ⟨_, rfl, ifB (fun e => ?_) fun e => ?_⟩
    · obtain ⟨i, rfl⟩ := isIntD_int e
      cases hd
      refine re_one (re_chain op_le op_le (re_int (re_var 1 rfl ⟨_, _, rfl, rfl, _, rfl, ifB (fun e => ?_) fun e => ?_⟩)))
      · refine re_gint G.entry ⟨_, _, rfl, rfl, q _ _ e1 ?_⟩
        rw [ed]; show V.bl _ = V.bl (decide _ && decide _); rw [e]; rfl
      · refine q _ _ e1 ?_
        rw [ed]; show V.bl _ = V.bl (decide _ && decide _); rw [e]; rfl
    · refine q _ _ e1 ?_
      rw [ed]
      cases d with
      | int i => exact absurd (show true = false from e).symm Bool.false_ne_true
      | _ => rfl
  rw [decide_eq_false k3]
  have last : ∀ {D : Ends} (_ : D.rt = Q) (_ : ¬ (kind = "reg or link" ∧ strIs "link" d = true)), ∀ H1, Ex H H1 → RS (cxOf CX0 P w K mg base ["kind", "part"] "_fits" (defScope s_fits) f cdv A outer s H E).nox (match (defBody s_fits).getD 4 (.Pass ⟨0, 0, 0, 0⟩) with | st => st) D (L2.start ["kind", "part"] [V.str kind, v]) H1 := by
    intro D hD k4 H1 e1
    have ed : fitsD kind d = regB d := by unfold fitsD; rw [if_neg k1, if_neg k2, if_neg k3, if_neg k4]
    refine rs_ret (re_and (re_call c3 hr (ra_cons (re_var 1 rfl (ra_nil ⟨v, d, rfl, hd.mono e1, trivial, fun r H2 e2 h1 => ?_⟩)))))
    subst h1
    rw [hD]
    refine ⟨_, rfl, ifB (fun e => ?_) fun e => ?_⟩
    · obtain ⟨i, rfl⟩ := isIntD_int e
      cases hd
      refine re_one (re_chain op_le op_lt (re_int (re_var 1 rfl ⟨_, _, rfl, rfl, _, rfl, ifB (fun e => ?_) fun e => ?_⟩)))
      · refine re_gint G.regs ⟨_, _, rfl, rfl, q _ _ (e1.trans e2) ?_⟩
        rw [ed]; show V.bl _ = V.bl (decide _ && decide _); rw [e]; rfl
      · refine q _ _ (e1.trans e2) ?_
        rw [ed]; show V.bl _ = V.bl (decide _ && decide _); rw [e]; rfl
    · refine q _ _ (e1.trans e2) ?_
      rw [ed]
      cases d with
      | int i => exact absurd (show true = false from e).symm Bool.false_ne_true
      | _ => rfl
  refine ifF (rb_nil (rb_cons (rs_if (rt_w (rw_and (rt_cmp op_eq (re_var 0 rfl (re_str ⟨rfl, _, rfl, ?_⟩))))))))
  rw [eqK]
  by_cases k4 : kind = "reg or link"
  · rw [decide_eq_true k4]
    refine ifT (rw_and1 (rt_cmp (op_eqS hr.units0) (re_var 1 rfl (re_str ⟨d, _, hd, rfl, _, rfl, ifB (fun e => ?_) fun e => ?_⟩))))
    · refine rb_one (rs_ret (re_bl (q _ _ (Ex.refl _) ?_)))
      unfold fitsD; rw [if_neg k1, if_neg k2, if_neg k3, if_pos ⟨k4, e⟩]
    · exact rb_nil (rb_one (last rfl (fun z => by rw [e] at z; exact Bool.noConfusion z.2) _ (Ex.refl _)))
  · rw [decide_eq_false k4]
    exact ifF (ifF (rb_nil (rb_one (last rfl (fun z => k4 z.1) _ (Ex.refl _)))))
theorem sc_is_line : FnScope ["value", "kinds", "kind", "part"] ["value"] (defScope s_is_line) := ⟨rfl, rfl, rfl, by decide +kernel, rfl, by decide +kernel, by decide +kernel⟩
def shortL : PyData → Prop
  | .tuple xs => xs.length ≤ 1000 ∧ ∀ x ∈ xs, shortS x
  | _ => True
abbrev sp_is_line (K : PySem.W.Frag) : Sp := spB K shortL isLineD
theorem DA.nil_iff {H : Hp} {xs : List V} {ds : List PyData} (h : DA K H xs ds) : xs = [] ↔ ds = [] := by
  cases h with
  | nil => simp
  | cons a b => simp
theorem cut1 (xs : List V) : cutV xs (some 1) none = xs.drop 1 := by
  unfold cutV
  rw [show HT.sIx xs.length 0 (some 1) = min 1 xs.length from HT.sIx_nat xs.length 0 1, HT.sIx_none]
  cases xs with
  | nil => rfl
  | cons x r =>
    rw [show min 1 (x :: r).length = 1 by rw [List.length_cons]; omega]
    show (List.take ((x :: r).length - 1) r) = r
    rw [List.length_cons, Nat.add_sub_cancel]
    exact List.take_length
theorem isS_str {d : PyData} (h : isS d = true) : ∃ z, d = .str z := by
  cases d with
  | str z => exact ⟨z, rfl⟩
  | _ => exact absurd (show false = true from h) Bool.false_ne_true
theorem isT_tup {d : PyData} (h : isT d = true) : ∃ z, d = .tuple z := by
  cases d with
  | tuple z => exact ⟨z, rfl⟩
  | _ => exact absurd (show false = true from h) Bool.false_ne_true
theorem ok_is_line (F : Fun K "is_line" "is_line" s_is_line f fd) (G : Gb mg) (T : Frm K w mg) (c1 : Cl P w K mg base CX0 3 "_fits" (sp_fits K)) : FnOk P w K mg base CX0 4 f fd ["value"] (sp_is_line K) := by
  refine F.ok sc_is_line (fun vs H Q E h => sp1_len h rfl) (fun cdv A outer s H vs Q E hr h => ⟨RB _ _, pss_RB, ?_⟩)
  obtain ⟨v, d, rfl, hd, hs, q⟩ := h
  obtain ⟨fa, es, n, mF, KD, has⟩ := T.forms
  refine rb_cons (rs_if (rt_w (rw_or (rt_not (rt_val (re_isi kit_T G.isinstance G.tuple (re_var 0 rfl ⟨d, hd, _, rfl, ifB (fun e => ?_) fun e => ?_⟩)))))))
  · refine ifT (rb_one (rs_ret (re_bl (q _ _ (Ex.refl _) ?_))))
    cases d with
    | tuple x => exact absurd (show (false : Bool) = true from e) Bool.false_ne_true
    | _ => rfl
  obtain ⟨ds, rfl⟩ : ∃ ds, d = .tuple ds := isT_tup (by cases z : isT d with | true => rfl | false => rw [z] at e; exact Bool.noConfusion e)
  cases hd with
  | tup sq ha =>
  rename_i a xs
  refine rw_or1 (rt_cmp op_eq (re_cb call_len G.len (ra_cons (re_var 0 rfl (ra_nil ⟨_, xs.length, rfl, .inr ⟨xs, sq, rfl⟩, re_int ⟨rfl, _, rfl, ?_⟩⟩)))))
  cases ha with
  | nil =>
    refine ifT (rb_one (rs_ret (re_bl (q _ _ (Ex.refl _) rfl))))
  | cons h0 ht =>
  rename_i v0 vr d0 dr
  rw [decide_eq_false (fun e => by have e := V.int.inj e; rw [List.length_cons] at e; omega)]
  refine ifF (rb_nil (rb_cons (rs_if (rt_w (rw_or (rt_not (rt_val (re_isi kit_S G.isinstance G.str (re_ixT (re_var 0 rfl (re_int ⟨a, _, 0, v0, rfl, rfl, sq, atI_nat (j := 0) rfl, d0, h0, _, rfl, ifB (fun e => ?_) fun e => ?_⟩)))))))))))
  · refine ifT (rb_one (rs_ret (re_bl (q _ _ (Ex.refl _) ?_))))
    cases d0 with
    | str x => exact absurd (show (false : Bool) = true from e) Bool.false_ne_true
    | _ => rfl
  obtain ⟨z, rfl⟩ : ∃ z, d0 = .str z := isS_str (by cases y : isS d0 with | true => rfl | false => rw [y] at e; exact Bool.noConfusion e)
  cases h0
  have hz := has z
  refine rw_or1 (rt_cmp (op_notIn_kd KD) (re_ixT (re_var 0 rfl (re_int ⟨a, _, 0, _, rfl, rfl, sq, atI_nat (j := 0) rfl, re_glob (v := .ref fa) mF rfl ?_⟩))))
  cases hl : forms.lookup z with
  | none =>
    rw [hl] at hz
    refine ⟨z, _, rfl, rfl, hz, _, rfl, ifT (rb_one (rs_ret (re_bl (q _ _ (Ex.refl _) ?_))))⟩
    show V.bl false = V.bl (match forms.lookup z with | some kinds => _ | none => _)
    rw [hl]
  | some kinds =>
  rw [hl] at hz
  obtain ⟨kb, hk, hkt⟩ := hz
  refine ⟨z, _, rfl, rfl, hk, _, rfl, ifF (rb_nil (rb_cons (rs_set 1 sc_is_line.nd (re_of (pe_ix ix_kdict pe_RE pe_RE (fun _ _ => rfl)) ?_))))⟩
  refine re_glob (v := .ref fa) mF rfl (re_ixT (re_var 0 rfl (re_int ⟨a, _, 0, _, rfl, rfl, sq, atI_nat (j := 0) rfl, fa, z, .ref kb, rfl, rfl, ⟨es, n, _, KD.at_, KD.lit, hk, rfl⟩, ?_⟩)))
  have hlen : vr.length = dr.length := ht.length
  refine rb_cons (rs_if (rt_cmp op_ne (re_cb call_len G.len (ra_cons (re_var 0 rfl (ra_nil ⟨_, _, rfl, .inr ⟨_, sq, rfl⟩, re_op op_add (re_cb call_len G.len (ra_cons (re_var 1 rfl (ra_nil ⟨_, _, rfl, .inr ⟨_, hkt _, rfl⟩, re_int ⟨_, _, rfl, rfl, rfl, _, rfl, ?_⟩⟩))))⟩))))))
  have e1 : isLineD (.tuple (.str z :: dr)) = (decide (dr.length = kinds.length) && (kinds.zip dr).all fun p => fitsD p.1 p.2) := by
    show (match forms.lookup z with | some kinds => _ | none => _) = _
    rw [hl]
  by_cases hn : dr.length = kinds.length
  · have e0 : decide (V.int (((V.str z :: vr).length : Nat) : Int) = V.int ((((kinds.map V.str).length : Nat) : Int) + 1)) = true := decide_eq_true (by rw [List.length_cons, List.length_map, hlen, hn]; rfl)
    rw [e0]
    refine ifF (rb_nil (rb_one (rs_ret (re_cb (cr_all rfl) G.all (ra_cons ?_)))))
    refine re_lc (own := [("kind", 2), ("part", 3)]) (g := gTup K 2 (gCons (gName 2) (gCons (gName 3) gNil))) rfl sc_is_line.nd (blkOk_by (N := ["value", "kinds", "kind", "part"]) (sc := defScope s_is_line) (by decide +kernel))
      (fun _ _ _ _ _ => pg_tup rfl (pgs_cons (pg_name (i := 2) sc_is_line.nd rfl (Or.inl rfl)) (pgs_cons (pg_name (i := 3) sc_is_line.nd rfl (Or.inl rfl)) pgs_nil))) good_tup2 ?_
    refine ri_zipT G.zip (ra_cons (re_var 1 rfl (ra_cons (re_of (pe_slice sl_tup pe_RE (po_some pe_int) po_none) (re_var 0 rfl ⟨1, rfl, a, _, rfl, sq, ?_, fun p hp => ra_nil ?_⟩)))))
    · rintro ⟨z1, _⟩
      rw [show (some (1 : Int)) = some ((1 : Nat) : Int) from rfl, HT.sIx_nat, List.length_cons] at z1
      omega
    have ep : Ex H (upd H p (.tup (cutV (V.str z :: vr) (some 1) none))) := Ex.new hp
    rw [cut1] at ep ⊢
    rw [List.drop_one, List.tail_cons] at ep ⊢
    refine ⟨kb, p, kinds.map V.str, vr, rfl, hkt _, .inl (.inl upd_same), _, _, _, fun i ys => ys = ((kinds.zip dr).take i).map fun p => V.bl (fitsD p.1 p.2), walk_zipT (by rw [List.length_map, hlen, hn]), ?_, fun H' e' => ⟨hkt _, Evl.ex_t e' (.inl (.inl upd_same))⟩, rfl, ?_, ?_⟩
    · rw [List.length_map, ← hn]
      have := hs.1
      rw [List.length_cons] at this
      omega
    · rintro i x H2 H3 hi e2 ⟨t, x, y, rfl, hT, rfl, hx, hy⟩
      have hx : (kinds.map V.str)[i]? = some x := hx
      rw [List.getElem?_map] at hx
      obtain ⟨k, hk', rfl⟩ := Option.map_eq_some_iff.mp hx
      obtain ⟨d, hd', hdd⟩ := ht.getV hy
      have e3 : Ex H2 (upd H2 t (.tup [V.str k, y])) := Ex.new hT
      refine ⟨e3, t, [V.str k, y], rfl, .inl (.inl upd_same), rfl, V.str k, [y], rfl, y, [], rfl, rfl, rfl, Ex.refl _, fun s0 H0 C cl fp => ?_⟩
      refine re_call c1 hr (ra_cons (re_var 2 rfl (ra_cons (re_var 3 rfl (ra_nil ⟨k, y, d, rfl, hdd.mono ((ep.trans e2).trans e3), ?_, fun r H' e' h' => ⟨e', fun acc ha => ?_⟩⟩)))))
      · exact hs.2 d (List.mem_cons_of_mem _ (List.mem_of_getElem? hd'))
      · subst ha h'
        have hz : (kinds.zip dr)[i]? = some (k, d) := by
          rw [List.getElem?_zip_eq_some]
          exact ⟨hk', hd'⟩
        rw [take_snoc hz, List.map_append]
        rfl
    · rintro p2 ys H2 hp2 e2 h2 hl2 rfl
      have et : (kinds.zip dr).take (kinds.map V.str).length = kinds.zip dr := List.take_of_length_le (by rw [List.length_zip, List.length_map]; omega)
      refine ra_nil ⟨p2, (kinds.zip dr).map fun p => fitsD p.1 p.2, rfl, .inl (.inl ?_), q _ _ (ep.trans e2) ?_⟩
      · rw [h2, et, List.map_map]; rfl
      · show V.bl _ = V.bl (isLineD _)
        rw [e1, decide_eq_true hn, Bool.true_and, List.all_map]; rfl
  · have e0 : decide (V.int (((V.str z :: vr).length : Nat) : Int) = V.int ((((kinds.map V.str).length : Nat) : Int) + 1)) = false := decide_eq_false (fun e => by
      have e := V.int.inj e
      rw [List.length_cons, List.length_map, hlen] at e
      omega)
    rw [e0]
    refine ifT (rb_one (rs_ret (re_bl (q _ _ (Ex.refl _) ?_))))
    show V.bl _ = V.bl (isLineD _)
    rw [e1, decide_eq_false hn, Bool.false_and]
end
end Fl
end
section
set_option Elab.async false
set_option linter.all false
set_option maxRecDepth 100000
set_option maxHeartbeats 2000000
/-! enumerate over a tuple. -/
namespace Fx
open PySem PySem.Spec PyProof.Rows L2
open Evl (Ex fresh_back)
theorem enum_one {v : Value} {o : Obj} {G : Heap → Prop} (B : Begins v o G) :
    Meets (Builtin.«enumerate.__new__» ⟨[.type "enumerate", v], []⟩) (fun _ R s => G s.heap ∧
      R (.ok (.ret (.ref (s.heap.push o).objs.size))) { s with heap := (s.heap.push o).push { cls := .type "enumerate", data := .fields #[.none, .bool false, .ref s.heap.objs.size, rawInt 0, .none, .none] } }) :=
  .of_wp fun prog w A R s h => by
    obtain ⟨hp, g, d, tk, os⟩ := s
    obtain ⟨hG, hR⟩ := h
    have hsub := sub_enumerate
    have it : ∀ {A' : Around} {E : Value → Shared → Prop} {Q : Value → Shared → Prop}, Q (.ref hp.objs.size) ⟨hp.push o, g, d, tk, os⟩ → wpAny (model prog w) A' (pyIter v) Q E ⟨hp, g, d, tk, os⟩ :=
      fun z => B.iter prog w _ _ ⟨hp, g, d, tk, os⟩ _ hG z
    wp_walk using it
    refine wpAny_stack_any fun st => wpAny_pure ?_
    split
    · rename_i cl _ _ _ _ _
      cases (cl == Value.type "enumerate")
      · wp_walk using it
        exact ⟨_, rfl, hR⟩
      · wp_walk using it
        exact ⟨_, rfl, hR⟩
    · wp_walk using it
      exact ⟨_, rfl, hR⟩
section
variable {prog : Program} {w : World} {A : Around} {E : Value → Shared → Prop} {s : Shared}
theorem call_enum {v : Value} {o : Obj} {G : Heap → Prop} {Q : Value → Shared → Prop} (B : Begins v o G) (hG : G s.heap)
    (h : ∀ h', IsEnum h' (s.heap.objs.size + 1) s.heap.objs.size 0 .none → h'.get? s.heap.objs.size = some o → (∀ b u, s.heap.get? b = some u → h'.get? b = some u) → Q (.ref (s.heap.objs.size + 1)) { s with heap := h' }) :
    wpAny (model prog w) A (call (.type "enumerate") [v]) Q E s := by
  refine callType_new F.called_enumerate (by decide) (F.typeCall_enumerate_1 _) (F.newCall_enumerate_1 _) (fun obj => F.args_object_init_2 obj _) F.entry_enumerate_new (enum_one B) ⟨hG, ?_⟩
  have z1 : (s.heap.push o).objs.size = s.heap.objs.size + 1 := Heap.size_push ..
  show _ ∧ _
  rw [z1]
  have z2 : IsEnum ((s.heap.push o).push { cls := .type "enumerate", data := .fields #[.none, .bool false, .ref s.heap.objs.size, rawInt 0, .none, .none] }) (s.heap.objs.size + 1) s.heap.objs.size 0 .none := by
    have z3 := Heap.get?_push_size (s.heap.push o) (o := { cls := .type "enumerate", data := .fields #[.none, .bool false, .ref s.heap.objs.size, rawInt 0, .none, .none] }) rfl
    rw [z1] at z3
    exact z3
  exact ⟨⟨_, z2, rfl⟩, h _ z2 (Heap.get?_push_of_some _ (Heap.get?_push_size _ B.free)) fun b u x => Heap.get?_push_of_some _ (Heap.get?_push_of_some _ x)⟩
end
/-- the tuple at a, each item in a new pair -/
def IteT (K : PySem.W.Frag) (a : Addr) : It :=
  ⟨fun i H => ∃ (xs : List V) (x : V), SqT K H a xs ∧ xs[i]? = some x, fun i H v H' => ∃ T x, v = .ref T ∧ H T = none ∧ H' = upd H T (.tup [.int (i : Nat), x]) ∧ ∀ xs, SqT K H a xs → xs[i]? = some x, fun i H => ∃ xs : List V, SqT K H a xs ∧ xs.length = i⟩
theorem turn_enumT {P : Program} {w : World} {K : PySem.W.Frag} {elts : List Expr} {kk : Nat} {tpos : Pos} (a e it : Addr) (hai : a ≠ it) :
    Turn P w K (.Tuple elts kk tpos) (IteT K a) [e, it] e (fun i h => (∃ old, IsEnum h e it ((i : Nat) : Int) old) ∧ h.IsTupleIter it a i ∧ e ≠ it ∧ a ≠ e) where
  mem := by simp
  obj := fun i h st b hb => by
    obtain ⟨⟨old, he⟩, ⟨o, ho, hc, hd⟩, _⟩ := st
    rcases (show b = e ∨ b = it by simpa using hb) with z | z
    · rw [z]; exact ⟨_, he, fun v q => nomatch q⟩
    · rw [z]; exact ⟨o, ho, fun v q => by rw [hd] at q; cases q⟩
  keep := fun i h h' st k => by
    obtain ⟨⟨old, he⟩, hi, hne⟩ := st
    exact ⟨⟨old, k e (by simp) _ he⟩, hi.at fun o q => k it (by simp) o q, hne⟩
  item := by
    intro X hP hw hK hc i pins s σ H E I hf st hg
    subst hP hw hK
    obtain ⟨⟨old, he⟩, hit, hne, hae⟩ := st
    obtain ⟨xs, x, hq, hx⟩ := hg
    obtain ⟨its, rv, p, hz⟩ := I.tuple hq
    have hlen : its.toArray.size = xs.length := by rw [List.size_toArray]; exact rv.length.symm
    have hil : i < its.toArray.size := by
      rw [hlen]
      exact (List.getElem?_eq_some_iff.mp hx).1
    have e0 : e < s.heap.objs.size := Heap.lt_size he
    have e1 : it < s.heap.objs.size := by obtain ⟨_, q, _⟩ := hit; exact Heap.lt_size q
    refine wpAny_pyNext_enum_itemD (Draws.tuple (A := X.A.in1) (I.ok.hd hc) it a hai its.toArray) he ⟨hit, p⟩ hil hne (by simp [hne, Ne.symm hae]) fun u h' tk hu ho hit' hT hsz hk => ?_
    have ru : RelV x u := by
      obtain ⟨u', hu', r⟩ := rv.get hx
      have z : its.toArray[i]? = some u' := by simpa using hu'
      rw [z] at hu
      exact Option.some.inj hu ▸ r
    refine ⟨_, rfl, wpAny_letOwnedTupleGo_enum (s := { s with heap := h', toks := tk + 1 }) ho fun h'' he' sb => ?_⟩
    have hT2 : h''.get? s.heap.objs.size = some { cls := .type "tuple", data := .seq #[.int i tk, u] } := (sb.2 _ (Nat.ne_of_gt e0)).trans hT
    have new : ObjOk X.prog X.w (upd H s.heap.objs.size (.tup [.int (i : Nat), x])) h'' s.heap.objs.size (.tup [.int (i : Nat), x]) :=
      ⟨by show 2 ≤ sizeLine; decide, [.int i tk, u], .cons ⟨_, rfl⟩ (.cons ru .nil), ⟨_, hT2, rfl, _, rfl⟩⟩
    have I1 : Inv X pins σ (upd H s.heap.objs.size (.tup [.int (i : Nat), x])) { s with heap := h'', toks := tk + 1 } :=
      I.turnedNew (ch := [e, it]) (fun b ob hb q => (sb.2 b (fun z => hb (by simp [z]))).trans (hk b ob (fun z => hb (by simp [z])) (fun z => hb (by simp [z])) q)) hf (Nat.le_refl _) new
    refine ⟨.ref s.heap.objs.size, _, I1, rfl, ⟨_, x, rfl, I.hok.fresh (Nat.le_refl _), rfl, fun ys hy => by rw [I.tuple_inj hy hq]; exact hx⟩, ⟨⟨u, ?_⟩, hit'.1.at fun o q => (sb.2 it (Ne.symm hne)).trans q, hne, hae⟩, fun b hb => ?_⟩
    · have z : ((i + 1 : Nat) : Int) = (i : Int) + 1 := by omega
      rw [z]; exact he'
    · have hb' : b < s.heap.objs.size := by
        rcases (show b = e ∨ b = it by simpa using hb) with z | z
        · rw [z]; exact e0
        · rw [z]; exact e1
      rw [upd_ne (Nat.ne_of_lt hb')]
      exact (hf b hb).1
  done := by
    intro X hP hw hK hc i pins s σ H E I hf st hg
    subst hP hw hK
    obtain ⟨⟨old, he⟩, hit, hne, hae⟩ := st
    obtain ⟨xs, hq, hx⟩ := hg
    obtain ⟨its, rv, p, hz⟩ := I.tuple hq
    obtain ⟨f0, f1, f2, f3, f4, f5⟩ := hf it (by simp)
    have hlen : its.toArray.size = i := by rw [List.size_toArray, ← hx]; exact rv.length.symm
    subst hlen
    exact wpAny_pyNext_enum_endD (Draws.tuple (A := X.A.in1) (I.ok.hd hc) it a hai its.toArray) he ⟨hit, p⟩ fun h' eb => ⟨rfl, I.turned (t' := s.toks) (fun b o hb q => eb b o hb q) f0 f1 f3 f4 f5⟩
  self := fun A i s Q E st h => by
    obtain ⟨⟨_, he⟩, _⟩ := st
    exact wpAny_pyIter_enum he h
theorem walk_enumT {K : PySem.W.Frag} {a : Addr} {xs : List V} : Walk (IteT K a) xs.length (fun H => SqT K H a xs) (YPair (fun i => some (.int (i : Nat))) (fun i => xs[i]?)) := by
  refine ⟨fun i _ hi q => ⟨xs, xs[i], q, by simp [hi]⟩, fun _ q => ⟨xs, q, rfl⟩, fun i H v H' _ q y => ?_⟩
  obtain ⟨T, x, h1, h2, h3, h4⟩ := y
  exact ⟨T, .int (i : Nat), x, h1, h2, h3, rfl, h4 xs q⟩
section
variable {X : Cx} {a : Expr} {σ : L2.St} {H : Hp} {R : It → Hp → Prop} {pos p tpos : Pos} {elts : List Expr} {kk : Nat}
theorem ri_enumT (hm : X.mg "enumerate" = none) (h : RA X [a] σ H fun vs H1 => ∃ p xs, vs = [.ref p] ∧ SqT X.K H1 p xs ∧ R (IteT X.K p) H1) (hg : Gl X "enumerate" := by rfl)
    (hs : starEach [a] X.env = [(false, eval a X.env)] := by rfl) : RI X (.Tuple elts kk tpos) (.Call (.Name "enumerate" p) [a] [] pos) σ H R := by
  intro pins s I
  refine Call_ (ld_blt I hg hm boot_enumerate (PyProof.Rows.callWith_type1 (thn (h.run pos pins s I) fun us s1 ⟨vs, H1, I1, r1, q1⟩ => ?_) hs rfl))
  obtain ⟨b, xs, rfl, hq, q⟩ := q1
  cases r1 with
  | cons r rr =>
    cases rr
    cases r
    obtain ⟨its, rv, p', hz⟩ := I1.tuple hq
    have hb : b < s1.heap.objs.size := by obtain ⟨o, ho, _⟩ := p'; exact Heap.lt_size ho
    refine call_enum (begins_tuple b its.toArray) p' fun h' he ho hk => wpAny_pyIter_enum he ?_
    have I2 : Inv X pins σ H1 { s1 with heap := h' } := I1.kept (t' := s1.toks) hk
    refine ⟨s1.heap.objs.size + 1, [s1.heap.objs.size + 1, s1.heap.objs.size], _, _, H1, rfl, I2, turn_enumT b (s1.heap.objs.size + 1) s1.heap.objs.size (Nat.ne_of_lt hb), ⟨⟨.none, he⟩, ⟨_, ho, rfl, rfl⟩, Nat.succ_ne_self _, Nat.ne_of_lt (Nat.lt_succ_of_lt hb)⟩, fun c hc => ?_, q⟩
    have hle : s1.heap.objs.size ≤ c := by
      rcases (show c = s1.heap.objs.size + 1 ∨ c = s1.heap.objs.size by simpa using hc) with z | z
      · rw [z]; exact Nat.le_add_right _ _
      · rw [z]; exact Nat.le_refl _
    exact I1.fpOk hle (I1.hok.fresh hle)
end
end Fx
end
section
set_option Elab.async false
set_option linter.all false
set_option maxRecDepth 100000
set_option maxHeartbeats 2000000
/-! Dict comprehensions over what is walked. -/
namespace Fx
open PySem PySem.Spec PyProof.Rows L2
open Evl (Ex fresh_back)
section
variable {J : It} {n : Nat} {G : Hp → Prop} {Y : Nat → Hp → V → Hp → Prop}
theorem dc_walk (w : Walk J n G Y) {g : TG} {tt : TT} {tk tv : TE} {vs : List Nat} {σ : L2.St} {H1 : Hp} {D : Addr} {Qd : Hp → Prop} (Pv : Nat → Hp → Prop) (h0 : Pv 0 (upd H1 D (.dK []))) (hG : ∀ i H, i ≤ n → Pv i H → G H)
    (hs : ∀ i x H H', i < n → Pv i H → Y i H x H' → g x (wipe σ vs) H' fun σ2 H2 => wipe σ2 vs = wipe σ vs ∧ tt σ2 H2 fun b H3 =>
      if b = true then tk σ2 H3 fun y H4 => tv σ2 H4 fun z H5 => ∃ kvs k, y = kV k ∧ H5 D = some (.dK kvs) ∧ kvs.length < sizeLine ∧ Pv (i + 1) (upd H5 D (.dK (putK kvs k z))) else Pv (i + 1) H3) (hd : ∀ H, Pv n H → Qd H) :
    ∃ W : Nat → Nat → Hp → Prop, (∃ m, W 0 m (upd H1 D (.dK []))) ∧ ∀ i m H, W i m H →
      (J.stop i H ∧ Qd H) ∨ (J.go i H ∧ ∃ Nx : Hp → Prop, (∀ H', Nx H' → ∃ m', m' < m ∧ W (i + 1) m' H') ∧ ∀ x H', J.yld i H x H' → g x (wipe σ vs) H' fun σ2 H2 => wipe σ2 vs = wipe σ vs ∧ tt σ2 H2 fun b H3 =>
        if b = true then tk σ2 H3 fun y H4 => tv σ2 H4 fun z H5 => ∃ kvs k, y = kV k ∧ H5 D = some (.dK kvs) ∧ kvs.length < sizeLine ∧ Nx (upd H5 D (.dK (putK kvs k z))) else Nx H3) := by
  refine ⟨fun i m H => m + i = n ∧ Pv i H, ⟨n, rfl, h0⟩, fun i m H hw => ?_⟩
  obtain ⟨hm, p⟩ := hw
  cases m with
  | zero =>
    have e : i = n := by omega
    subst e
    exact .inl ⟨w.stops H (hG _ H (Nat.le_refl _) p), hd H p⟩
  | succ m =>
    have q := hG i H (by omega) p
    exact .inr ⟨w.goes i H (by omega) q, Pv (i + 1), fun H' p' => ⟨m, Nat.lt_succ_self _, by omega, p'⟩, fun x H' y => hs i x H H' (by omega) p (w.yields i H x H' (by omega) q y)⟩
end
section
variable {X : Cx} {kx vx c tg iter : Expr} {σ : L2.St} {H : Hp} {Q : VK} {pos : Pos} {scope : Scope} {own : List (Str × Nat)} {g : TG}
/-- {kx: vx for target in iter} -/
theorem re_dc (hc : X.calm = true) (hN : X.N.Nodup) (ok : BlkOk X.N X.env.scope scope own) (hg : ∀ s H C cl fp, PG (Blk X scope s H C cl fp) tg g) (gm : GoodG g)
    (h : RI X tg iter σ H fun J H1 => ∃ (n : Nat) (G : Hp → Prop) (Y : Nat → Hp → V → Hp → Prop) (Acc : Nat → List (Key × V) → Prop), Walk J n G Y ∧ n ≤ 40000 ∧ (∀ H', Ex H1 H' → G H') ∧ Acc 0 [] ∧
      (∀ i x H2 H3, i < n → Ex H1 H2 → Y i H2 x H3 → Ex H2 H3 ∧ g x (wipe σ (own.map (·.2))) H3 fun σ2 H4 => wipe σ2 (own.map (·.2)) = wipe σ (own.map (·.2)) ∧ Ex H3 H4 ∧ ∀ s0 H0 C cl fp,
        RE (Blk X scope s0 H0 C cl fp) kx σ2 H4 fun y H5 => Ex H4 H5 ∧ ∃ k, y = kV k ∧ ∀ s0 H0 C cl fp, RE (Blk X scope s0 H0 C cl fp) vx σ2 H5 fun z H6 => Ex H5 H6 ∧ ∀ acc, Acc i acc → Acc (i + 1) (putK acc k z)) ∧
      ∀ p ys H2, H1 p = none → Ex H1 H2 → H2 p = some (.dK ys) → ys.length ≤ n → Acc n ys → Q (.ref p) H2)
    (hs : ∀ x, foldedSetIterable iter X.env x = pure x := by intro _; rfl) : RE X (.DictComp kx vx [⟨tg, iter, [], 0⟩] scope pos) σ H Q := by
  refine re_of (pe_dc (own := own) (g := g) (tt := tYes) (tk := fun σ H Q => ∀ s0 H0 C cl fp, RE (Blk X scope s0 H0 C cl fp) kx σ H Q) (tv := fun σ H Q => ∀ s0 H0 C cl fp, RE (Blk X scope s0 H0 C cl fp) vx σ H Q) hc hN pi_RI ok hg
    (fun _ _ _ _ _ => pts_nil) (fun s H C cl fp => ⟨fun pins s' σ H' Q I q => (q s H C cl fp).run pins s' I⟩) (fun s H C cl fp => ⟨fun pins s' σ H' Q I q => (q s H C cl fp).run pins s' I⟩) hs) ?_
  refine h.mono fun J H1 ⟨n, G, Y, Acc, w, hn, hG, h0, turn, fin⟩ Dl hD => ?_
  refine dc_walk w (g := g) (tt := tYes) (tk := fun σ H Q => ∀ s0 H0 C cl fp, RE (Blk X scope s0 H0 C cl fp) kx σ H Q) (tv := fun σ H Q => ∀ s0 H0 C cl fp, RE (Blk X scope s0 H0 C cl fp) vx σ H Q) (fun i H' => Ex H1 H' ∧ ∃ acc, H' Dl = some (.dK acc) ∧ acc.length ≤ i ∧ Acc i acc)
    ⟨Evl.Ex.new hD, [], upd_same, Nat.le_refl _, h0⟩ (fun i H' _ p => hG H' p.1) (fun i x H2 H3 hi p y => ?_) fun H' ⟨e, acc, a1, a2, a3⟩ => fin Dl acc H' hD e a1 a2 a3
  obtain ⟨e2, acc, a1, a2, a3⟩ := p
  obtain ⟨e3, t⟩ := turn i x H2 H3 hi e2 y
  refine gm _ _ _ _ _ (fun σ2 H4 ⟨hw, e4, t⟩ => ⟨hw, ?_⟩) t
  simp only [tYes, if_true]
  intro s0 H0 C cl fp
  refine (t s0 H0 C cl fp).mono fun y' H5 ⟨e5, k, ek, t2⟩ => ?_
  intro s1 H1' C1 cl1 fp1
  refine (t2 s1 H1' C1 cl1 fp1).mono fun z' H6 ⟨e6, k2⟩ => ?_
  have e26 : Ex H2 H6 := ((e3.trans e4).trans e5).trans e6
  exact ⟨acc, k, ek, e26 _ _ a1, Nat.lt_of_lt_of_le (show acc.length < 100000 by omega) (by decide), ex_mut (e2.trans e26) hD, putK acc k z', upd_same, Nat.le_trans (length_putK _ _ _) (by omega), k2 acc a3⟩
/-- {kx: vx for target in iter if c} -/
theorem re_dcIf (hc : X.calm = true) (hN : X.N.Nodup) (ok : BlkOk X.N X.env.scope scope own) (hg : ∀ s H C cl fp, PG (Blk X scope s H C cl fp) tg g) (gm : GoodG g)
    (h : RI X tg iter σ H fun J H1 => ∃ (n : Nat) (G : Hp → Prop) (Y : Nat → Hp → V → Hp → Prop) (Acc : Nat → List (Key × V) → Prop), Walk J n G Y ∧ n ≤ 40000 ∧ (∀ H', Ex H1 H' → G H') ∧ Acc 0 [] ∧
      (∀ i x H2 H3, i < n → Ex H1 H2 → Y i H2 x H3 → Ex H2 H3 ∧ g x (wipe σ (own.map (·.2))) H3 fun σ2 H4 => wipe σ2 (own.map (·.2)) = wipe σ (own.map (·.2)) ∧ Ex H3 H4 ∧ ∀ s0 H0 C cl fp,
        RT (Blk X scope s0 H0 C cl fp) c σ2 H4 fun b H45 => Ex H4 H45 ∧ (b = false → ∀ acc, Acc i acc → Acc (i + 1) acc) ∧ (b = true → ∀ s0 H0 C cl fp,
        RE (Blk X scope s0 H0 C cl fp) kx σ2 H45 fun y H5 => Ex H45 H5 ∧ ∃ k, y = kV k ∧ ∀ s0 H0 C cl fp, RE (Blk X scope s0 H0 C cl fp) vx σ2 H5 fun z H6 => Ex H5 H6 ∧ ∀ acc, Acc i acc → Acc (i + 1) (putK acc k z))) ∧
      ∀ p ys H2, H1 p = none → Ex H1 H2 → H2 p = some (.dK ys) → ys.length ≤ n → Acc n ys → Q (.ref p) H2)
    (hs : ∀ x, foldedSetIterable iter X.env x = pure x := by intro _; rfl) : RE X (.DictComp kx vx [⟨tg, iter, [c], 0⟩] scope pos) σ H Q := by
  refine re_of (pe_dc (own := own) (g := g) (tt := fun σ H Q => ∀ s0 H0 C cl fp, RT (Blk X scope s0 H0 C cl fp) c σ H Q) (tk := fun σ H Q => ∀ s0 H0 C cl fp, RE (Blk X scope s0 H0 C cl fp) kx σ H Q) (tv := fun σ H Q => ∀ s0 H0 C cl fp, RE (Blk X scope s0 H0 C cl fp) vx σ H Q) hc hN pi_RI ok hg
    (fun s H C cl fp => pts_one ⟨fun pins s' σ H' Q I q => (q s H C cl fp).run pins s' I⟩) (fun s H C cl fp => ⟨fun pins s' σ H' Q I q => (q s H C cl fp).run pins s' I⟩) (fun s H C cl fp => ⟨fun pins s' σ H' Q I q => (q s H C cl fp).run pins s' I⟩) hs) ?_
  refine h.mono fun J H1 ⟨n, G, Y, Acc, w, hn, hG, h0, turn, fin⟩ Dl hD => ?_
  refine dc_walk w (g := g) (tt := fun σ H Q => ∀ s0 H0 C cl fp, RT (Blk X scope s0 H0 C cl fp) c σ H Q) (tk := fun σ H Q => ∀ s0 H0 C cl fp, RE (Blk X scope s0 H0 C cl fp) kx σ H Q) (tv := fun σ H Q => ∀ s0 H0 C cl fp, RE (Blk X scope s0 H0 C cl fp) vx σ H Q) (fun i H' => Ex H1 H' ∧ ∃ acc, H' Dl = some (.dK acc) ∧ acc.length ≤ i ∧ Acc i acc)
    ⟨Evl.Ex.new hD, [], upd_same, Nat.le_refl _, h0⟩ (fun i H' _ p => hG H' p.1) (fun i x H2 H3 hi p y => ?_) fun H' ⟨e, acc, a1, a2, a3⟩ => fin Dl acc H' hD e a1 a2 a3
  obtain ⟨e2, acc, a1, a2, a3⟩ := p
  obtain ⟨e3, t⟩ := turn i x H2 H3 hi e2 y
  refine gm _ _ _ _ _ (fun σ2 H4 ⟨hw, e4, t⟩ => ⟨hw, fun s0 H0 C cl fp => (t s0 H0 C cl fp).mono fun b H45 ⟨e45, t1, t2⟩ => ?_⟩) t
  have e245 : Ex H2 H45 := (e3.trans e4).trans e45
  refine ifB (fun hb => ?_) fun hb => ?_
  · intro s0' H0' C' cl' fp'
    refine (t2 hb s0' H0' C' cl' fp').mono fun y' H5 ⟨e5, k, ek, t3⟩ => ?_
    intro s1 H1' C1 cl1 fp1
    refine (t3 s1 H1' C1 cl1 fp1).mono fun z' H6 ⟨e6, k2⟩ => ?_
    have e26 : Ex H2 H6 := (e245.trans e5).trans e6
    exact ⟨acc, k, ek, e26 _ _ a1, Nat.lt_of_lt_of_le (show acc.length < 100000 by omega) (by decide), ex_mut (e2.trans e26) hD, putK acc k z', upd_same, Nat.le_trans (length_putK _ _ _) (by omega), k2 acc a3⟩
  · exact ⟨e2.trans e245, acc, e245 _ _ a1, by omega, t1 hb acc a3⟩
end
end Fx
end
section
set_option Elab.async false
set_option linter.all false
set_option maxRecDepth 100000
set_option maxHeartbeats 2000000
/-! A written dict's get; flat membership. -/
namespace Fx
open PySem PySem.Spec PyProof.Rows L2
open Evl (Ex fresh_back)
section
variable {X : Cx} {o e f : Expr} {apos cpos : Pos} {σ : L2.St} {H : Hp} {Q : VK} {d : Addr} {es : Array DictEntry} {n : Nat}
/-- d.get(e, f), d a written dict -/
theorem re_kget2 (KD : KDict X.K X.w d es n) (h : RE X o σ H fun x H1 => x = .ref d ∧ RE X e σ H1 fun y H2 => RE X f σ H2 fun z H3 => ∃ (s : Str) (r : Option Value) (v : V), y = .str s ∧ PySem.W.nsIn X.K d s = some r ∧ (∀ u, RelV z u → RelV v (r.getD u)) ∧ Q v H3)
    (base : attributeBase o "get" X.env (eval o X.env) = eval o X.env := by rfl)
    (few : ((backTo cpos (starEach [e, f] X.env)).all (fun x => !x.1) && (backToKw cpos (keywordEach [] X.env)).all (fun x => x.1.isSome)
      && decide (([e, f] : List Expr).length + ([] : List Keyword).length + (if ([] : List Keyword).isEmpty then 0 else 1) < 30)) = true := by rfl) (line : (apos.endLine == cpos.line) = true := by rfl)
    (trees : backTo cpos (starEach [e, f] X.env) = [(false, eval e X.env), (false, eval f X.env)] := by rfl) : RE X (.Call (.Attribute o "get" apos) [e, f] [] cpos) σ H Q := by
  refine RE.made fun pins s I => ?_
  refine wpAny_Call_method base few line PySem.F.plainAttrs_dict PySem.F.slot_dict_get PySem.F.type_dict_get (thn (h.run pins s I) fun u s1 ⟨x, H1, I1, rx, ex, q1⟩ => ?_)
  subst ex
  obtain rfl : u = Value.ref d := rx
  refine ⟨kd_type KD I1, fun b eb => ?_, ?_⟩
  · cases eb
    exact ⟨_, I1.kIn _ _ KD.at_, rfl⟩
  rw [trees]
  refine Calls.callWith_builtin rfl (Calls.evalArgs_plain (Calls.spliced_cons (thn (q1.run pins s1 I1) fun iv s2 ⟨y, H2, I2, ry, q2⟩ =>
    Calls.spliced_cons (thn (q2.run pins s2 I2) fun fv s3 ⟨z, H3, I3, rz, sx, r, v, ey, hr, hv, q3⟩ => Calls.spliced_nil ?_))))
  subst ey
  obtain ⟨t, rfl⟩ := (show ∃ t, iv = Value.str sx t from ry)
  have hm := PySem.W.mapOf_K (prog := X.prog) (w := X.w) I3.kIn KD.at_ KD.lit
  refine call_meetsIn PySem.F.slot_dict_get hm.typeIs PySem.F.entry_dict_get (PySem.F.args_dict_get_3 _ _ _) (meets_dict_get_default (strKind X.prog X.w) d (strKind_is X.prog X.w sx t) KD.low fv) ⟨_, hm, v, H3, I3.tok _, ?_, q3⟩
  rw [PySem.W.find_K KD.at_ hr]
  exact hv fv rz
end
theorem inV_strs (x : Str) : ∀ ws : List Str, inV (.str x) (ws.map V.str) = ws.contains x
  | [] => rfl
  | w :: ws => by
    have ih := inV_strs x ws
    show (eqV (.str w) (.str x) || inV (.str x) (ws.map V.str)) = ((x == w) || ws.contains x)
    rw [ih]
    congr 1
    show (w == x) = (x == w)
    exact Bool.beq_comm
theorem flat_strs : ∀ ws : List Str, (ws.map V.str).all flatV = true
  | [] => rfl
  | w :: ws => flat_strs ws
section
variable {X : Cx} {a b : Expr} {es : List Expr} {σ : L2.St} {H : Hp} {QB : Bool → Hp → Prop} {pos : Pos}
theorem cont_mem (ws : List Str) (x : Str) : ws.contains x = decide (x ∈ ws) := by
  rw [Bool.eq_iff_iff, decide_eq_true_eq]
  exact List.contains_iff_mem
/-- e in (a tuple of texts) -/
theorem rt_in {ws : List Str} (h : RE X a σ H fun x H1 => ∃ z : Str, x = .str z ∧ RE X b σ H1 fun y H2 => ∃ p, y = .ref p ∧ SqT X.K H2 p (ws.map V.str) ∧ QB (decide (z ∈ ws)) H2) (hm : behindInMarks .In b = false := by rfl) : RT X (.Compare a [.In] [b] pos) σ H QB :=
  rt_cmp op_in_seq (h.mono fun x H1 ⟨z, ex, q⟩ => q.mono fun y H2 ⟨p, ey, sq, q⟩ => ⟨p, _, ey, .inr sq, by rw [ex]; rfl, flat_strs ws, _, by rw [ex]; show V.bl (inV _ _) = _; rw [inV_strs, cont_mem], q⟩) hm
theorem rt_nin {ws : List Str} (h : RE X a σ H fun x H1 => ∃ z : Str, x = .str z ∧ RE X b σ H1 fun y H2 => ∃ p, y = .ref p ∧ SqT X.K H2 p (ws.map V.str) ∧ QB (!decide (z ∈ ws)) H2) (hm : behindInMarks .NotIn b = false := by rfl) : RT X (.Compare a [.NotIn] [b] pos) σ H QB :=
  rt_cmp op_notIn_seq (h.mono fun x H1 ⟨z, ex, q⟩ => q.mono fun y H2 ⟨p, ey, sq, q⟩ => ⟨p, _, ey, .inr sq, by rw [ex]; rfl, flat_strs ws, _, by rw [ex]; show V.bl (!inV _ _) = _; rw [inV_strs, cont_mem], q⟩) hm
end
/-- the items of a list or a tuple -/
def itemsD : PyData → List PyData
  | .list xs => xs
  | .tuple xs => xs
  | _ => []
section
variable {X : Cx} {tg iter a : Expr} {es : List Expr} {σ : L2.St} {H : Hp} {R : It → Hp → Prop} {pos p tpos : Pos} {elts : List Expr} {kk : Nat}
/-- over a list or a tuple -/
theorem ri_data {v : V} {d : PyData} (hd : D X.K H v d) (hl : (isL d || isT d) = true) (h : ∀ J G xs, Walk J xs.length G (YAt xs) → (∀ H', Ex H H' → G H') → DA X.K H xs (itemsD d) → RE X iter σ H fun x H1 => x = v ∧ Ex H H1 ∧ R J H1) : RI X tg iter σ H R := by
  cases hd with
  | lst sq ha => exact ri_list ((h _ _ _ walk_list (fun H' e => Evl.ex_l e sq) ha).mono fun x H1 ⟨ex, e, r⟩ => ⟨_, _, ex, Evl.ex_l e sq, r⟩)
  | tup sq ha => exact ri_tup ((h _ _ _ walk_tup (fun H' e => Evl.ex_t e sq) ha).mono fun x H1 ⟨ex, e, r⟩ => ⟨_, _, ex, Evl.ex_t e sq, r⟩)
  | _ => exact absurd (show false = true from hl) Bool.false_ne_true
theorem ri_enumD {v : V} {d : PyData} (hd : D X.K H v d) (hl : (isL d || isT d) = true) (hm : X.mg "enumerate" = none)
    (h : ∀ J G (xs : List V), Walk J xs.length G (YPair (fun i => some (.int (i : Nat))) (fun i => xs[i]?)) → (∀ H', Ex H H' → G H') → DA X.K H xs (itemsD d) → RE X a σ H fun x H1 => x = v ∧ Ex H H1 ∧ R J H1)
    (hg : Gl X "enumerate" := by rfl) (hs : starEach [a] X.env = [(false, eval a X.env)] := by rfl) : RI X (.Tuple elts kk tpos) (.Call (.Name "enumerate" p) [a] [] pos) σ H R := by
  cases hd with
  | lst sq ha => exact ri_enum hm (ra_cons (hs := hs) ((h _ _ _ walk_enum (fun H' e => Evl.ex_l e sq) ha).mono fun x H1 ⟨ex, e, r⟩ => ra_nil ⟨_, _, by rw [ex], Evl.ex_l e sq, r⟩)) hg hs
  | tup sq ha => exact ri_enumT hm (ra_cons (hs := hs) ((h _ _ _ walk_enumT (fun H' e => Evl.ex_t e sq) ha).mono fun x H1 ⟨ex, e, r⟩ => ra_nil ⟨_, _, by rw [ex], Evl.ex_t e sq, r⟩)) hg hs
  | _ => exact absurd (show false = true from hl) Bool.false_ne_true
end
end Fx
end
section
set_option Elab.async false
set_option linter.all false
set_option maxRecDepth 100000
set_option maxHeartbeats 2000000
namespace Fl
open PySem PySem.Spec PyProof.Rows L2 Fx
open Evl (Ex fresh_back)
/-! ### valid lines -/
theorem fits_reg {d : PyData} (h : fitsD "reg" d = true) : ∃ i : Int, d = .int i ∧ 0 ≤ i ∧ i < 6 := by
  have h : regB d = true := by
    unfold fitsD at h
    rw [if_neg (by decide +kernel), if_neg (by decide +kernel), if_neg (by decide +kernel), if_neg (by rintro ⟨z, _⟩; exact absurd z (by decide +kernel))] at h
    exact h
  cases d with
  | int i =>
    have h : (decide (0 ≤ i) && decide (i < 6)) = true := h
    rw [Bool.and_eq_true, decide_eq_true_eq, decide_eq_true_eq] at h
    exact ⟨i, rfl, h⟩
  | _ => exact absurd (show false = true from h) Bool.false_ne_true
theorem fits_word {d : PyData} (h : fitsD "word" d = true) : ∃ s, d = .str s ∧ isWordS s = true := by
  have h : isWordD d = true := h
  cases d with
  | str s => exact ⟨s, rfl, h⟩
  | _ => exact absurd (show false = true from h) Bool.false_ne_true
theorem fits_num {d : PyData} (h : fitsD "number" d = true) : ∃ i : Int, d = .int i := by
  have h : isNumD d = true := by
    unfold fitsD at h
    rw [if_neg (by decide +kernel), if_pos rfl] at h
    exact h
  cases d with
  | int s => exact ⟨s, rfl⟩
  | _ => exact absurd (show false = true from h) Bool.false_ne_true
structure Valid (d : PyData) (w : Str) (xs : List PyData) (kinds : List Str) : Prop where
  eq : d = .tuple (.str w :: xs)
  form : forms.lookup w = some kinds
  len : xs.length = kinds.length
  fits : ∀ (i : Nat) k x, kinds[i]? = some k → xs[i]? = some x → fitsD k x = true
theorem valid_of {d : PyData} (h : isLineD d = true) : ∃ w xs kinds, Valid d w xs kinds := by
  unfold isLineD at h
  split at h
  · rename_i w xs
    split at h
    · rename_i kinds hk
      rw [Bool.and_eq_true, decide_eq_true_eq, List.all_eq_true] at h
      refine ⟨w, xs, kinds, rfl, hk, h.1, fun i k x h1 h2 => h.2 (k, x) ?_⟩
      have hz : (kinds.zip xs)[i]? = some (k, x) := by
        rw [List.getElem?_zip_eq_some]
        exact ⟨h1, h2⟩
      exact List.mem_of_getElem? hz
    · exact absurd h Bool.false_ne_true
  · exact absurd h Bool.false_ne_true
theorem Valid.at {d : PyData} {w : Str} {xs : List PyData} {kinds : List Str} (v : Valid d w xs kinds) {i : Nat} {k : Str} (h : kinds[i]? = some k) : ∃ x, xs[i]? = some x ∧ fitsD k x = true := by
  have hi : i < xs.length := by
    rw [v.len]
    exact (List.getElem?_eq_some_iff.mp h).1
  exact ⟨xs[i], List.getElem?_eq_getElem hi, v.fits i k _ h (List.getElem?_eq_getElem hi)⟩
/-- its word in the list of the words that are forms -/
def wordD : PyData → Str
  | .tuple (.str w :: _) => w
  | _ => ""
def partD (i : Nat) : PyData → PyData
  | .tuple xs => xs.getD i .none
  | _ => .none
def sizeD (d : PyData) : Int :=
  if wordD d = "num" then (match partD 2 d with | .int n => if -8 ≤ n ∧ n ≤ 7 then 1 else 3 | _ => 0) else (sizes.lookup (wordD d)).getD 1
def nfD (d : PyData) : PyData := if wordD d = "addr" then partD 2 d else if wordD d = "call" ∨ wordD d = "tail" then partD 1 d else .none
def nlD (d : PyData) : PyData := if wordD d = "jump" ∨ wordD d = "if" ∨ wordD d = "unless" then partD 1 d else .none
structure FrmS (K : PySem.W.Frag) (w : World) (mg : Str → Option Value) : Prop where
  sizes : ∃ a es n, mg "SIZES" = some (.ref a) ∧ KDict K w a es n ∧ ∀ z : Str, ∃ r, PySem.W.nsIn K a z = some r ∧ match sizes.lookup z with
    | some i => ∃ t, r = some (.int i t)
    | none => r = none
structure Frm2 (K : PySem.W.Frag) (w : World) (mg : Str → Option Value) : Prop where
  jumpW : ∃ a, mg "JUMP_WORDS" = some (.ref a) ∧ ∀ H, SqT K H a ((["jump", "if", "unless"] : List Str).map V.str)
  stackW : ∃ a, mg "STACK_WORDS" = some (.ref a) ∧ ∀ H, SqT K H a ((["push", "pop", "read", "write"] : List Str).map V.str)
  callW : ∃ a, mg "CALL_WORDS" = some (.ref a) ∧ ∀ H, SqT K H a ((["call", "callr"] : List Str).map V.str)
  endW : ∃ a, mg "END_WORDS" = some (.ref a) ∧ ∀ H, SqT K H a ((["jump", "back", "tail", "stop"] : List Str).map V.str)
section
variable {P : Program} {w : World} {K : PySem.W.Frag} {mg : Str → Option Value} {base : Heap} {f : Addr} {fd : FuncData}
/-- a valid line's word and parts -/
theorem line_word {H : Hp} {v : V} {d : PyData} (hd : D K H v d) (hl : isLineD d = true) : ∃ a xs, v = .ref a ∧ SqT K H a (.str (wordD d) :: xs) := by
  obtain ⟨w', ys, kinds, rfl, _⟩ := valid_of hl
  cases hd with
  | tup sq ha =>
  cases ha with
  | cons h0 ht =>
  cases h0
  exact ⟨_, _, rfl, sq⟩
theorem line_part {H : Hp} {v : V} {d : PyData} (hd : D K H v d) (hl : isLineD d = true) {w : Str} {kinds : List Str} (hw : wordD d = w) (hk : forms.lookup w = some kinds) {i : Nat} {k : Str} (hi : kinds[i]? = some k) :
    ∃ a xs u, v = .ref a ∧ SqT K H a xs ∧ xs[i + 1]? = some u ∧ D K H u (partD (i + 1) d) ∧ fitsD k (partD (i + 1) d) = true := by
  obtain ⟨w', ys, ki, va⟩ := valid_of hl
  have hw' : w' = w := by rw [← hw, va.eq]; rfl
  have hki : ki = kinds := Option.some.inj (va.form.symm.trans (by rw [hw']; exact hk))
  subst hki
  obtain ⟨x, hx, hf⟩ := va.at hi
  have hp : partD (i + 1) d = x := by
    rw [va.eq]
    show (PyData.str w' :: ys).getD (i + 1) .none = _
    rw [List.getD_cons_succ, List.getD_eq_getElem?_getD, hx]; rfl
  obtain ⟨rfl, _⟩ := va
  cases hd with
  | tup sq ha =>
  cases ha with
  | cons h0 ht =>
  obtain ⟨u, hu, hud⟩ := ht.get hx
  exact ⟨_, _, u, rfl, sq, hu, by rw [hp]; exact hud, by rw [hp]; exact hf⟩
/-- line[0] -/
theorem re_word {X : Cx} {a : Expr} {σ : L2.St} {H : Hp} {Q : VK} {pos p : Pos} {j} (h : RE X a σ H fun x H1 => ∃ d, D X.K H1 x d ∧ isLineD d = true ∧ Q (.str (wordD d)) H1) : RE X (.Subscript a (.Constant (.int 0) j p) pos) σ H Q :=
  re_ixT (h.mono fun x H1 ⟨d, hd, hl, q⟩ => by
    obtain ⟨b, xs, rfl, sq⟩ := line_word hd hl
    exact re_int ⟨b, _, 0, _, rfl, rfl, sq, atI_nat (j := 0) rfl, q⟩)
/-- line[1], line[2] -/
theorem re_part1 {X : Cx} {a : Expr} {σ : L2.St} {H : Hp} {Q : VK} {pos p : Pos} {j} (h : RE X a σ H fun x H1 => ∃ d w kinds k, D X.K H1 x d ∧ isLineD d = true ∧ wordD d = w ∧ forms.lookup w = some kinds ∧ kinds[0]? = some k ∧ ∀ u, D X.K H1 u (partD 1 d) → fitsD k (partD 1 d) = true → Q u H1) :
    RE X (.Subscript a (.Constant (.int 1) j p) pos) σ H Q :=
  re_ixT (h.mono fun x H1 ⟨d, w, kinds, k, hd, hl, hw, hf, hk, q⟩ => by
    obtain ⟨b, xs, u, rfl, sq, hu, hd', hfit⟩ := line_part hd hl hw hf hk
    exact re_int ⟨b, _, 1, _, rfl, rfl, sq, atI_nat (j := 1) hu, q u hd' hfit⟩)
theorem re_part2 {X : Cx} {a : Expr} {σ : L2.St} {H : Hp} {Q : VK} {pos p : Pos} {j} (h : RE X a σ H fun x H1 => ∃ d w kinds k, D X.K H1 x d ∧ isLineD d = true ∧ wordD d = w ∧ forms.lookup w = some kinds ∧ kinds[1]? = some k ∧ ∀ u, D X.K H1 u (partD 2 d) → fitsD k (partD 2 d) = true → Q u H1) :
    RE X (.Subscript a (.Constant (.int 2) j p) pos) σ H Q :=
  re_ixT (h.mono fun x H1 ⟨d, w, kinds, k, hd, hl, hw, hf, hk, q⟩ => by
    obtain ⟨b, xs, u, rfl, sq, hu, hd', hfit⟩ := line_part hd hl hw hf hk
    exact re_int ⟨b, _, 2, _, rfl, rfl, sq, atI_nat (j := 2) hu, q u hd' hfit⟩)
theorem form_num : forms.lookup ("num" : Str) = some (["reg", "number"] : List Str) := by decide +kernel
theorem form_addr : forms.lookup ("addr" : Str) = some (["reg", "word"] : List Str) := by decide +kernel
theorem form_call : forms.lookup ("call" : Str) = some (["word"] : List Str) := by decide +kernel
theorem form_tail : forms.lookup ("tail" : Str) = some (["word"] : List Str) := by decide +kernel
theorem form_jump : forms.lookup ("jump" : Str) = some (["word"] : List Str) := by decide +kernel
theorem form_if : forms.lookup ("if" : Str) = some (["word"] : List Str) := by decide +kernel
theorem form_unless : forms.lookup ("unless" : Str) = some (["word"] : List Str) := by decide +kernel
theorem form_mark : forms.lookup ("mark" : Str) = some (["word"] : List Str) := by decide +kernel
abbrev sp_line_size (K : PySem.W.Frag) : Sp := sp1 K (fun d => isLineD d = true) fun d r _ => r = .int (sizeD d)
theorem sc_named_function : FnScope ["line"] ["line"] (defScope s_named_function) := ⟨rfl, rfl, rfl, by decide +kernel, rfl, by decide +kernel, by decide +kernel⟩
abbrev sp_named_function (K : PySem.W.Frag) : Sp := sp1 K (fun d => isLineD d = true) fun d r H' => D K H' r (nfD d)
theorem ok_named_function (F : Fun K "named_function" "named_function" s_named_function f fd) : FnOk P w K mg base CX0 1 f fd ["line"] (sp_named_function K) := by
  refine F.ok sc_named_function (fun vs H Q E h => sp1_len h rfl) (fun cdv A outer s H vs Q E hr h => ⟨RB _ _, pss_RB, ?_⟩)
  obtain ⟨v, d, rfl, hd, hl, q⟩ := h
  refine rb_cons (rs_if (rt_cmp op_eq (re_word (re_var 0 rfl ⟨d, hd, hl, re_str ⟨rfl, _, rfl, ?_⟩⟩))))
  rw [eqK]
  by_cases e : wordD d = "addr"
  · rw [decide_eq_true e]
    refine ifT (rb_one (rs_ret (re_part2 (re_var 0 rfl ⟨d, _, _, _, hd, hl, e, form_addr, rfl, fun u hu hf => q _ _ (Ex.refl _) ?_⟩))))
    show D K H u (nfD d)
    unfold nfD
    rw [if_pos e]
    exact hu
  rw [decide_eq_false e]
  refine ifF (rb_nil (rb_cons (rs_if (rt_in (ws := ["call", "tail"]) (re_word (re_var 0 rfl ⟨d, hd, hl, _, rfl, re_tup (ra_cons (re_str (ra_cons (re_str (ra_nil ⟨(show 2 ≤ 100000 by decide), fun p H2 hp e2 h2 => ⟨p, rfl, .inl (.inl h2), ?_⟩⟩)))))⟩))))))
  have em : wordD d ∈ (["call", "tail"] : List Str) ↔ (wordD d = "call" ∨ wordD d = "tail") := by simp
  by_cases e1 : wordD d = "call" ∨ wordD d = "tail"
  · rw [decide_eq_true (em.mpr e1)]
    have fin : ∀ u, D K H2 u (partD 1 d) → Q u H2 := fun u hu => q _ _ e2 (by
      show D K H2 u (nfD d)
      unfold nfD
      rw [if_neg e, if_pos e1]
      exact hu)
    refine ifT (rb_one (rs_ret ?_))
    rcases e1 with e1 | e1
    · exact re_part1 (re_var 0 rfl ⟨d, _, _, _, hd.mono e2, hl, e1, form_call, rfl, fun u hu hf => fin u hu⟩)
    · exact re_part1 (re_var 0 rfl ⟨d, _, _, _, hd.mono e2, hl, e1, form_tail, rfl, fun u hu hf => fin u hu⟩)
  · rw [decide_eq_false fun z => e1 (em.mp z)]
    refine ifF (rb_nil (rb_one (rs_ret (re_non (q _ _ e2 ?_)))))
    show D K H2 .non (nfD d)
    unfold nfD
    rw [if_neg e, if_neg e1]
    exact .non
theorem sc_named_label : FnScope ["line"] ["line"] (defScope s_named_label) := ⟨rfl, rfl, rfl, by decide +kernel, rfl, by decide +kernel, by decide +kernel⟩
abbrev sp_named_label (K : PySem.W.Frag) : Sp := sp1 K (fun d => isLineD d = true) fun d r H' => D K H' r (nlD d)
theorem ok_named_label (F : Fun K "named_label" "named_label" s_named_label f fd) (T : Frm2 K w mg) : FnOk P w K mg base CX0 1 f fd ["line"] (sp_named_label K) := by
  refine F.ok sc_named_label (fun vs H Q E h => sp1_len h rfl) (fun cdv A outer s H vs Q E hr h => ⟨RB _ _, pss_RB, ?_⟩)
  obtain ⟨v, d, rfl, hd, hl, q⟩ := h
  obtain ⟨ja, mJ, hj⟩ := T.jumpW
  refine rb_one (rs_ret (re_if (rt_in (re_word (re_var 0 rfl ⟨d, hd, hl, _, rfl, re_glob (v := .ref ja) mJ rfl ⟨ja, rfl, hj _, ?_⟩⟩)))))
  have em : wordD d ∈ (["jump", "if", "unless"] : List Str) ↔ (wordD d = "jump" ∨ wordD d = "if" ∨ wordD d = "unless") := by simp
  by_cases e1 : wordD d = "jump" ∨ wordD d = "if" ∨ wordD d = "unless"
  · rw [decide_eq_true (em.mpr e1)]
    have fin : ∀ u, D K H u (partD 1 d) → Q u H := fun u hu => q _ _ (Ex.refl _) (by
      show D K H u (nlD d)
      unfold nlD
      rw [if_pos e1]
      exact hu)
    refine ifT ?_
    rcases e1 with e1 | e1 | e1
    · exact re_part1 (re_var 0 rfl ⟨d, _, _, _, hd, hl, e1, form_jump, rfl, fun u hu hf => fin u hu⟩)
    · exact re_part1 (re_var 0 rfl ⟨d, _, _, _, hd, hl, e1, form_if, rfl, fun u hu hf => fin u hu⟩)
    · exact re_part1 (re_var 0 rfl ⟨d, _, _, _, hd, hl, e1, form_unless, rfl, fun u hu hf => fin u hu⟩)
  · rw [decide_eq_false fun z => e1 (em.mp z)]
    refine ifF (re_non (q _ _ (Ex.refl _) ?_))
    show D K H .non (nlD d)
    unfold nlD
    rw [if_neg e1]
    exact .non
/-! ### lists of lines -/
structure Lines (d : PyData) : Prop where
  isl : (isL d || isT d) = true
  len : (itemsD d).length ≤ 1000
  ok : ∀ x ∈ itemsD d, isLineD x = true
abbrev sp_lines_size (K : PySem.W.Frag) : Sp := sp1 K Lines fun d r _ => r = .int ((itemsD d).map sizeD).sum
end
end Fl
end
section
set_option Elab.async false
set_option linter.all false
set_option maxRecDepth 100000
set_option maxHeartbeats 2000000
/-! Dicts that are made and changed. -/
namespace Fx
open PySem PySem.Spec PyProof.Rows L2
open Evl (Ex fresh_back)
section
variable {X : Cx} {o i e : Expr} {σ : L2.St} {H : Hp} {Q : VK} {QB : Bool → Hp → Prop} {pos p : Pos} {D : Ends}
theorem rt_din (hu : X.A.units + 1 < cLine) (h : RE X i σ H fun y H1 => RE X o σ H1 fun x H2 => ∃ a kvs k, x = .ref a ∧ H2 a = some (.dK kvs) ∧ y = kV k ∧ QB (valV kvs k).isSome H2) (hm : behindInMarks .In o = false := by rfl) : RT X (.Compare i [.In] [o] pos) σ H QB :=
  rt_of (pt_cmp (pc_din hu pe_RE pe_RE) hm) (h.mono fun y H1 q => q.mono fun x H2 ⟨a, kvs, k, ex, hk, ey, q⟩ => ⟨a, _, ex, by rw [ey]; exact DGet.k hk, _, rfl, q⟩)
theorem re_din (hu : X.A.units + 1 < cLine) (h : RE X i σ H fun y H1 => RE X o σ H1 fun x H2 => ∃ a kvs k, x = .ref a ∧ H2 a = some (.dK kvs) ∧ y = kV k ∧ Q (.bl (valV kvs k).isSome) H2) (hm : behindInMarks .In o = false := by rfl) : RE X (.Compare i [.In] [o] pos) σ H Q :=
  re_of (pe_cmp (pc_din hu pe_RE pe_RE) hm) (h.mono fun y H1 q => q.mono fun x H2 ⟨a, kvs, k, ex, hk, ey, q⟩ => ⟨a, _, ex, by rw [ey]; exact DGet.k hk, q⟩)
theorem rt_dnin (hu : X.A.units + 1 < cLine) (h : RE X i σ H fun y H1 => RE X o σ H1 fun x H2 => ∃ a kvs k, x = .ref a ∧ H2 a = some (.dK kvs) ∧ y = kV k ∧ QB (!(valV kvs k).isSome) H2) (hm : behindInMarks .NotIn o = false := by rfl) : RT X (.Compare i [.NotIn] [o] pos) σ H QB :=
  rt_of (pt_cmp (pc_dnotin hu pe_RE pe_RE) hm) (h.mono fun y H1 q => q.mono fun x H2 ⟨a, kvs, k, ex, hk, ey, q⟩ => ⟨a, _, ex, by rw [ey]; exact DGet.k hk, _, rfl, q⟩)
theorem re_dget (hu : X.A.units + 1 < cLine) (h : RE X o σ H fun x H1 => RE X i σ H1 fun y H2 => ∃ a kvs k v, x = .ref a ∧ H2 a = some (.dK kvs) ∧ y = kV k ∧ valV kvs k = some v ∧ Q v H2) (hs : PlainIx i := by exact fun _ _ => rfl) : RE X (.Subscript o i pos) σ H Q :=
  re_of (pe_dget hu pe_RE pe_RE hs) (h.mono fun x H1 q => q.mono fun y H2 ⟨a, kvs, k, v, ex, hk, ey, hv, q⟩ => ⟨a, v, ex, by rw [ey, ← hv]; exact DGet.k hk, q⟩)
theorem rs_dput (hu : X.A.units + 1 < cLine) (h : RE X e σ H fun v H1 => RE X o σ H1 fun x H2 => RE X i σ H2 fun y H3 => ∃ a kvs k, x = .ref a ∧ H3 a = some (.dK kvs) ∧ y = kV k ∧ kvs.length < sizeLine ∧ D.nx σ (upd H3 a (.dK (putK kvs k v))))
    (hs : swapsWith e (some (.Subscript o i p)) pos.line X.env = pure false := by rfl) : RS X (.Assign [.Subscript o i p] e pos) D σ H :=
  rs_of (ps_dput hu pe_RE pe_RE pe_RE hs) (h.mono fun v H1 q => q.mono fun x H2 q => q.mono fun y H3 ⟨a, kvs, k, ex, hk, ey, hl, q⟩ => ⟨a, _, ex, by rw [ey]; exact DPut.k hk hl, q⟩)
theorem re_dnew (h : ∀ p H1, H p = none → Ex H H1 → H1 p = some (.dK []) → Q (.ref p) H1) : RE X (.Dict [] [] pos) σ H Q :=
  re_of pe_dnewK (fun p hp => h p _ hp (Ex.new hp) upd_same)
end
section
variable {X : Cx} {c : Expr} {sts x y : List Stmt} {σ : L2.St} {H : Hp} {pos : Pos} {D D' : Ends}
theorem RB.mono (h : RB X sts D σ H) (k : ∀ σ H, D.nx σ H → D'.nx σ H) (kr : ∀ v H, D.rt v H → D'.rt v H) (kb : ∀ σ H, D.bk σ H → D'.bk σ H) (kc : ∀ σ H, D.ct σ H → D'.ct σ H) : RB X sts D' σ H := RB.made fun pins s I => thn (h.run pins s I) fun f s' z => by
  cases f with
  | next => obtain ⟨a, b, c, d⟩ := z; exact ⟨a, b, c, k _ _ d⟩
  | brk => obtain ⟨a, b, c, d⟩ := z; exact ⟨a, b, c, kb _ _ d⟩
  | cont => obtain ⟨a, b, c, d⟩ := z; exact ⟨a, b, c, kc _ _ d⟩
  | ret u => obtain ⟨v, a, b, c, r, d⟩ := z; exact ⟨v, a, b, c, r, kr _ _ d⟩
/-- an if whose ways meet again -/
theorem rs_ifJ (M : L2.St → Hp → Prop) (h : RT X c σ H fun k H1 => if k = true then RB X x { D with nx := M } σ H1 else RB X y { D with nx := M } σ H1) (hM : ∀ σ' H', M σ' H' → D.nx σ' H') : RS X (.If c x y pos) D σ H :=
  rs_if (h.mono fun k H1 q => by
    cases k with
    | true => exact RB.mono q hM (fun _ _ z => z) (fun _ _ z => z) fun _ _ z => z
    | false => exact RB.mono q hM (fun _ _ z => z) (fun _ _ z => z) fun _ _ z => z)
end
section
variable {X : Cx} {tg iter a : Expr} {es : List Expr} {σ : L2.St} {H H0 : Hp} {R : It → Hp → Prop} {pos p tpos : Pos} {elts : List Expr} {kk : Nat}
/-- over a list or a tuple that was there before -/
theorem ri_data0 {v : V} {d : PyData} (e0 : Ex H0 H) (hd : D X.K H0 v d) (hl : (isL d || isT d) = true) (h : ∀ J G xs, Walk J xs.length G (YAt xs) → (∀ H', Ex H0 H' → G H') → DA X.K H0 xs (itemsD d) → RE X iter σ H fun x H1 => x = v ∧ Ex H H1 ∧ R J H1) : RI X tg iter σ H R := by
  cases hd with
  | lst sq ha => exact ri_list ((h _ _ _ walk_list (fun H' e => Evl.ex_l e sq) ha).mono fun x H1 ⟨ex, e, r⟩ => ⟨_, _, ex, Evl.ex_l (e0.trans e) sq, r⟩)
  | tup sq ha => exact ri_tup ((h _ _ _ walk_tup (fun H' e => Evl.ex_t e sq) ha).mono fun x H1 ⟨ex, e, r⟩ => ⟨_, _, ex, Evl.ex_t (e0.trans e) sq, r⟩)
  | _ => exact absurd (show false = true from hl) Bool.false_ne_true
theorem ri_enumD0 {v : V} {d : PyData} (e0 : Ex H0 H) (hd : D X.K H0 v d) (hl : (isL d || isT d) = true) (hm : X.mg "enumerate" = none)
    (h : ∀ J G (xs : List V), Walk J xs.length G (YPair (fun i => some (.int (i : Nat))) (fun i => xs[i]?)) → (∀ H', Ex H0 H' → G H') → DA X.K H0 xs (itemsD d) → RE X a σ H fun x H1 => x = v ∧ Ex H H1 ∧ R J H1)
    (hg : Gl X "enumerate" := by rfl) (hs : starEach [a] X.env = [(false, eval a X.env)] := by rfl) : RI X (.Tuple elts kk tpos) (.Call (.Name "enumerate" p) [a] [] pos) σ H R := by
  cases hd with
  | lst sq ha => exact ri_enum hm (ra_cons (hs := hs) ((h _ _ _ walk_enum (fun H' e => Evl.ex_l e sq) ha).mono fun x H1 ⟨ex, e, r⟩ => ra_nil ⟨_, _, by rw [ex], Evl.ex_l (e0.trans e) sq, r⟩)) hg hs
  | tup sq ha => exact ri_enumT hm (ra_cons (hs := hs) ((h _ _ _ walk_enumT (fun H' e => Evl.ex_t e sq) ha).mono fun x H1 ⟨ex, e, r⟩ => ra_nil ⟨_, _, by rw [ex], Evl.ex_t (e0.trans e) sq, r⟩)) hg hs
  | _ => exact absurd (show false = true from hl) Bool.false_ne_true
end
theorem val_put {κ : Type} [DecidableEq κ] (kvs : List (κ × V)) (k : κ) (v : V) (j : κ) : valV (putK kvs k v) j = if j = k then some v else valV kvs j := by
  unfold putK valV
  by_cases hk : (kvs.any fun kv => decide (kv.fst = k)) = true
  · rw [if_pos hk]
    induction kvs with
    | nil => simp at hk
    | cons x r ih =>
      rw [List.map_cons, List.find?_cons, List.find?_cons]
      by_cases hx : x.1 = k
      · rw [if_pos hx]
        by_cases hj : j = k
        · rw [if_pos hj]
          have : decide (x.1 = j) = true := decide_eq_true (by rw [hx, hj])
          simp [this]
        · rw [if_neg hj]
          have h1 : decide (x.1 = j) = false := decide_eq_false (by rw [hx]; exact fun z => hj z.symm)
          simp only [h1]
          by_cases hr : (r.any fun kv => decide (kv.fst = k)) = true
          · have := ih hr
            rw [if_neg hj] at this
            exact this
          · congr 1
            have : ∀ (l : List (κ × V)), (l.any fun kv => decide (kv.fst = k)) ≠ true → List.map (fun kv => if kv.1 = k then (kv.1, v) else kv) l = l := by
              intro l
              induction l with
              | nil => intro _; rfl
              | cons y t ih2 =>
                intro hl
                have h1 : ¬ y.1 = k := fun z => hl (by rw [List.any_cons, decide_eq_true z]; rfl)
                have h2 : (t.any fun kv => decide (kv.fst = k)) ≠ true := fun z => hl (by rw [List.any_cons, z, Bool.or_true])
                rw [List.map_cons, ih2 h2, if_neg h1]
            rw [this r hr]
      · rw [if_neg hx]
        have hr : (r.any fun kv => decide (kv.fst = k)) = true := by
          rw [List.any_cons, decide_eq_false hx, Bool.false_or] at hk
          exact hk
        by_cases hj : x.1 = j
        · have hjk : ¬ j = k := fun z => hx (hj.trans z)
          simp [hj, hjk]
        · simp only [decide_eq_false hj]
          exact ih hr
  · rw [if_neg hk, List.find?_append]
    have hn : ∀ x ∈ kvs, x.1 ≠ k := fun x hx z => hk (List.any_eq_true.mpr ⟨x, hx, decide_eq_true z⟩)
    by_cases hj : j = k
    · rw [if_pos hj, List.find?_eq_none.mpr (fun x hx => by simpa [hj] using hn x hx)]
      simp [hj]
    · rw [if_neg hj, List.find?_cons, decide_eq_false (fun z => hj z.symm)]
      simp
end Fx
end
section
set_option Elab.async false
set_option linter.all false
set_option maxRecDepth 100000
set_option maxHeartbeats 2000000
namespace Fl
open PySem PySem.Spec PyProof.Rows L2 Fx
open Evl (Ex fresh_back)
/-! ### marks -/
def labD (d : PyData) : Str := match partD 1 d with | .str s => s | _ => ""
def marksTo (ds : List PyData) : Nat → List (Key × V)
  | 0 => []
  | i + 1 => match ds[i]? with
    | some d => if wordD d = "mark" then putK (marksTo ds i) (.inr (labD d)) (.int (i : Nat)) else marksTo ds i
    | none => marksTo ds i
def marksV (ds : List PyData) : List (Key × V) := marksTo ds ds.length
theorem marks_yes {ds : List PyData} {i : Nat} {d : PyData} (h : ds[i]? = some d) (hw : wordD d = "mark") : marksTo ds (i + 1) = putK (marksTo ds i) (.inr (labD d)) (.int (i : Nat)) := by
  show (match ds[i]? with | some d => _ | none => _) = _
  rw [h]
  exact if_pos hw
theorem marks_no {ds : List PyData} {i : Nat} {d : PyData} (h : ds[i]? = some d) (hw : ¬ wordD d = "mark") : marksTo ds (i + 1) = marksTo ds i := by
  show (match ds[i]? with | some d => _ | none => _) = _
  rw [h]
  exact if_neg hw
theorem mark_lab {d : PyData} (h : fitsD "word" (partD 1 d) = true) : partD 1 d = .str (labD d) := by
  obtain ⟨s, hs, _⟩ := fits_word h
  unfold labD
  rw [hs]
section
variable {P : Program} {w : World} {K : PySem.W.Frag} {mg : Str → Option Value} {base : Heap} {f : Addr} {fd : FuncData}
theorem good_pair {K : PySem.W.Frag} {i j : Nat} : GoodG (gTup K 2 (gCons (gName i) (gCons (gName j) gNil))) := good_tup2
theorem sc_marks_of : FnScope ["lines", "at", "line"] ["lines"] (defScope s_marks_of) := ⟨rfl, rfl, rfl, by decide +kernel, rfl, by decide +kernel, by decide +kernel⟩
abbrev sp_marks_of (K : PySem.W.Frag) : Sp := sp1 K Lines fun d r H' => ∃ p, r = .ref p ∧ H' p = some (.dK (marksV (itemsD d)))
theorem ok_marks_of (F : Fun K "marks_of" "marks_of" s_marks_of f fd) (G : Gb mg) : FnOk P w K mg base CX0 1 f fd ["lines"] (sp_marks_of K) := by
  refine F.ok sc_marks_of (fun vs H Q E h => sp1_len h rfl) (fun cdv A outer s H vs Q E hr h => ⟨RB _ _, pss_RB, ?_⟩)
  obtain ⟨v, d, rfl, hd, hl, q⟩ := h
  refine rb_one (rs_ret ?_)
  refine re_dcIf (own := [("at", 1), ("line", 2)]) (g := gTup K 2 (gCons (gName 1) (gCons (gName 2) gNil))) rfl sc_marks_of.nd (blkOk_by (N := ["lines", "at", "line"]) (sc := defScope s_marks_of) (by decide +kernel))
    (fun _ _ _ _ _ => pg_tup rfl (pgs_cons (pg_name (i := 1) sc_marks_of.nd rfl (Or.inl rfl)) (pgs_cons (pg_name (i := 2) sc_marks_of.nd rfl (Or.inl rfl)) pgs_nil))) good_tup2 ?_
  refine ri_enumD hd hl.isl G.enumerate fun J Gx xs wk hG ha => re_var 0 rfl ⟨rfl, Ex.refl _, _, _, _, fun i ys => ys = marksTo (itemsD d) i, wk, ?_, hG, rfl, ?_, ?_⟩
  · rw [ha.length]; exact Nat.le_trans hl.len (by decide)
  · rintro i x H2 H3 hi e2 ⟨t, x, y, rfl, hT, rfl, hx, hy⟩
    obtain rfl := Option.some.inj hx
    obtain ⟨dy, hdy, hyy⟩ := ha.getV hy
    have hly : isLineD dy = true := hl.ok _ (List.mem_of_getElem? hdy)
    have e3 : Ex H2 (upd H2 t (.tup [V.int (i : Nat), y])) := Ex.new hT
    have hyd := hyy.mono (e2.trans e3)
    refine ⟨e3, t, [V.int (i : Nat), y], rfl, .inl (.inl upd_same), rfl, _, [y], rfl, y, [], rfl, rfl, rfl, Ex.refl _, fun s0 H0 C cl fp => ?_⟩
    refine rt_cmp op_eq (re_word (re_var 2 rfl ⟨dy, hyd, hly, re_str ⟨rfl, _, rfl, Ex.refl _, fun hb acc hacc => ?_, fun hb s0 H0 C cl fp => ?_⟩⟩))
    · rw [eqK] at hb
      subst hacc
      exact (marks_no hdy (of_decide_eq_false hb)).symm
    · rw [eqK] at hb
      have hw := of_decide_eq_true hb
      refine re_part1 (re_var 2 rfl ⟨dy, _, _, _, hyd, hly, hw, form_mark, rfl, fun u hu hf => ?_⟩)
      rw [mark_lab hf] at hu
      cases hu
      refine ⟨Ex.refl _, .inr (labD dy), rfl, fun s0 H0 C cl fp => re_var 1 rfl ⟨Ex.refl _, fun acc hacc => ?_⟩⟩
      subst hacc
      exact (marks_yes hdy hw).symm
  · rintro p ys H2 hp e2 h2 hlen rfl
    refine q _ _ e2 ⟨p, rfl, ?_⟩
    rw [h2, ha.length]
    rfl
/-! ### names that are there -/
def hasK (kvs : List (Key × V)) : PyData → Bool
  | .str s => (valV kvs (.inr s)).isSome
  | _ => true
def thereD (ls fs : List (Key × V)) (d : PyData) : Bool := hasK ls (nlD d) && hasK fs (nfD d)
theorem optS_nl {d : PyData} (h : isLineD d = true) : nlD d = .none ∨ ∃ s, nlD d = .str s := by
  obtain ⟨w', xs, kinds, v⟩ := valid_of h
  have hw : wordD d = w' := by rw [v.eq]; rfl
  have one : ∀ {w : Str}, w' = w → forms.lookup w = some (["word"] : List Str) → ∃ s, partD 1 d = .str s := fun {w} e hf => by
    have hk : kinds = (["word"] : List Str) := Option.some.inj (v.form.symm.trans (by rw [e]; exact hf))
    obtain ⟨x, hx, hf⟩ := v.at (i := 0) (k := "word") (by rw [hk]; rfl)
    obtain ⟨s, rfl, _⟩ := fits_word hf
    refine ⟨s, ?_⟩
    rw [v.eq]
    show (PyData.str w' :: xs).getD 1 .none = _
    rw [List.getD_cons_succ, List.getD_eq_getElem?_getD, hx]; rfl
  unfold nlD
  rw [hw]
  by_cases e : w' = "jump" ∨ w' = "if" ∨ w' = "unless"
  · rw [if_pos e]
    rcases e with e | e | e
    · exact .inr (one e form_jump)
    · exact .inr (one e form_if)
    · exact .inr (one e form_unless)
  · rw [if_neg e]
    exact .inl rfl
theorem optS_nf {d : PyData} (h : isLineD d = true) : nfD d = .none ∨ ∃ s, nfD d = .str s := by
  obtain ⟨w', xs, kinds, v⟩ := valid_of h
  have hw : wordD d = w' := by rw [v.eq]; rfl
  have part : ∀ {w : Str} {ks : List Str} {i : Nat}, w' = w → forms.lookup w = some ks → ks[i]? = some "word" → ∃ s, partD (i + 1) d = .str s := fun {w ks i} e hf hi => by
    have hk : kinds = ks := Option.some.inj (v.form.symm.trans (by rw [e]; exact hf))
    obtain ⟨x, hx, hf⟩ := v.at (i := i) (k := "word") (by rw [hk]; exact hi)
    obtain ⟨s, rfl, _⟩ := fits_word hf
    refine ⟨s, ?_⟩
    rw [v.eq]
    show (PyData.str w' :: xs).getD (i + 1) .none = _
    rw [List.getD_cons_succ, List.getD_eq_getElem?_getD, hx]; rfl
  unfold nfD
  rw [hw]
  by_cases e0 : w' = "addr"
  · rw [if_pos e0]
    exact .inr (part e0 form_addr (i := 1) rfl)
  rw [if_neg e0]
  by_cases e : w' = "call" ∨ w' = "tail"
  · rw [if_pos e]
    rcases e with e | e
    · exact .inr (part e form_call (i := 0) rfl)
    · exact .inr (part e form_tail (i := 0) rfl)
  · rw [if_neg e]
    exact .inl rfl
theorem sc_there : FnScope ["line", "labels", "functions", "label", "name"] ["line", "labels", "functions"] (defScope s_names_are_there) := ⟨rfl, rfl, rfl, by decide +kernel, rfl, by decide +kernel, by decide +kernel⟩
def sp_there (K : PySem.W.Frag) : Sp := fun vs H Q _ => ∃ v d la fa ls fs, vs = [v, .ref la, .ref fa] ∧ D K H v d ∧ isLineD d = true ∧ H la = some (.dK ls) ∧ H fa = some (.dK fs) ∧ ∀ r H', Ex H H' → r = .bl (thereD ls fs d) → Q r H'
/-- x is None or x in (a dict) -/
theorem re_noneOr {X : Cx} {x x' : Expr} {o : Expr} {σ : L2.St} {H : Hp} {Q : VK} {p1 p2 p3 pos : Pos} {j} (hu : X.A.units + 1 < cLine) {v : V} {d : PyData} {a : Addr} {kvs : List (Key × V)} (hd : D X.K H v d) (hs : d = .none ∨ ∃ s, d = .str s) (ha : H a = some (.dK kvs))
    (hx : ∀ Q : VK, Q v H → RE X x σ H Q) (hx' : ∀ Q : VK, Q v H → RE X x' σ H Q) (ho : ∀ Q : VK, Q (.ref a) H → RE X o σ H Q) (q : Q (.bl (hasK kvs d)) H) (hm : behindInMarks .In o = false := by rfl) (hm2 : behindInMarks .Is (.Constant .none j p3) = false := by first | exact nobehind _ (by decide) (by decide) | rfl) : RE X (.BoolOp .Or [.Compare x [.Is] [.Constant .none j p3] p1, .Compare x' [.In] [o] p2] pos) σ H Q := by
  rcases hs with rfl | ⟨s, rfl⟩
  · cases hd
    exact re_or (re_cmp op_isN (hx _ (re_non ⟨rfl, true, by rw [decide_eq_true rfl], ifT q⟩)) hm2)
  · cases hd
    refine re_or (re_cmp op_isN (hx _ (re_non ⟨rfl, false, by rw [decide_eq_false (fun e => nomatch e)], ifF (re_one (re_din hu (hx' _ (ho _ ⟨a, kvs, .inr s, rfl, ha, rfl, q⟩)) hm))⟩)) hm2)
theorem ok_there (F : Fun K "_names_are_there" "_names_are_there" s_names_are_there f fd) (c1 : Cl P w K mg base CX0 1 "named_label" (sp_named_label K)) (c2 : Cl P w K mg base CX0 1 "named_function" (sp_named_function K)) :
    FnOk P w K mg base CX0 2 f fd ["line", "labels", "functions"] (sp_there K) := by
  refine F.ok sc_there (fun vs H Q E h => ?_) (fun cdv A outer s H vs Q E hr h => ⟨RB _ _, pss_RB, ?_⟩)
  · obtain ⟨_, _, _, _, _, _, rfl, _⟩ := h; rfl
  obtain ⟨v, d, la, fa, ls, fs, rfl, hd, hl, hla, hfa, q⟩ := h
  refine rb_cons (rs_set 3 sc_there.nd (re_call c1 hr (ra_cons (re_var 0 rfl (ra_nil ⟨v, d, rfl, hd, hl, fun r H1 e1 h1 => ?_⟩)))))
  refine rb_cons (rs_set 4 sc_there.nd (re_call c2 hr (ra_cons (re_var 0 rfl (ra_nil ⟨v, d, rfl, hd.mono e1, hl, fun r2 H2 e2 h2 => ?_⟩)))))
  have e12 := e1.trans e2
  refine rb_one (rs_ret (re_and ?_))
  refine re_noneOr (hu_of hr) (h1.mono e2) (optS_nl hl) (e12 _ _ hla) (fun Q q => re_var 3 rfl q) (fun Q q => re_var 3 rfl q) (fun Q q => re_var 1 rfl q) ⟨_, rfl, ifB (fun e => ?_) fun e => ?_⟩
  · refine re_one ?_
    refine re_noneOr (hu_of hr) h2 (optS_nf hl) (e12 _ _ hfa) (fun Q q => re_var 4 rfl q) (fun Q q => re_var 4 rfl q) (fun Q q => re_var 2 rfl q) (q _ _ e12 ?_)
    show V.bl _ = V.bl (hasK ls (nlD d) && _)
    rw [e]; rfl
  · refine q _ _ e12 ?_
    show V.bl _ = V.bl (hasK ls (nlD d) && _)
    rw [e]; rfl
end
end Fl
end
section
set_option Elab.async false
set_option linter.all false
set_option maxRecDepth 100000
set_option maxHeartbeats 2000000
namespace Fl
open PySem PySem.Spec PyProof.Rows L2 Fx
open Evl (Ex fresh_back)
/-! ### the first wrong line -/
def stackL : List Str := ["push", "pop", "read", "write"]
def wrongFrom (ls fs : List (Key × V)) (bare : Bool) : List PyData → Nat → List Str → Option Nat
  | [], _, _ => none
  | d :: r, i, m =>
    if isLineD d = false ∨ (bare = true ∧ wordD d ∈ stackL) then some i
    else if wordD d = "mark" ∧ labD d ∈ m then some i
    else if thereD ls fs d = false then some i
    else wrongFrom ls fs bare r (i + 1) (if wordD d = "mark" then m ++ [labD d] else m)
def firstWrong (fs : List (Key × V)) (bare : Bool) (ds : List PyData) : Option Nat := wrongFrom (marksV (ds.filter isLineD)) fs bare ds 0 []
def optV : Option Nat → V
  | none => .non
  | some i => .int (i : Nat)
structure AnyLines (d : PyData) : Prop where
  isl : (isL d || isT d) = true
  len : (itemsD d).length ≤ 1000
  short : ∀ x ∈ itemsD d, shortL x
theorem drop_at {α : Type} {ds : List α} {i : Nat} {d : α} (h : ds[i]? = some d) : ds.drop i = d :: ds.drop (i + 1) := by
  obtain ⟨hi, rfl⟩ := List.getElem?_eq_some_iff.mp h
  exact List.drop_eq_getElem_cons hi
theorem filter_take {α : Type} {ds : List α} {i : Nat} {d : α} (p : α → Bool) (h : ds[i]? = some d) : (ds.take (i + 1)).filter p = (ds.take i).filter p ++ (if p d = true then [d] else []) := by
  rw [take_snoc h, List.filter_append]
  congr 1
  by_cases hp : p d = true
  · rw [if_pos hp, List.filter_cons_of_pos hp]; rfl
  · rw [if_neg hp, List.filter_cons_of_neg hp]; rfl
section
variable {P : Program} {w : World} {K : PySem.W.Frag} {mg : Str → Option Value} {base : Heap} {f : Addr} {fd : FuncData}
theorem sc_first_wrong : FnScope ["lines", "functions", "bare", "line", "labels", "marked", "at"] ["lines", "functions", "bare"] (defScope s_first_wrong) := ⟨rfl, rfl, rfl, by decide +kernel, rfl, by decide +kernel, by decide +kernel⟩
def sp_first_wrong (K : PySem.W.Frag) : Sp := fun vs H Q _ => ∃ v d fa fs b, vs = [v, .ref fa, .bl b] ∧ D K H v d ∧ AnyLines d ∧ H fa = some (.dK fs) ∧ ∀ r H', Ex H H' → r = optV (firstWrong fs b (itemsD d)) → Q r H'
theorem ok_first_wrong (F : Fun K "_first_wrong" "_first_wrong" s_first_wrong f fd) (G : Gb mg) (T : Frm2 K w mg) (c1 : Cl P w K mg base CX0 1 "marks_of" (sp_marks_of K)) (c2 : Cl P w K mg base CX0 4 "is_line" (sp_is_line K)) (c3 : Cl P w K mg base CX0 2 "_names_are_there" (sp_there K)) :
    FnOk P w K mg base CX0 5 f fd ["lines", "functions", "bare"] (sp_first_wrong K) := by
  refine F.ok sc_first_wrong (fun vs H Q E h => ?_) (fun cdv A outer s H vs Q E hr h => ⟨RB _ _, pss_RB, ?_⟩)
  · obtain ⟨_, _, _, _, _, rfl, _⟩ := h; rfl
  obtain ⟨v, d, fa, fs, b, rfl, hd, hl, hfa, q⟩ := h
  obtain ⟨sa, mS, hS⟩ := T.stackW
  generalize eds : itemsD d = ds at *
  refine rb_cons (rs_set 4 sc_first_wrong.nd (re_call c1 hr (ra_cons ?_)))
  refine re_lcIf (own := [("line", 3)]) (g := gName 3) rfl sc_first_wrong.nd (blkOk_by (N := ["lines", "functions", "bare", "line", "labels", "marked", "at"]) (sc := defScope s_first_wrong) (by decide +kernel)) (fun _ _ _ _ _ => pg_name (i := 3) sc_first_wrong.nd rfl (Or.inl rfl)) good_name ?_
  refine ri_data hd hl.isl fun J Gx xs wk hG ha => re_var 0 rfl ⟨rfl, Ex.refl _, _, _, _, fun i ys => DA K H ys ((ds.take i).filter isLineD), wk, ?_, hG, .nil, ?_, ?_⟩
  · rw [ha.length]; exact Nat.le_trans hl.len (by decide)
  · rintro i x H2 H3 hi e2 ⟨rfl, hx⟩
    obtain ⟨dx, hdx, hxx⟩ := ha.getV hx
    rw [eds] at hdx
    refine ⟨Ex.refl _, rfl, Ex.refl _, fun s0 H0 C cl fp => rt_val (re_call c2 hr (ra_cons (re_var 3 rfl (ra_nil ⟨x, dx, rfl, hxx.mono e2, hl.short _ (by rw [eds]; exact List.mem_of_getElem? hdx), fun r H' e' h' => ⟨_, h', e', fun hb s0 H0 C cl fp => re_var 3 rfl ⟨Ex.refl _, fun acc hacc => ?_⟩, fun hb acc hacc => ?_⟩⟩))))⟩
    · show DA K H _ ((ds.take (i + 1)).filter isLineD)
      rw [filter_take isLineD hdx, if_pos hb]
      exact hacc.app (.cons hxx .nil)
    · show DA K H _ ((ds.take (i + 1)).filter isLineD)
      rw [filter_take isLineD hdx, if_neg (by rw [hb]; exact Bool.false_ne_true), List.append_nil]
      exact hacc
  intro p ys H2 hp e2 h2 hlen hys
  rw [show xs.length = ds.length from ha.length.trans (by rw [eds]), List.take_length] at hys
  refine ra_nil ⟨.ref p, .list (ds.filter isLineD), rfl, .lst (.inl (.inl h2)) (hys.mono e2), ⟨rfl, ?_, fun x hx => (List.mem_filter.mp hx).2⟩, fun r H3 e3 h3 => ?_⟩
  · exact Nat.le_trans (List.length_filter_le ..) (by have := hl.len; rw [eds] at this; exact this)
  obtain ⟨lp, rfl, hlp⟩ := h3
  have hlp : H3 lp = some (.dK (marksV (ds.filter isLineD))) := hlp
  have e13 := e2.trans e3
  refine rb_cons (rs_set 5 sc_first_wrong.nd (re_dnew fun mp H4 hmp e4 h4 => ?_))
  have e14 := e13.trans e4
  have nmp : H mp = none := fresh_back e13 hmp
  have nlm : lp ≠ mp := fun z => by rw [z, hmp] at hlp; exact (Option.some_ne_none _ hlp.symm).elim
  generalize els : marksV (ds.filter isLineD) = ls at *
  refine rb_cons ?_
  refine rs_for (g := gTup K 2 (gCons (gName 6) (gCons (gName 3) gNil))) PassesOwn.never rfl (pg_tup rfl (pgs_cons (pg_name (i := 6) sc_first_wrong.nd rfl (Or.inl rfl)) (pgs_cons (pg_name (i := 3) sc_first_wrong.nd rfl (Or.inl rfl)) pgs_nil))) good_tup2 ?_
  refine ri_enumD0 e14 hd hl.isl G.enumerate fun J2 Gx2 xs2 wk2 hG2 ha2 => re_var 0 rfl ⟨rfl, Ex.refl _, _, _, _, fun i σ' H' => ∃ L A' mk m, σ' = [some v, some (.ref fa), some (.bl b), L, some (.ref lp), some (.ref mp), A'] ∧ Ex H H' ∧ Ex H3 H' ∧ H' mp = some (.dK mk) ∧ mk.length ≤ i ∧ (∀ s : Str, (valV mk (.inr s)).isSome = decide (s ∈ m)) ∧ firstWrong fs b ds = wrongFrom ls fs b (ds.drop i) i m, wk2, ?_, ?_, ?_, ?_⟩
  · refine ⟨_, _, [], [], rfl, e14, e4, h4, Nat.le_refl _, fun s => rfl, ?_⟩
    unfold firstWrong
    rw [els, List.drop_zero]
  · rintro i σ' H' hi ⟨_, _, _, _, _, eH, _⟩
    exact hG2 H' eH
  · rintro i x σ' Ha Hb hi ⟨L, A', mk, m, rfl, eH, e3a, hmk, hml, hmm, hfw⟩ ⟨t, x, y, rfl, hT, rfl, hx, hy⟩
    obtain rfl := Option.some.inj hx
    obtain ⟨dy, hdy, hyy⟩ := ha2.getV hy
    rw [eds] at hdy
    have et : Ex Ha (upd Ha t (.tup [V.int (i : Nat), y])) := Ex.new hT
    refine ⟨t, [V.int (i : Nat), y], rfl, .inl (.inl upd_same), rfl, _, [y], rfl, y, [], rfl, rfl, ?_⟩
    have eHb := eH.trans et
    have e3b := e3a.trans et
    have hmkb := et _ _ hmk
    generalize upd Ha t (.tup [V.int (i : Nat), y]) = Hb at *
    have hyd := hyy.mono eHb
    have hshort : shortL dy := hl.short _ (by rw [eds]; exact List.mem_of_getElem? hdy)
    have hstep : firstWrong fs b ds = (if isLineD dy = false ∨ (b = true ∧ wordD dy ∈ stackL) then some i
      else if wordD dy = "mark" ∧ labD dy ∈ m then some i
      else if thereD ls fs dy = false then some i
      else wrongFrom ls fs b (ds.drop (i + 1)) (i + 1) (if wordD dy = "mark" then m ++ [labD dy] else m)) := by rw [hfw, drop_at hdy]; rfl
    refine rb_cons (rs_ifJ (fun σ' H' => σ' = [some v, some (.ref fa), some (.bl b), some y, some (.ref lp), some (.ref mp), some (.int (i : Nat))] ∧ Ex Hb H' ∧ isLineD dy = true ∧ ¬ (isLineD dy = false ∨ (b = true ∧ wordD dy ∈ stackL))) ?_ ?_)
    · refine rt_w (rw_or (rt_not (rt_val (re_call c2 hr (ra_cons (re_var 3 rfl (ra_nil ⟨y, dy, rfl, hyd, hshort, fun r H5 e5 h5 => ⟨_, h5, ifB (fun e => ?_) fun e => ?_⟩⟩)))))))
      · refine ifT (rb_one (rs_ret (re_var 6 rfl (q _ _ (eHb.trans e5) ?_))))
        have e' : isLineD dy = false := by
          cases z : isLineD dy with
          | false => rfl
          | true => rw [z] at e; exact Bool.noConfusion e
        show V.int (i : Nat) = optV (firstWrong fs b ds)
        rw [hstep, if_pos (.inl e')]; rfl
      have hly : isLineD dy = true := by
        cases z : isLineD dy with
        | true => rfl
        | false => rw [z] at e; exact Bool.noConfusion e
      refine rw_or1 (rt_w (rw_and (rt_val (re_var 2 rfl ⟨b, rfl, ifB (fun eb => ?_) fun eb => ?_⟩))))
      · refine rw_and1 (rt_in (ws := stackL) (re_word (re_var 3 rfl ⟨dy, hyd.mono e5, hly, _, rfl, re_glob (v := .ref sa) mS rfl ⟨sa, rfl, hS _, ifB (fun es => ?_) fun es => ?_⟩⟩)))
        · refine rb_one (rs_ret (re_var 6 rfl (q _ _ (eHb.trans e5) ?_)))
          show V.int (i : Nat) = optV (firstWrong fs b ds)
          rw [hstep, if_pos (.inr ⟨eb, of_decide_eq_true es⟩)]; rfl
        · exact rb_nil ⟨rfl, e5, hly, fun z => by
            rcases z with z | z
            · rw [hly] at z; exact Bool.noConfusion z
            · exact of_decide_eq_false es z.2⟩
      · exact ifF (rb_nil ⟨rfl, e5, hly, fun z => by
            rcases z with z | z
            · rw [hly] at z; exact Bool.noConfusion z
            · rw [eb] at z; exact Bool.noConfusion z.1⟩)
    rintro σ' H5 ⟨rfl, e5, hly, hno⟩
    rw [if_neg hno] at hstep
    refine rb_cons (rs_ifJ (fun σ' H' => σ' = [some v, some (.ref fa), some (.bl b), some y, some (.ref lp), some (.ref mp), some (.int (i : Nat))] ∧ Ex H H' ∧ Ex H3 H' ∧ ¬ (wordD dy = "mark" ∧ labD dy ∈ m) ∧ ∃ mk', H' mp = some (.dK mk') ∧ mk'.length ≤ i + 1 ∧ ∀ s : Str, (valV mk' (.inr s)).isSome = decide (s ∈ (if wordD dy = "mark" then m ++ [labD dy] else m))) ?_ ?_)
    · refine rt_cmp op_eq (re_word (re_var 3 rfl ⟨dy, hyd.mono e5, hly, re_str ⟨rfl, _, rfl, ?_⟩⟩))
      rw [eqK]
      by_cases hw : wordD dy = "mark"
      · rw [decide_eq_true hw]
        have part : ∀ (u : V), D K H5 u (partD 1 dy) → fitsD "word" (partD 1 dy) = true → u = .str (labD dy) := fun u hu hf => by
          rw [mark_lab hf] at hu
          cases hu
          rfl
        refine ifT (rb_cons (rs_if (rt_din (hu_of hr) (re_part1 (re_var 3 rfl ⟨dy, _, _, _, hyd.mono e5, hly, hw, form_mark, rfl, fun u hu hf => re_var 5 rfl ⟨mp, mk, .inr (labD dy), rfl, e5 _ _ hmkb, part u hu hf, ?_⟩⟩)))))
        rw [hmm]
        refine ifB (fun em => ?_) fun em => ?_
        · refine rb_one (rs_ret (re_var 6 rfl (q _ _ (eHb.trans e5) ?_)))
          show V.int (i : Nat) = optV (firstWrong fs b ds)
          rw [hstep, if_pos ⟨hw, of_decide_eq_true em⟩]; rfl
        · refine rb_nil (rb_one (rs_dput (hu_of hr) (re_bl (re_var 5 rfl (re_part1 (re_var 3 rfl ⟨dy, _, _, _, hyd.mono e5, hly, hw, form_mark, rfl, fun u hu hf => ⟨mp, mk, .inr (labD dy), rfl, e5 _ _ hmkb, part u hu hf, ?_, ?_⟩⟩))))))
          · exact Nat.lt_of_lt_of_le (show mk.length < 100000 by have h1 := ha2.length; have h2 := hl.len; omega) (by decide)
          · refine ⟨rfl, ex_mut (eHb.trans e5) nmp, ?_, fun z => of_decide_eq_false em z.2, _, upd_same, Nat.le_trans (length_putK _ _ _) (by omega), fun s => ?_⟩
            · exact ex_mut (e3b.trans e5) hmp
            · rw [val_put, if_pos hw]
              by_cases es : s = labD dy
              · rw [if_pos (by rw [es])]
                rw [decide_eq_true (by rw [es]; exact List.mem_append_right _ (List.mem_singleton.mpr rfl))]
                rfl
              · rw [if_neg (fun z => es (Sum.inr.inj z)), hmm]
                exact decide_eq_decide.mpr ⟨fun z => List.mem_append_left _ z, fun z => by
                  rcases List.mem_append.mp z with z | z
                  · exact z
                  · exact absurd (List.mem_singleton.mp z) es⟩
      · rw [decide_eq_false hw]
        exact ifF (rb_nil ⟨rfl, eHb.trans e5, e3b.trans e5, fun z => hw z.1, mk, e5 _ _ hmkb, by omega, fun s => by rw [if_neg hw]; exact hmm s⟩)
    rintro σ' H6 ⟨rfl, e6, e36, hno2, mk', hmk', hml', hmm'⟩
    rw [if_neg hno2] at hstep
    refine rb_one (rs_if (rt_not (rt_val (re_call c3 hr (ra_cons (re_var 3 rfl (ra_cons (re_var 4 rfl (ra_cons (re_var 1 rfl (ra_nil ⟨y, dy, lp, fa, ls, fs, rfl, hyy.mono e6, hly, e36 _ _ hlp, e6 _ _ hfa, fun r H7 e7 h7 => ⟨_, h7, ifB (fun e => ?_) fun e => ?_⟩⟩)))))))))))
    · have e' : thereD ls fs dy = false := by
        cases z : thereD ls fs dy with
        | false => rfl
        | true => rw [z] at e; exact Bool.noConfusion e
      refine rb_one (rs_ret (re_var 6 rfl (q _ _ (e6.trans e7) ?_)))
      show V.int (i : Nat) = optV (firstWrong fs b ds)
      rw [hstep, if_pos e']; rfl
    · have e' : ¬ thereD ls fs dy = false := fun z => by rw [z] at e; exact Bool.noConfusion e
      rw [if_neg e'] at hstep
      exact rb_nil ⟨_, _, mk', _, rfl, e6.trans e7, e36.trans e7, e7 _ _ hmk', hml', hmm', hstep⟩
  · rintro σ' H' ⟨L, A', mk, m, rfl, eH, e3a, hmk, hml, hmm, hfw⟩
    refine rb_one (rs_ret (re_non (q _ _ eH ?_)))
    rw [hfw, show ds.drop xs2.length = [] from List.drop_of_length_le (by rw [ha2.length, eds]; exact Nat.le_refl _)]; rfl
end
end Fl
end
section
set_option Elab.async false
set_option linter.all false
set_option maxRecDepth 100000
set_option maxHeartbeats 2000000
namespace Fx
open PySem PySem.Spec PyProof.Rows L2
open Evl (Ex fresh_back)
section
variable {X : Cx} {e tg iter : Expr} {σ : L2.St} {H : Hp} {Q : VK} {R : It → Hp → Prop} {apos cpos : Pos} {elts : List Expr} {kk : Nat} {tpos : Pos}
theorem re_lock {d : Addr} {u : HO} (hd : H d = some u) (hm : Mut (some u)) (h : ∀ od, RE X e σ (upd H d (.frz od u)) fun v H' => H' d = some (.frz od u) ∧ Q v (upd H' d u)) : RE X e σ H Q := re_of (pe_lock pe_RE) ⟨d, u, hd, hm, h⟩
theorem ri_items (h : RE X e σ H fun x H1 => ∃ d o kvs, x = .ref d ∧ H1 d = some (.frz o (.dK kvs)) ∧ R (Iti d o kvs) H1) (base : attributeBase e (Str.ofString "items") X.env (eval e X.env) = eval e X.env := by rfl) (line : (apos.endLine == cpos.line) = true := by rfl) :
    RI X (.Tuple elts kk tpos) (.Call (.Attribute e "items" apos) [] [] cpos) σ H R := ri_of (pi_items pe_RE base line) h
end
theorem has_key {K : PySem.W.Frag} {H : Hp} (z : Str) : ∀ {kvs : List (Key × V)} {es : List (PyData × PyData)}, DK K H kvs es → (valV kvs (.inr z)).isSome = es.any fun e => strIs z e.1
  | _, _, .nil => rfl
  | _, _, .cons (k := k) (v := v) (vs := r) a t => by
    have ih := has_key z t
    rw [List.any_cons, ← ih]
    unfold valV
    rw [List.find?_cons]
    by_cases e : k = .inr z
    · subst e
      rw [show decide ((Sum.inr z, v).1 = (Sum.inr z : Key)) = true from decide_eq_true rfl]
      show true = (decide (z = z) || _)
      rw [decide_eq_true rfl, Bool.true_or]
    · rw [show decide ((k, v).1 = (Sum.inr z : Key)) = false from decide_eq_false e]
      have e2 : strIs z (kD k) = false := by
        cases k with
        | inl i => rfl
        | inr x => exact decide_eq_false fun y => e (by rw [y])
      show _ = (strIs z (kD k) || _)
      rw [e2, Bool.false_or]
end Fx
namespace Fl
open PySem PySem.Spec PyProof.Rows L2 Fx
open Evl (Ex fresh_back)
def entOk (e : PyData × PyData) : Bool := isWordD e.1 && isFilledD e.2
def areF : PyData → Bool
  | .dict es => decide (1 ≤ es.length) && decide (es.length ≤ 24) && (es.any fun e => strIs "main" e.1) && es.all entOk
  | _ => false
def shortF : PyData → Prop
  | .dict es => ∀ e ∈ es, shortS e.1
  | _ => True
theorem isD_dict {d : PyData} (h : isD d = true) : ∃ z, d = .dict z := by
  cases d with
  | dict z => exact ⟨z, rfl⟩
  | _ => exact absurd (show false = true from h) Bool.false_ne_true
section
variable {P : Program} {w : World} {K : PySem.W.Frag} {mg : Str → Option Value} {base : Heap} {f : Addr} {fd : FuncData}
theorem sc_are_functions : FnScope ["value", "name", "lines"] ["value"] (defScope s_are_functions) := ⟨rfl, rfl, rfl, by decide +kernel, rfl, by decide +kernel, by decide +kernel⟩
def sp_are_functions (K : PySem.W.Frag) : Sp := fun vs H Q _ => ∃ v d, vs = [v] ∧ D K H v d ∧ shortF d ∧ (∀ a o kvs, v = .ref a → H a ≠ some (.frz o (.dK kvs))) ∧ ∀ r H', Ex H H' → r = .bl (areF d) → Q r H'
theorem ok_are_functions (F : Fun K "_are_functions" "_are_functions" s_are_functions f fd) (G : Gb mg) (c1 : Cl P w K mg base CX0 1 "is_word" (sp_is_word K)) (c2 : Cl P w K mg base CX0 2 "is_filled_list" (sp_is_filled_list K)) :
    FnOk P w K mg base CX0 3 f fd ["value"] (sp_are_functions K) := by
  refine F.ok sc_are_functions (fun vs H Q E h => ?_) (fun cdv A outer s H vs Q E hr h => ⟨RB _ _, pss_RB, ?_⟩)
  · obtain ⟨_, _, rfl, _⟩ := h; rfl
  obtain ⟨v, d, rfl, hd, hs, hz, q⟩ := h
  refine rb_cons (rs_if (rt_w (rw_or (rt_not (rt_val (re_isi kit_D G.isinstance G.dict (re_var 0 rfl ⟨d, hd, _, rfl, ifB (fun e => ?_) fun e => ?_⟩)))))))
  · refine ifT (rb_one (rs_ret (re_bl (q _ _ (Ex.refl _) ?_))))
    cases d with
    | dict x => exact absurd (show (false : Bool) = true from e) Bool.false_ne_true
    | _ => rfl
  obtain ⟨es, rfl⟩ : ∃ es, d = .dict es := isD_dict (by cases z : isD d with | true => rfl | false => rw [z] at e; exact Bool.noConfusion e)
  cases hd with
  | dic ha hk =>
  rename_i a kvs
  have hA : H a = some (.dK kvs) := by
    rcases ha with ha | ⟨o, ha⟩
    · exact ha
    · exact absurd ha (hz a o kvs rfl)
  have hlen := hk.length
  refine rw_or (rt_not (rt_chain op_le op_le (re_int (re_cb call_lenD G.len (ra_cons (re_var 0 rfl (ra_nil ⟨a, kvs, rfl, hA, _, _, rfl, rfl, _, rfl, ?_⟩)))))))
  refine ifB (fun e1 => ?_) fun e1 => ?_
  · have e1 := of_decide_eq_true e1
    refine re_gint G.funs ⟨_, _, rfl, rfl, _, rfl, ?_⟩
    by_cases e2 : (kvs.length : Int) ≤ 24
    · rw [decide_eq_true e2]
      refine ifF (rw_or1 (rt_dnin (hu_of hr) (re_str (re_var 0 rfl ⟨a, kvs, .inr "main", rfl, hA, rfl, ?_⟩))))
      rw [has_key "main" hk]
      have h8 : areF (.dict es) = ((es.any fun e => strIs "main" e.1) && es.all entOk) := by
        show (decide _ && decide _ && _ && _) = _
        rw [decide_eq_true (show 1 ≤ es.length by omega), decide_eq_true (show es.length ≤ 24 by omega)]
        rfl
      refine ifB (fun em => ?_) fun em => ?_
      · refine rb_one (rs_ret (re_bl (q _ _ (Ex.refl _) ?_)))
        rw [h8]
        cases z : es.any fun e => strIs "main" e.1 with
        | true => rw [z] at em; exact Bool.noConfusion em
        | false => rfl
      have em : (es.any fun e => strIs "main" e.1) = true := by
        cases z : es.any fun e => strIs "main" e.1 with
        | true => rfl
        | false => rw [z] at em; exact Bool.noConfusion em
      rw [em, Bool.true_and] at h8
      refine rb_nil (rb_one (rs_ret (re_cb (cr_all rfl) G.all (ra_cons (re_lock hA trivial fun od => ?_)))))
      have hz1 : Ez H (upd H a (.frz od (.dK kvs))) := Ez.lock hA (fun o u' z => by cases z)
      refine re_lc (own := [("name", 1), ("lines", 2)]) (g := gTup K 2 (gCons (gName 1) (gCons (gName 2) gNil))) rfl sc_are_functions.nd (blkOk_by (N := ["value", "name", "lines"]) (sc := defScope s_are_functions) (by decide +kernel))
        (fun _ _ _ _ _ => pg_tup rfl (pgs_cons (pg_name (i := 1) sc_are_functions.nd rfl (Or.inl rfl)) (pgs_cons (pg_name (i := 2) sc_are_functions.nd rfl (Or.inl rfl)) pgs_nil))) good_tup2 ?_
      refine ri_items (re_var 0 rfl ⟨a, od, kvs, rfl, upd_same, _, _, _, fun i ys => ys = ((es.take i).map fun e => V.bl (entOk e)), walk_items, by omega, fun H' e => e _ _ upd_same, rfl, ?_, ?_⟩)
      · rintro i x H2 H3 hi e2 ⟨t, x, y, rfl, hT, rfl, hx, hy⟩
        obtain ⟨kv, hkv, rfl⟩ := Option.map_eq_some_iff.mp (show (kvs[i]?.map fun kv => kV kv.1) = some x from hx)
        have hy : kvs[i]?.map Prod.snd = some y := hy
        rw [hkv] at hy
        obtain rfl := Option.some.inj hy
        obtain ⟨k, v'⟩ := kv
        obtain ⟨dv, hdv, hvv⟩ := hk.getV hkv
        have e3 : Ex H2 (upd H2 t (.tup [kV k, v'])) := Ex.new hT
        have hvv' := (hvv.monoZ hz1).mono (e2.trans e3)
        have hkk : D K (upd H2 t (.tup [kV k, v'])) (kV k) (kD k) := kV_kD k
        refine ⟨e3, t, [kV k, v'], rfl, .inl (.inl upd_same), rfl, kV k, [v'], rfl, v', [], rfl, rfl, rfl, Ex.refl _, fun s0 H0 C cl fp => ?_⟩
        have fin : ∀ b : Bool, b = entOk (kD k, dv) → ∀ acc, acc = ((es.take i).map fun e => V.bl (entOk e)) → acc ++ [V.bl b] = ((es.take (i + 1)).map fun e => V.bl (entOk e)) := fun b hb acc hacc => by
          rw [take_snoc hdv, List.map_append, hb, hacc]; rfl
        refine re_and (re_call c1 hr (ra_cons (re_var 1 rfl (ra_nil ⟨kV k, kD k, rfl, hkk, hs _ (List.mem_of_getElem? hdv), fun r H5 e5 h5 => ⟨_, h5, ifB (fun eb => ?_) fun eb => ?_⟩⟩))))
        · refine re_one (re_call c2 hr (ra_cons (re_var 2 rfl (ra_nil ⟨v', dv, rfl, hvv'.mono e5, trivial, fun r2 H6 e6 h6 => ⟨e5.trans e6, ?_⟩⟩))))
          subst h6
          refine fin _ ?_
          show _ = (isWordD _ && isFilledD _)
          rw [eb, Bool.true_and]
        · refine ⟨e5, fin _ ?_⟩
          show _ = (isWordD _ && isFilledD _)
          rw [eb, Bool.false_and]
      · rintro p ys H2 hp e2 h2 hl2 rfl
        have npa : p ≠ a := fun z => by rw [z, upd_same] at hp; exact (Option.some_ne_none _ hp).elim
        refine ⟨e2 _ _ upd_same, ra_nil ⟨p, es.map entOk, rfl, .inl (.inl ?_), q _ _ (ex_unlock hA e2) ?_⟩⟩
        · rw [upd_ne npa, h2, hlen, List.take_length, List.map_map]; rfl
        · rw [h8, List.all_map]; rfl
    · rw [decide_eq_false e2]
      refine ifT (rb_one (rs_ret (re_bl (q _ _ (Ex.refl _) ?_))))
      show V.bl _ = V.bl (decide _ && decide _ && _ && _)
      rw [decide_eq_false (show ¬ es.length ≤ 24 by omega), Bool.and_false, Bool.false_and, Bool.false_and]
  · refine ⟨_, rfl, ifT (rb_one (rs_ret (re_bl (q _ _ (Ex.refl _) ?_))))⟩
    have e1 : ¬ (1 : Int) ≤ kvs.length := fun z => by rw [decide_eq_true z] at e1; exact Bool.noConfusion e1
    show V.bl _ = V.bl (decide _ && decide _ && _ && _)
    rw [decide_eq_false (show ¬ 1 ≤ es.length by omega), Bool.false_and, Bool.false_and, Bool.false_and]
end
end Fl
end
section
set_option Elab.async false
set_option linter.all false
set_option maxRecDepth 100000
set_option maxHeartbeats 2000000
/-! list(d.values()). -/
namespace Fx
open PySem PySem.Spec PyProof.Rows L2
open Evl (Ex fresh_back)
theorem itemsOf_list {P : Nat → Value → Prop} {acc : Array Value} {out : List Value} (h : ItemsOf P acc out.length) (hP : ∀ j v, P j v → out[j]? = some v) : acc.toList = out := items_out h hP
theorem kv_vals : ∀ {kvs : List (Key × V)} {vs : List (Key × Value)}, KV kvs vs → Vals (kvs.map (·.2)) (vs.map (·.2))
  | _, _, .nil => .nil
  | _, _, .cons a t => .cons a.2 (kv_vals t)
section
variable {X : Cx} {e : Expr} {σ : L2.St} {H : Hp} {Q : VK}
theorem re_listVals {p apos cpos pos : Pos} (hc : X.calm = true) (hm : X.mg "list" = none) (h : RE X e σ H fun x H1 => ∃ d kvs, x = .ref d ∧ H1 d = some (.dK kvs) ∧ ∀ p H2, H1 p = none → Ex H1 H2 → H2 p = some (.lst (kvs.map (·.2))) → Q (.ref p) H2)
    (hg : Gl X "list" := by rfl) (hv : bootBuiltins "list" = some (.type "list") := by decide +kernel) (base : attributeBase e "values" X.env (eval e X.env) = eval e X.env := by rfl) (line : (apos.endLine == cpos.line) = true := by rfl)
    (hs : starEach [.Call (.Attribute e "values" apos) [] [] cpos] X.env = (false, eval (.Call (.Attribute e "values" apos) [] [] cpos) X.env) :: starEach [] X.env := by rfl) : RE X (.Call (.Name "list" p) [.Call (.Attribute e "values" apos) [] [] cpos] [] pos) σ H Q := by
  refine RE.made fun pins s I => ?_
  refine wpAny_Call_Name_kw (ld_blt I hg hm hv (PyProof.Rows.callWith_type1 ?_))
  rw [hs]
  refine Calls.spliced_cons (wpAny_Call_method base rfl line PySem.F.plainAttrs_dict PySem.F.slot_dict_values PySem.F.type_dict_values (thn (h.run pins s I) fun u s1 ⟨x, H1, I1, rx, d, kvs, ex, hd, q⟩ => ?_))
  subst ex
  obtain rfl : u = Value.ref d := rx
  obtain ⟨hz, hs0, vs, kv, hdo⟩ := I1.hok d _ hd
  obtain ⟨ep, hat⟩ := hdo.dictAt
  have lk := Paired.length kv
  have I2 : L2.Inv X pins σ H1 { s1 with heap := s1.heap.push { cls := .type "dict_values", data := .fields #[.ref d] } } := I1.kept fun b ob q => Heap.get?_push_of_some _ q
  refine ⟨hdo.typeIs, hdo.mapOf.noDict, method_meetsIn PySem.F.slot_dict_values PySem.F.entry_dict_values rfl (PySem.evalArgs_none ⟨rfl, hdo.typeIs, PySem.F.args_dict_values_1 _, _, meets_dict_values (mixKind X.prog X.w) d hs0, ⟨vs, hdo⟩, Calls.spliced_nil ?_⟩)⟩
  have ok : (s1.heap.push { cls := .type "dict_values", data := .fields #[.ref d] }).IsValuesView s1.heap.objs.size d ∧ Heap.DictAt (mixKind X.prog X.w) (s1.heap.push { cls := .type "dict_values", data := .fields #[.ref d] }) d vs ep := ⟨⟨_, Heap.get?_push_size s1.1 rfl, rfl, rfl⟩, hat.push _⟩
  refine PySem.W.kdl_call (s := { s1 with heap := s1.heap.push { cls := .type "dict_values", data := .fields #[.ref d] } }) (PySem.W.kdl_values (knd := mixKind X.prog X.w) (d := d) (r := s1.heap.objs.size) (kvs := vs) (ep := ep)) (I1.ok.hd hc) ok (by omega) ?_
  intro h' tk acc c hk hS hit
  have hacc : acc.toList = vs.map (·.2) := itemsOf_list (P := fun i v => ∃ k, vs[i]? = some (k, v)) (by rw [List.length_map]; exact hit) fun j v ⟨k, hj⟩ => by rw [List.getElem?_map, hj]; rfl
  generalize s1.heap.push { cls := .type "dict_values", data := .fields #[.ref d] } = hp at *
  have newS : H1 hp.objs.size = none := I2.hok.fresh (Nat.le_refl _)
  have e12 : Ex H1 (upd H1 hp.objs.size (.lst (kvs.map (·.2)))) := Ex.new newS
  refine ⟨.ref hp.objs.size, upd H1 hp.objs.size (.lst (kvs.map (·.2))), ?_, rfl, q _ _ newS e12 upd_same⟩
  refine Inv.call' I2 rfl { keep := fun b o q _ _ _ => hk b o q, slot := fun b o q _ _ _ => ⟨o.slots, hk b o q⟩, free := fun b o q n _ => ?_, there := fun b o q _ => ⟨o, hk b o q⟩, tups := fun b xs q => e12 b _ q, frzs := fun b o u q => e12 b _ q, tbls := fun b ps q => ⟨#[], ?_⟩ } (fun b u q => ?_) I2.bare fun b z => absurd z List.not_mem_nil
  · rw [upd_ne (Nat.ne_of_lt (Heap.lt_size q))]; exact n
  · rw [Array.append_empty]; exact e12 b _ q
  · by_cases hb : b = hp.objs.size
    · subst hb
      rw [upd_same] at q
      cases q
      refine ⟨by rw [List.length_map]; exact hz, acc.toList, c, ?_, ?_⟩
      · rw [hacc]; exact kv_vals kv
      · rw [Array.toArray_toList]; exact hS
    · rw [upd_ne hb] at q
      exact (I2.hok b u q).stay (fun d v x y => hk d v y) (fun d y => e12 _ _ y) fun d xs y => e12 _ _ y
end
end Fx
end
section
set_option Elab.async false
set_option linter.all false
set_option maxRecDepth 100000
set_option maxHeartbeats 2000000
/-! xs.extend(a tuple), xs.pop(), xs.append(e), displays with stars. -/
namespace Fx
open PySem PySem.Spec PyProof.Rows L2
open Evl (Ex fresh_back)
open PySem.SeqAt
theorem list_extend_tup (l : Addr) (items : Array Value) (n : Nat) (b : Addr) (items2 : Array Value) (n2 : Nat) (dd : Option Addr) (sl : Array (Option Value)) (hlong : ¬(!items.isEmpty && Builtin.List.listTooLong (items.size + items2.size)) = true) (h2 : items.size + items2.size ≤ sizeLine + 1) :
    Meets (Builtin.«list.extend» ⟨[.ref l, .ref b], []⟩) (fun _ R s => s.heap.get? l = some { cls := .type "list", data := .seq items n } ∧ s.heap.get? b = some { cls := .type "tuple", dict := dd, data := .seq items2 n2, slots := sl } ∧
      R (.ok (.ret .none)) { s with heap := s.heap.update l (Obj.mapSeq fun x => x ++ items2) }) :=
  .of_wp fun prog w A R s h => by
    obtain ⟨hp, g, d, tk, os⟩ := s
    obtain ⟨hl, hb, h⟩ := h
    have hz' : (items ++ items2).size ≤ sizeLine + 1 := by rw [Array.size_append]; exact h2
    wp_walk using wpAny_loadPart' hl, wpAny_load hl, wpAny_loadPart' hb, wpAny_load hb
    have e : (Obj.mapSeq (fun x => x ++ items2) { cls := Value.type "list", data := Data.seq items n }).data.pastItsLine = none := by
      show (Data.seq (items ++ items2) _).pastItsLine = none
      simp only [Data.pastItsLine]
      rw [if_neg (by omega)]
    rw [e]
    exact wpAny_pure (wpAny_pure ⟨_, rfl, h⟩)
def rExtendT : V → List V → Hp → VK → Prop := fun x vs H Q => ∃ l b xs zs, x = .ref l ∧ vs = [.ref b] ∧ H l = some (.lst xs) ∧ H b = some (.tup zs) ∧ xs.length + zs.length ≤ sizeLine ∧ Q .non (upd H l (.lst (xs ++ zs)))
theorem mt_extendT {X : Cx} : MtM X "list.extend" rExtendT := by
  intro pins s σ H x vs v us Q I rx rv h
  obtain ⟨l, b, xs, zs, rfl, rfl, hH, hB, hz, q⟩ := h
  obtain rfl : v = Value.ref l := rx
  obtain ⟨u, rfl, ru⟩ := rv.one
  obtain rfl : u = Value.ref b := ru
  obtain ⟨z, its, n, r, hl, e⟩ := I.lstM hH
  obtain ⟨hzl, its2, r2, ⟨oc, od, dt, sl⟩, e2, hc, n2, hd⟩ := I.hok b _ hB
  have hc : oc = Value.type "tuple" := hc
  have hd : dt = Data.seq its2.toArray n2 := hd
  subst hc hd
  have hl2 : zs.length = its2.length := r2.length
  have hsz : its.toArray.size + its2.toArray.size ≤ sizeLine := by rw [List.size_toArray, List.size_toArray, ← hl, ← hl2]; exact hz
  have hlong : ¬ (!its.toArray.isEmpty && Builtin.List.listTooLong (its.toArray.size + its2.toArray.size)) = true := by rw [notLongL hsz, Bool.and_false]; exact Bool.false_ne_true
  refine call_meets PySem.F.slot_list_extend ⟨_, e, rfl⟩ PySem.F.entry_list_extend (PySem.F.args_list_extend_2 _ _) (list_extend_tup l its.toArray n b its2.toArray n2 od sl hlong (by omega)) ⟨e, e2, ?_⟩
  exact ⟨.non, upd H l (.lst (xs ++ zs)), I.lset hH e (by rw [List.append_toArray]) (r.append r2) (by rw [List.length_append]; exact hz), rfl, q⟩
section
variable {X : Cx} {o e a b : Expr} {es : List Expr} {σ : L2.St} {H : Hp} {Q : VK} {QA : List V → Hp → Prop} {D : Ends} {pos apos cpos p : Pos}
theorem ra_star (h : RE X e σ H fun x H1 => ∃ p xs, x = .ref p ∧ (SqT X.K H1 p xs ∨ SqL X.K H1 p xs) ∧ RA X es σ H1 fun ys H2 => QA (xs ++ ys) H2) (hs : starEach (.Starred e p :: es) X.env = (true, eval e X.env) :: starEach es X.env := by rfl) : RA X (.Starred e p :: es) σ H QA :=
  ra_of (StX.pa_star pe_RE pa_RA hs) h
end
end Fx
namespace Fx
open PySem PySem.Spec PyProof.Rows L2
open Evl (Ex fresh_back)
theorem ix_lt {X : Cx} : IxR X (fun x y H Q => (∃ p xs i v, x = .ref p ∧ y = .int i ∧ (SqL X.K H p xs ∨ SqT X.K H p xs) ∧ atI xs i = some v ∧ Q v H)) := by
  intro value slice pins s σ H x y v u Q I rx ry h hs
  obtain ⟨p, xs, i, w, e1, e2, h, ha, q⟩ := h
  rcases h with h | h
  · exact ix_list value slice pins s σ H x y v u Q I rx ry ⟨p, xs, i, w, e1, e2, h, ha, q⟩ hs
  · exact ix_tup value slice pins s σ H x y v u Q I rx ry ⟨p, xs, i, w, e1, e2, h, ha, q⟩ hs
section
variable {X : Cx} {o e a b : Expr} {es : List Expr} {σ : L2.St} {H : Hp} {Q : VK} {QA : List V → Hp → Prop} {D' : Ends} {pos apos cpos p : Pos}
/-- an item of a list or a tuple of data -/
theorem re_ixD (h : RE X a σ H fun x H1 => RE X b σ H1 fun y H2 => ∃ d i dx, D X.K H2 x d ∧ (isL d || isT d) = true ∧ y = .int ((i : Nat) : Int) ∧ (itemsD d)[i]? = some dx ∧ ∀ u, D X.K H2 u dx → Q u H2) (hs : PlainIx b := by exact fun _ _ => rfl) : RE X (.Subscript a b pos) σ H Q :=
  re_of (pe_ix ix_lt pe_RE pe_RE hs) (h.mono fun x H1 q0 => q0.mono fun y H2 ⟨d, i, dx, hd, hl, ey, hi, q⟩ => by
    clear q0
    cases hd with
    | lst sq ha =>
      obtain ⟨u, hu, hud⟩ := ha.get hi
      exact ⟨_, _, _, u, rfl, ey, .inl sq, atI_nat hu, q u hud⟩
    | tup sq ha =>
      obtain ⟨u, hu, hud⟩ := ha.get hi
      exact ⟨_, _, _, u, rfl, ey, .inr sq, atI_nat hu, q u hud⟩
    | _ => exact absurd (show false = true from hl) Bool.false_ne_true)
/-- the last one -/
theorem re_pop (h : RE X o σ H fun x H1 => ∃ l xs y, x = .ref l ∧ H1 l = some (.lst (xs ++ [y])) ∧ Q y (upd H1 l (.lst xs))) (base : attributeBase o "pop" X.env (eval o X.env) = eval o X.env := by rfl) (line : (apos.endLine == cpos.line) = true := by rfl) : RE X (.Call (.Attribute o "pop" apos) [] [] cpos) σ H Q :=
  re_of (pe_bm0 PySem.F.plainAttrs_list PySem.F.slot_list_pop PySem.F.type_list_pop mt_pop pe_RE base line) (h.mono fun x H1 ⟨l, xs, y, ex, hl, q⟩ => by
    subst ex
    refine ⟨.inl ⟨rfl, _, SqL.of hl⟩, l, xs ++ [y], y, rfl, rfl, hl, ?_, ?_⟩
    · rw [List.length_append]; simp
    · rw [List.dropLast_concat]; exact q)
theorem re_append (h : RE X o σ H fun x H1 => ∃ l, x = .ref l ∧ (∃ zs, H1 l = some (.lst zs)) ∧ RE X e σ H1 fun y H2 => ∃ xs, H2 l = some (.lst xs) ∧ xs.length < sizeLine ∧ Q .non (upd H2 l (.lst (xs ++ [y])))) (base : attributeBase o "append" X.env (eval o X.env) = eval o X.env := by rfl) (line : (apos.endLine == cpos.line) = true := by rfl)
    (few : (((backTo cpos (starEach [e] X.env)).all (fun x => !x.1) && (backToKw cpos (keywordEach [] X.env)).all (fun x => x.1.isSome)) && decide (([e] : List Expr).length + ([] : List Keyword).length + (if ([] : List Keyword).isEmpty = true then 0 else 1) < 30)) = true := by rfl)
    (h1 : starEach [e] X.env = (false, eval e X.env) :: starEach [] X.env := by rfl) : RE X (.Call (.Attribute o "append" apos) [e] [] cpos) σ H Q :=
  re_of (pe_bm PySem.F.plainAttrs_list PySem.F.slot_list_append PySem.F.type_list_append mt_append pe_RE pa_RA base few line h1 rfl) (h.mono fun x H1 ⟨l, ex, ⟨zs, hz⟩, q⟩ => by
    subst ex
    exact ⟨.inl ⟨rfl, _, SqL.of hz⟩, ra_cons (hs := h1) (q.mono fun y H2 ⟨xs, hl, hx, q⟩ => ra_nil ⟨l, xs, y, rfl, rfl, hl, hx, q⟩)⟩)
theorem re_extendT (h : RE X o σ H fun x H1 => ∃ l, x = .ref l ∧ (∃ zs, H1 l = some (.lst zs)) ∧ RE X e σ H1 fun y H2 => ∃ xs b zs, y = .ref b ∧ H2 l = some (.lst xs) ∧ H2 b = some (.tup zs) ∧ xs.length + zs.length ≤ sizeLine ∧ Q .non (upd H2 l (.lst (xs ++ zs)))) (base : attributeBase o "extend" X.env (eval o X.env) = eval o X.env := by rfl) (line : (apos.endLine == cpos.line) = true := by rfl)
    (few : (((backTo cpos (starEach [e] X.env)).all (fun x => !x.1) && (backToKw cpos (keywordEach [] X.env)).all (fun x => x.1.isSome)) && decide (([e] : List Expr).length + ([] : List Keyword).length + (if ([] : List Keyword).isEmpty = true then 0 else 1) < 30)) = true := by rfl)
    (h1 : starEach [e] X.env = (false, eval e X.env) :: starEach [] X.env := by rfl) : RE X (.Call (.Attribute o "extend" apos) [e] [] cpos) σ H Q :=
  re_of (pe_bm PySem.F.plainAttrs_list PySem.F.slot_list_extend PySem.F.type_list_extend mt_extendT pe_RE pa_RA base few line h1 rfl) (h.mono fun x H1 ⟨l, ex, ⟨zs, hz⟩, q⟩ => by
    subst ex
    exact ⟨.inl ⟨rfl, _, SqL.of hz⟩, ra_cons (hs := h1) (q.mono fun y H2 ⟨xs, b, zs, ey, hl, hb, hx, q⟩ => ra_nil ⟨l, b, xs, zs, rfl, by rw [ey], hl, hb, hx, q⟩)⟩)
end
end Fx
end
section
set_option Elab.async false
set_option linter.all false
set_option maxRecDepth 100000
set_option maxHeartbeats 2000000
namespace Fx
open PySem PySem.Spec PyProof.Rows L2
open Evl (Ex fresh_back)
theorem inV_ints (x : Int) : ∀ ws : List Int, inV (.int x) (ws.map V.int) = decide (x ∈ ws)
  | [] => rfl
  | w :: ws => by
    have ih := inV_ints x ws
    show (eqV (.int w) (.int x) || inV (.int x) (ws.map V.int)) = _
    rw [ih]
    show (decide (w = x) || _) = _
    by_cases e : w = x
    · subst e
      rw [decide_eq_true rfl, Bool.true_or, decide_eq_true List.mem_cons_self]
    · rw [decide_eq_false e, Bool.false_or]
      exact decide_eq_decide.mpr ⟨fun z => List.mem_cons_of_mem _ z, fun z => by
        rcases List.mem_cons.mp z with z | z
        · exact absurd z.symm e
        · exact z⟩
theorem flat_ints : ∀ ws : List Int, (ws.map V.int).all flatV = true
  | [] => rfl
  | w :: ws => flat_ints ws
section
variable {X : Cx} {a b : Expr} {σ : L2.St} {H : Hp} {QB : Bool → Hp → Prop} {pos : Pos}
theorem rt_ninI {ws : List Int} (h : RE X a σ H fun x H1 => ∃ z : Int, x = .int z ∧ RE X b σ H1 fun y H2 => ∃ p, y = .ref p ∧ SqT X.K H2 p (ws.map V.int) ∧ QB (!decide (z ∈ ws)) H2) (hm : behindInMarks .NotIn b = false := by rfl) : RT X (.Compare a [.NotIn] [b] pos) σ H QB :=
  rt_cmp op_notIn_seq (h.mono fun x H1 ⟨z, ex, q⟩ => q.mono fun y H2 ⟨p, ey, sq, q⟩ => ⟨p, _, ey, .inr sq, by rw [ex]; rfl, flat_ints ws, _, by rw [ex]; show V.bl (!inV _ _) = _; rw [inV_ints], q⟩) hm
end
end Fx
namespace Fl
open PySem PySem.Spec PyProof.Rows L2 Fx
open Evl (Ex fresh_back)
/-! ### where lines lead -/
def markN (ds : List PyData) : Nat → Str → Option Nat
  | 0, _ => none
  | i + 1, s => match ds[i]? with
    | some d => if wordD d = "mark" ∧ labD d = s then some i else markN ds i s
    | none => markN ds i s
theorem val_marks (ds : List PyData) (s : Str) : ∀ i, valV (marksTo ds i) (.inr s) = (markN ds i s).map fun n => V.int (n : Nat)
  | 0 => rfl
  | i + 1 => by
    have ih := val_marks ds s i
    show valV (match ds[i]? with | some d => _ | none => _) _ = (match ds[i]? with | some d => _ | none => _ : Option Nat).map _
    cases hd : ds[i]? with
    | none => exact ih
    | some d =>
      show valV (if wordD d = "mark" then _ else _) _ = Option.map _ (if _ then _ else _)
      by_cases hw : wordD d = "mark"
      · rw [if_pos hw, val_put]
        by_cases hs : labD d = s
        · rw [if_pos (by rw [hs]), if_pos ⟨hw, hs⟩]; rfl
        · rw [if_neg (fun z => hs (Sum.inr.inj z).symm), if_neg (fun z => hs z.2)]; exact ih
      · rw [if_neg hw, if_neg (fun z => hw z.1)]; exact ih
theorem markN_lt (ds : List PyData) (s : Str) : ∀ {i k}, markN ds i s = some k → k < i
  | 0, _, h => nomatch h
  | i + 1, k, h => by
    have h : (match ds[i]? with | some d => if wordD d = "mark" ∧ labD d = s then some i else markN ds i s | none => markN ds i s) = some k := h
    cases hd : ds[i]? with
    | none => rw [hd] at h; exact Nat.lt_succ_of_lt (markN_lt ds s h)
    | some d =>
      rw [hd] at h
      have h : (if wordD d = "mark" ∧ labD d = s then some i else markN ds i s) = some k := h
      by_cases c : wordD d = "mark" ∧ labD d = s
      · rw [if_pos c] at h; cases h; exact Nat.lt_succ_self _
      · rw [if_neg c] at h; exact Nat.lt_succ_of_lt (markN_lt ds s h)
def goalN (ds : List PyData) (d : PyData) : Nat := (markN ds ds.length (labD d)).getD 0
def behN (ds : List PyData) (i : Nat) : List Nat := if i + 1 < ds.length then [i + 1] else []
def leadsN (ds : List PyData) (i : Nat) : List Nat :=
  match ds[i]? with
  | none => []
  | some d =>
    if wordD d ∈ (["back", "tail", "stop"] : List Str) then []
    else if wordD d = "jump" then [goalN ds d]
    else if wordD d ∈ (["if", "unless"] : List Str) ∧ goalN ds d ∉ behN ds i then (if goalN ds d ≤ i then goalN ds d :: behN ds i else behN ds i ++ [goalN ds d])
    else behN ds i
/-- lines that are valid, and whose labels are there -/
structure Good (d : PyData) : Prop where
  isl : (isL d || isT d) = true
  pos : 0 < (itemsD d).length
  len : (itemsD d).length ≤ 60
  ok : ∀ x ∈ itemsD d, isLineD x = true
  lab : ∀ x ∈ itemsD d, hasK (marksV (itemsD d)) (nlD x) = true
theorem Good.lines {d : PyData} (g : Good d) : Lines d := ⟨g.isl, Nat.le_trans g.len (by decide), g.ok⟩
theorem word_part {d : PyData} (h : isLineD d = true) {w : Str} (hw : wordD d = w) (hf : forms.lookup w = some (["word"] : List Str)) : partD 1 d = .str (labD d) := by
  obtain ⟨w', xs, kinds, v⟩ := valid_of h
  have hw' : w' = w := by rw [← hw, v.eq]; rfl
  have hk : kinds = (["word"] : List Str) := Option.some.inj (v.form.symm.trans (by rw [hw']; exact hf))
  obtain ⟨x, hx, hf⟩ := v.at (i := 0) (k := "word") (by rw [hk]; rfl)
  obtain ⟨s, rfl, _⟩ := fits_word hf
  have e : partD 1 d = .str s := by
    rw [v.eq]
    show (PyData.str w' :: xs).getD 1 .none = _
    rw [List.getD_cons_succ, List.getD_eq_getElem?_getD, hx]; rfl
  unfold labD
  rw [e]
theorem Good.goal {d x : PyData} (g : Good d) (hx : x ∈ itemsD d) (hw : wordD x = "jump" ∨ wordD x = "if" ∨ wordD x = "unless") : valV (marksV (itemsD d)) (.inr (labD x)) = some (.int (goalN (itemsD d) x : Nat)) ∧ goalN (itemsD d) x < (itemsD d).length := by
  have hp : partD 1 x = .str (labD x) := by
    rcases hw with hw | hw | hw
    · exact word_part (g.ok x hx) hw form_jump
    · exact word_part (g.ok x hx) hw form_if
    · exact word_part (g.ok x hx) hw form_unless
  have h := g.lab x hx
  have e : nlD x = .str (labD x) := by unfold nlD; rw [if_pos hw, hp]
  rw [e] at h
  have h : (valV (marksV (itemsD d)) (.inr (labD x))).isSome = true := h
  unfold marksV at h ⊢
  rw [val_marks] at h ⊢
  unfold goalN
  cases hm : markN (itemsD d) (itemsD d).length (labD x) with
  | none => rw [hm] at h; exact absurd h (by decide)
  | some k => exact ⟨rfl, markN_lt _ _ hm⟩
theorem sort_one {ns : List Int} {a : Int} (h : ns.Perm [a]) : ns = [a] := List.perm_singleton.mp h
theorem sort_two {ns : List Int} {a b : Int} (h : ns.Perm [a, b]) (hs : ns.Pairwise (· ≤ ·)) (hab : a ≤ b) : ns = [a, b] := by
  have hl := h.length_eq
  match ns, hl with
  | [x, y], _ =>
    have hxy : x ≤ y := by
      have := List.pairwise_cons.mp hs
      exact this.1 y (List.mem_singleton.mpr rfl)
    have hx : x ∈ [a, b] := h.mem_iff.mp (List.mem_cons_self)
    rcases List.mem_cons.mp hx with rfl | hx
    · have := List.perm_singleton.mp ((List.perm_cons x).mp h)
      rw [this]
    · obtain rfl := List.mem_singleton.mp hx
      have h2 : [x, y].Perm [x, a] := h.trans (List.Perm.swap ..)
      have := List.perm_singleton.mp ((List.perm_cons x).mp h2)
      obtain rfl : y = a := List.cons.inj this |>.1
      have : x = y := Int.le_antisymm hxy hab
      rw [this]
abbrev intsV (ns : List Nat) : List V := ns.map fun n => V.int (n : Nat)
theorem intsV_map (ns : List Nat) : intsV ns = (ns.map fun n : Nat => (n : Int)).map V.int := by rw [List.map_map]; rfl
theorem sort_beh {ds : List PyData} {i g : Nat} {ns : List Int} (h : ns.Perm ((behN ds i ++ [g]).map fun n : Nat => (n : Int))) (hs : ns.Pairwise (· ≤ ·)) (hg : g ∉ behN ds i) : ns = (if g ≤ i then g :: behN ds i else behN ds i ++ [g]).map fun n : Nat => (n : Int) := by
  unfold behN at *
  by_cases hb : i + 1 < ds.length
  · rw [if_pos hb] at *
    by_cases hi : g ≤ i
    · rw [if_pos hi]
      exact sort_two (h.trans (List.Perm.swap ..)) hs (show ((g : Nat) : Int) ≤ ((i + 1 : Nat) : Int) by omega)
    · rw [if_neg hi]
      have : g ≠ i + 1 := fun z => hg (List.mem_singleton.mpr z)
      exact sort_two h hs (show ((i + 1 : Nat) : Int) ≤ ((g : Nat) : Int) by omega)
  · rw [if_neg hb] at *
    by_cases hi : g ≤ i
    · rw [if_pos hi]; exact sort_one h
    · rw [if_neg hi]; exact sort_one h
/-- line[1] of a line that names a label -/
theorem re_lab {X : Cx} {a : Expr} {σ : L2.St} {H : Hp} {Q : VK} {pos p : Pos} {j} (h : RE X a σ H fun x H1 => ∃ d, D X.K H1 x d ∧ isLineD d = true ∧ (wordD d = "jump" ∨ wordD d = "if" ∨ wordD d = "unless") ∧ Q (.str (labD d)) H1) : RE X (.Subscript a (.Constant (.int 1) j p) pos) σ H Q :=
  re_part1 (h.mono fun x H1 ⟨d, hd, hl, hw, q⟩ => by
    have fin : partD 1 d = .str (labD d) → ∀ u, D X.K H1 u (partD 1 d) → Q u H1 := fun e u hu => by
      rw [e] at hu
      cases hu
      exact q
    rcases hw with hw | hw | hw
    · exact ⟨d, _, _, _, hd, hl, hw, form_jump, rfl, fun u hu _ => fin (word_part hl hw form_jump) u hu⟩
    · exact ⟨d, _, _, _, hd, hl, hw, form_if, rfl, fun u hu _ => fin (word_part hl hw form_if) u hu⟩
    · exact ⟨d, _, _, _, hd, hl, hw, form_unless, rfl, fun u hu _ => fin (word_part hl hw form_unless) u hu⟩)
section
variable {P : Program} {w : World} {K : PySem.W.Frag} {mg : Str → Option Value} {base : Heap} {f : Addr} {fd : FuncData}
theorem sc_leads : FnScope ["lines", "at", "marks", "line", "behind"] ["lines", "at", "marks"] (defScope s_leads) := ⟨rfl, rfl, rfl, by decide +kernel, rfl, by decide +kernel, by decide +kernel⟩
def sp_leads (K : PySem.W.Frag) : Sp := fun vs H Q _ => ∃ v d i m, vs = [v, .int ((i : Nat) : Int), .ref m] ∧ D K H v d ∧ Good d ∧ i < (itemsD d).length ∧ H m = some (.dK (marksV (itemsD d))) ∧ ∀ p H', Ex H H' → H' p = some (.tup (intsV (leadsN (itemsD d) i))) → H p = none → Q (.ref p) H'
theorem ok_leads (F : Fun K "_leads" "_leads" s_leads f fd) (G : Gb mg) : FnOk P w K mg base CX0 1 f fd ["lines", "at", "marks"] (sp_leads K) := by
  refine F.ok sc_leads (fun vs H Q E h => ?_) (fun cdv A outer s H vs Q E hr h => ⟨RB _ _, pss_RB, ?_⟩)
  · obtain ⟨_, _, _, _, rfl, _⟩ := h; rfl
  obtain ⟨v, d, i, m, rfl, hd, g, hi, hm, q⟩ := h
  obtain ⟨x, hx⟩ : ∃ x, (itemsD d)[i]? = some x := ⟨_, List.getElem?_eq_getElem hi⟩
  have hmem := List.mem_of_getElem? hx
  have hlx := g.ok x hmem
  have hgo := g.goal hmem
  have el : leadsN (itemsD d) i = (if wordD x ∈ (["back", "tail", "stop"] : List Str) then [] else if wordD x = "jump" then [goalN (itemsD d) x]
    else if wordD x ∈ (["if", "unless"] : List Str) ∧ goalN (itemsD d) x ∉ behN (itemsD d) i then (if goalN (itemsD d) x ≤ i then goalN (itemsD d) x :: behN (itemsD d) i else behN (itemsD d) i ++ [goalN (itemsD d) x])
    else behN (itemsD d) i) := by unfold leadsN; rw [hx]
  have hlen := hd.lenV g.isl
  have edl : dlen d = (itemsD d).length := by
    cases d with
    | list _ => rfl
    | tuple _ => rfl
    | _ => exact absurd (show false = true from g.isl) Bool.false_ne_true
  generalize eds : itemsD d = ds at *
  refine rb_cons (rs_set 3 sc_leads.nd (re_ixD (re_var 0 rfl (re_var 1 rfl ⟨d, i, x, hd, g.isl, rfl, by rw [eds]; exact hx, fun u hu => ?_⟩))))
  refine rb_cons (rs_if (rt_in (ws := ["back", "tail", "stop"]) (re_word (re_var 3 rfl ⟨x, hu, hlx, _, rfl, re_tup (ra_cons (re_str (ra_cons (re_str (ra_cons (re_str (ra_nil ⟨(show 3 ≤ 100000 by decide), fun p H2 hp e2 h2 => ⟨p, rfl, .inl (.inl h2), ifB (fun e => ?_) fun e => ?_⟩⟩)))))))⟩))))
  · refine rb_one (rs_ret (re_tup (ra_nil ⟨Nat.zero_le _, fun p3 H3 hp3 e3 h3 => q p3 H3 (e2.trans e3) ?_ (fresh_back e2 hp3)⟩)))
    rw [el, if_pos (of_decide_eq_true e)]; exact h3
  rw [if_neg (of_decide_eq_false e)] at el
  have hu2 := hu.mono e2
  refine rb_nil (rb_cons (rs_if (rt_cmp op_eq (re_word (re_var 3 rfl ⟨x, hu2, hlx, re_str ⟨rfl, _, rfl, ?_⟩⟩)))))
  rw [eqK]
  by_cases hj : wordD x = "jump"
  · rw [decide_eq_true hj]
    refine ifT (rb_one (rs_ret (re_tup (ra_cons (re_dget (hu_of hr) (re_var 2 rfl (re_lab (re_var 3 rfl ⟨x, hu2, hlx, .inl hj, m, _, .inr (labD x), _, rfl, e2 _ _ hm, rfl, (hgo (.inl hj)).1, ra_nil ⟨(show 1 ≤ 100000 by decide), fun p3 H3 hp3 e3 h3 => q p3 H3 (e2.trans e3) ?_ (fresh_back e2 hp3)⟩⟩))))))))
    rw [el, if_pos hj]; exact h3
  rw [decide_eq_false hj]
  rw [if_neg hj] at el
  refine ifF (rb_nil (rb_cons (rs_set 4 sc_leads.nd (RE.mono (Q := fun r H3 => ∃ p3, r = .ref p3 ∧ Ex H2 H3 ∧ H2 p3 = none ∧ H3 p3 = some (.tup (intsV (behN ds i)))) ?_ ?_))))
  · refine re_if (rt_cmp op_lt (re_op op_add (re_var 1 rfl (re_int ⟨_, _, rfl, rfl, re_cb call_len G.len (ra_cons (re_var 0 rfl (ra_nil ⟨_, dlen d, rfl, (hd.mono e2).lenV g.isl, _, _, rfl, rfl, _, rfl, ifB (fun eb => ?_) fun eb => ?_⟩)))⟩))))
    · have hb : i + 1 < ds.length := by have := of_decide_eq_true eb; omega
      refine re_tup (ra_cons (re_op op_add (re_var 1 rfl (re_int ⟨_, _, rfl, rfl, ra_nil ⟨(show 1 ≤ 100000 by decide), fun p3 H3 hp3 e3 h3 => ⟨p3, rfl, e3, hp3, ?_⟩⟩⟩))))
      unfold behN
      rw [if_pos hb]; exact h3
    · have hb : ¬ i + 1 < ds.length := by have := of_decide_eq_false eb; omega
      refine re_tup (ra_nil ⟨Nat.zero_le _, fun p3 H3 hp3 e3 h3 => ⟨p3, rfl, e3, hp3, ?_⟩⟩)
      unfold behN
      rw [if_neg hb]; exact h3
  rintro r H3 ⟨p3, rfl, e3, hp3, h3⟩
  have e23 := e2.trans e3
  refine rb_cons (rs_if (rt_w (rw_and (rt_in (ws := ["if", "unless"]) (re_word (re_var 3 rfl ⟨x, hu.mono e23, hlx, _, rfl, re_tup (ra_cons (re_str (ra_cons (re_str (ra_nil ⟨(show 2 ≤ 100000 by decide), fun p4 H4 hp4 e4 h4 => ⟨p4, rfl, .inl (.inl h4), ifB (fun e5 => ?_) fun e5 => ?_⟩⟩)))))⟩))))))
  · have e24 := e23.trans e4
    have hif : wordD x = "if" ∨ wordD x = "unless" := by
      rcases List.mem_cons.mp (of_decide_eq_true e5) with z | z
      · exact .inl z
      · exact .inr (List.mem_singleton.mp z)
    refine rw_and1 (rt_ninI (ws := (behN ds i).map fun n : Nat => (n : Int)) (re_dget (hu_of hr) (re_var 2 rfl (re_lab (re_var 3 rfl ⟨x, hu.mono e24, hlx, .inr hif, m, _, .inr (labD x), _, rfl, e24 _ _ hm, rfl, (hgo (.inr hif)).1, _, rfl, re_var 4 rfl ⟨p3, rfl, .inl (.inl (by rw [← intsV_map]; exact e4 _ _ h3)), ifB (fun e6 => ?_) fun e6 => ?_⟩⟩)))))
    · have hno : goalN ds x ∉ behN ds i := fun z => by
        have : ((goalN ds x : Nat) : Int) ∈ (behN ds i).map fun n : Nat => (n : Int) := List.mem_map.mpr ⟨_, z, rfl⟩
        rw [decide_eq_true this] at e6
        exact Bool.noConfusion e6
      rw [if_pos ⟨of_decide_eq_true e5, hno⟩] at el
      refine rb_one (rs_ret (re_ct call_tuple_of G.tuple (ra_cons (re_cb cr_sorted G.sorted (ra_cons (re_lst (ra_star (re_var 4 rfl ⟨p3, intsV (behN ds i), rfl, .inl (.inl (.inl (e4 _ _ h3))), ra_cons (re_dget (hu_of hr) (re_var 2 rfl (re_lab (re_var 3 rfl ⟨x, hu.mono e24, hlx, .inr hif, m, _, .inr (labD x), _, rfl, e24 _ _ hm, rfl, (hgo (.inr hif)).1, ra_nil ⟨?_, fun p6 H6 hp6 e6 h6 => ra_nil ⟨p6, (behN ds i ++ [goalN ds x]).map fun n : Nat => (n : Int), rfl, .inl (.inl ?_), ?_, fun ns' p7 hperm hsort hp7 => ra_nil ⟨p7, _, rfl, .inl ⟨.inl (.inl upd_same), fun l hl => q l _ ?_ ?_ ?_⟩⟩⟩⟩⟩))))⟩))))))))
      · unfold behN
        split
        · exact (by decide : 2 ≤ 100000)
        · exact (by decide : 1 ≤ 100000)
      · rw [h6, ← intsV_map]
        show some (HO.lst (intsV (behN ds i) ++ [V.int _])) = some (HO.lst (List.map _ (_ ++ _)))
        rw [List.map_append]; rfl
      · unfold behN
        split
        · exact (by decide : 2 < 64)
        · exact (by decide : 1 < 64)
      · exact ((e24.trans e6).trans (Ex.new hp7)).trans (Ex.new hl)
      · rw [upd_same, sort_beh hperm hsort hno, ← intsV_map, el]
      · exact fresh_back ((e24.trans e6).trans (Ex.new hp7)) hl
    · have hno : ¬ goalN ds x ∉ behN ds i := fun z => by
        have : ¬ ((goalN ds x : Nat) : Int) ∈ (behN ds i).map fun n : Nat => (n : Int) := fun y => by
          obtain ⟨n, hn, en⟩ := List.mem_map.mp y
          have : n = goalN ds x := Int.ofNat.inj en
          exact z (this ▸ hn)
        rw [decide_eq_false this] at e6
        exact Bool.noConfusion e6
      rw [if_neg (fun z => hno z.2)] at el
      refine rb_nil (rb_one (rs_ret (re_var 4 rfl (q p3 _ e24 ?_ (fresh_back e2 hp3)))))
      rw [el]; exact e4 _ _ h3
  · rw [if_neg (fun z => of_decide_eq_false e5 z.1)] at el
    refine ifF (rb_nil (rb_one (rs_ret (re_var 4 rfl (q p3 _ (e23.trans e4) ?_ (fresh_back e2 hp3))))))
    rw [el]; exact e4 _ _ h3
end
end Fl
end
section
set_option Elab.async false
set_option linter.all false
set_option maxRecDepth 100000
set_option maxHeartbeats 2000000
namespace Fx
open PySem PySem.Spec PyProof.Rows L2
open Evl (Ex fresh_back)
theorem put_new {κ : Type} [DecidableEq κ] {kvs : List (κ × V)} {k : κ} {v : V} (h : k ∉ kvs.map (·.1)) : putK kvs k v = kvs ++ [(k, v)] := by
  unfold putK
  rw [if_neg]
  intro z
  obtain ⟨x, hx, e⟩ := List.any_eq_true.mp z
  exact h (List.mem_map.mpr ⟨x, hx, of_decide_eq_true e⟩)
theorem val_some {κ : Type} [DecidableEq κ] (kvs : List (κ × V)) (k : κ) : (valV kvs k).isSome = decide (k ∈ kvs.map (·.1)) := by
  unfold valV
  induction kvs with
  | nil => rfl
  | cons x r ih =>
    rw [List.find?_cons, List.map_cons]
    by_cases e : x.1 = k
    · rw [decide_eq_true e, decide_eq_true (by rw [e]; exact List.mem_cons_self)]; rfl
    · rw [decide_eq_false e]
      refine Eq.trans ih (decide_eq_decide.mpr ⟨fun z => List.mem_cons_of_mem _ z, fun z => ?_⟩)
      rcases List.mem_cons.mp z with z | z
      · exact absurd z.symm e
      · exact z
theorem val_iff {κ : Type} [DecidableEq κ] (kvs : List (κ × V)) (k : κ) : (valV kvs k).isSome = true ↔ k ∈ kvs.map (·.1) := by
  rw [val_some]
  exact decide_eq_true_iff
theorem nodup_bound : ∀ (n : Nat) (F : List Nat), F.Nodup → (∀ x ∈ F, x < n) → F.length ≤ n
  | 0, F, _, h => by
    cases F with
    | nil => exact Nat.le_refl _
    | cons x r => exact absurd (h x List.mem_cons_self) (Nat.not_lt_zero _)
  | n + 1, F, hn, h => by
    by_cases e : n ∈ F
    · have h1 := nodup_bound n (F.erase n) (hn.erase n) fun x hx => by
        have := (hn.mem_erase_iff).mp hx
        have := h x this.2
        omega
      rw [List.length_erase_of_mem e] at h1
      omega
    · have := nodup_bound n F hn fun x hx => by
        have h2 := h x hx
        have : x ≠ n := fun z => e (z ▸ hx)
        omega
      omega
section
variable {X : Cx} {e : Expr} {σ : L2.St} {H : Hp} {QB : Bool → Hp → Prop}
/-- a list as a test -/
theorem rt_lst (h : RE X e σ H fun x H1 => ∃ a xs, x = .ref a ∧ SqL X.K H1 a xs ∧ QB (!xs.isEmpty) H1) (he : ∀ whole, isTrue e X.env whole = (do let v ← whole; standAt e.pos; holding [v] (truthy v)) := by intro _; rfl) : RT X e σ H QB :=
  rt_of (pt_truth pe_RE he) (h.mono fun x H1 ⟨a, xs, ex, hx, q⟩ => ⟨_, by rw [ex]; exact .inl ⟨xs, hx, rfl⟩, q⟩)
end
end Fx
namespace Fl
open PySem PySem.Spec PyProof.Rows L2 Fx
open Evl (Ex fresh_back)
inductive Reach (ds : List PyData) : Nat → Prop
  | zero : Reach ds 0
  | step {i j : Nat} : Reach ds i → j ∈ leadsN ds i → Reach ds j
structure Ways (ds : List PyData) (H : Hp) (p : Addr) (R : List Nat) (vf : Nat → Addr) : Prop where
  at_ : H p = some (.dK (R.map fun n : Nat => ((Sum.inl (n : Int) : Key), V.ref (vf n))))
  asc : R.Pairwise (· < ·)
  mem : ∀ n, n ∈ R ↔ Reach ds n
  low : ∀ n ∈ R, n < ds.length
  val : ∀ n ∈ R, H (vf n) = some (.tup (intsV (leadsN ds n)))
theorem Ways.mono {ds : List PyData} {H H' : Hp} {p : Addr} {R : List Nat} {vf : Nat → Addr} (w : Ways ds H p R vf) (e : Ex H H') : Ways ds H' p R vf := ⟨e _ _ w.at_, w.asc, w.mem, w.low, fun n hn => e _ _ (w.val n hn)⟩
theorem leads_len (ds : List PyData) (i : Nat) : (leadsN ds i).length ≤ 2 := by
  have hb : (behN ds i).length ≤ 1 := by unfold behN; split <;> simp
  unfold leadsN
  split
  · simp
  · split
    · simp
    · split
      · simp
      · split
        · split
          · rw [List.length_cons]; omega
          · rw [List.length_append, List.length_singleton]; omega
        · omega
theorem leads_lt {d : PyData} (g : Good d) {i j : Nat} (h : j ∈ leadsN (itemsD d) i) : j < (itemsD d).length := by
  unfold leadsN at h
  cases hx : (itemsD d)[i]? with
  | none => rw [hx] at h; exact absurd h List.not_mem_nil
  | some x =>
    rw [hx] at h
    have h : j ∈ (if wordD x ∈ (["back", "tail", "stop"] : List Str) then [] else if wordD x = "jump" then [goalN (itemsD d) x]
      else if wordD x ∈ (["if", "unless"] : List Str) ∧ goalN (itemsD d) x ∉ behN (itemsD d) i then (if goalN (itemsD d) x ≤ i then goalN (itemsD d) x :: behN (itemsD d) i else behN (itemsD d) i ++ [goalN (itemsD d) x])
      else behN (itemsD d) i) := h
    have hmem := List.mem_of_getElem? hx
    have beh : ∀ {j}, j ∈ behN (itemsD d) i → j < (itemsD d).length := fun {j} hj => by
      unfold behN at hj
      split at hj
      · rw [List.mem_singleton.mp hj]; assumption
      · exact absurd hj List.not_mem_nil
    split at h
    · exact absurd h List.not_mem_nil
    · split at h
      · rename_i hw
        rw [List.mem_singleton.mp h]
        exact (g.goal hmem (.inl hw)).2
      · split at h
        · rename_i hw
          have hgo : goalN (itemsD d) x < (itemsD d).length := by
            rcases List.mem_cons.mp hw.1 with z | z
            · exact (g.goal hmem (.inr (.inl z))).2
            · exact (g.goal hmem (.inr (.inr (List.mem_singleton.mp z)))).2
          split at h
          · rcases List.mem_cons.mp h with z | z
            · rw [z]; exact hgo
            · exact beh z
          · rcases List.mem_append.mp h with z | z
            · exact beh z
            · rw [List.mem_singleton.mp z]; exact hgo
        · exact beh h
section
variable {P : Program} {w : World} {K : PySem.W.Frag} {mg : Str → Option Value} {base : Heap} {f : Addr} {fd : FuncData}
theorem sc_reached_ways : FnScope ["lines", "marks", "found", "todo", "at"] ["lines"] (defScope s_reached_ways) := ⟨rfl, rfl, rfl, by decide +kernel, rfl, by decide +kernel, by decide +kernel⟩
theorem nat_list : ∀ {ys : List Int}, (∀ y ∈ ys, ∃ n : Nat, y = (n : Int)) → ∃ R : List Nat, ys = R.map fun n : Nat => (n : Int)
  | [], _ => ⟨[], rfl⟩
  | y :: ys, h => by
    obtain ⟨n, rfl⟩ := h y List.mem_cons_self
    obtain ⟨R, rfl⟩ := nat_list (ys := ys) fun y hy => h y (List.mem_cons_of_mem _ hy)
    exact ⟨n :: R, rfl⟩
theorem asc_of : ∀ {R : List Nat}, R.Pairwise (fun a b : Nat => (a : Int) ≤ (b : Int)) → R.Nodup → R.Pairwise (· < ·)
  | [], _, _ => .nil
  | a :: r, h1, h2 => by
    have h1 := List.pairwise_cons.mp h1
    have h2 := List.nodup_cons.mp h2
    refine List.pairwise_cons.mpr ⟨fun b hb => ?_, asc_of h1.2 h2.2⟩
    have := h1.1 b hb
    have : a ≠ b := fun z => h2.1 (z ▸ hb)
    omega
theorem asc_take {R : List Nat} (h : R.Pairwise (· < ·)) {i n : Nat} (hi : R[i]? = some n) : ∀ k ∈ R.take i, k < n := fun k hk => by
  rw [← List.take_append_drop i R] at h
  have := (List.pairwise_append.mp h).2.2 k hk n
  rw [drop_at hi] at this
  exact this List.mem_cons_self
theorem nodup_cast {F : List Nat} (h : F.Nodup) : (F.map fun n : Nat => (n : Int)).Nodup := List.pairwise_map.mpr (h.imp fun {a b} z e => z (Int.ofNat.inj e))
theorem sorted_nats {F : List Nat} {ys : List Int} (hp : ys.Perm (F.map fun n : Nat => (n : Int))) (hs : ys.Pairwise (· ≤ ·)) (hn : F.Nodup) : ∃ R : List Nat, ys = (R.map fun n : Nat => (n : Int)) ∧ R.Pairwise (· < ·) ∧ R.length = F.length ∧ ∀ n, n ∈ R ↔ n ∈ F := by
  obtain ⟨R, rfl⟩ := nat_list (ys := ys) fun y hy => by
    obtain ⟨n, _, e⟩ := List.mem_map.mp (hp.mem_iff.mp hy)
    exact ⟨n, e.symm⟩
  have cast : ∀ {L : List Nat} {n : Nat}, (n : Int) ∈ (L.map fun n : Nat => (n : Int)) ↔ n ∈ L := fun {L n} => ⟨fun z => by
    obtain ⟨k, hk, e⟩ := List.mem_map.mp z
    exact Int.ofNat.inj e ▸ hk, fun z => List.mem_map.mpr ⟨n, z, rfl⟩⟩
  have hnR : R.Nodup := (List.pairwise_map.mp (hp.nodup_iff.mpr (nodup_cast hn))).imp fun {a b} z e => z (by rw [e])
  refine ⟨R, rfl, asc_of (List.pairwise_map.mp hs) hnR, ?_, fun n => ?_⟩
  · have := hp.length_eq
    rw [List.length_map, List.length_map] at this
    exact this
  · rw [← cast (L := R), ← cast (L := F)]
    exact hp.mem_iff
def refOf (kvs : List (Key × V)) (n : Nat) : Addr := match valV kvs (.inl (n : Int)) with | some (.ref q) => q | _ => 0
/-- what is known at each turn -/
structure RwI (ds : List PyData) (H H3 H' : Hp) (fa ta : Addr) (kvs : List (Key × V)) (F T : List Nat) (m : Nat) : Prop where
  ex : Ex H H'
  ex3 : ∀ a o, a ≠ fa → a ≠ ta → H3 a = some o → H' a = some o
  fat : H' fa = some (.dK kvs)
  tat : H' ta = some (.lst (intsV T))
  keys : kvs.map (·.1) = F.map fun n : Nat => (Sum.inl (n : Int) : Key)
  nd : F.Nodup
  inF : ∀ n ∈ F, n < ds.length ∧ Reach ds n
  inT : ∀ n ∈ T, n < ds.length ∧ Reach ds n
  zero : 0 ∈ F ∨ 0 ∈ T
  closed : ∀ n ∈ F, ∀ j ∈ leadsN ds n, j ∈ F ∨ j ∈ T
  vals : ∀ n ∈ F, ∃ q, valV kvs (.inl (n : Int)) = some (.ref q) ∧ H' q = some (.tup (intsV (leadsN ds n)))
  low : m ≤ 181
  meas : m = 3 * (ds.length - F.length) + T.length
abbrev sp_reached_ways (K : PySem.W.Frag) : Sp := sp1 K Good fun d r H' => ∃ p R vf, r = .ref p ∧ Ways (itemsD d) H' p R vf
theorem ok_reached_ways (F : Fun K "reached_ways" "reached_ways" s_reached_ways f fd) (G : Gb mg) (c1 : Cl P w K mg base CX0 1 "marks_of" (sp_marks_of K)) (c2 : Cl P w K mg base CX0 1 "_leads" (sp_leads K)) : FnOk P w K mg base CX0 2 f fd ["lines"] (sp_reached_ways K) := by
  refine F.ok sc_reached_ways (fun vs H Q E h => sp1_len h rfl) (fun cdv A outer s H vs Q E hr h => ⟨RB _ _, pss_RB, ?_⟩)
  obtain ⟨v, d, rfl, hd, g, q⟩ := h
  have lt := fun {i j : Nat} (h : j ∈ leadsN (itemsD d) i) => leads_lt g h
  have h0 := g.pos
  have h60 := g.len
  refine rb_cons (rs_set 1 sc_reached_ways.nd (re_call c1 hr (ra_cons (re_var 0 rfl (ra_nil ⟨v, d, rfl, hd, g.lines, fun r H1 e1 h1 => ?_⟩)))))
  obtain ⟨mp, rfl, hmp⟩ := h1
  have hmp : H1 mp = some (.dK (marksV (itemsD d))) := hmp
  generalize eds : itemsD d = ds at *
  refine rb_cons (rs_set 2 sc_reached_ways.nd (re_dnew fun fa H2 hfa e2 h2 => ?_))
  refine rb_cons (rs_set 3 sc_reached_ways.nd (re_lst (ra_cons (re_int (ra_nil ⟨(show 1 ≤ 100000 by decide), fun ta H3 hta e3 h3 => ?_⟩)))))
  have nfa : H fa = none := fresh_back e1 hfa
  have nta : H ta = none := fresh_back (e1.trans e2) hta
  have nft : fa ≠ ta := fun z => by rw [← z, h2] at hta; exact (Option.some_ne_none _ hta).elim
  have nmf : mp ≠ fa := fun z => by rw [z, hfa] at hmp; exact (Option.some_ne_none _ hmp.symm).elim
  have nmt : mp ≠ ta := fun z => by rw [← z, e2 _ _ hmp] at hta; exact (Option.some_ne_none _ hta).elim
  have hm3 := (e2.trans e3) _ _ hmp
  have e13 := (e1.trans e2).trans e3
  refine rb_cons ?_
  refine rs_while (m0 := 3 * (ds.length - 0) + 1) PassesOwn.never (fun m σ' H' => ∃ A' kvs F T, σ' = [some v, some (.ref mp), some (.ref fa), some (.ref ta), A'] ∧ RwI ds H H3 H' fa ta kvs F T m) ?_ ?_
  · refine ⟨none, [], [], [0], rfl, e13, fun a o _ _ h => h, e3 _ _ h2, h3, rfl, List.nodup_nil, fun n hn => absurd hn List.not_mem_nil, fun n hn => ?_, .inr List.mem_cons_self, fun n hn => absurd hn List.not_mem_nil, fun n hn => absurd hn List.not_mem_nil, by omega, rfl⟩
    obtain rfl := List.mem_singleton.mp hn
    exact ⟨h0, .zero⟩
  · rintro m σ' H' ⟨A', kvs, F, T, rfl, I⟩
    refine rt_lst (re_var 3 rfl ⟨ta, _, rfl, SqL.of I.tat, ifB (fun e => ?_) fun e => ?_⟩)
    · refine ⟨fun σ'' H'' => ∃ m', m' < m ∧ ∃ A' kvs F T, σ'' = [some v, some (.ref mp), some (.ref fa), some (.ref ta), A'] ∧ RwI ds H H3 H'' fa ta kvs F T m', fun _ _ h => h, ?_⟩
      obtain ⟨T', y, rfl⟩ : ∃ T' y, T = T' ++ [y] := by
        rcases List.eq_nil_or_concat T with z | ⟨T', y, z⟩
        · rw [z] at e; exact absurd e (by decide)
        · exact ⟨T', y, by rw [z, List.concat_eq_append]⟩
      obtain ⟨hylt, hyr⟩ := I.inT y (List.mem_append_right _ (List.mem_singleton.mpr rfl))
      refine rb_cons (rs_set 4 sc_reached_ways.nd (re_pop (re_var 3 rfl ⟨ta, intsV T', .int (y : Nat), rfl, by rw [I.tat]; unfold intsV; rw [List.map_append]; rfl, ?_⟩)))
      have ex1 : Ex H (upd H' ta (.lst (intsV T'))) := ex_mut I.ex nta
      have hF1 : upd H' ta (.lst (intsV T')) fa = some (.dK kvs) := by rw [upd_ne nft]; exact I.fat
      have ex31 : ∀ a o, a ≠ fa → a ≠ ta → H3 a = some o → upd H' ta (.lst (intsV T')) a = some o := fun a o h1 h2 h => by rw [upd_ne h2]; exact I.ex3 a o h1 h2 h
      have hv1 : ∀ n ∈ F, ∃ q, valV kvs (.inl (n : Int)) = some (.ref q) ∧ upd H' ta (.lst (intsV T')) q = some (.tup (intsV (leadsN ds n))) := fun n hn => by
        obtain ⟨q, h1, h2⟩ := I.vals n hn
        refine ⟨q, h1, ?_⟩
        rw [upd_ne (fun z => by rw [z, I.tat] at h2; cases h2)]; exact h2
      have hT1 : upd H' ta (.lst (intsV T')) ta = some (.lst (intsV T')) := upd_same
      have hmeas := I.meas
      rw [List.length_append, List.length_singleton] at hmeas
      have hFl := nodup_bound ds.length F I.nd fun x hx => (I.inF x hx).1
      have keyd : (valV kvs (.inl (y : Int))).isSome = decide (y ∈ F) := by
        rw [val_some, I.keys]
        refine decide_eq_decide.mpr ⟨fun z => ?_, fun z => List.mem_map.mpr ⟨y, z, rfl⟩⟩
        obtain ⟨n, hn, en⟩ := List.mem_map.mp z
        have : n = y := Int.ofNat.inj (Sum.inl.inj en)
        exact this ▸ hn
      generalize upd H' ta (.lst (intsV T')) = Ha at *
      refine rb_one (rs_if (rt_dnin (hu_of hr) (re_var 4 rfl (re_var 2 rfl ⟨fa, kvs, .inl (y : Int), rfl, hF1, rfl, ?_⟩))))
      rw [keyd]
      by_cases hy : y ∈ F
      · rw [decide_eq_true hy]
        refine ifF (rb_nil ⟨m - 1, by omega, _, kvs, F, T', rfl, ex1, ex31, hF1, hT1, I.keys, I.nd, I.inF, fun n hn => I.inT n (List.mem_append_left _ hn), ?_, fun n hn j hj => ?_, hv1, Nat.le_trans (Nat.sub_le ..) I.low, by omega⟩)
        · rcases I.zero with z | z
          · exact .inl z
          · rcases List.mem_append.mp z with z | z
            · exact .inr z
            · exact .inl (List.mem_singleton.mp z ▸ hy)
        · rcases I.closed n hn j hj with z | z
          · exact .inl z
          · rcases List.mem_append.mp z with z | z
            · exact .inr z
            · exact .inl (List.mem_singleton.mp z ▸ hy)
      · rw [decide_eq_false hy]
        refine ifT (rb_cons (rs_dput (hu_of hr) (re_call c2 hr (ra_cons (re_var 0 rfl (ra_cons (re_var 4 rfl (ra_cons (re_var 1 rfl (ra_nil ⟨v, d, y, mp, rfl, hd.mono ex1, g, by rw [eds]; exact hylt, by rw [eds]; exact ex31 _ _ nmf nmt hm3, fun q2 Hb eb hq2 nq2 => re_var 2 rfl (re_var 4 rfl ⟨fa, kvs, .inl (y : Int), rfl, eb _ _ hF1, rfl, ?_, ?_⟩)⟩))))))))))
        · have : kvs.length = F.length := by have := congrArg List.length I.keys; rw [List.length_map, List.length_map] at this; exact this
          exact Nat.lt_of_lt_of_le (show kvs.length < 100000 by omega) (by decide)
        rw [eds] at hq2
        have hnew : (Sum.inl (y : Int) : Key) ∉ kvs.map (·.1) := fun z => by
          have hs := (val_iff kvs (Sum.inl (y : Int))).mpr z
          rw [keyd, decide_eq_false hy] at hs
          exact Bool.noConfusion hs
        have n2f : q2 ≠ fa := fun z => by rw [z, hF1] at nq2; exact (Option.some_ne_none _ nq2).elim
        have n2t : q2 ≠ ta := fun z => by rw [z, hT1] at nq2; exact (Option.some_ne_none _ nq2).elim
        rw [put_new hnew]
        have hT2 : upd Hb fa (.dK (kvs ++ [(Sum.inl (y : Int), V.ref q2)])) ta = some (.lst (intsV T')) := by rw [upd_ne (fun z => nft z.symm)]; exact eb _ _ hT1
        refine rb_one (rs_expr (re_extendT (re_var 3 rfl ⟨ta, rfl, ⟨_, hT2⟩, re_dget (hu_of hr) (re_var 2 rfl (re_var 4 rfl ⟨fa, _, .inl (y : Int), .ref q2, rfl, upd_same, rfl, ?_, intsV T', q2, intsV (leadsN ds y), rfl, hT2, by rw [upd_ne n2f]; exact hq2, ?_, ?_⟩))⟩)))
        · rw [← put_new hnew, val_put, if_pos rfl]
        · have := leads_len ds y
          have := I.low
          unfold intsV
          rw [List.length_map, List.length_map]
          exact Nat.le_trans (show _ ≤ 1000 by omega) (by decide)
        · have hll := leads_len ds y
          have hFl2 := nodup_bound ds.length (F ++ [y]) (List.nodup_append.mpr ⟨I.nd, (List.pairwise_singleton _ _), fun a ha b hb => by
            obtain rfl := List.mem_singleton.mp hb
            exact fun z => hy (z ▸ ha)⟩) fun x hx => by
              rcases List.mem_append.mp hx with z | z
              · exact (I.inF x z).1
              · exact List.mem_singleton.mp z ▸ hylt
          rw [List.length_append, List.length_singleton] at hFl2
          refine ⟨3 * (ds.length - (F ++ [y]).length) + (T' ++ leadsN ds y).length, ?_, _, kvs ++ [(Sum.inl (y : Int), V.ref q2)], F ++ [y], T' ++ leadsN ds y, rfl, ?_, ?_, ?_, ?_, ?_, ?_, ?_, ?_, ?_, ?_, ?_, ?_, rfl⟩
          · rw [List.length_append, List.length_append, List.length_singleton]; omega
          · exact ex_mut (ex_mut (ex1.trans eb) nfa) nta
          · intro a o h1 h2 h
            rw [upd_ne h2, upd_ne h1]
            exact eb _ _ (ex31 a o h1 h2 h)
          · rw [upd_ne nft]; exact upd_same
          · rw [upd_same]; unfold intsV; rw [List.map_append]
          · rw [List.map_append, List.map_append, I.keys]; rfl
          · exact List.nodup_append.mpr ⟨I.nd, (List.pairwise_singleton _ _), fun a ha b hb => by
              obtain rfl := List.mem_singleton.mp hb
              exact fun z => hy (z ▸ ha)⟩
          · intro n hn
            rcases List.mem_append.mp hn with z | z
            · exact I.inF n z
            · obtain rfl := List.mem_singleton.mp z; exact ⟨hylt, hyr⟩
          · intro n hn
            rcases List.mem_append.mp hn with z | z
            · exact I.inT n (List.mem_append_left _ z)
            · exact ⟨lt z, hyr.step z⟩
          · rcases I.zero with z | z
            · exact .inl (List.mem_append_left _ z)
            · rcases List.mem_append.mp z with z | z
              · exact .inr (List.mem_append_left _ z)
              · exact .inl (List.mem_append_right _ z)
          · intro n hn j hj
            rcases List.mem_append.mp hn with z | z
            · rcases I.closed n z j hj with z | z
              · exact .inl (List.mem_append_left _ z)
              · rcases List.mem_append.mp z with z | z
                · exact .inr (List.mem_append_left _ z)
                · exact .inl (List.mem_append_right _ z)
            · obtain rfl := List.mem_singleton.mp z
              exact .inr (List.mem_append_right _ hj)
          · intro n hn
            rcases List.mem_append.mp hn with z | z
            · obtain ⟨p, h1, h2⟩ := hv1 n z
              refine ⟨p, ?_, ?_⟩
              · rw [← put_new hnew, val_put, if_neg (fun e => hy (by have e2 : n = y := Int.ofNat.inj (Sum.inl.inj e); rw [← e2]; exact z))]; exact h1
              · rw [upd_ne (fun e => by rw [e, hT1] at h2; cases h2), upd_ne (fun e => by rw [e, hF1] at h2; cases h2)]
                exact eb _ _ h2
            · obtain rfl := List.mem_singleton.mp z
              refine ⟨q2, ?_, ?_⟩
              · rw [← put_new hnew, val_put, if_pos rfl]
              · rw [upd_ne n2t, upd_ne n2f]; exact hq2
          · rw [List.length_append, List.length_append, List.length_singleton]
            have := I.low
            omega
    · obtain rfl : T = [] := by
        cases T with
        | nil => rfl
        | cons x r => exact absurd (show false = true from e.symm.trans rfl |>.symm ▸ rfl) Bool.false_ne_true
      have reach : ∀ n, Reach ds n → n ∈ F := fun n hn => by
        induction hn with
        | zero => exact I.zero.resolve_right List.not_mem_nil
        | step _ hj ih => exact (I.closed _ ih _ hj).resolve_right List.not_mem_nil
      have hFl := nodup_bound ds.length F I.nd fun x hx => (I.inF x hx).1
      have hval : ∀ n ∈ F, valV kvs (.inl (n : Int)) = some (.ref (refOf kvs n)) ∧ H' (refOf kvs n) = some (.tup (intsV (leadsN ds n))) := fun n hn => by
        obtain ⟨q, h1, h2⟩ := I.vals n hn
        have : refOf kvs n = q := by unfold refOf; rw [h1]
        rw [this]
        exact ⟨h1, h2⟩
      refine rb_one (rs_ret ?_)
      refine re_dc (own := [("at", 4)]) (g := gName 4) rfl sc_reached_ways.nd (blkOk_by (N := ["lines", "marks", "found", "todo", "at"]) (sc := defScope s_reached_ways) (by decide +kernel)) (fun _ _ _ _ _ => pg_name (i := 4) sc_reached_ways.nd rfl (Or.inl rfl)) good_name ?_
      refine ri_list (re_cb (call_sortedDI rfl) G.sorted (ra_cons (re_var 2 rfl (ra_nil ⟨fa, kvs, F.map fun n : Nat => (n : Int), rfl, .inl I.fat, by rw [I.keys, List.map_map]; rfl, by rw [List.length_map]; omega, fun ys p hperm hs hp => ?_⟩))))
      obtain ⟨R, rfl, asc, hlen, hmem⟩ := sorted_nats hperm hs I.nd
      have e1p : Ex H' (upd H' p (.lst ((R.map fun n : Nat => (n : Int)).map V.int))) := Ex.new hp
      refine ⟨p, _, rfl, .inl (.inl upd_same), _, _, _, fun i acc => acc = (R.take i).map fun n : Nat => ((Sum.inl (n : Int) : Key), V.ref (refOf kvs n)), walk_list, ?_, fun H'' e'' => Evl.ex_l e'' (.inl (.inl upd_same)), rfl, ?_, ?_⟩
      · rw [List.length_map, List.length_map]; omega
      · rintro i x Ha Hb hi ea ⟨rfl, hx⟩
        rw [List.getElem?_map, List.getElem?_map] at hx
        obtain ⟨z, hz, rfl⟩ := Option.map_eq_some_iff.mp hx
        obtain ⟨n, hn, rfl⟩ := Option.map_eq_some_iff.mp hz
        have hnF := (hmem n).mp (List.mem_of_getElem? hn)
        refine ⟨Ex.refl _, rfl, Ex.refl _, fun s0 H0 C cl fp => re_var 4 rfl ⟨Ex.refl _, .inl (n : Int), rfl, fun s0 H0 C cl fp => re_dget (hu_of hr) (re_var 2 rfl (re_var 4 rfl ⟨fa, kvs, .inl (n : Int), _, rfl, ea _ _ (e1p _ _ I.fat), rfl, (hval n hnF).1, Ex.refl _, fun acc hacc => ?_⟩))⟩⟩
        subst hacc
        rw [take_snoc hn, List.map_append]
        refine put_new fun z => ?_
        rw [List.map_map] at z
        obtain ⟨k, hk, ek⟩ := List.mem_map.mp z
        have := asc_take asc hn k hk
        have : k = n := Int.ofNat.inj (Sum.inl.inj ek)
        omega
      · rintro p2 acc Hz hp2 ez hz hl2 rfl
        have eall : Ex H' Hz := e1p.trans ez
        refine q _ _ (I.ex.trans eall) ⟨p2, R, refOf kvs, rfl, ?_⟩
        rw [eds]
        refine ⟨?_, asc, fun n => ?_, fun n hn => (I.inF n ((hmem n).mp hn)).1, fun n hn => eall _ _ (hval n ((hmem n).mp hn)).2⟩
        · rw [hz, List.take_of_length_le (by rw [List.length_map, List.length_map]; exact Nat.le_refl _)]
        · rw [hmem n]
          exact ⟨fun z => (I.inF n z).2, reach n⟩
end
end Fl
end
section
set_option Elab.async false
set_option linter.all false
set_option maxRecDepth 100000
set_option maxHeartbeats 2000000
/-! == of lists and tuples of texts. -/
namespace Fx
open PySem PySem.Spec PyProof.Rows L2
open Evl (Ex fresh_back)
def strsD (ws : List Str) : List PyData := ws.map PyData.str
theorem dp_strs {K : PySem.W.Frag} {H : Hp} : ∀ ws : List Str, DpAll K H (ws.map V.str) (strsD ws)
  | [] => .nil
  | w :: r => .cons (.str w) (dp_strs r)
theorem lay_strs : ∀ ws : List Str, (∀ w ∈ ws, PyData.strOk w = true) → PyData.canLayAll0 (strsD ws) = true
  | [], _ => rfl
  | w :: r, h => by
    show (PyData.strOk w && PyData.canLayAll0 (strsD r)) = true
    rw [h w List.mem_cons_self, lay_strs r fun x hx => h x (List.mem_cons_of_mem _ hx)]; rfl
theorem depth_strs : ∀ ws : List Str, PyData.depthAll (strsD ws) = 0
  | [] => rfl
  | w :: r => by
    show Nat.max 0 (PyData.depthAll (strsD r)) = 0
    rw [depth_strs r]; rfl
theorem shaped_tupS {ws : List Str} (h : ∀ w ∈ ws, PyData.strOk w = true) : SeqAt.shaped (.tuple (strsD ws)) = true := by
  show (PyData.canLayAll0 (strsD ws) && decide (PyData.depthAll (strsD ws) + 1 ≤ 64)) = true
  rw [lay_strs ws h, depth_strs ws]; rfl
theorem eqv_strs : ∀ us ws : List Str, PyData.eqvAll (strsD us) (strsD ws) = decide (us = ws)
  | [], [] => rfl
  | [], _ :: _ => rfl
  | _ :: _, [] => rfl
  | u :: us, w :: ws => by
    show ((u == w) && PyData.eqvAll (strsD us) (strsD ws)) = _
    rw [eqv_strs us ws]
    by_cases e : u = w
    · subst e
      rw [beq_self_eq_true, Bool.true_and]
      exact decide_eq_decide.mpr ⟨fun z => by rw [z], fun z => (List.cons.inj z).2⟩
    · rw [beq_eq_false_iff_ne.mpr e, Bool.false_and, decide_eq_false (fun z => e (List.cons.inj z).1)]
section
variable {X : Cx} {a b : Expr} {σ : L2.St} {H : Hp} {QB : Bool → Hp → Prop} {pos : Pos}
/-- two tuples of texts -/
def TS2 (K : PySem.W.Frag) (H : Hp) (x y : V) (us ws : List Str) : Prop := ∃ p q, x = .ref p ∧ y = .ref q ∧ SqT K H p (us.map V.str) ∧ SqT K H q (ws.map V.str) ∧ (∀ w ∈ us, PyData.strOk w = true) ∧ ∀ w ∈ ws, PyData.strOk w = true
theorem rt_eqT (hu : X.A.units + 64 < cLine) (h : RE X a σ H fun x H1 => RE X b σ H1 fun y H2 => ∃ us ws, TS2 X.K H2 x y us ws ∧ QB (decide (us = ws)) H2) (hm : behindInMarks .Eq b = false := by rfl) : RT X (.Compare a [.Eq] [b] pos) σ H QB :=
  rt_cmp (op_eqD hu) (h.mono fun x H1 q => q.mono fun y H2 ⟨us, ws, ⟨p, q, ex, ey, h1, h2, o1, o2⟩, z⟩ => ⟨.tuple (strsD us), .tuple (strsD ws), by rw [ex]; exact .tup h1 (dp_strs us), by rw [ey]; exact .tup h2 (dp_strs ws), shaped_tupS o1, shaped_tupS o2, _, rfl, by
    show QB (PyData.eqvAll (strsD us) (strsD ws)) H2
    rw [eqv_strs]; exact z⟩) hm
theorem rt_neT (hu : X.A.units + 64 < cLine) (h : RE X a σ H fun x H1 => RE X b σ H1 fun y H2 => ∃ us ws, TS2 X.K H2 x y us ws ∧ QB (!decide (us = ws)) H2) (hm : behindInMarks .NotEq b = false := by rfl) : RT X (.Compare a [.NotEq] [b] pos) σ H QB :=
  rt_cmp (op_neD hu) (h.mono fun x H1 q => q.mono fun y H2 ⟨us, ws, ⟨p, q, ex, ey, h1, h2, o1, o2⟩, z⟩ => ⟨.tuple (strsD us), .tuple (strsD ws), by rw [ex]; exact .tup h1 (dp_strs us), by rw [ey]; exact .tup h2 (dp_strs ws), shaped_tupS o1, shaped_tupS o2, _, rfl, by
    show QB (!PyData.eqvAll (strsD us) (strsD ws)) H2
    rw [eqv_strs]; exact z⟩) hm
end
end Fx
end
section
set_option Elab.async false
set_option linter.all false
set_option maxRecDepth 100000
set_option maxHeartbeats 2000000
namespace Fl
open PySem PySem.Spec PyProof.Rows L2 Fx
open Evl (Ex fresh_back)
theorem _root_.L2.Room.u64 {k : Nat} {A : Around} (h : Room k A) : A.units + 64 < cLine := by have := h.un; omega
/-! ### the parts of a line are ints and texts -/
theorem word_ok {s : Str} (h : isWordS s = true) : PyData.strOk s = true := by
  unfold isWordS at h
  rw [Bool.and_eq_true] at h
  unfold PyData.strOk
  rw [← Array.all_toList] at *
  rw [List.all_eq_true] at *
  intro x hx
  have := h.2 x hx
  rw [Bool.and_eq_true, decide_eq_true_eq, decide_eq_true_eq] at this
  exact decide_eq_true (by omega)
theorem fits_cases {k : Str} {x : PyData} (h : fitsD k x = true) : (∃ i, x = .int i) ∨ ∃ s, x = .str s ∧ PyData.strOk s = true := by
  unfold fitsD at h
  split at h
  · cases x with
    | str s => exact .inr ⟨s, rfl, word_ok h⟩
    | _ => exact absurd (show false = true from h) Bool.false_ne_true
  · split at h
    · cases x with
      | int i => exact .inl ⟨i, rfl⟩
      | _ => exact absurd (show false = true from h) Bool.false_ne_true
    · split at h
      · cases x with
        | int i => exact .inl ⟨i, rfl⟩
        | _ => exact absurd (show false = true from h) Bool.false_ne_true
      · split at h
        · rename_i c
          cases x with
          | str s =>
            have : s = "link" := of_decide_eq_true c.2
            subst this
            exact .inr ⟨_, rfl, by decide +kernel⟩
          | _ => exact absurd (show false = true from c.2) Bool.false_ne_true
        · cases x with
          | int i => exact .inl ⟨i, rfl⟩
          | _ => exact absurd (show false = true from h) Bool.false_ne_true
def flatOk : PyData → Prop
  | .int _ => True
  | .str s => PyData.strOk s = true
  | _ => False
theorem forms_ok : ∀ p ∈ forms, PyData.strOk p.1 = true := by
  intro p hp
  have : forms.all (fun p => PyData.strOk p.1) = true := by decide +kernel
  exact List.all_eq_true.mp this p hp
theorem lookup_mem {w : Str} {ks : List Str} : ∀ {l : List (Str × List Str)}, l.lookup w = some ks → (w, ks) ∈ l
  | [], h => nomatch h
  | (a, b) :: r, h => by
    rw [List.lookup_cons] at h
    by_cases e : w = a
    · subst e
      rw [beq_self_eq_true] at h
      cases h
      exact List.mem_cons_self
    · rw [beq_eq_false_iff_ne.mpr e] at h
      exact List.mem_cons_of_mem _ (lookup_mem h)
theorem line_flat {d : PyData} (h : isLineD d = true) : ∃ w xs, d = .tuple (.str w :: xs) ∧ PyData.strOk w = true ∧ ∀ x ∈ xs, flatOk x := by
  obtain ⟨w, xs, kinds, v⟩ := valid_of h
  refine ⟨w, xs, v.eq, forms_ok _ (lookup_mem v.form), fun x hx => ?_⟩
  obtain ⟨i, hi, rfl⟩ := List.mem_iff_getElem.mp hx
  have hk : i < kinds.length := by rw [← v.len]; exact hi
  rcases fits_cases (v.fits i kinds[i] xs[i] (List.getElem?_eq_getElem hk) (List.getElem?_eq_getElem hi)) with ⟨j, e⟩ | ⟨s, e, o⟩
  · rw [e]; trivial
  · rw [e]; exact o
section
variable {K : PySem.W.Frag} {H : Hp}
theorem dp_flat {v : V} {x : PyData} (h : D K H v x) (f : flatOk x) : Dp K H v x := by
  cases h with
  | int i => exact .int i
  | str s => exact .str s
  | _ => exact f.elim
theorem dp_all : ∀ {vs : List V} {xs : List PyData}, DA K H vs xs → (∀ x ∈ xs, flatOk x) → DpAll K H vs xs
  | _, _, .nil, _ => .nil
  | _, _, .cons a t, f => .cons (dp_flat a (f _ List.mem_cons_self)) (dp_all t fun x hx => f x (List.mem_cons_of_mem _ hx))
theorem lay_flat : ∀ xs : List PyData, (∀ x ∈ xs, flatOk x) → PyData.canLayAll0 xs = true ∧ PyData.depthAll xs = 0
  | [], _ => ⟨rfl, rfl⟩
  | x :: r, f => by
    have ih := lay_flat r fun y hy => f y (List.mem_cons_of_mem _ hy)
    have hx := f x List.mem_cons_self
    cases x with
    | int i => exact ⟨by show (true && _) = true; rw [ih.1]; rfl, by show Nat.max 0 (PyData.depthAll r) = 0; rw [ih.2]; rfl⟩
    | str s => exact ⟨by show (PyData.strOk s && _) = true; rw [show PyData.strOk s = true from hx, ih.1]; rfl, by show Nat.max 0 (PyData.depthAll r) = 0; rw [ih.2]; rfl⟩
    | _ => exact hx.elim
theorem shaped_flat {xs : List PyData} (f : ∀ x ∈ xs, flatOk x) : SeqAt.shaped (.tuple xs) = true := by
  show (PyData.canLayAll0 xs && decide (PyData.depthAll xs + 1 ≤ 64)) = true
  rw [(lay_flat xs f).1, (lay_flat xs f).2]; rfl
end
/-- is the line (a, "link")? -/
def isPair (a b : Str) (d : PyData) : Bool := decide (wordD d = a) && strIs b (partD 1 d)
theorem eqv_pair {a b : Str} {d : PyData} (h : isLineD d = true) {kinds : List Str} (hf : forms.lookup a = some kinds) (h1 : kinds.length = 1) : PyData.eqv d (.tuple [.str a, .str b]) = isPair a b d := by
  obtain ⟨w, xs, ki, v⟩ := valid_of h
  rw [v.eq]
  show ((w == a) && PyData.eqvAll xs [.str b]) = (decide (w = a) && strIs b ((PyData.str w :: xs).getD 1 .none))
  by_cases e : w = a
  · subst e
    have : ki = kinds := Option.some.inj (v.form.symm.trans hf)
    have hl : xs.length = 1 := by rw [v.len, this, h1]
    match xs, hl with
    | [x], _ =>
      rw [beq_self_eq_true, decide_eq_true rfl, Bool.true_and, Bool.true_and]
      show (PyData.eqv x (.str b) && true) = strIs b x
      rw [Bool.and_true]
      cases x with
      | str s =>
        show (s == b) = decide (s = b)
        by_cases e : s = b
        · rw [e, beq_self_eq_true, decide_eq_true rfl]
        · rw [beq_eq_false_iff_ne.mpr e, decide_eq_false e]
      | _ => rfl
  · rw [beq_eq_false_iff_ne.mpr e, decide_eq_false e, Bool.false_and, Bool.false_and]
theorem form_pop : forms.lookup ("pop" : Str) = some (["reg or link"] : List Str) := by decide +kernel
theorem form_push : forms.lookup ("push" : Str) = some (["reg or link"] : List Str) := by decide +kernel
theorem form_read : forms.lookup ("read" : Str) = some (["reg", "entry"] : List Str) := by decide +kernel
theorem form_write : forms.lookup ("write" : Str) = some (["entry", "reg"] : List Str) := by decide +kernel
section
variable {X : Cx} {a : Expr} {σ : L2.St} {H : Hp} {Q : VK} {QB : Bool → Hp → Prop} {pos p1 p2 p3 : Pos} {k : Nat} {j1 j2}
/-- line == ("a", "link") -/
theorem cmp_pair (hu : X.A.units + 64 < cLine) {x y : Str} {kinds : List Str} (hf : forms.lookup x = some kinds) (h1 : kinds.length = 1) (hy : PyData.strOk y = true) {R : VK} (h : RE X a σ H fun v H1 => ∃ d, D X.K H1 v d ∧ isLineD d = true ∧ ∀ H2, Ex H1 H2 → R (.bl (isPair x y d)) H2) (es : List Expr)
    (he : ∀ H1 (Q : List V → Hp → Prop), Q [.str x, .str y] H1 → RA X es σ H1 Q) : RE X a σ H fun v H1 => RE X (.Tuple es k p3) σ H1 fun w H2 => rEqD X.K v w H2 R :=
  h.mono fun v H1 ⟨d, hd, hl, q⟩ => re_tup (he _ _ ⟨(show 2 ≤ 100000 by decide), fun p H2 hp e2 h2 => by
    obtain ⟨w, xs, e, ow, f⟩ := line_flat hl
    have hd2 := hd.mono e2
    have fl : ∀ x ∈ (PyData.str w :: xs), flatOk x := fun x hx => by
      rcases List.mem_cons.mp hx with z | z
      · rw [z]; exact ow
      · exact f x z
    refine ⟨d, .tuple [.str x, .str y], ?_, .tup (.inl (.inl h2)) (.cons (.str _) (.cons (.str _) .nil)), ?_, ?_, ?_⟩
    · subst e
      cases hd2 with
      | tup sq ha => exact .tup sq (dp_all ha fl)
    · rw [e]; exact shaped_flat fl
    · refine shaped_flat fun z hz => ?_
      rcases List.mem_cons.mp hz with z | z
      · rw [z]; exact forms_ok _ (lookup_mem hf)
      · rw [List.mem_singleton.mp z]; exact hy
    · rw [eqv_pair hl hf h1]
      exact q H2 e2⟩)
end
section
variable {P : Program} {w : World} {K : PySem.W.Frag} {mg : Str → Option Value} {base : Heap} {f : Addr} {fd : FuncData}
theorem sc_entry_of : FnScope ["line"] ["line"] (defScope s_entry_of) := ⟨rfl, rfl, rfl, by decide +kernel, rfl, by decide +kernel, by decide +kernel⟩
def entryD (d : PyData) : Str := if strIs "link" (partD 1 d) = true then "link" else "value"
abbrev sp_entry_of (K : PySem.W.Frag) : Sp := sp1 K (fun d => isLineD d = true ∧ (wordD d = "push" ∨ wordD d = "pop")) fun d r _ => r = .str (entryD d)
theorem ok_entry_of (F : Fun K "_entry_of" "_entry_of" s_entry_of f fd) : FnOk P w K mg base CX0 1 f fd ["line"] (sp_entry_of K) := by
  refine F.ok sc_entry_of (fun vs H Q E h => sp1_len h rfl) (fun cdv A outer s H vs Q E hr h => ⟨RB _ _, pss_RB, ?_⟩)
  obtain ⟨v, d, rfl, hd, ⟨hl, hw⟩, q⟩ := h
  have fin : ∀ b, strIs "link" (partD 1 d) = b → Q (.str (if b = true then "link" else "value")) H := fun b hb => q _ _ (Ex.refl _) (by show _ = V.str (entryD d); unfold entryD; rw [hb])
  have go : ∀ (u : V), D K H u (partD 1 d) → RE (cxOf CX0 P w K mg base ["line"] "_entry_of" (defScope s_entry_of) f cdv A outer s H E).nox (.Constant (.str "link") 0 ⟨0, 0, 0, 0⟩) (L2.start ["line"] [v]) H fun y H2 => True := fun _ _ => re_str trivial
  refine rb_one (rs_ret (re_if (rt_cmp (op_eqS hr.units0) ?_)))
  rcases hw with hw | hw
  · refine re_part1 (re_var 0 rfl ⟨d, _, _, _, hd, hl, hw, form_push, rfl, fun u hu hf => re_str ⟨_, _, hu, rfl, _, rfl, ifB (fun e => re_str (by have := fin _ e; rwa [if_pos rfl] at this)) fun e => re_str (by have := fin _ e; rwa [if_neg Bool.false_ne_true] at this)⟩⟩)
  · refine re_part1 (re_var 0 rfl ⟨d, _, _, _, hd, hl, hw, form_pop, rfl, fun u hu hf => re_str ⟨_, _, hu, rfl, _, rfl, ifB (fun e => re_str (by have := fin _ e; rwa [if_pos rfl] at this)) fun e => re_str (by have := fin _ e; rwa [if_neg Bool.false_ne_true] at this)⟩⟩)
theorem sc_own_behind : FnScope ["line", "own"] ["line", "own"] (defScope s_own_behind) := ⟨rfl, rfl, rfl, by decide +kernel, rfl, by decide +kernel, by decide +kernel⟩
def ownB (d : PyData) (own : Bool) : Bool := isPair "pop" "link" d || (own && !decide (wordD d ∈ (["call", "callr"] : List Str)))
def sp_own_behind (K : PySem.W.Frag) : Sp := fun vs H Q _ => ∃ v d b, vs = [v, .bl b] ∧ D K H v d ∧ isLineD d = true ∧ ∀ r H', Ex H H' → r = .bl (ownB d b) → Q r H'
theorem ok_own_behind (F : Fun K "_own_behind" "_own_behind" s_own_behind f fd) (T : Frm2 K w mg) : FnOk P w K mg base CX0 1 f fd ["line", "own"] (sp_own_behind K) := by
  refine F.ok sc_own_behind (fun vs H Q E h => ?_) (fun cdv A outer s H vs Q E hr h => ⟨RB _ _, pss_RB, ?_⟩)
  · obtain ⟨_, _, _, rfl, _⟩ := h; rfl
  obtain ⟨v, d, b, rfl, hd, hl, q⟩ := h
  obtain ⟨ca, mC, hC⟩ := T.callW
  refine rb_cons (rs_if (rt_cmp (op_eqD hr.u64) ?_))
  refine cmp_pair hr.u64 form_pop rfl (by decide +kernel) (re_var 0 rfl ⟨d, hd, hl, fun H2 e2 => ⟨_, rfl, ifB (fun e => ?_) fun e => ?_⟩⟩) _ (fun H1 Q q => ra_cons (re_str (ra_cons (re_str (ra_nil q)))))
  · refine rb_one (rs_ret (re_bl (q _ _ e2 ?_)))
    show V.bl true = V.bl (isPair "pop" "link" d || _)
    rw [e]; rfl
  · refine rb_nil (rb_one (rs_ret (re_and (re_var 1 rfl ⟨b, rfl, ifB (fun eb => ?_) fun eb => ?_⟩))))
    · refine re_one (re_cmp op_notIn_seq (re_word (re_var 0 rfl ⟨d, hd.mono e2, hl, re_glob (v := .ref ca) mC rfl ⟨ca, _, rfl, .inr (hC _), rfl, flat_strs _, q _ _ e2 ?_⟩⟩)))
      show V.bl (!inV _ _) = V.bl (isPair "pop" "link" d || _)
      rw [e, eb, inV_strs, cont_mem]; rfl
    · refine q _ _ e2 ?_
      show V.bl false = V.bl (isPair "pop" "link" d || _)
      rw [e, eb]; rfl
theorem sc_needs_own : FnScope ["line"] ["line"] (defScope s_needs_own) := ⟨rfl, rfl, rfl, by decide +kernel, rfl, by decide +kernel, by decide +kernel⟩
def needsB (d : PyData) : Bool := isPair "push" "link" d || decide (wordD d ∈ (["back", "tail"] : List Str))
abbrev sp_needs_own (K : PySem.W.Frag) : Sp := spB K (fun d => isLineD d = true) needsB
theorem ok_needs_own (F : Fun K "_needs_own" "_needs_own" s_needs_own f fd) : FnOk P w K mg base CX0 1 f fd ["line"] (sp_needs_own K) := by
  refine F.ok sc_needs_own (fun vs H Q E h => sp1_len h rfl) (fun cdv A outer s H vs Q E hr h => ⟨RB _ _, pss_RB, ?_⟩)
  obtain ⟨v, d, rfl, hd, hl, q⟩ := h
  refine rb_one (rs_ret (re_or (re_cmp (op_eqD hr.u64) ?_)))
  refine cmp_pair hr.u64 form_push rfl (by decide +kernel) (re_var 0 rfl ⟨d, hd, hl, fun H2 e2 => ⟨_, rfl, ifB (fun e => ?_) fun e => ?_⟩⟩) _ (fun H1 Q q => ra_cons (re_str (ra_cons (re_str (ra_nil q)))))
  · refine q _ _ e2 ?_
    show V.bl true = V.bl (isPair "push" "link" d || _)
    rw [e]; rfl
  · refine re_one (re_cmp op_in_seq (re_word (re_var 0 rfl ⟨d, hd.mono e2, hl, re_tup (ra_cons (re_str (ra_cons (re_str (ra_nil ⟨(show 2 ≤ 100000 by decide), fun p H3 hp e3 h3 => ⟨p, (["back", "tail"] : List Str).map V.str, rfl, .inr (.inl (.inl h3)), rfl, flat_strs _, q _ _ (e2.trans e3) ?_⟩⟩)))))⟩)))
    show V.bl (inV _ _) = V.bl (isPair "push" "link" d || _)
    rw [e, inV_strs, cont_mem]; rfl
end
end Fl
end
section
set_option Elab.async false
set_option linter.all false
set_option maxRecDepth 100000
set_option maxHeartbeats 2000000
namespace Fl
open PySem PySem.Spec PyProof.Rows L2 Fx
open Evl (Ex fresh_back)
/-! ### rows -/
def rowOk (row : List Str) : Prop := ∀ w ∈ row, PyData.strOk w = true
def hasV (row : List Str) (k : Nat) : Bool := decide (k < row.length) && decide (row[row.length - 1 - k]? = some ("value" : Str))
def natD : PyData → Nat
  | .int i => i.toNat
  | _ => 0
def rowB (d : PyData) (row : List Str) : Option (List Str) :=
  if wordD d = "push" then some (row ++ [entryD d])
  else if wordD d = "pop" then (if row.drop (row.length - 1) = [entryD d] then some row.dropLast else none)
  else if wordD d = "read" then (if hasV row (natD (partD 2 d)) = true then some row else none)
  else if wordD d = "write" then (if hasV row (natD (partD 1 d)) = true then some row else none)
  else if wordD d ∈ (["back", "tail"] : List Str) then (if row = [] then some row else none)
  else some row
def optRow (K : PySem.W.Frag) (H : Hp) (r : V) : Option (List Str) → Prop
  | none => r = .non
  | some row => ∃ p, r = .ref p ∧ SqT K H p (row.map V.str)
theorem entry_ok (d : PyData) : PyData.strOk (entryD d) = true := by
  unfold entryD
  split <;> decide +kernel
theorem fits_entry {d : PyData} (h : fitsD "entry" d = true) : d = .int (natD d : Nat) := by
  have h : entB d = true := by
    unfold fitsD at h
    rw [if_neg (by decide +kernel), if_neg (by decide +kernel), if_pos rfl] at h
    exact h
  cases d with
  | int i =>
    have h : (decide (0 ≤ i) && decide (i ≤ 59)) = true := h
    rw [Bool.and_eq_true, decide_eq_true_eq, decide_eq_true_eq] at h
    show PyData.int i = PyData.int (i.toNat : Nat)
    rw [Int.toNat_of_nonneg h.1]
  | _ => exact absurd (show false = true from h) Bool.false_ne_true
section
variable {X : Cx} {e f : Expr} {σ : L2.St} {H : Hp} {Q : VK} {pos p2 : Pos}
/-- t[lo:], t[:hi] of a tuple -/
theorem re_from (h : RE X e σ H fun x H1 => RE X f σ H1 fun y H2 => ∃ i, y = .int i ∧ ∃ a xs, x = .ref a ∧ SqT X.K H2 a xs ∧ ∀ r H3, Ex H2 H3 → SqT X.K H3 r (cutV xs (some i) none) → Q (.ref r) H3) : RE X (.Subscript e (.Slice (some f) none none p2) pos) σ H Q :=
  re_of (pe_slice sl_tupA pe_RE (po_some pe_RE) po_none) (h.mono fun x H1 q => q.mono fun y H2 ⟨i, ey, a, xs, ex, sq, q⟩ => ⟨i, ey, a, xs, ex, sq, fun z => q a H2 (Ex.refl _) (by
    have : cutV xs (some i) none = xs := by unfold cutV; rw [z.1, z.2]; simp
    rw [this]; exact sq), fun _ p hp => q p _ (Ex.new hp) (.inl (.inl upd_same))⟩)
theorem re_upto (h : RE X e σ H fun x H1 => RE X f σ H1 fun y H2 => ∃ i, y = .int i ∧ ∃ a xs, x = .ref a ∧ SqT X.K H2 a xs ∧ ∀ r H3, Ex H2 H3 → SqT X.K H3 r (cutV xs none (some i)) → Q (.ref r) H3) : RE X (.Subscript e (.Slice none (some f) none p2) pos) σ H Q :=
  re_of (pe_slice sl_tupA pe_RE po_none (po_some pe_RE)) (h.mono fun x H1 q => q.mono fun y H2 ⟨i, ey, a, xs, ex, sq, q⟩ => ⟨i, ey, a, xs, ex, sq, fun z => q a H2 (Ex.refl _) (by
    have : cutV xs none (some i) = xs := by unfold cutV; rw [z.1, z.2]; simp
    rw [this]; exact sq), fun _ p hp => q p _ (Ex.new hp) (.inl (.inl upd_same))⟩)
end
theorem sIx_neg (n d : Nat) : HT.sIx n d (some (-1)) = n - 1 := by
  show (if (-1 : Int) < 0 then ((-1 : Int) + (n : Int)).toNat else min (-1 : Int).toNat n) = n - 1
  rw [if_pos (by decide)]
  omega
theorem cut_last (xs : List V) : cutV xs (some (-1)) none = xs.drop (xs.length - 1) := by
  unfold cutV
  rw [sIx_neg, HT.sIx_none]
  exact List.take_of_length_le (by rw [List.length_drop]; exact Nat.le_refl _)
theorem cut_init (xs : List V) : cutV xs none (some (-1)) = xs.dropLast := by
  unfold cutV
  rw [sIx_neg, HT.sIx_none, List.drop_zero, Nat.sub_zero, List.dropLast_eq_take]
section
variable {P : Program} {w : World} {K : PySem.W.Frag} {mg : Str → Option Value} {base : Heap} {f : Addr} {fd : FuncData}
theorem sc_has_value : FnScope ["row", "k"] ["row", "k"] (defScope s_has_value) := ⟨rfl, rfl, rfl, by decide +kernel, rfl, by decide +kernel, by decide +kernel⟩
def sp_has_value (K : PySem.W.Frag) : Sp := fun vs H Q _ => ∃ rp row k, vs = [.ref rp, .int ((k : Nat) : Int)] ∧ SqT K H rp (row.map V.str) ∧ ∀ r H', Ex H H' → r = .bl (hasV row k) → Q r H'
theorem ok_has_value (F : Fun K "_has_value" "_has_value" s_has_value f fd) (G : Gb mg) : FnOk P w K mg base CX0 1 f fd ["row", "k"] (sp_has_value K) := by
  refine F.ok sc_has_value (fun vs H Q E h => ?_) (fun cdv A outer s H vs Q E hr h => ⟨RB _ _, pss_RB, ?_⟩)
  · obtain ⟨_, _, _, rfl, _⟩ := h; rfl
  obtain ⟨rp, row, k, rfl, sq, q⟩ := h
  have lv : LenV K (.ref rp) H row.length := .inr ⟨_, sq, by rw [List.length_map]⟩
  refine rb_one (rs_ret (re_and (re_cmp op_lt (re_var 1 rfl (re_cb call_len G.len (ra_cons (re_var 0 rfl (ra_nil ⟨_, row.length, rfl, lv, _, _, rfl, rfl, _, rfl, ifB (fun e => ?_) fun e => ?_⟩))))))))
  · have hk : k < row.length := by have := of_decide_eq_true e; omega
    have hi : row.length - 1 - k < row.length := by omega
    refine re_one (re_cmp op_eq (re_ixT (re_var 0 rfl (re_op op_sub (re_op op_sub (re_cb call_len G.len (ra_cons (re_var 0 rfl (ra_nil ⟨_, row.length, rfl, lv, re_int ⟨_, _, rfl, rfl, re_var 1 rfl ⟨_, _, rfl, rfl, rp, _, ((row.length - 1 - k : Nat) : Int), .str row[row.length - 1 - k], rfl, ?_, sq, atI_nat ?_, re_str ⟨rfl, q _ _ (Ex.refl _) ?_⟩⟩⟩⟩)))))))))
    · exact congrArg V.int (by omega)
    · rw [List.getElem?_map, List.getElem?_eq_getElem hi]; rfl
    · rw [eqK]
      show _ = V.bl (decide _ && decide _)
      rw [decide_eq_true hk, Bool.true_and, List.getElem?_eq_getElem hi]
      exact congrArg V.bl (decide_eq_decide.mpr ⟨fun z => by rw [z], fun z => Option.some.inj z⟩)
  · refine q _ _ (Ex.refl _) ?_
    show V.bl false = V.bl (decide _ && _)
    rw [decide_eq_false (show ¬ k < row.length by have := of_decide_eq_false e; omega)]; rfl
theorem sc_row_behind : FnScope ["line", "row", "word"] ["line", "row"] (defScope s_row_behind) := ⟨rfl, rfl, rfl, by decide +kernel, rfl, by decide +kernel, by decide +kernel⟩
def sp_row_behind (K : PySem.W.Frag) : Sp := fun vs H Q _ => ∃ v d rp row, vs = [v, .ref rp] ∧ D K H v d ∧ isLineD d = true ∧ SqT K H rp (row.map V.str) ∧ row.length ≤ 1000 ∧ rowOk row ∧ ∀ r H', Ex H H' → optRow K H' r (rowB d row) → Q r H'
theorem ok_row_behind (F : Fun K "_row_behind" "_row_behind" s_row_behind f fd) (G : Gb mg) (c1 : Cl P w K mg base CX0 1 "_entry_of" (sp_entry_of K)) (c2 : Cl P w K mg base CX0 1 "_has_value" (sp_has_value K)) : FnOk P w K mg base CX0 2 f fd ["line", "row"] (sp_row_behind K) := by
  refine F.ok sc_row_behind (fun vs H Q E h => ?_) (fun cdv A outer s H vs Q E hr h => ⟨RB _ _, pss_RB, ?_⟩)
  · obtain ⟨_, _, _, _, rfl, _⟩ := h; rfl
  obtain ⟨v, d, rp, row, rfl, hd, hl, sq, hn, ok, q⟩ := h
  refine rb_cons (rs_set 2 sc_row_behind.nd (re_word (re_var 0 rfl ⟨d, hd, hl, ?_⟩)))
  refine rb_cons (rs_if (rt_cmp op_eq (re_var 2 rfl (re_str ⟨rfl, _, rfl, ?_⟩))))
  rw [eqK]
  by_cases k1 : wordD d = "push"
  · rw [decide_eq_true k1]
    refine ifT (rb_one (rs_ret (re_tup (ra_star (re_var 1 rfl ⟨rp, _, rfl, .inl sq, ra_cons (re_call c1 hr (ra_cons (re_var 0 rfl (ra_nil ⟨v, d, rfl, hd, ⟨hl, .inl k1⟩, fun r H1 e1 h1 => ra_nil ⟨?_, fun p H2 hp e2 h2 => q _ _ (e1.trans e2) ?_⟩⟩))))⟩)))))
    · rw [List.length_append, List.length_map]; exact Nat.le_trans (Nat.add_le_add_right hn 1) (by decide)
    · subst h1
      unfold rowB
      rw [if_pos k1]
      exact ⟨p, rfl, .inl (.inl (by rw [List.map_append]; exact h2))⟩
  rw [decide_eq_false k1]
  refine ifF (rb_nil (rb_cons (rs_if (rt_cmp op_eq (re_var 2 rfl (re_str ⟨rfl, _, rfl, ?_⟩))))))
  rw [eqK]
  by_cases k2 : wordD d = "pop"
  · rw [decide_eq_true k2]
    have er : rowB d row = if row.drop (row.length - 1) = [entryD d] then some row.dropLast else none := by unfold rowB; rw [if_neg k1, if_pos k2]
    refine ifT (rb_one (rs_ret (re_if (rt_eqT hr.u64 (re_from (re_var 1 rfl (re_un un_neg (re_int ⟨1, rfl, -1, rfl, rp, _, rfl, sq, fun ra H1 e1 h1 => ?_⟩))))))))
    rw [cut_last, List.length_map, ← List.map_drop] at h1
    refine re_tup (ra_cons (re_call c1 hr (ra_cons (re_var 0 rfl (ra_nil ⟨v, d, rfl, hd.mono e1, ⟨hl, .inr k2⟩, fun r H2 e2 h2 => ra_nil ⟨(show 1 ≤ 100000 by decide), fun p H3 hp e3 h3 => ?_⟩⟩)))))
    subst h2
    have e123 := (e1.trans e2).trans e3
    refine ⟨row.drop (row.length - 1), [entryD d], ⟨ra, p, rfl, rfl, Evl.ex_t (e2.trans e3) h1, .inl (.inl h3), fun x hx => ok x (List.mem_of_mem_drop hx), fun x hx => by rw [List.mem_singleton.mp hx]; exact entry_ok d⟩, ifB (fun e => ?_) fun e => ?_⟩
    · refine re_upto (re_var 1 rfl (re_un un_neg (re_int ⟨1, rfl, -1, rfl, rp, _, rfl, Evl.ex_t e123 sq, fun rb H4 e4 h4 => q _ _ (e123.trans e4) ?_⟩)))
      rw [cut_init] at h4
      rw [er, if_pos (of_decide_eq_true e)]
      exact ⟨rb, rfl, by rw [List.map_dropLast]; exact h4⟩
    · refine re_non (q _ _ e123 ?_)
      rw [er, if_neg (of_decide_eq_false e)]; rfl
  rw [decide_eq_false k2]
  refine ifF (rb_nil (rb_cons (rs_if (rt_cmp op_eq (re_var 2 rfl (re_str ⟨rfl, _, rfl, ?_⟩))))))
  rw [eqK]
  by_cases k3 : wordD d = "read"
  · rw [decide_eq_true k3]
    have er : rowB d row = if hasV row (natD (partD 2 d)) = true then some row else none := by unfold rowB; rw [if_neg k1, if_neg k2, if_pos k3]
    refine ifT (rb_one (rs_ret (re_if (rt_val (re_call c2 hr (ra_cons (re_var 1 rfl (ra_cons (re_part2 (re_var 0 rfl ⟨d, _, _, _, hd, hl, k3, form_read, rfl, fun u hu hf => ?_⟩))))))))))
    rw [fits_entry hf] at hu
    cases hu
    refine ra_nil ⟨rp, row, natD (partD 2 d), rfl, sq, fun r H1 e1 h1 => ⟨_, h1, ifB (fun e => ?_) fun e => ?_⟩⟩
    · exact re_var 1 rfl (q _ _ e1 (by rw [er, if_pos e]; exact ⟨rp, rfl, Evl.ex_t e1 sq⟩))
    · exact re_non (q _ _ e1 (by rw [er, if_neg (by rw [e]; exact Bool.false_ne_true)]; rfl))
  rw [decide_eq_false k3]
  refine ifF (rb_nil (rb_cons (rs_if (rt_cmp op_eq (re_var 2 rfl (re_str ⟨rfl, _, rfl, ?_⟩))))))
  rw [eqK]
  by_cases k4 : wordD d = "write"
  · rw [decide_eq_true k4]
    have er : rowB d row = if hasV row (natD (partD 1 d)) = true then some row else none := by unfold rowB; rw [if_neg k1, if_neg k2, if_neg k3, if_pos k4]
    refine ifT (rb_one (rs_ret (re_if (rt_val (re_call c2 hr (ra_cons (re_var 1 rfl (ra_cons (re_part1 (re_var 0 rfl ⟨d, _, _, _, hd, hl, k4, form_write, rfl, fun u hu hf => ?_⟩))))))))))
    rw [fits_entry hf] at hu
    cases hu
    refine ra_nil ⟨rp, row, natD (partD 1 d), rfl, sq, fun r H1 e1 h1 => ⟨_, h1, ifB (fun e => ?_) fun e => ?_⟩⟩
    · exact re_var 1 rfl (q _ _ e1 (by rw [er, if_pos e]; exact ⟨rp, rfl, Evl.ex_t e1 sq⟩))
    · exact re_non (q _ _ e1 (by rw [er, if_neg (by rw [e]; exact Bool.false_ne_true)]; rfl))
  rw [decide_eq_false k4]
  refine ifF (rb_nil (rb_cons (rs_if (rt_in (ws := ["back", "tail"]) (re_var 2 rfl ⟨_, rfl, re_tup (ra_cons (re_str (ra_cons (re_str (ra_nil ⟨(show 2 ≤ 100000 by decide), fun p H1 hp e1 h1 => ⟨p, rfl, .inl (.inl h1), ifB (fun k5 => ?_) fun k5 => ?_⟩⟩)))))⟩)))))
  · have er : rowB d row = if row = [] then some row else none := by unfold rowB; rw [if_neg k1, if_neg k2, if_neg k3, if_neg k4, if_pos (of_decide_eq_true k5)]
    refine rb_one (rs_ret (re_if (rt_eqT hr.u64 (re_var 1 rfl (re_tup (ra_nil ⟨Nat.zero_le _, fun p2 H2 hp2 e2 h2 => ⟨row, [], ⟨rp, p2, rfl, rfl, Evl.ex_t (e1.trans e2) sq, .inl (.inl h2), ok, fun x hx => absurd hx List.not_mem_nil⟩, ifB (fun e => ?_) fun e => ?_⟩⟩))))))
    · exact re_var 1 rfl (q _ _ (e1.trans e2) (by rw [er, if_pos (of_decide_eq_true e)]; exact ⟨rp, rfl, Evl.ex_t (e1.trans e2) sq⟩))
    · exact re_non (q _ _ (e1.trans e2) (by rw [er, if_neg (of_decide_eq_false e)]; rfl))
  · refine rb_nil (rb_one (rs_ret (re_var 1 rfl (q _ _ e1 ?_))))
    unfold rowB
    rw [if_neg k1, if_neg k2, if_neg k3, if_neg k4, if_neg (of_decide_eq_false k5)]
    exact ⟨rp, rfl, Evl.ex_t e1 sq⟩
end
end Fl
end
section
set_option Elab.async false
set_option linter.all false
set_option maxRecDepth 100000
set_option maxHeartbeats 4000000
namespace Fx
open PySem PySem.Spec PyProof.Rows L2
theorem re_dict1 {X : Cx} {kx vx : Expr} {σ : L2.St} {H : Hp} {Q : VK} {pos : Pos} (h : ∀ p, H p = none → RE X kx σ (upd H p (.dK [])) fun x H1 => RE X vx σ H1 fun y H2 => H2 p = some (.dK []) ∧ ∃ k, x = kV k ∧ Q (.ref p) (upd H2 p (.dK [(k, y)]))) : RE X (.Dict [some kx] [vx] pos) σ H Q :=
  re_of (pe_disp (pps_cons pe_RE pe_RE pps_nil) rfl rfl (List.cons_ne_nil _ _) (show 1 ≤ 15 by decide)) (fun p hp => (h p hp).mono fun x H1 q => q.mono fun y H2 ⟨h1, k, ek, q⟩ => ⟨h1, [(k, y)], by rw [ek]; rfl, (show 1 ≤ 15 by decide), q⟩)
end Fx
namespace Fl
open PySem PySem.Spec PyProof.Rows L2 Fx
open Evl (Ex fresh_back)
/-- rows that go together -/
def RowsOk (ds : List PyData) (ρ : Nat → List Str) : Prop := ρ 0 = [] ∧ ∀ i, Reach ds i → ∃ d row, ds[i]? = some d ∧ rowB d (ρ i) = some row ∧ ∀ j ∈ leadsN ds i, ρ j = row
theorem sqt_upd {K : PySem.W.Frag} {H : Hp} {a p : Addr} {xs : List V} {o : HO} (h : SqT K H a xs) (hp : ∀ u, H p = some u → (∀ ys, u ≠ .tup ys) ∧ ∀ ob ys, u ≠ .frz ob (.tup ys)) (hn : H p ≠ none) : SqT K (upd H p o) a xs := by
  rcases h with (h | ⟨ob, h⟩) | h
  · have : a ≠ p := fun z => (hp _ (z ▸ h)).1 _ rfl
    exact .inl (.inl (by rw [upd_ne this]; exact h))
  · have : a ≠ p := fun z => (hp _ (z ▸ h)).2 _ _ rfl
    exact .inl (.inr ⟨ob, by rw [upd_ne this]; exact h⟩)
  · exact .inr h
theorem sqt_dK {K : PySem.W.Frag} {H : Hp} {a p : Addr} {xs : List V} {o : HO} {kvs : List (Key × V)} (h : SqT K H a xs) (hp : H p = some (.dK kvs)) : SqT K (upd H p o) a xs :=
  sqt_upd h (fun u hu => by rw [hp] at hu; cases hu; exact ⟨fun _ z => (by cases z), fun _ _ z => (by cases z)⟩) (by rw [hp]; exact Option.some_ne_none _)
theorem sqt_lst {K : PySem.W.Frag} {H : Hp} {a p : Addr} {xs : List V} {o : HO} {ys : List V} (h : SqT K H a xs) (hp : H p = some (.lst ys)) : SqT K (upd H p o) a xs :=
  sqt_upd h (fun u hu => by rw [hp] at hu; cases hu; exact ⟨fun _ z => (by cases z), fun _ _ z => (by cases z)⟩) (by rw [hp]; exact Option.some_ne_none _)
theorem row_step {d : PyData} {row row' : List Str} (h : rowB d row = some row') : row'.length ≤ row.length + 1 ∧ (rowOk row → rowOk row') := by
  unfold rowB at h
  split at h
  · cases h
    refine ⟨by rw [List.length_append]; exact Nat.le_refl _, fun o w hw => ?_⟩
    rcases List.mem_append.mp hw with z | z
    · exact o w z
    · rw [List.mem_singleton.mp z]; exact entry_ok d
  · split at h
    · split at h
      · cases h
        refine ⟨by rw [List.length_dropLast]; omega, fun o w hw => o w (List.dropLast_subset _ hw)⟩
      · cases h
    · split at h
      · split at h
        · cases h; exact ⟨Nat.le_succ _, fun o => o⟩
        · cases h
      · split at h
        · split at h
          · cases h; exact ⟨Nat.le_succ _, fun o => o⟩
          · cases h
        · split at h
          · split at h
            · cases h; exact ⟨Nat.le_succ _, fun o => o⟩
            · cases h
          · cases h; exact ⟨Nat.le_succ _, fun o => o⟩
/-- what is known of found and todo -/
structure RoI (K : PySem.W.Frag) (ds : List PyData) (H H' : Hp) (fa ta : Addr) (kvs : List (Key × V)) (F T : List Nat) (ρ : Nat → List Str) : Prop where
  ex : Ex H H'
  fat : H' fa = some (.dK kvs)
  tat : H' ta = some (.lst (intsV T))
  keys : kvs.map (·.1) = F.map fun n : Nat => (Sum.inl (n : Int) : Key)
  nd : F.Nodup
  inF : ∀ n ∈ F, n < ds.length ∧ Reach ds n
  inT : ∀ n ∈ T, n ∈ F
  zero : 0 ∈ F
  rows : ∀ n ∈ F, ∃ q, valV kvs (.inl (n : Int)) = some (.ref q) ∧ SqT K H' q ((ρ n).map V.str)
  ok : ∀ n ∈ F, rowOk (ρ n) ∧ (ρ n).length ≤ F.length
  root : ρ 0 = []
  uniq : ∀ ρ', RowsOk ds ρ' → ∀ n ∈ F, ρ' n = ρ n
/-- those behind which all is done -/
def Done (ds : List PyData) (F : List Nat) (ρ : Nat → List Str) (n : Nat) : Prop := ∃ d row, ds[n]? = some d ∧ rowB d (ρ n) = some row ∧ ∀ j ∈ leadsN ds n, j ∈ F ∧ ρ j = row
def rowAt (ρ : Nat → List Str) (g : Nat) (row : List Str) : Nat → List Str := fun n => if n = g then row else ρ n
theorem rowAt_same {ρ g row} : rowAt ρ g row g = row := if_pos rfl
theorem rowAt_ne {ρ g row n} (h : n ≠ g) : rowAt ρ g row n = ρ n := if_neg h
theorem asc_eq : ∀ {R S : List Nat}, R.Pairwise (· < ·) → S.Pairwise (· < ·) → (∀ n, n ∈ R ↔ n ∈ S) → R = S
  | [], [], _, _, _ => rfl
  | [], b :: S, _, _, h => absurd ((h b).mpr List.mem_cons_self) List.not_mem_nil
  | a :: R, [], _, _, h => absurd ((h a).mp List.mem_cons_self) List.not_mem_nil
  | a :: R, b :: S, h1, h2, h => by
    have p1 := List.pairwise_cons.mp h1
    have p2 := List.pairwise_cons.mp h2
    have e : a = b := by
      rcases List.mem_cons.mp ((h a).mp List.mem_cons_self) with z | z
      · exact z
      · rcases List.mem_cons.mp ((h b).mpr List.mem_cons_self) with y | y
        · exact y.symm
        · have := p2.1 a z
          have := p1.1 b y
          omega
    subst e
    congr 1
    refine asc_eq p1.2 p2.2 fun n => ⟨fun z => ?_, fun z => ?_⟩
    · rcases List.mem_cons.mp ((h n).mp (List.mem_cons_of_mem _ z)) with y | y
      · have := p1.1 n z; omega
      · exact y
    · rcases List.mem_cons.mp ((h n).mpr (List.mem_cons_of_mem _ z)) with y | y
      · have := p2.1 n z; omega
      · exact y
theorem val_map (g : Nat → V) (y : Nat) : ∀ {R : List Nat}, y ∈ R → valV (R.map fun n : Nat => ((Sum.inl (n : Int) : Key), g n)) (.inl (y : Int)) = some (g y)
  | [], h => absurd h List.not_mem_nil
  | a :: R, h => by
    unfold valV
    rw [List.map_cons, List.find?_cons]
    by_cases e : a = y
    · subst e
      rw [decide_eq_true rfl]; rfl
    · rw [show decide (((Sum.inl (a : Int) : Key), g a).1 = Sum.inl (y : Int)) = false from decide_eq_false fun z => e (Int.ofNat.inj (Sum.inl.inj z))]
      exact val_map g y ((List.mem_cons.mp h).resolve_left fun z => e z.symm)
theorem Done.mono {ds : List PyData} {F F' : List Nat} {ρ ρ' : Nat → List Str} {n : Nat} (h : Done ds F ρ n) (hn : n ∈ F) (hF : ∀ k ∈ F, k ∈ F' ∧ ρ' k = ρ k) : Done ds F' ρ' n := by
  obtain ⟨d, row, h1, h2, h3⟩ := h
  refine ⟨d, row, h1, by rw [(hF n hn).2]; exact h2, fun j hj => ?_⟩
  obtain ⟨z, e⟩ := h3 j hj
  exact ⟨(hF j z).1, by rw [(hF j z).2]; exact e⟩
theorem key_F {kvs : List (Key × V)} {F : List Nat} (h : kvs.map (·.1) = F.map fun n : Nat => (Sum.inl (n : Int) : Key)) (y : Nat) : (valV kvs (.inl (y : Int))).isSome = decide (y ∈ F) := by
  rw [Bool.eq_iff_iff, val_iff, decide_eq_true_eq, h]
  refine ⟨fun z => ?_, fun z => List.mem_map.mpr ⟨y, z, rfl⟩⟩
  obtain ⟨n, hn, en⟩ := List.mem_map.mp z
  have : n = y := Int.ofNat.inj (Sum.inl.inj en)
  exact this ▸ hn
section
variable {P : Program} {w : World} {K : PySem.W.Frag} {mg : Str → Option Value} {base : Heap} {f : Addr} {fd : FuncData}
abbrev nm_rows_of : List Str := ["lines", "ways", "found", "todo", "at", "row", "goal"]
theorem sc_rows_of : FnScope nm_rows_of ["lines", "ways"] (defScope s_rows_of) := ⟨rfl, rfl, rfl, by decide +kernel, rfl, by decide +kernel, by decide +kernel⟩
structure RowsAt (K : PySem.W.Frag) (H : Hp) (p : Addr) (R : List Nat) (ρ : Nat → List Str) (rf : Nat → Addr) : Prop where
  at_ : H p = some (.dK (R.map fun n : Nat => ((Sum.inl (n : Int) : Key), V.ref (rf n))))
  val : ∀ n ∈ R, SqT K H (rf n) ((ρ n).map V.str)
def sp_rows_of (K : PySem.W.Frag) : Sp := fun vs H Q _ => ∃ v d wp R vf, vs = [v, .ref wp] ∧ D K H v d ∧ Good d ∧ Ways (itemsD d) H wp R vf ∧
  (∀ H', Ex H H' → (¬ ∃ ρ, RowsOk (itemsD d) ρ) → Q .non H') ∧ ∀ p H' ρ rf, Ex H H' → RowsOk (itemsD d) ρ → RowsAt K H' p R ρ rf → Q (.ref p) H'
theorem ok_rows_of (F : Fun K "rows_of" "rows_of" s_rows_of f fd) (G : Gb mg) (c1 : Cl P w K mg base CX0 2 "_row_behind" (sp_row_behind K)) : FnOk P w K mg base CX0 3 f fd ["lines", "ways"] (sp_rows_of K) := by
  refine F.ok sc_rows_of (fun vs H Q E h => ?_) (fun cdv A outer s H vs Q E hr h => ⟨RB _ _, pss_RB, ?_⟩)
  · obtain ⟨_, _, _, _, _, rfl, _⟩ := h; rfl
  obtain ⟨v, d, wp, R, vf, rfl, hd, g, W, qN, qD⟩ := h
  have lt := fun {i j : Nat} (h : j ∈ leadsN (itemsD d) i) => leads_lt g h
  have h0 := g.pos
  have h60 := g.len
  have gok := g.ok
  generalize eds : itemsD d = ds at *
  refine rb_cons (rs_set 2 (by exact sc_rows_of.nd) (re_dict1 fun fa hfa => re_int (re_tup (ra_nil ⟨Nat.zero_le _, fun t H1 ht e1 h1 => ⟨e1 _ _ upd_same, .inl 0, rfl, ?_⟩⟩))))
  have eH1 : Ex H H1 := (Ex.new hfa).trans e1
  have ntf : t ≠ fa := fun z => by rw [z, upd_same] at ht; exact (Option.some_ne_none _ ht).elim
  refine rb_cons (rs_set 3 (by exact sc_rows_of.nd) (re_lst (ra_cons (re_int (ra_nil ⟨(show 1 ≤ 100000 by decide), fun ta H3 hta e3 h3 => ?_⟩)))))
  have eH2 : Ex H (upd H1 fa (.dK [(Sum.inl 0, V.ref t)])) := ex_mut eH1 hfa
  have hfa2 : upd H1 fa (.dK [(Sum.inl 0, V.ref t)]) fa = some (.dK [(Sum.inl 0, V.ref t)]) := upd_same
  have ht2 : upd H1 fa (.dK [(Sum.inl 0, V.ref t)]) t = some (.tup []) := by rw [upd_ne ntf]; exact h1
  have nta : H ta = none := fresh_back eH2 hta
  have nft : fa ≠ ta := fun z => by rw [← z, hfa2] at hta; exact (Option.some_ne_none _ hta).elim
  refine rb_cons ?_
  refine rs_while (m0 := 2 * (ds.length - 1) + 1) PassesOwn.never (fun m σ' H' => ∃ A' B' C' kvs F T ρ, σ' = [some v, some (.ref wp), some (.ref fa), some (.ref ta), A', B', C'] ∧ RoI K ds H H' fa ta kvs F T ρ ∧ (∀ n ∈ F, n ∈ T ∨ Done ds F ρ n) ∧ m = 2 * (ds.length - F.length) + T.length ∧ m ≤ 121) ?_ ?_
  · refine ⟨none, none, none, [(Sum.inl 0, V.ref t)], [0], [0], fun _ => [], rfl, ⟨eH2.trans e3, e3 _ _ hfa2, h3, rfl, List.pairwise_singleton _ _, fun n hn => ?_, fun n hn => hn, List.mem_cons_self, fun n hn => ?_, fun n hn => ⟨fun w hw => absurd hw List.not_mem_nil, Nat.zero_le _⟩, rfl, fun ρ' h n hn => ?_⟩, fun n hn => .inl hn, rfl, by omega⟩
    · obtain rfl := List.mem_singleton.mp hn
      exact ⟨h0, .zero⟩
    · obtain rfl := List.mem_singleton.mp hn
      exact ⟨t, rfl, .inl (.inl (e3 _ _ ht2))⟩
    · obtain rfl := List.mem_singleton.mp hn
      exact h.1
  · rintro m σ' H' ⟨A', B', C', kvs, F, T, ρ, rfl, I, done, hm, hm121⟩
    refine rt_lst (re_var 3 rfl ⟨ta, _, rfl, SqL.of I.tat, ifB (fun e => ?_) fun e => ?_⟩)
    · refine ⟨fun σ'' H'' => ∃ m', m' < m ∧ ∃ A' B' C' kvs F T ρ, σ'' = [some v, some (.ref wp), some (.ref fa), some (.ref ta), A', B', C'] ∧ RoI K ds H H'' fa ta kvs F T ρ ∧ (∀ n ∈ F, n ∈ T ∨ Done ds F ρ n) ∧ m' = 2 * (ds.length - F.length) + T.length ∧ m' ≤ 121, fun _ _ h => h, ?_⟩
      obtain ⟨T', y, rfl⟩ : ∃ T' y, T = T' ++ [y] := by
        rcases List.eq_nil_or_concat T with z | ⟨T', y, z⟩
        · rw [z] at e; exact absurd e (by decide)
        · exact ⟨T', y, by rw [z, List.concat_eq_append]⟩
      have hyF := I.inT y (List.mem_append_right _ (List.mem_singleton.mpr rfl))
      obtain ⟨hylt, hyr⟩ := I.inF y hyF
      have hyR := (W.mem y).mpr hyr
      obtain ⟨dy, hdy⟩ : ∃ dy, ds[y]? = some dy := ⟨_, List.getElem?_eq_getElem hylt⟩
      have hldy := gok dy (List.mem_of_getElem? hdy)
      have hFl := nodup_bound ds.length F I.nd fun x hx => (I.inF x hx).1
      refine rb_cons (rs_set 4 (by exact sc_rows_of.nd) (re_pop (re_var 3 rfl ⟨ta, intsV T', .int (y : Nat), rfl, by rw [I.tat]; unfold intsV; rw [List.map_append]; rfl, ?_⟩)))
      have I1 : RoI K ds H (upd H' ta (.lst (intsV T'))) fa ta kvs F T' ρ := ⟨ex_mut I.ex nta, by rw [upd_ne nft]; exact I.fat, upd_same, I.keys, I.nd, I.inF, fun n hn => I.inT n (List.mem_append_left _ hn), I.zero, fun n hn => by
        obtain ⟨q, h1, h2⟩ := I.rows n hn
        exact ⟨q, h1, sqt_lst h2 I.tat⟩, I.ok, I.root, I.uniq⟩
      rw [List.length_append, List.length_singleton] at hm
      have done1 : ∀ n ∈ F, n ≠ y → n ∈ T' ∨ Done ds F ρ n := fun n hn hy => by
        rcases done n hn with z | z
        · rcases List.mem_append.mp z with z | z
          · exact .inl z
          · exact absurd (List.mem_singleton.mp z) hy
        · exact .inr z
      clear done I
      generalize upd H' ta (.lst (intsV T')) = Ha at *
      obtain ⟨qy, hvy, hsy⟩ := I1.rows y hyF
      refine rb_cons (rs_set 5 (by exact sc_rows_of.nd) (re_call c1 hr (ra_cons (re_ixD (re_var 0 rfl (re_var 4 rfl ⟨d, y, dy, hd.mono I1.ex, g.isl, rfl, by rw [eds]; exact hdy, fun u hu => ra_cons (re_dget (hu_of hr) (re_var 2 rfl (re_var 4 rfl ⟨fa, kvs, .inl (y : Int), _, rfl, I1.fat, rfl, hvy, ra_nil ⟨u, dy, qy, ρ y, rfl, hu, hldy, hsy, Nat.le_trans (I1.ok y hyF).2 (by omega), (I1.ok y hyF).1, fun r H4 e4 h4 => ?_⟩⟩)))⟩))))))
      have I4 : RoI K ds H H4 fa ta kvs F T' ρ := ⟨I1.ex.trans e4, e4 _ _ I1.fat, e4 _ _ I1.tat, I1.keys, I1.nd, I1.inF, I1.inT, I1.zero, fun n hn => by
        obtain ⟨q, h1, h2⟩ := I1.rows n hn
        exact ⟨q, h1, Evl.ex_t e4 h2⟩, I1.ok, I1.root, I1.uniq⟩
      refine rb_cons (rs_if (rt_cmp op_isN (re_var 5 rfl (re_non ⟨rfl, _, rfl, ?_⟩))))
      cases hrow : rowB dy (ρ y) with
      | none =>
        rw [hrow] at h4
        obtain rfl : r = .non := h4
        rw [decide_eq_true rfl]
        refine ifT (rb_one (rs_ret (re_non (qN _ I4.ex ?_))))
        rintro ⟨ρ', hρ⟩
        obtain ⟨d', row', h1, h2, h3⟩ := hρ.2 y hyr
        obtain rfl := Option.some.inj (h1.symm.trans hdy)
        rw [I4.uniq ρ' hρ y hyF, hrow] at h2
        cases h2
      | some row =>
      rw [hrow] at h4
      obtain ⟨rp, rfl, hrp⟩ := h4
      rw [decide_eq_false (fun z => nomatch z)]
      obtain ⟨rl, ro⟩ := row_step hrow
      have ro := ro (I4.ok y hyF).1
      have rl : row.length ≤ F.length + 1 := Nat.le_trans rl (Nat.add_le_add_right (I4.ok y hyF).2 1)
      have must : ∀ ρ', RowsOk ds ρ' → ∀ j ∈ leadsN ds y, ρ' j = row := fun ρ' h j hj => by
        obtain ⟨d', row', h1, h2, h3⟩ := h.2 y hyr
        obtain rfl := Option.some.inj (h1.symm.trans hdy)
        rw [I4.uniq ρ' h y hyF, hrow] at h2
        obtain rfl := Option.some.inj h2
        exact h3 j hj
      refine ifF (rb_nil (rb_one ?_))
      refine rs_for (g := gName 6) PassesOwn.never rfl (pg_name (i := 6) (by exact sc_rows_of.nd) rfl (Or.inl rfl)) good_name ?_
      refine ri_tup (re_dget (hu_of hr) (re_var 1 rfl (re_var 4 rfl ⟨wp, _, .inl (y : Int), .ref (vf y), rfl, I4.ex _ _ W.at_, rfl, val_map (fun n => V.ref (vf n)) y hyR, vf y, intsV (leadsN ds y), rfl, .inl (.inl (I4.ex _ _ (W.val y hyR))), _, _, _, fun k σ' H' => ∃ kvs F' T2 ρ' C2, σ' = [some v, some (.ref wp), some (.ref fa), some (.ref ta), some (.int (y : Nat)), some (.ref rp), C2] ∧ RoI K ds H H' fa ta kvs F' T2 ρ' ∧ SqT K H' rp (row.map V.str) ∧ (∀ n ∈ F, n ∈ F' ∧ ρ' n = ρ n) ∧ F.length ≤ F'.length ∧ (∀ n ∈ F', n ≠ y → n ∈ T2 ∨ Done ds F' ρ' n) ∧ (∀ k' < k, ∀ j, (leadsN ds y)[k']? = some j → j ∈ F' ∧ ρ' j = row) ∧ 2 * (ds.length - F'.length) + T2.length + 1 ≤ m, walk_tup (xs := intsV (leadsN ds y)), ?_, ?_, ?_, ?_⟩)))
      · exact ⟨kvs, F, T', ρ, _, rfl, I4, hrp, fun n hn => ⟨hn, rfl⟩, Nat.le_refl _, done1, fun k' hk => absurd hk (Nat.not_lt_zero _), by omega⟩
      · rintro k σ' H' hk ⟨_, _, _, _, _, _, I5, _⟩
        exact .inl (.inl (I5.ex _ _ (W.val y hyR)))
      · rintro k x σ' Hb Hc hk ⟨kvs5, F5, T5, ρ5, C5, rfl, I5, hrp5, agree, hlen5, done5, all5, m5⟩ ⟨rfl, hx⟩
        unfold intsV at hx
        rw [List.getElem?_map] at hx
        obtain ⟨j, hj, rfl⟩ := Option.map_eq_some_iff.mp hx
        have hjm := List.mem_of_getElem? hj
        have hF5 := nodup_bound ds.length F5 I5.nd fun x hx => (I5.inF x hx).1
        have hk5 : kvs5.length = F5.length := by have := congrArg List.length I5.keys; rw [List.length_map, List.length_map] at this; exact this
        refine rb_one (rs_if (rt_dnin (hu_of hr) (re_var 6 rfl (re_var 2 rfl ⟨fa, kvs5, .inl (j : Int), rfl, I5.fat, rfl, ?_⟩))))
        rw [key_F I5.keys]
        by_cases hjF : j ∈ F5
        · rw [decide_eq_true hjF]
          obtain ⟨qj, hvj, hsj⟩ := I5.rows j hjF
          refine ifF (rb_one (rs_if (rt_neT hr.u64 (re_dget (hu_of hr) (re_var 2 rfl (re_var 6 rfl ⟨fa, kvs5, .inl (j : Int), _, rfl, I5.fat, rfl, hvj, re_var 5 rfl ⟨ρ5 j, row, ⟨qj, rp, rfl, rfl, hsj, hrp5, (I5.ok j hjF).1, ro⟩, ifB (fun e => ?_) fun e => ?_⟩⟩))))))
          · refine rb_one (rs_ret (re_non (qN _ I5.ex ?_)))
            rintro ⟨ρ', hρ⟩
            have : ρ5 j = row := (I5.uniq ρ' hρ j hjF).symm.trans (must ρ' hρ j hjm)
            rw [decide_eq_true this] at e
            exact Bool.noConfusion e
          · have er : ρ5 j = row := by
              by_cases z : ρ5 j = row
              · exact z
              · rw [decide_eq_false z] at e; exact Bool.noConfusion e
            refine rb_nil ⟨kvs5, F5, T5, ρ5, _, rfl, I5, hrp5, agree, hlen5, done5, fun k' hk' i hi => ?_, m5⟩
            by_cases ek : k' = k
            · subst ek
              obtain rfl := Option.some.inj (hi.symm.trans hj)
              exact ⟨hjF, er⟩
            · exact all5 k' (by omega) i hi
        · rw [decide_eq_false hjF]
          have hjlt := lt hjm
          have hjr := hyr.step hjm
          have hnew : (Sum.inl (j : Int) : Key) ∉ kvs5.map (·.1) := fun z => by
            have hs := (val_iff kvs5 (Sum.inl (j : Int))).mpr z
            rw [key_F I5.keys, decide_eq_false hjF] at hs
            exact Bool.noConfusion hs
          have hnd : (F5 ++ [j]).Nodup := List.nodup_append.mpr ⟨I5.nd, List.pairwise_singleton _ _, fun a ha b hb => by
            obtain rfl := List.mem_singleton.mp hb
            exact fun z => hjF (z ▸ ha)⟩
          have hF6 := nodup_bound ds.length (F5 ++ [j]) hnd fun x hx => by
            rcases List.mem_append.mp hx with z | z
            · exact (I5.inF x z).1
            · exact List.mem_singleton.mp z ▸ hjlt
          rw [List.length_append, List.length_singleton] at hF6
          refine ifT (rb_cons (rs_dput (hu_of hr) (re_var 5 rfl (re_var 2 rfl (re_var 6 rfl ⟨fa, kvs5, .inl (j : Int), rfl, I5.fat, rfl, Nat.lt_of_lt_of_le (show kvs5.length < 100000 by omega) (by decide), ?_⟩)))))
          rw [put_new hnew]
          have hT6 : upd Hc fa (.dK (kvs5 ++ [(Sum.inl (j : Int), V.ref rp)])) ta = some (.lst (intsV T5)) := by rw [upd_ne (fun z => nft z.symm)]; exact I5.tat
          refine rb_one (rs_expr (re_append (re_var 3 rfl ⟨ta, rfl, ⟨_, hT6⟩, re_var 6 rfl ⟨_, hT6, ?_, ?_⟩⟩)))
          · unfold intsV
            rw [List.length_map]
            exact Nat.lt_of_lt_of_le (show T5.length < 100000 by omega) (by decide)
          have agree6 : ∀ n ∈ F5, n ∈ F5 ++ [j] ∧ rowAt ρ5 j row n = ρ5 n := fun n hn => ⟨List.mem_append_left _ hn, rowAt_ne fun z => hjF (z ▸ hn)⟩
          refine ⟨kvs5 ++ [(Sum.inl (j : Int), V.ref rp)], F5 ++ [j], T5 ++ [j], rowAt ρ5 j row, _, rfl, ⟨?_, ?_, ?_, ?_, hnd, ?_, ?_, ?_, ?_, ?_, ?_, ?_⟩, ?_, ?_, ?_, ?_, ?_, ?_⟩
          · exact ex_mut (ex_mut I5.ex hfa) nta
          · rw [upd_ne nft]; exact upd_same
          · rw [upd_same]; unfold intsV; rw [List.map_append]; rfl
          · rw [List.map_append, List.map_append, I5.keys]; rfl
          · intro n hn
            rcases List.mem_append.mp hn with z | z
            · exact I5.inF n z
            · obtain rfl := List.mem_singleton.mp z; exact ⟨hjlt, hjr⟩
          · intro n hn
            rcases List.mem_append.mp hn with z | z
            · exact List.mem_append_left _ (I5.inT n z)
            · exact List.mem_append_right _ z
          · exact List.mem_append_left _ I5.zero
          · intro n hn
            rcases List.mem_append.mp hn with z | z
            · obtain ⟨q, h1, h2⟩ := I5.rows n z
              have hnj : n ≠ j := fun y => hjF (y ▸ z)
              refine ⟨q, ?_, ?_⟩
              · rw [← put_new hnew, val_put, if_neg (fun e => hnj (by have e2 : n = j := Int.ofNat.inj (Sum.inl.inj e); exact e2))]; exact h1
              · rw [rowAt_ne hnj]
                exact sqt_lst (sqt_dK h2 I5.fat) hT6
            · obtain rfl := List.mem_singleton.mp z
              refine ⟨rp, ?_, ?_⟩
              · rw [← put_new hnew, val_put, if_pos rfl]
              · rw [rowAt_same]
                exact sqt_lst (sqt_dK hrp5 I5.fat) hT6
          · intro n hn
            rw [List.length_append, List.length_singleton]
            rcases List.mem_append.mp hn with z | z
            · rw [(agree6 n z).2]; exact ⟨(I5.ok n z).1, Nat.le_succ_of_le (I5.ok n z).2⟩
            · obtain rfl := List.mem_singleton.mp z
              rw [rowAt_same]
              exact ⟨ro, by omega⟩
          · rw [(agree6 0 I5.zero).2]; exact I5.root
          · intro ρ' hρ n hn
            rcases List.mem_append.mp hn with z | z
            · rw [(agree6 n z).2]; exact I5.uniq ρ' hρ n z
            · obtain rfl := List.mem_singleton.mp z
              rw [rowAt_same]; exact must ρ' hρ n hjm
          · exact sqt_lst (sqt_dK hrp5 I5.fat) hT6
          · intro n hn
            obtain ⟨h1, h2⟩ := agree n hn
            exact ⟨(agree6 n h1).1, by rw [(agree6 n h1).2]; exact h2⟩
          · rw [List.length_append]; omega
          · intro n hn hny
            rcases List.mem_append.mp hn with z | z
            · rcases done5 n z hny with y | y
              · exact .inl (List.mem_append_left _ y)
              · exact .inr (y.mono z agree6)
            · exact .inl (List.mem_append_right _ z)
          · intro k' hk' i hi
            by_cases ek : k' = k
            · subst ek
              obtain rfl := Option.some.inj (hi.symm.trans hj)
              exact ⟨List.mem_append_right _ (List.mem_singleton.mpr rfl), rowAt_same⟩
            · obtain ⟨h1, h2⟩ := all5 k' (by omega) i hi
              exact ⟨(agree6 i h1).1, by rw [(agree6 i h1).2]; exact h2⟩
          · rw [List.length_append, List.length_append, List.length_singleton]
            omega
      · rintro σ' H' ⟨kvs5, F5, T5, ρ5, C5, rfl, I5, _, agree, hlen5, done5, all5, m5⟩
        refine ⟨2 * (ds.length - F5.length) + T5.length, by omega, _, _, _, kvs5, F5, T5, ρ5, rfl, I5, fun n hn => ?_, rfl, by omega⟩
        by_cases hny : n = y
        · subst hny
          refine .inr ⟨dy, row, hdy, by rw [(agree n hyF).2]; exact hrow, fun j hj => ?_⟩
          obtain ⟨k, hk, rfl⟩ := List.mem_iff_getElem.mp hj
          exact all5 k (by unfold intsV; rw [List.length_map]; exact hk) _ (List.getElem?_eq_getElem hk)
        · exact done5 n hn hny
    · obtain rfl : T = [] := by
        cases T with
        | nil => rfl
        | cons x r => exact absurd (show false = true from e.symm.trans rfl |>.symm ▸ rfl) Bool.false_ne_true
      have done : ∀ n ∈ F, Done ds F ρ n := fun n hn => (done n hn).resolve_left List.not_mem_nil
      have reach : ∀ n, Reach ds n → n ∈ F := fun n hn => by
        induction hn with
        | zero => exact I.zero
        | step _ hj ih =>
          obtain ⟨_, _, _, _, h3⟩ := done _ ih
          exact (h3 _ hj).1
      have rok : RowsOk ds ρ := ⟨I.root, fun i hi => by
        obtain ⟨d', row, h1, h2, h3⟩ := done i (reach i hi)
        exact ⟨d', row, h1, h2, fun j hj => (h3 j hj).2⟩⟩
      have hFl := nodup_bound ds.length F I.nd fun x hx => (I.inF x hx).1
      have hval : ∀ n ∈ F, valV kvs (.inl (n : Int)) = some (.ref (refOf kvs n)) ∧ SqT K H' (refOf kvs n) ((ρ n).map V.str) := fun n hn => by
        obtain ⟨q, h1, h2⟩ := I.rows n hn
        have : refOf kvs n = q := by unfold refOf; rw [h1]
        rw [this]
        exact ⟨h1, h2⟩
      refine rb_one (rs_ret ?_)
      refine re_dc (own := [("at", 4)]) (g := gName 4) rfl (by exact sc_rows_of.nd) (blkOk_by (N := nm_rows_of) (sc := defScope s_rows_of) (by decide +kernel)) (fun _ _ _ _ _ => pg_name (i := 4) (by exact sc_rows_of.nd) rfl (Or.inl rfl)) good_name ?_
      refine ri_list (re_cb (call_sortedDI rfl) G.sorted (ra_cons (re_var 2 rfl (ra_nil ⟨fa, kvs, F.map fun n : Nat => (n : Int), rfl, .inl I.fat, by rw [I.keys, List.map_map]; rfl, by rw [List.length_map]; omega, fun ys p hperm hs hp => ?_⟩))))
      obtain ⟨R', rfl, asc, hlen, hmem⟩ := sorted_nats hperm hs I.nd
      obtain rfl : R' = R := asc_eq asc W.asc fun n => by
        rw [hmem n, W.mem n]
        exact ⟨fun z => (I.inF n z).2, reach n⟩
      have e1p : Ex H' (upd H' p (.lst ((R'.map fun n : Nat => (n : Int)).map V.int))) := Ex.new hp
      refine ⟨p, _, rfl, .inl (.inl upd_same), _, _, _, fun i acc => acc = (R'.take i).map fun n : Nat => ((Sum.inl (n : Int) : Key), V.ref (refOf kvs n)), walk_list, ?_, fun H'' e'' => Evl.ex_l e'' (.inl (.inl upd_same)), rfl, ?_, ?_⟩
      · rw [List.length_map, List.length_map]; omega
      · rintro i x Ha Hb hi ea ⟨rfl, hx⟩
        rw [List.getElem?_map, List.getElem?_map] at hx
        obtain ⟨z, hz, rfl⟩ := Option.map_eq_some_iff.mp hx
        obtain ⟨n, hn, rfl⟩ := Option.map_eq_some_iff.mp hz
        have hnF := (hmem n).mp (List.mem_of_getElem? hn)
        refine ⟨Ex.refl _, rfl, Ex.refl _, fun s0 H0 C cl fp => re_var 4 rfl ⟨Ex.refl _, .inl (n : Int), rfl, fun s0 H0 C cl fp => re_dget (hu_of hr) (re_var 2 rfl (re_var 4 rfl ⟨fa, kvs, .inl (n : Int), _, rfl, ea _ _ (e1p _ _ I.fat), rfl, (hval n hnF).1, Ex.refl _, fun acc hacc => ?_⟩))⟩⟩
        subst hacc
        rw [take_snoc hn, List.map_append]
        refine put_new fun z => ?_
        rw [List.map_map] at z
        obtain ⟨k, hk, ek⟩ := List.mem_map.mp z
        have := asc_take asc hn k hk
        have : k = n := Int.ofNat.inj (Sum.inl.inj ek)
        omega
      · rintro p2 acc Hz hp2 ez hz hl2 rfl
        have eall : Ex H' Hz := e1p.trans ez
        refine qD p2 _ ρ (refOf kvs) (I.ex.trans eall) rok ⟨?_, fun n hn => Evl.ex_t eall (hval n ((hmem n).mp hn)).2⟩
        rw [hz, List.take_of_length_le (by rw [List.length_map, List.length_map]; exact Nat.le_refl _)]
end
end Fl
end
section
set_option Elab.async false
set_option linter.all false
set_option maxRecDepth 100000
set_option maxHeartbeats 4000000
namespace Fx
open PySem PySem.Spec PyProof.Rows L2
open Evl (Ex fresh_back)
section
variable {X : Cx} {e tg : Expr} {σ : L2.St} {H : Hp} {R : It → Hp → Prop} {D : Ends} {pos : Pos}
theorem rs_cont (h : D.ct σ H) : RS X (.Continue pos) D σ H := rs_of ps_continue h
/-- over the keys of a dict, under a lock -/
theorem ri_keys (h : RE X e σ H fun x H1 => ∃ d o kvs, x = .ref d ∧ H1 d = some (.frz o (.dK kvs)) ∧ R (Itk d o kvs) H1) : RI X tg e σ H R :=
  ri_of (pi_keys pe_RE) (h.mono fun x H1 ⟨d, o, kvs, ex, hk, r⟩ => ⟨d, o, ex, .inl ⟨kvs, hk, r⟩⟩)
end
theorem put_map (g : Nat → V) (y : Nat) (v : V) {R : List Nat} (h : y ∈ R) : putK (R.map fun n : Nat => ((Sum.inl (n : Int) : Key), g n)) (.inl (y : Int)) v = R.map fun n : Nat => ((Sum.inl (n : Int) : Key), if n = y then v else g n) := by
  unfold putK
  rw [if_pos (List.any_eq_true.mpr ⟨(Sum.inl (y : Int), g y), List.mem_map.mpr ⟨y, h, rfl⟩, decide_eq_true rfl⟩), List.map_map]
  refine List.map_congr_left fun n _ => ?_
  show (if (Sum.inl (n : Int) : Key) = Sum.inl (y : Int) then ((Sum.inl (n : Int) : Key), v) else (Sum.inl (n : Int), g n)) = (Sum.inl (n : Int), if n = y then v else g n)
  by_cases e : n = y
  · subst e
    rw [if_pos rfl, if_pos rfl]
  · rw [if_neg (fun z => e (by have e2 : n = y := Int.ofNat.inj (Sum.inl.inj z); exact e2)), if_neg e]
end Fx
namespace Fl
open PySem PySem.Spec PyProof.Rows L2 Fx
open Evl (Ex fresh_back)
/-! ### where the link is own -/
/-- not own -/
inductive NotOwn (ds : List PyData) : Nat → Prop
  | call {i j : Nat} {d : PyData} : Reach ds i → ds[i]? = some d → ownB d true = false → j ∈ leadsN ds i → NotOwn ds j
  | step {i j : Nat} {d : PyData} : NotOwn ds i → ds[i]? = some d → ownB d false = false → j ∈ leadsN ds i → NotOwn ds j
abbrev ownV (β : Nat → Bool) (R : List Nat) : List (Key × V) := R.map fun n : Nat => ((Sum.inl (n : Int) : Key), V.bl (β n))
structure OwI (ds : List PyData) (H H' : Hp) (oa ta : Addr) (R T : List Nat) (β : Nat → Bool) : Prop where
  ex : Ex H H'
  oat : H' oa = some (.dK (ownV β R))
  tat : H' ta = some (.lst (intsV T))
  inT : ∀ n ∈ T, n ∈ R
  sound : ∀ n ∈ R, β n = false → NotOwn ds n
def Shut (ds : List PyData) (β : Nat → Bool) (n : Nat) : Prop := ∃ d, ds[n]? = some d ∧ (ownB d (β n) = false → ∀ j ∈ leadsN ds n, β j = false)
def many (β : Nat → Bool) (R : List Nat) : Nat := (R.filter β).length
def offAt (β : Nat → Bool) (g : Nat) : Nat → Bool := fun n => if n = g then false else β n
theorem many_off {β : Nat → Bool} {g : Nat} : ∀ {R : List Nat}, g ∈ R → β g = true → many (offAt β g) R + 1 ≤ many β R
  | [], h, _ => absurd h List.not_mem_nil
  | a :: R, h, hb => by
    have le : ∀ R : List Nat, many (offAt β g) R ≤ many β R := fun R => by
      induction R with
      | nil => exact Nat.le_refl _
      | cons x r ih =>
        unfold many at ih ⊢
        rw [List.filter_cons, List.filter_cons]
        have : offAt β g x = true → β x = true := fun z => by
          unfold offAt at z
          split at z
          · exact absurd z Bool.false_ne_true
          · exact z
        by_cases e : offAt β g x = true
        · rw [if_pos e, if_pos (this e), List.length_cons, List.length_cons]; omega
        · rw [if_neg e]
          split
          · rw [List.length_cons]; omega
          · exact ih
    have lr := le R
    unfold many at lr ⊢
    rw [List.filter_cons, List.filter_cons]
    by_cases e : a = g
    · subst e
      rw [if_pos hb, if_neg (by unfold offAt; rw [if_pos rfl]; exact Bool.false_ne_true), List.length_cons]
      omega
    · have ih := many_off ((List.mem_cons.mp h).resolve_left fun z => e z.symm) hb
      unfold many at ih
      have : offAt β g a = β a := if_neg e
      rw [this]
      split
      · rw [List.length_cons, List.length_cons]; omega
      · exact ih
section
variable {P : Program} {w : World} {K : PySem.W.Frag} {mg : Str → Option Value} {base : Heap} {f : Addr} {fd : FuncData}
abbrev nm_own_indexes : List Str := ["lines", "ways", "at", "own", "todo", "goal"]
theorem sc_own_indexes : FnScope nm_own_indexes ["lines", "ways"] (defScope s_own_indexes) := ⟨rfl, rfl, rfl, by decide +kernel, rfl, by decide +kernel, by decide +kernel⟩
def sp_own_indexes (K : PySem.W.Frag) : Sp := fun vs H Q _ => ∃ v d wp R vf, vs = [v, .ref wp] ∧ D K H v d ∧ Good d ∧ Ways (itemsD d) H wp R vf ∧
  ∀ p H' S, Ex H H' → (∀ n, n ∈ S ↔ n ∈ R ∧ ¬ NotOwn (itemsD d) n) → H' p = some (.tup (intsV S)) → Q (.ref p) H'
theorem ok_own_indexes (F : Fun K "own_indexes" "own_indexes" s_own_indexes f fd) (G : Gb mg) (c1 : Cl P w K mg base CX0 1 "_own_behind" (sp_own_behind K)) : FnOk P w K mg base CX0 2 f fd ["lines", "ways"] (sp_own_indexes K) := by
  refine F.ok sc_own_indexes (fun vs H Q E h => ?_) (fun cdv A outer s H vs Q E hr h => ⟨RB _ _, pss_RB, ?_⟩)
  · obtain ⟨_, _, _, _, _, rfl, _⟩ := h; rfl
  obtain ⟨v, d, wp, R, vf, rfl, hd, g, W, q⟩ := h
  have h60 := g.len
  have gok := g.ok
  generalize eds : itemsD d = ds at *
  have hRn : R.Nodup := W.asc.imp fun {a b} z => Nat.ne_of_lt z
  have hRl := nodup_bound ds.length R hRn W.low
  have wlen : (R.map fun n : Nat => ((Sum.inl (n : Int) : Key), V.ref (vf n))).length = R.length := List.length_map ..
  refine rb_cons (rs_set 3 (by exact sc_own_indexes.nd) (re_lock W.at_ trivial fun od => ?_))
  have hz1 := Ez.lock (od := od) W.at_ (fun o u' z => by cases z)
  refine re_dc (own := [("at", 2)]) (g := gName 2) rfl (by exact sc_own_indexes.nd) (blkOk_by (N := nm_own_indexes) (sc := defScope s_own_indexes) (by decide +kernel)) (fun _ _ _ _ _ => pg_name (i := 2) (by exact sc_own_indexes.nd) rfl (Or.inl rfl)) good_name ?_
  refine ri_keys (re_var 1 rfl ⟨wp, od, _, rfl, upd_same, _, _, _, fun i acc => acc = ownV (fun _ => true) (R.take i), walk_keys, by rw [wlen]; omega, fun H' e => e _ _ upd_same, rfl, ?_, ?_⟩)
  · rintro i x Ha Hb hi ea ⟨rfl, k, u, hk, rfl⟩
    rw [List.getElem?_map] at hk
    obtain ⟨n, hn, ek⟩ := Option.map_eq_some_iff.mp hk
    obtain ⟨rfl, rfl⟩ := Prod.mk.inj ek
    refine ⟨Ex.refl _, rfl, Ex.refl _, fun s0 H0 C cl fp => re_var 2 rfl ⟨Ex.refl _, .inl (n : Int), rfl, fun s0 H0 C cl fp => re_bl ⟨Ex.refl _, fun acc hacc => ?_⟩⟩⟩
    subst hacc
    unfold ownV
    rw [take_snoc hn, List.map_append]
    refine put_new fun z => ?_
    rw [List.map_map] at z
    obtain ⟨k, hk, ek⟩ := List.mem_map.mp z
    have := asc_take W.asc hn k hk
    have : k = n := Int.ofNat.inj (Sum.inl.inj ek)
    omega
  rintro oa acc H2 hoa e2 h2 hl2 rfl
  rw [List.take_of_length_le (by rw [wlen]; exact Nat.le_refl _)] at h2
  have now : oa ≠ wp := fun z => by rw [z, upd_same] at hoa; exact (Option.some_ne_none _ hoa).elim
  refine ⟨e2 _ _ upd_same, ?_⟩
  have eH2 := ex_unlock W.at_ e2
  have noa : H oa = none := by rw [upd_ne now] at hoa; exact hoa
  have h2 : upd H2 wp (.dK (R.map fun n : Nat => ((Sum.inl (n : Int) : Key), V.ref (vf n)))) oa = some (.dK (ownV (fun _ => true) R)) := by rw [upd_ne now]; exact h2
  generalize upd H2 wp (.dK (R.map fun n : Nat => ((Sum.inl (n : Int) : Key), V.ref (vf n)))) = H3 at *
  refine rb_cons (rs_set 4 (by exact sc_own_indexes.nd) (re_ct (call_listD rfl) G.list (ra_cons (re_var 1 rfl (ra_nil ⟨wp, _, rfl, .inl (eH2 _ _ W.at_), fun ta hta => ?_⟩)))))
  have nta : H ta = none := fresh_back eH2 hta
  have not : oa ≠ ta := fun z => by rw [← z, h2] at hta; exact (Option.some_ne_none _ hta).elim
  have e34 : Ex H3 (upd H3 ta (.lst ((R.map fun n : Nat => ((Sum.inl (n : Int) : Key), V.ref (vf n))).map fun kv => kV kv.1))) := Ex.new hta
  have hT : upd H3 ta (.lst ((R.map fun n : Nat => ((Sum.inl (n : Int) : Key), V.ref (vf n))).map fun kv => kV kv.1)) ta = some (.lst (intsV R)) := by rw [upd_same, List.map_map]; rfl
  generalize upd H3 ta (.lst ((R.map fun n : Nat => ((Sum.inl (n : Int) : Key), V.ref (vf n))).map fun kv => kV kv.1)) = H4 at *
  refine rb_cons ?_
  refine rs_while (m0 := 2 * many (fun _ => true) R + R.length) PassesOwn.never (fun m σ' H' => ∃ A' C' T β, σ' = [some v, some (.ref wp), A', some (.ref oa), some (.ref ta), C'] ∧ OwI ds H H' oa ta R T β ∧ (∀ n ∈ R, n ∈ T ∨ Shut ds β n) ∧ m = 2 * many β R + T.length ∧ m ≤ 180) ?_ ?_
  · refine ⟨_, none, R, fun _ => true, rfl, ⟨eH2.trans e34, e34 _ _ h2, hT, fun n hn => hn, fun n hn z => absurd z.symm Bool.false_ne_true⟩, fun n hn => .inl hn, rfl, ?_⟩
    have : many (fun _ => true) R ≤ R.length := List.length_filter_le ..
    omega
  · rintro m σ' H' ⟨A', C', T, β, rfl, I, shut, hm, h180⟩
    refine rt_lst (re_var 4 rfl ⟨ta, _, rfl, SqL.of I.tat, ifB (fun e => ?_) fun e => ?_⟩)
    · refine ⟨fun σ'' H'' => ∃ m', m' < m ∧ ∃ A' C' T β, σ'' = [some v, some (.ref wp), A', some (.ref oa), some (.ref ta), C'] ∧ OwI ds H H'' oa ta R T β ∧ (∀ n ∈ R, n ∈ T ∨ Shut ds β n) ∧ m' = 2 * many β R + T.length ∧ m' ≤ 180, fun _ _ h => h, ?_⟩
      obtain ⟨T', y, rfl⟩ : ∃ T' y, T = T' ++ [y] := by
        rcases List.eq_nil_or_concat T with z | ⟨T', y, z⟩
        · rw [z] at e; exact absurd e (by decide)
        · exact ⟨T', y, by rw [z, List.concat_eq_append]⟩
      have hyR := I.inT y (List.mem_append_right _ (List.mem_singleton.mpr rfl))
      have hyr := (W.mem y).mp hyR
      have hylt := W.low y hyR
      obtain ⟨dy, hdy⟩ : ∃ dy, ds[y]? = some dy := ⟨_, List.getElem?_eq_getElem hylt⟩
      have hldy := gok dy (List.mem_of_getElem? hdy)
      refine rb_cons (rs_set 2 (by exact sc_own_indexes.nd) (re_pop (re_var 4 rfl ⟨ta, intsV T', .int (y : Nat), rfl, by rw [I.tat]; unfold intsV; rw [List.map_append]; rfl, ?_⟩)))
      have I1 : OwI ds H (upd H' ta (.lst (intsV T'))) oa ta R T' β := ⟨ex_mut I.ex nta, by rw [upd_ne not]; exact I.oat, upd_same, fun n hn => I.inT n (List.mem_append_left _ hn), I.sound⟩
      rw [List.length_append, List.length_singleton] at hm
      have shut1 : ∀ n ∈ R, n ≠ y → n ∈ T' ∨ Shut ds β n := fun n hn hy => by
        rcases shut n hn with z | z
        · rcases List.mem_append.mp z with z | z
          · exact .inl z
          · exact absurd (List.mem_singleton.mp z) hy
        · exact .inr z
      clear shut I
      generalize upd H' ta (.lst (intsV T')) = Ha at *
      refine rb_cons (rs_ifJ (fun σ' H' => σ' = [some v, some (.ref wp), some (.int (y : Nat)), some (.ref oa), some (.ref ta), C'] ∧ OwI ds H H' oa ta R T' β ∧ ownB dy (β y) = false) ?_ ?_)
      · refine rt_val (re_call c1 hr (ra_cons (re_ixD (re_var 0 rfl (re_var 2 rfl ⟨d, y, dy, hd.mono I1.ex, g.isl, rfl, by rw [eds]; exact hdy, fun u hu => ra_cons (re_dget (hu_of hr) (re_var 3 rfl (re_var 2 rfl ⟨oa, _, .inl (y : Int), _, rfl, I1.oat, rfl, val_map (fun n => V.bl (β n)) y hyR, ra_nil ⟨u, dy, β y, rfl, hu, hldy, fun r H5 e5 h5 => ⟨_, h5, ifB (fun eb => ?_) fun eb => ?_⟩⟩⟩)))⟩)))))
        · have m1 : OwI ds H H5 oa ta R T' β := ⟨I1.ex.trans e5, e5 _ _ I1.oat, e5 _ _ I1.tat, I1.inT, I1.sound⟩
          refine rb_one (rs_cont ⟨m - 1, by omega, _, _, T', β, rfl, m1, fun n hn => ?_, by omega, by omega⟩)
          by_cases hny : n = y
          · subst hny
            exact .inr ⟨dy, hdy, fun z => absurd (eb.symm.trans z) (fun y => Bool.noConfusion y)⟩
          · exact shut1 n hn hny
        · exact rb_nil ⟨rfl, ⟨I1.ex.trans e5, e5 _ _ I1.oat, e5 _ _ I1.tat, I1.inT, I1.sound⟩, eb⟩
      rintro σ' H5 ⟨rfl, I5, hno⟩
      have bad : ∀ j ∈ leadsN ds y, NotOwn ds j := fun j hj => by
        cases hb : β y with
        | true => rw [hb] at hno; exact .call hyr hdy hno hj
        | false => rw [hb] at hno; exact .step (I5.sound y hyR hb) hdy hno hj
      refine rb_one ?_
      refine rs_for (g := gName 5) PassesOwn.never rfl (pg_name (i := 5) (by exact sc_own_indexes.nd) rfl (Or.inl rfl)) good_name ?_
      refine ri_tup (re_dget (hu_of hr) (re_var 1 rfl (re_var 2 rfl ⟨wp, _, .inl (y : Int), .ref (vf y), rfl, I5.ex _ _ W.at_, rfl, val_map (fun n => V.ref (vf n)) y hyR, vf y, intsV (leadsN ds y), rfl, .inl (.inl (I5.ex _ _ (W.val y hyR))), _, _, _, fun k σ' H' => ∃ C2 T2 β2, σ' = [some v, some (.ref wp), some (.int (y : Nat)), some (.ref oa), some (.ref ta), C2] ∧ OwI ds H H' oa ta R T2 β2 ∧ (∀ n, β2 n = true → β n = true) ∧ (∀ n ∈ R, n ≠ y → n ∈ T2 ∨ Shut ds β2 n) ∧ (y ∈ T2 ∨ β2 y = β y) ∧ (∀ k' < k, ∀ j, (leadsN ds y)[k']? = some j → β2 j = false) ∧ 2 * many β2 R + T2.length + 1 ≤ m, walk_tup (xs := intsV (leadsN ds y)), ?_, ?_, ?_, ?_⟩)))
      · exact ⟨_, T', β, rfl, I5, fun n z => z, shut1, .inr rfl, fun k' hk => absurd hk (Nat.not_lt_zero _), by omega⟩
      · rintro k σ' H' hk ⟨_, _, _, _, I6, _⟩
        exact .inl (.inl (I6.ex _ _ (W.val y hyR)))
      · rintro k x σ' Hb Hc hk ⟨C2, T2, β2, rfl, I6, mono, shut6, hy6, all6, m6⟩ ⟨rfl, hx⟩
        unfold intsV at hx
        rw [List.getElem?_map] at hx
        obtain ⟨j, hj, rfl⟩ := Option.map_eq_some_iff.mp hx
        have hjm := List.mem_of_getElem? hj
        have hjR := (W.mem j).mpr (hyr.step hjm)
        refine rb_one (rs_if (rt_val (re_dget (hu_of hr) (re_var 3 rfl (re_var 5 rfl ⟨oa, _, .inl (j : Int), _, rfl, I6.oat, rfl, val_map (fun n => V.bl (β2 n)) j hjR, _, rfl, ifB (fun eb => ?_) fun eb => ?_⟩)))))
        · refine rb_cons (rs_dput (hu_of hr) (re_bl (re_var 3 rfl (re_var 5 rfl ⟨oa, _, .inl (j : Int), rfl, I6.oat, rfl, ?_, ?_⟩))))
          · unfold ownV
            rw [List.length_map]
            exact Nat.lt_of_lt_of_le (show R.length < 100000 by omega) (by decide)
          have ek : putK (ownV β2 R) (.inl (j : Int)) (.bl false) = ownV (offAt β2 j) R := by
            unfold ownV
            rw [put_map (fun n => V.bl (β2 n)) j (.bl false) hjR]
            refine List.map_congr_left fun n _ => ?_
            unfold offAt
            by_cases e : n = j
            · rw [if_pos e, if_pos e]
            · rw [if_neg e, if_neg e]
          rw [ek]
          have hT6 : upd Hc oa (.dK (ownV (offAt β2 j) R)) ta = some (.lst (intsV T2)) := by rw [upd_ne (fun z => not z.symm)]; exact I6.tat
          have hmany := many_off hjR eb
          refine rb_one (rs_expr (re_append (re_var 4 rfl ⟨ta, rfl, ⟨_, hT6⟩, re_var 5 rfl ⟨_, hT6, ?_, ?_⟩⟩)))
          · unfold intsV
            rw [List.length_map]
            exact Nat.lt_of_lt_of_le (show T2.length < 100000 by omega) (by decide)
          have offle : ∀ n, offAt β2 j n = true → β2 n = true := fun n z => by
            unfold offAt at z
            split at z
            · exact absurd z Bool.false_ne_true
            · exact z
          have offs : ∀ n, β2 n = false → offAt β2 j n = false := fun n z => by
            unfold offAt
            split
            · rfl
            · exact z
          refine ⟨_, T2 ++ [j], offAt β2 j, rfl, ⟨ex_mut (ex_mut I6.ex noa) nta, ?_, ?_, ?_, ?_⟩, fun n z => mono n (offle n z), ?_, ?_, ?_, ?_⟩
          · rw [upd_ne not]; exact upd_same
          · rw [upd_same]; unfold intsV; rw [List.map_append]; rfl
          · intro n hn
            rcases List.mem_append.mp hn with z | z
            · exact I6.inT n z
            · exact List.mem_singleton.mp z ▸ hjR
          · intro n hn z
            by_cases e : n = j
            · rw [e]; exact bad j hjm
            · exact I6.sound n hn (by unfold offAt at z; rw [if_neg e] at z; exact z)
          · intro n hn hny
            by_cases e : n = j
            · exact .inl (List.mem_append_right _ (List.mem_singleton.mpr e))
            · rcases shut6 n hn hny with z | ⟨d', h1, h2⟩
              · exact .inl (List.mem_append_left _ z)
              · refine .inr ⟨d', h1, fun z i hi => offs i (h2 ?_ i hi)⟩
                have : offAt β2 j n = β2 n := if_neg e
                rw [this] at z; exact z
          · by_cases e : y = j
            · exact .inl (List.mem_append_right _ (List.mem_singleton.mpr e))
            · rcases hy6 with z | z
              · exact .inl (List.mem_append_left _ z)
              · exact .inr ((if_neg e).trans z)
          · intro k' hk' i hi
            by_cases ek : k' = k
            · subst ek
              obtain rfl := Option.some.inj (hi.symm.trans hj)
              exact if_pos rfl
            · exact offs i (all6 k' (by omega) i hi)
          · rw [List.length_append, List.length_singleton]; omega
        · refine rb_nil ⟨_, T2, β2, rfl, I6, mono, shut6, hy6, fun k' hk' i hi => ?_, m6⟩
          by_cases ek : k' = k
          · subst ek
            obtain rfl := Option.some.inj (hi.symm.trans hj)
            exact eb
          · exact all6 k' (by omega) i hi
      · rintro σ' H' ⟨C2, T2, β2, rfl, I6, mono, shut6, hy6, all6, m6⟩
        refine ⟨2 * many β2 R + T2.length, by omega, _, _, T2, β2, rfl, I6, fun n hn => ?_, rfl, by omega⟩
        by_cases hny : n = y
        · subst hny
          rcases hy6 with z | z
          · exact .inl z
          · refine .inr ⟨dy, hdy, fun _ i hi => ?_⟩
            obtain ⟨k, hk, rfl⟩ := List.mem_iff_getElem.mp hi
            exact all6 k (by unfold intsV; rw [List.length_map]; exact hk) _ (List.getElem?_eq_getElem hk)
        · exact shut6 n hn hny
    · obtain rfl : T = [] := by
        cases T with
        | nil => rfl
        | cons x r => exact absurd (show false = true from e.symm.trans rfl |>.symm ▸ rfl) Bool.false_ne_true
      have shut : ∀ n ∈ R, Shut ds β n := fun n hn => (shut n hn).resolve_left List.not_mem_nil
      have leadR : ∀ {i j}, Reach ds i → j ∈ leadsN ds i → j ∈ R := fun {i j} hi hj => (W.mem j).mpr (hi.step hj)
      have full : ∀ n, NotOwn ds n → Reach ds n ∧ β n = false := fun n hn => by
        induction hn with
        | call hi hd' ho hj =>
          refine ⟨hi.step hj, ?_⟩
          obtain ⟨d', h1, h2⟩ := shut _ ((W.mem _).mpr hi)
          obtain rfl := Option.some.inj (h1.symm.trans hd')
          refine h2 ?_ _ hj
          rename_i i0 j0
          cases hb : β i0 with
          | true => exact ho
          | false =>
            unfold ownB at ho ⊢
            rw [Bool.or_eq_false_iff] at ho
            rw [ho.1]; rfl
        | step hi hd' ho hj ih =>
          refine ⟨ih.1.step hj, ?_⟩
          obtain ⟨d', h1, h2⟩ := shut _ ((W.mem _).mpr ih.1)
          obtain rfl := Option.some.inj (h1.symm.trans hd')
          exact h2 (by rw [ih.2]; exact ho) _ hj
      refine rb_one (rs_ret (re_ct call_tuple_of G.tuple (ra_cons (re_lock (I.ex _ _ W.at_) trivial fun od2 => ?_))))
      have eI := I.ex
      refine re_lcIf (own := [("at", 2)]) (g := gName 2) rfl (by exact sc_own_indexes.nd) (blkOk_by (N := nm_own_indexes) (sc := defScope s_own_indexes) (by decide +kernel)) (fun _ _ _ _ _ => pg_name (i := 2) (by exact sc_own_indexes.nd) rfl (Or.inl rfl)) good_name ?_
      have now' : oa ≠ wp := now
      refine ri_keys (re_var 1 rfl ⟨wp, od2, _, rfl, upd_same, _, _, _, fun i ys => ys = intsV ((R.take i).filter β), walk_keys, by rw [wlen]; omega, fun H' e => e _ _ upd_same, rfl, ?_, ?_⟩)
      · rintro i x Ha Hb hi ea ⟨rfl, k, u, hk, rfl⟩
        rw [List.getElem?_map] at hk
        obtain ⟨n, hn, ek⟩ := Option.map_eq_some_iff.mp hk
        obtain ⟨rfl, rfl⟩ := Prod.mk.inj ek
        have hnR := List.mem_of_getElem? hn
        refine ⟨Ex.refl _, rfl, Ex.refl _, fun s0 H0 C cl fp => rt_val (re_dget (hu_of hr) (re_var 3 rfl (re_var 2 rfl ⟨oa, _, .inl (n : Int), _, rfl, ea _ _ (by rw [upd_ne now']; exact I.oat), rfl, val_map (fun n => V.bl (β n)) n hnR, _, rfl, Ex.refl _, fun hb s0 H0 C cl fp => re_var 2 rfl ⟨Ex.refl _, fun acc hacc => ?_⟩, fun hb acc hacc => ?_⟩)))⟩
        · subst hacc
          rw [filter_take β hn, if_pos hb]
          unfold intsV
          rw [List.map_append]; rfl
        · subst hacc
          rw [filter_take β hn, if_neg (by rw [hb]; exact Bool.false_ne_true), List.append_nil]
      rintro lp ys Hz hlp ez hz hl3 rfl
      rw [List.take_of_length_le (by rw [wlen]; exact Nat.le_refl _)] at hz
      have nlw : lp ≠ wp := fun z => by rw [z, upd_same] at hlp; exact (Option.some_ne_none _ hlp).elim
      refine ⟨ez _ _ upd_same, ra_nil ⟨lp, _, rfl, .inl ⟨.inl (.inl (by rw [upd_ne nlw]; exact hz)), fun p hp => ?_⟩⟩⟩
      refine q p _ (R.filter β) ((I.ex.trans (ex_unlock (I.ex _ _ W.at_) ez)).trans (Ex.new hp)) (fun n => ?_) upd_same
      rw [List.mem_filter]
      refine ⟨fun z => ⟨z.1, fun y => ?_⟩, fun z => ⟨z.1, ?_⟩⟩
      · rw [(full n y).2] at z; exact Bool.noConfusion z.2
      · cases hb : β n with
        | true => rfl
        | false => exact absurd (I.sound n z.1 hb) z.2
end
end Fl
end
section
set_option Elab.async false
set_option linter.all false
set_option maxRecDepth 100000
set_option maxHeartbeats 4000000
namespace Fx
open PySem PySem.Spec PyProof.Rows L2
open Evl (Ex fresh_back)
theorem atI_last {α : Type} {xs : List α} {v : α} (h : xs[xs.length - 1]? = some v) : atI xs (-1) = some v := by
  have hl : 0 < xs.length := by
    cases xs with
    | nil => simp at h
    | cons x r => exact Nat.succ_pos _
  unfold atI
  have : ixN xs.length (-1) = some (xs.length - 1) := by
    unfold ixN
    rw [if_neg (by decide), if_pos (by omega)]
    congr 1
    omega
  rw [this]
  exact h
section
variable {X : Cx} {a b : Expr} {σ : L2.St} {H : Hp} {Q : VK} {pos : Pos}
/-- the last item -/
theorem re_ixLast (h : RE X a σ H fun x H1 => RE X b σ H1 fun y H2 => ∃ d dx, D X.K H2 x d ∧ (isL d || isT d) = true ∧ y = .int (-1) ∧ (itemsD d)[(itemsD d).length - 1]? = some dx ∧ ∀ u, D X.K H2 u dx → Q u H2) (hs : PlainIx b := by exact fun _ _ => rfl) : RE X (.Subscript a b pos) σ H Q :=
  re_of (pe_ix ix_lt pe_RE pe_RE hs) (h.mono fun x H1 q0 => q0.mono fun y H2 ⟨d, dx, hd, hl, ey, hi, q⟩ => by
    clear q0
    cases hd with
    | lst sq ha =>
      obtain ⟨u, hu, hud⟩ := ha.get hi
      exact ⟨_, _, _, u, rfl, ey, .inl sq, atI_last (by rw [ha.length]; exact hu), q u hud⟩
    | tup sq ha =>
      obtain ⟨u, hu, hud⟩ := ha.get hi
      exact ⟨_, _, _, u, rfl, ey, .inr sq, atI_last (by rw [ha.length]; exact hu), q u hud⟩
    | _ => exact absurd (show false = true from hl) Bool.false_ne_true)
end
end Fx
namespace Fl
open PySem PySem.Spec PyProof.Rows L2 Fx
open Evl (Ex fresh_back)
/-! ### tidiness -/
def endL : List Str := ["jump", "back", "tail", "stop"]
structure Tidy (ds : List PyData) (bare : Bool) : Prop where
  last : Reach ds (ds.length - 1) → ∃ d, ds[ds.length - 1]? = some d ∧ wordD d ∈ endL
  rows : bare = false → ∃ ρ, RowsOk ds ρ
  link : bare = false → ∀ i d, Reach ds i → ds[i]? = some d → needsB d = true → ¬ NotOwn ds i
section
variable {P : Program} {w : World} {K : PySem.W.Frag} {mg : Str → Option Value} {base : Heap} {f : Addr} {fd : FuncData}
abbrev nm_is_tidy : List Str := ["lines", "bare", "ways", "own", "at"]
theorem sc_is_tidy : FnScope nm_is_tidy ["lines", "bare"] (defScope s_is_tidy) := ⟨rfl, rfl, rfl, by decide +kernel, rfl, by decide +kernel, by decide +kernel⟩
def sp_is_tidy (K : PySem.W.Frag) : Sp := fun vs H Q _ => ∃ v d b, vs = [v, .bl b] ∧ D K H v d ∧ Good d ∧ ∀ k H', Ex H H' → (k = true ↔ Tidy (itemsD d) b) → Q (.bl k) H'
theorem ok_is_tidy (F : Fun K "is_tidy" "is_tidy" s_is_tidy f fd) (G : Gb mg) (T : Frm2 K w mg) (c1 : Cl P w K mg base CX0 2 "reached_ways" (sp_reached_ways K)) (c2 : Cl P w K mg base CX0 3 "rows_of" (sp_rows_of K)) (c3 : Cl P w K mg base CX0 2 "own_indexes" (sp_own_indexes K))
    (c4 : Cl P w K mg base CX0 1 "_needs_own" (sp_needs_own K)) : FnOk P w K mg base CX0 4 f fd ["lines", "bare"] (sp_is_tidy K) := by
  refine F.ok sc_is_tidy (fun vs H Q E h => ?_) (fun cdv A outer s H vs Q E hr h => ⟨RB _ _, pss_RB, ?_⟩)
  · obtain ⟨_, _, _, rfl, _⟩ := h; rfl
  obtain ⟨v, d, b, rfl, hd, g, q⟩ := h
  obtain ⟨ea, mE, hE⟩ := T.endW
  have h0 := g.pos
  have h60 := g.len
  have gok := g.ok
  have edl : dlen d = (itemsD d).length := by
    cases d with
    | list _ => rfl
    | tuple _ => rfl
    | _ => exact absurd (show false = true from g.isl) Bool.false_ne_true
  refine rb_cons (rs_set 2 (by exact sc_is_tidy.nd) (re_call c1 hr (ra_cons (re_var 0 rfl (ra_nil ⟨v, d, rfl, hd, g, fun r H1 e1 h1 => ?_⟩)))))
  obtain ⟨wp, R, vf, rfl, W⟩ := h1
  have gg := g
  generalize eds : itemsD d = ds at *
  have W1 : Ways ds H1 wp R vf := W
  clear W
  have keyR : ∀ n : Nat, (valV (R.map fun n : Nat => ((Sum.inl (n : Int) : Key), V.ref (vf n))) (.inl (n : Int))).isSome = decide (n ∈ R) := key_F (by rw [List.map_map]; rfl)
  obtain ⟨dl, hdl⟩ : ∃ dl, ds[ds.length - 1]? = some dl := ⟨_, List.getElem?_eq_getElem (by omega)⟩
  have hll := gok dl (List.mem_of_getElem? hdl)
  refine rb_cons (rs_ifJ (fun σ' H' => σ' = [some v, some (.bl b), some (.ref wp), none, none] ∧ Ex H1 H' ∧ (Reach ds (ds.length - 1) → ∃ d, ds[ds.length - 1]? = some d ∧ wordD d ∈ endL)) ?_ ?_)
  · refine rt_w (rw_and (rt_din (hu_of hr) (re_op op_sub (re_cb call_len G.len (ra_cons (re_var 0 rfl (ra_nil ⟨_, dlen d, rfl, (hd.mono e1).lenV g.isl, re_int ⟨_, _, rfl, rfl, re_var 2 rfl ⟨wp, _, .inl ((ds.length - 1 : Nat) : Int), rfl, W1.at_, ?_, ?_⟩⟩⟩)))))))
    · exact congrArg V.int (by rw [edl]; omega)
    rw [keyR]
    refine ifB (fun e => ?_) fun e => ?_
    · refine rw_and1 (rt_nin (ws := endL) (re_word (re_ixLast (re_var 0 rfl (re_un un_neg (re_int ⟨1, rfl, d, dl, hd.mono e1, g.isl, rfl, by rw [eds]; exact hdl, fun u hu => ⟨dl, hu, hll, _, rfl, re_glob (v := .ref ea) mE rfl ⟨ea, rfl, hE _, ifB (fun e2 => ?_) fun e2 => ?_⟩⟩⟩))))))
      · refine rb_one (rs_ret (re_bl (q false _ e1 ⟨fun z => Bool.noConfusion z, fun t => ?_⟩)))
        obtain ⟨d', h1, h2⟩ := t.last ((W1.mem _).mp (of_decide_eq_true e))
        obtain rfl := Option.some.inj (h1.symm.trans hdl)
        rw [decide_eq_true h2] at e2
        exact Bool.noConfusion e2
      · refine rb_nil ⟨rfl, Ex.refl _, fun _ => ⟨dl, hdl, ?_⟩⟩
        by_cases z : wordD dl ∈ endL
        · exact z
        · rw [decide_eq_false z] at e2; exact Bool.noConfusion e2
    · exact ifF (rb_nil ⟨rfl, Ex.refl _, fun z => absurd ((W1.mem _).mpr z) (of_decide_eq_false e)⟩)
  rintro σ' H2 ⟨rfl, e2, hlast⟩
  have W2 := W1.mono e2
  have e12 := e1.trans e2
  refine rb_cons (rs_if (rt_val (re_var 1 rfl ⟨b, rfl, ifB (fun eb => ?_) fun eb => ?_⟩)))
  · subst eb
    exact rb_one (rs_ret (re_bl (q true _ e12 ⟨fun _ => ⟨hlast, fun z => Bool.noConfusion z, fun z => Bool.noConfusion z⟩, fun _ => rfl⟩)))
  subst eb
  refine rb_nil (rb_cons (rs_if (rt_cmp op_isN (re_call c2 hr (ra_cons (re_var 0 rfl (ra_cons (re_var 2 rfl (ra_nil ⟨v, d, wp, R, vf, rfl, hd.mono e12, gg, by rw [eds]; exact W2, fun H3 e3 hno => ?_, fun p H3 ρ rf e3 hrow _ => ?_⟩)))))))))
  · refine re_non ⟨rfl, _, rfl, ?_⟩
    rw [decide_eq_true rfl]
    rw [eds] at hno
    exact ifT (rb_one (rs_ret (re_bl (q false _ (e12.trans e3) ⟨fun z => Bool.noConfusion z, fun t => absurd (t.rows rfl) hno⟩))))
  refine re_non ⟨rfl, _, rfl, ?_⟩
  rw [decide_eq_false (fun z => nomatch z)]
  rw [eds] at hrow
  have W3 := W2.mono e3
  have e13 := e12.trans e3
  refine ifF (rb_nil (rb_cons (rs_set 3 (by exact sc_is_tidy.nd) (re_call c3 hr (ra_cons (re_var 0 rfl (ra_cons (re_var 2 rfl (ra_nil ⟨v, d, wp, R, vf, rfl, hd.mono e13, gg, by rw [eds]; exact W3, fun op H4 S e4 hS hop => ?_⟩)))))))))
  rw [eds] at hS
  have W4 := W3.mono e4
  have e14 := e13.trans e4
  have wlen : (R.map fun n : Nat => ((Sum.inl (n : Int) : Key), V.ref (vf n))).length = R.length := List.length_map ..
  have hRl := nodup_bound ds.length R (W4.asc.imp fun {a b} z => Nat.ne_of_lt z) W4.low
  have need : Nat → Bool := fun n => match ds[n]? with | some d => needsB d | none => false
  refine rb_one (rs_ret (re_cb (cr_all rfl) G.all (ra_cons (re_lock W4.at_ trivial fun od => ?_))))
  have hz := Ez.lock (od := od) W4.at_ (fun o u' z => by cases z)
  have nop : op ≠ wp := fun z => by rw [z, W4.at_] at hop; cases hop
  refine re_lcIf (own := [("at", 4)]) (g := gName 4) rfl (by exact sc_is_tidy.nd) (blkOk_by (N := nm_is_tidy) (sc := defScope s_is_tidy) (by decide +kernel)) (fun _ _ _ _ _ => pg_name (i := 4) (by exact sc_is_tidy.nd) rfl (Or.inl rfl)) good_name ?_
  refine ri_keys (re_var 2 rfl ⟨wp, od, _, rfl, upd_same, _, _, _, fun i ys => ∃ bs : List Bool, ys = bs.map V.bl ∧ (bs.all id = true ↔ ∀ n ∈ R.take i, ∀ d, ds[n]? = some d → needsB d = true → n ∈ S), walk_keys, by rw [wlen]; omega, fun H' e => e _ _ upd_same, ⟨[], rfl, fun _ n hn => absurd hn List.not_mem_nil, fun _ => rfl⟩, ?_, ?_⟩)
  · rintro i x Ha Hb hi ea ⟨rfl, k, u, hk, rfl⟩
    rw [List.getElem?_map] at hk
    obtain ⟨n, hn, ek⟩ := Option.map_eq_some_iff.mp hk
    obtain ⟨rfl, rfl⟩ := Prod.mk.inj ek
    have hnR := List.mem_of_getElem? hn
    obtain ⟨dn, hdn⟩ : ∃ dn, ds[n]? = some dn := ⟨_, List.getElem?_eq_getElem (W4.low n hnR)⟩
    have hln := gok dn (List.mem_of_getElem? hdn)
    have split : ∀ (P : Nat → Prop), (∀ m ∈ R.take (i + 1), P m) ↔ (∀ m ∈ R.take i, P m) ∧ P n := fun P => by
      rw [take_snoc hn]
      refine ⟨fun z => ⟨fun m hm => z m (List.mem_append_left _ hm), z n (List.mem_append_right _ (List.mem_singleton.mpr rfl))⟩, fun z m hm => ?_⟩
      rcases List.mem_append.mp hm with y | y
      · exact z.1 m y
      · rw [List.mem_singleton.mp y]; exact z.2
    have hdz : D K Hb v d := ((hd.mono e14).monoZ hz).mono ea
    refine ⟨Ex.refl _, rfl, Ex.refl _, fun s0 H0 C cl fp => rt_val (re_call c4 hr (ra_cons (re_ixD (re_var 0 rfl (re_var 4 rfl ⟨d, n, dn, hdz, gg.isl, rfl, by rw [eds]; exact hdn, fun u hu => ra_nil ⟨u, dn, rfl, hu, hln, fun r H5 e5 h5 => ⟨_, h5, e5, fun hb s0 H0 C cl fp => ?_, fun hb acc hacc => ?_⟩⟩⟩)))))⟩
    · refine re_cmp op_in_seq (re_var 4 rfl (re_var 3 rfl ⟨op, (S.map fun n : Nat => (n : Int)).map V.int, rfl, .inr (.inl (.inl ?_)), rfl, flat_ints _, Ex.refl _, fun acc hacc => ?_⟩))
      · rw [← intsV_map]
        exact e5 _ _ (ea _ _ (by rw [upd_ne nop]; exact hop))
      · obtain ⟨bs, rfl, hbs⟩ := hacc
        refine ⟨bs ++ [decide (n ∈ S)], ?_, ?_⟩
        · rw [List.map_append]
          congr 1
          show [V.bl (inV (.int (n : Int)) _)] = [V.bl _]
          rw [inV_ints]
          refine congrArg (fun z => [V.bl z]) (decide_eq_decide.mpr ⟨fun z => ?_, fun z => List.mem_map.mpr ⟨n, z, rfl⟩⟩)
          obtain ⟨m, hm, em⟩ := List.mem_map.mp z
          have : m = n := Int.ofNat.inj em
          exact this ▸ hm
        · rw [split, List.all_append, Bool.and_eq_true, hbs]
          refine and_congr Iff.rfl ⟨fun z d' hd' _ => ?_, fun z => ?_⟩
          · have : decide (n ∈ S) = true := by simpa using z
            exact of_decide_eq_true this
          · simpa using z dn hdn hb
    · obtain ⟨bs, rfl, hbs⟩ := hacc
      refine ⟨bs, rfl, ?_⟩
      rw [split, hbs]
      refine ⟨fun z => ⟨z, fun d' hd' hn' => ?_⟩, fun z => z.1⟩
      obtain rfl := Option.some.inj (hd'.symm.trans hdn)
      rw [hb] at hn'
      exact Bool.noConfusion hn'
  · rintro lp ys Hz hlp ez hzz hl3 ⟨bs, rfl, hbs⟩
    rw [List.take_of_length_le (by rw [wlen]; exact Nat.le_refl _)] at hbs
    have nlw : lp ≠ wp := fun z => by rw [z, upd_same] at hlp; exact (Option.some_ne_none _ hlp).elim
    refine ⟨ez _ _ upd_same, ra_nil ⟨lp, bs, rfl, .inl (.inl (by rw [upd_ne nlw]; exact hzz)), q _ _ (e14.trans (ex_unlock W4.at_ ez)) ?_⟩⟩
    rw [hbs]
    refine ⟨fun z => ⟨hlast, fun _ => ⟨ρ, hrow⟩, fun _ i d' hi hd' hn' => ((hS i).mp (z i ((W4.mem i).mpr hi) d' hd' hn')).2⟩, fun t n hn d' hd' hn' => (hS n).mpr ⟨hn, t.link rfl n d' ((W4.mem n).mp hn) hd' hn'⟩⟩
end
end Fl
end
section
set_option Elab.async false
set_option linter.all false
set_option maxRecDepth 100000
set_option maxHeartbeats 4000000
namespace Fx
open PySem PySem.Spec PyProof.Rows L2
open Evl (Ex fresh_back)
section
variable {X : Cx} {elt tg iter : Expr} {σ : L2.St} {H : Hp} {D : Ends} {pos spos py : Pos} {scope : Scope} {own : List (Str × Nat)} {g : TG} {y : Str}
/-- y = [elt for target in iter], y a plain local -/
theorem rs_setLc (i : Nat) (hc : X.calm = true) (hN : X.N.Nodup) (ok : BlkOk X.N X.env.scope scope own) (hg : ∀ s H C cl fp, PG (Blk X scope s H C cl fp) tg g) (gm : GoodG g)
    (h : RI X tg iter σ H fun J H1 => ∃ (n : Nat) (G : Hp → Prop) (Y : Nat → Hp → V → Hp → Prop) (Acc : Nat → List V → Prop), Walk J n G Y ∧ n ≤ 40000 ∧ (∀ H', Ex H1 H' → G H') ∧ Acc 0 [] ∧
      (∀ i x H2 H3, i < n → Ex H1 H2 → Y i H2 x H3 → Ex H2 H3 ∧ g x (wipe σ (own.map (·.2))) H3 fun σ2 H4 => wipe σ2 (own.map (·.2)) = wipe σ (own.map (·.2)) ∧ Ex H3 H4 ∧ ∀ s0 H0 C cl fp,
        RE (Blk X scope s0 H0 C cl fp) elt σ2 H4 fun y H6 => Ex H4 H6 ∧ ∀ acc, Acc i acc → Acc (i + 1) (acc ++ [y])) ∧
      ∀ p ys H2, H1 p = none → Ex H1 H2 → H2 p = some (.lst ys) → ys.length = n → Acc n ys → D.nx (σ.set i (some (.ref p))) H2)
    (hy : X.N[i]? = some y := by rfl) (hyl : List.lookup y X.env.scope.names = some NameKind.local := by rfl) (hsw : swapsWith (.ListComp elt [⟨tg, iter, [], 0⟩] scope pos) (some (.Name y py)) spos.line X.env = pure true := by rfl)
    (hs : ∀ x, foldedSetIterable iter X.env x = pure x := by intro _; rfl) : RS X (.Assign [.Name y py] (.ListComp elt [⟨tg, iter, [], 0⟩] scope pos) spos) D σ H := by
  refine rs_of (ps_setLc (i := i) (own := own) (g := g) (tt := tYes) (te := fun σ H Q => ∀ s0 H0 C cl fp, RE (Blk X scope s0 H0 C cl fp) elt σ H Q) hc hN hy hyl hsw pi_RI ok hg (fun _ _ _ _ _ => pts_nil) (fun s H C cl fp => ⟨fun pins s' σ H' Q I q => (q s H C cl fp).run pins s' I⟩) hs) ?_
  refine h.mono fun J H1 ⟨n, G, Y, Acc, w, hn, hG, h0, turn, fin⟩ Dl hD => ?_
  refine lc_it w (g := g) (tt := tYes) (te := fun σ H Q => ∀ s0 H0 C cl fp, RE (Blk X scope s0 H0 C cl fp) elt σ H Q) (fun i H' => Ex H1 H' ∧ ∃ acc, H' Dl = some (.lst acc) ∧ acc.length = i ∧ Acc i acc)
    ⟨Evl.Ex.new hD, [], upd_same, rfl, h0⟩ (fun i H' _ p => hG H' p.1) (fun i x H2 H3 hi p y => ?_) fun H' ⟨e, acc, a1, a2, a3⟩ => fin Dl acc H' hD e a1 a2 a3
  obtain ⟨e2, acc, a1, a2, a3⟩ := p
  obtain ⟨e3, t⟩ := turn i x H2 H3 hi e2 y
  refine gm _ _ _ _ _ (fun σ2 H4 ⟨hw, e4, t⟩ => ⟨hw, ?_⟩) t
  simp only [tYes, if_true]
  intro s0 H0 C cl fp
  refine (t s0 H0 C cl fp).mono fun y' H6 ⟨e6, k⟩ => ?_
  have e26 : Ex H2 H6 := (e3.trans e4).trans e6
  exact ⟨acc, e26 _ _ a1, Nat.lt_of_lt_of_le (show acc.length < 100000 by omega) (by decide), ex_mut (e2.trans e26) hD, acc ++ [y'], upd_same, by rw [List.length_append]; simp [a2], k acc a3⟩
end
end Fx
namespace Fl
open PySem PySem.Spec PyProof.Rows L2 Fx
open Evl (Ex fresh_back)
/-! ### lengths -/
structure Short (es : List (PyData × PyData)) : Prop where
  pos : 0 < es.length
  len : es.length ≤ 24
  isl : ∀ e ∈ es, isListD e.2 = true
  each : ∀ e ∈ es, dlen e.2 ≤ 60
  all : (es.map fun e => dlen e.2).sum ≤ 240
theorem sum_cast : ∀ ns : List Nat, (ns.map fun n : Nat => (n : Int)).sum = ((ns.sum : Nat) : Int)
  | [] => rfl
  | n :: r => by
    rw [List.map_cons, List.sum_cons, List.sum_cons, sum_cast r]
    omega
section
variable {P : Program} {w : World} {K : PySem.W.Frag} {mg : Str → Option Value} {base : Heap} {f : Addr} {fd : FuncData}
abbrev nm_check_lengths : List Str := ["functions", "lengths", "lines"]
theorem sc_check_lengths : FnScope nm_check_lengths ["functions"] (defScope s_check_lengths) := ⟨rfl, rfl, rfl, by decide +kernel, rfl, by decide +kernel, by decide +kernel⟩
/-- of functions that are short enough -/
def sp_check_lengths (K : PySem.W.Frag) : Sp := fun vs H Q _ => ∃ fa kvs es, vs = [.ref fa] ∧ H fa = some (.dK kvs) ∧ DK K H kvs es ∧ Short es ∧ ∀ H', Ex H H' → Q .non H'
theorem ok_check_lengths (F : Fun K "_check_lengths" "_check_lengths" s_check_lengths f fd) (G : Gb mg) : FnOk P w K mg base CX0 1 f fd ["functions"] (sp_check_lengths K) := by
  refine F.ok sc_check_lengths (fun vs H Q E h => ?_) (fun cdv A outer s H vs Q E hr h => ⟨RB _ _, pss_RB, ?_⟩)
  · obtain ⟨_, _, _, rfl, _⟩ := h; rfl
  obtain ⟨fa, kvs, es, rfl, hfa, hk, sh, q⟩ := h
  have hlen := hk.length
  have h24 := sh.len
  refine rb_cons ?_
  refine rs_setLc 1 (own := [("lines", 2)]) (g := gName 2) rfl (by exact sc_check_lengths.nd) (blkOk_by (N := nm_check_lengths) (sc := defScope s_check_lengths) (by decide +kernel)) (fun _ _ _ _ _ => pg_name (i := 2) (by exact sc_check_lengths.nd) rfl (Or.inl rfl)) good_name ?_
  refine ri_list (re_listVals rfl G.list (re_var 0 rfl ⟨fa, kvs, rfl, hfa, fun p H2 hp e2 h2 => ⟨p, kvs.map (·.2), rfl, .inl (.inl h2), _, _, _, fun i ys => ys = intsV ((es.take i).map fun e => dlen e.2), walk_list, by rw [List.length_map]; omega, fun H' e' => Evl.ex_l e' (.inl (.inl h2)), rfl, ?_, ?_⟩⟩))
  · rintro i x Ha Hb hi ea ⟨rfl, hx⟩
    rw [List.getElem?_map] at hx
    obtain ⟨⟨k, u⟩, hku, rfl⟩ := Option.map_eq_some_iff.mp hx
    obtain ⟨du, hdu, hud⟩ := hk.getV hku
    refine ⟨Ex.refl _, rfl, Ex.refl _, fun s0 H0 C cl fp => re_cb call_len G.len (ra_cons (re_var 2 rfl (ra_nil ⟨_, dlen du, rfl, (hud.mono (e2.trans ea)).lenV (sh.isl _ (List.mem_of_getElem? hdu)), Ex.refl _, fun acc hacc => ?_⟩)))⟩
    subst hacc
    rw [take_snoc hdu, List.map_append]
    unfold intsV
    rw [List.map_append]; rfl
  rintro lp ys H3 hlp e3 h3 hl rfl
  rw [List.length_map, hlen, List.take_length] at h3
  have e13 := e2.trans e3
  have hin : SqL K H3 lp (((es.map fun e => dlen e.2).map fun n : Nat => (n : Int)).map V.int) := .inl (.inl (by rw [← intsV_map]; exact h3))
  refine rb_cons (rs_if (rt_cmp op_gt (re_cb (cr_max rfl) G.max (ra_cons (re_var 1 rfl (ra_nil ⟨lp, _, rfl, hin, by rw [List.length_map, List.length_map]; exact sh.pos, fun m hm hmax => re_gint G.lines ⟨_, _, rfl, rfl, _, rfl, ?_⟩⟩))))))
  have hm60 : ¬ (60 : Int) < m := by
    obtain ⟨n, hn, rfl⟩ := List.mem_map.mp hm
    obtain ⟨e, he, rfl⟩ := List.mem_map.mp hn
    have := sh.each e he
    omega
  rw [decide_eq_false hm60]
  refine ifF (rb_nil (rb_one (rs_if (rt_cmp op_gt (re_cb (cr_sum rfl) G.sum (ra_cons (re_var 1 rfl (ra_nil ⟨lp, _, rfl, hin, re_gint G.allL ⟨_, _, rfl, rfl, _, rfl, ?_⟩⟩))))))))
  have hs : ¬ (240 : Int) < ((es.map fun e => dlen e.2).map fun n : Nat => (n : Int)).sum := by
    rw [sum_cast]
    have := sh.all
    omega
  rw [decide_eq_false hs]
  exact ifF (rb_nil (q _ e13))
end
end Fl
end
section
set_option Elab.async false
set_option linter.all false
set_option maxRecDepth 100000
set_option maxHeartbeats 2000000
/-! Raising, classes and their methods, as readings that stand as they are. -/
namespace Fx
open PySem PySem.Spec PyProof.Rows L2
open Evl (Ex fresh_back)
section
variable {X : Cx} {e o value : Expr} {es : List Expr} {σ : L2.St} {H : Hp} {Q : VK} {D : Ends} {f x m : Str} {p p' p2 pos apos : Pos}
theorem rs_raise {W : WX} {t : L2.St → Hp → XK → Prop} (hc : X.calm = true) (tk : Takes X W) (he : PMk X e t) (h : t σ H fun cls d H' => W cls d σ H') : RS X (.Raise (some e) none pos) D σ H := rs_of (ps_raise hc tk he) h
/-- self.f = value in the making of an exception -/
theorem rs_ost (h : RE X value σ H fun y H1 => RE X o σ H1 fun x H2 => ∃ a C : Addr, x = .ref a ∧ OexC X.K C ∧ PySem.W.findIn X.K (.ref C) f = some none ∧
    ((H2 a = some (exo a C none) ∧ ∀ dx, H2 dx = none → dx ≠ a → D.nx σ (upd (upd H2 dx (exd dx [(f, y)])) a (exo a C (some dx)))) ∨
      ∃ (dx : Addr) (fs : List (Str × V)), H2 a = some (exo a C (some dx)) ∧ H2 dx = some (exd dx fs) ∧ fs.length ≤ 900 ∧ D.nx σ (upd H2 dx (exd dx ((f, y) :: fs)))))
    (hs : swapsWith value (some (.Attribute o f p')) pos.line X.env = pure false := by rfl) : RS X (.Assign [.Attribute o f p'] value pos) D σ H := rs_of (ps_ost pe_RE pe_RE hs) h
/-- o.f -/
theorem re_fld (h : RE X o σ H fun x H1 => ∃ a C dx fs v, x = .ref a ∧ H1 a = some (.ins C dx fs) ∧ Cls X.K C ∧ NoAttr X.K C f ∧ fs.lookup f = some v ∧ Q v H1)
    (hb : attributeBase o f X.env (eval o X.env) = eval o X.env := by rfl) : RE X (.Attribute o f pos) σ H Q := re_of (pe_fld pe_RE hb) h
/-- o.f, a constant of the class -/
theorem re_con (h : RE X o σ H fun x H1 => ∃ a C dx fs v u, x = .ref a ∧ H1 a = some (.ins C dx fs) ∧ Cls X.K C ∧ Con X.K C f v u ∧ fs.lookup f = none ∧ Q v H1)
    (hb : attributeBase o f X.env (eval o X.env) = eval o X.env := by rfl) : RE X (.Attribute o f pos) σ H Q := re_of (pe_con pe_RE hb) h
/-- o.f = value -/
theorem rs_fld (h : RE X value σ H fun y H1 => RE X o σ H1 fun x H2 => ∃ a C dx fs, x = .ref a ∧ H2 a = some (.ins C dx fs) ∧ Cls X.K C ∧ NoAttr X.K C f ∧ fs.length < 1000 ∧ D.nx σ (upd H2 a (.ins C dx (putF f y fs))))
    (hs : swapsWith value (some (.Attribute o f p')) pos.line X.env = pure false := by rfl) : RS X (.Assign [.Attribute o f p'] value pos) D σ H := rs_of (ps_fld pe_RE pe_RE hs) h
/-- o.m(e, ..) -/
theorem re_meth {CX : CXT} {k : Nat} {C g : Addr} {fd : FuncData} {ps : List Str} {sp : Sp} {E : XK} {pl : Sem Bool} (c : Cls X.K C) (hm : Meth X.K C m g) (F : FnOk X.prog X.w X.K X.mg X.base CX k g fd ps sp) (hr : Room k X.A) (hb : Binds X.K fd ps []) (hx : Passes CX X E)
    (h : RE X o σ H fun x H1 => ∃ a dx fs, x = .ref a ∧ H1 a = some (.ins C dx fs) ∧ fs.lookup m = none ∧ RA X (e :: es) σ H1 fun vs H2 => sp (x :: vs) H2 Q E)
    (hst : starEach (e :: es) X.env = (false, eval e X.env) :: starEach es X.env := by rfl) (hpl : (backTo pos (starEach es X.env)).any (·.1) = false := by rfl)
    (ht : eval (.Call (.Attribute o m apos) (e :: es) [] pos) X.env = (do
      let ov ← eval o X.env
      standAt apos.atName
      let (f, first) ← holding [ov] (getMethod ov m pl)
      callWith pos f first (backTo pos (starEach (e :: es) X.env)) (backToKw pos (keywordEach [] X.env))) := by rfl) :
    RE X (.Call (.Attribute o m apos) (e :: es) [] pos) σ H Q :=
  re_of (pe_meth pe_RE c hm F hr hb .nil hx pa_RA hst hpl ht) (h.mono fun x H1 ⟨a, dx, fs, h1, h2, h3, h4⟩ => ⟨a, dx, fs, h1, h2, h3, h4.mono fun vs H2 q => by rw [List.append_nil]; exact q⟩)
/-- a property -/
theorem re_prop {CX : CXT} {k : Nat} {C g pr : Addr} {fd : FuncData} {ps : List Str} {sp : Sp} {E : XK} (c : Cls X.K C) (hp : PropOf X.K C f pr g) (F : FnOk X.prog X.w X.K X.mg X.base CX k g fd ps sp) (hr : Room (k + 1) X.A) (hb : Binds X.K fd ps []) (hx : Passes CX X.nox E)
    (h : RE X o σ H fun x H1 => ∃ a dx fs, x = .ref a ∧ H1 a = some (.ins C dx fs) ∧ sp [.ref a] H1 Q E)
    (hbs : attributeBase o f X.env (eval o X.env) = eval o X.env := by rfl) : RE X (.Attribute o f pos) σ H Q := re_of (pe_prop pe_RE c hp F hr hb .nil hx hbs) h
/-- C(e, ..), an own class -/
theorem re_make {CX : CXT} {k : Nat} {C g : Addr} {fd : FuncData} {ps : List Str} {sp : Sp} {E : XK} (M : Mk X.K C g) (F : FnOk X.prog X.w X.K X.mg X.base CX k g fd ps sp) (hr : Room (k + 1) X.A) (hm : X.mg x = some (.ref C)) (hb : Binds X.K fd ps []) (hx : Passes CX X E)
    (h : RA X (e :: es) σ H fun vs H1 => ∀ a dx, H1 a = none → H1 dx = none → dx ≠ a → sp (.ref a :: vs) (upd (upd H1 dx (.own a)) a (.ins C dx [])) (fun v H2 => v = .non ∧ Q (.ref a) H2) E)
    (hg : Gl X x := by rfl) (hdb : (x == ("__debug__" : Str)) = false := by decide) (he : starEach (e :: es) X.env = (false, eval e X.env) :: starEach es X.env := by rfl) (hpl : (backTo pos (starEach es X.env)).any (·.1) = false := by rfl) :
    RE X (.Call (.Name x p) (e :: es) [] pos) σ H Q :=
  re_of (pe_make M F hr hg hm hb .nil hx pa_RA hdb he hpl) (h.mono fun vs H1 q a dx h1 h2 h3 => by rw [List.append_nil]; exact q a dx h1 h2 h3)
/-- x(e, ..), x a local that holds an own class -/
theorem re_makeL {CX : CXT} {k i : Nat} {C g : Addr} {fd : FuncData} {ps : List Str} {sp : Sp} {E : XK} (M : Mk X.K C g) (F : FnOk X.prog X.w X.K X.mg X.base CX k g fd ps sp) (hr : Room (k + 1) X.A) (hb : Binds X.K fd ps []) (hx : Passes CX X E) (hs : σ[i]? = some (some (.ref C)))
    (h : RA X (e :: es) σ H fun vs H1 => ∀ a dx, H1 a = none → H1 dx = none → dx ≠ a → sp (.ref a :: vs) (upd (upd H1 dx (.own a)) a (.ins C dx [])) (fun v H2 => v = .non ∧ Q (.ref a) H2) E)
    (hN : X.N[i]? = some x := by rfl) (hv : Vis X.env.scope x := by first | exact Or.inl rfl | exact Or.inr (Or.inl rfl) | exact Or.inr (Or.inr rfl))
    (hd : (x == ("__debug__" : Str)) = false := by decide) (hcd : (x == ("__classdict__" : Str)) = false := by decide) (he : starEach (e :: es) X.env = (false, eval e X.env) :: starEach es X.env := by rfl) (hpl : (backTo pos (starEach es X.env)).any (·.1) = false := by rfl) :
    RE X (.Call (.Name x p) (e :: es) [] pos) σ H Q := by
  refine RE.made fun pins s I => ?_
  refine wpAny_Call_Name_kw (thn ((pe_var (pos := p) (i := i) hN hv hd hcd).run pins s σ H (fun v H1 => v = .ref C ∧ H1 = H) I ⟨.ref C, hs, rfl, rfl⟩) fun u s1 ⟨v, H1, I1, r1, ev, eH⟩ => ?_)
  subst ev
  subst eH
  obtain rfl : u = Value.ref C := r1
  refine PySem.W.callWith_K (h₀ := X.base) I1.ok.mod.kin M.kp (thn (h.run pos pins s1 I1) fun us s2 ⟨vs, H2, I2, r, q⟩ => ⟨I2.kIn, ?_⟩) he hpl
  exact run_make M F hr hb .nil hx I2 r fun a dx h1 h2 h3 => by rw [List.append_nil]; exact q a dx h1 h2 h3
end
/-- C.m is a staticmethod: its record at q, its def at g -/
structure SMet (K : PySem.W.Frag) (C : Addr) (mc : Value) (m : Str) (q g : Addr) : Prop where
  at_ : PySem.W.findCls K (.ref C) mc m = some (.get (.builtin "staticmethod.__get__") (.ref q) .none (.ref C))
  rc : ∃ rest, PySem.W.recIn K q "staticmethod" = some (.ref g :: rest)
  kp : PySem.W.keepIn K (.ref g) = true
section
variable {X : Cx} {e : Expr} {es : List Expr} {σ : L2.St} {H : Hp} {Q : VK} {x m : Str} {p pos apos : Pos}
/-- C.m(e, ..), m a staticmethod -/
theorem re_smeth {CX : CXT} {k : Nat} {C q g : Addr} {mc : Value} {fd : FuncData} {ps : List Str} {sp : Sp} {E : XK} {pl : Sem Bool} (r : ClX.CRead X.K C mc) (c : SMet X.K C mc m q g) (F : FnOk X.prog X.w X.K X.mg X.base CX k g fd ps sp) (hr : Room k X.A) (hm : X.mg x = some (.ref C)) (hb : Binds X.K fd ps []) (hx : Passes CX X E)
    (h : RA X (e :: es) σ H fun vs H1 => sp vs H1 Q E)
    (hg : Gl X x := by rfl) (hdb : (x == ("__debug__" : Str)) = false := by decide)
    (hst : starEach (e :: es) X.env = (false, eval e X.env) :: starEach es X.env := by rfl) (hpl : (backTo pos (starEach es X.env)).any (·.1) = false := by rfl)
    (ht : eval (.Call (.Attribute (.Name x p) m apos) (e :: es) [] pos) X.env = (do
      let ov ← eval (.Name x p) X.env
      standAt apos.atName
      let (f, first) ← holding [ov] (getMethod ov m pl)
      callWith pos f first (backTo pos (starEach (e :: es) X.env)) (backToKw pos (keywordEach [] X.env))) := by rfl) :
    RE X (.Call (.Attribute (.Name x p) m apos) (e :: es) [] pos) σ H Q := by
  refine RE.made fun pins s I => ?_
  refine PySem.W.methodCall_KW (pl := pl) (ld_glob I hg hm ?_ hdb) ht
  obtain ⟨rest, hp⟩ := c.rc
  refine PySem.W.method_cls I.kIn r.ga (PySem.W.cls_bind I.kIn r.rd c.at_ (wpAny_call (PySem.W.sm_get (s := { s with toks := s.toks + 1 }) I.kIn hp (PySem.W.handed_on (handed_of (v := .ref g) rfl) ?_))))
  refine PySem.W.callWith_K (h₀ := X.base) I.ok.mod.kin c.kp (thn (h.run pos pins _ (I.tok _)) fun us s2 ⟨vs, H2, I2, rv, q2⟩ => ⟨I2.kIn, ?_⟩) hst hpl
  exact run_fn F hr hb .nil hx I2 rv (by rw [List.append_nil]; exact q2)
end
end Fx
end
section
set_option Elab.async false
set_option linter.all false
set_option maxRecDepth 100000
set_option maxHeartbeats 4000000
namespace Fl
open PySem PySem.Spec PyProof.Rows L2 Fx
open Evl (Ex fresh_back)
/-! ### InvalidLine -/
def sp_il (K : PySem.W.Frag) : Sp := fun vs H Q _ => ∃ (a C : Addr) (y z : V), vs = [.ref a, y, z] ∧ OexC K C ∧ PySem.W.findIn K (.ref C) "name" = some none ∧ PySem.W.findIn K (.ref C) "index" = some none ∧ H a = some (exo a C none) ∧
  ∀ dx H', H dx = none → dx ≠ a → (∀ b o, H b = some o → b ≠ a → H' b = some o) → H' a = some (exo a C (some dx)) → H' dx = some (exd dx [("index", z), ("name", y)]) → Q .non H'
section
variable {P : Program} {w : World} {K : PySem.W.Frag} {mg : Str → Option Value} {base : Heap} {f : Addr} {fd : FuncData}
theorem sc_il : FnScope ["self", "name", "index"] ["self", "name", "index"] (defScope s_il_init) := ⟨rfl, rfl, rfl, by decide +kernel, rfl, by decide +kernel, by decide +kernel⟩
theorem ok_il (F : Fun K "__init__" "InvalidLine.__init__" s_il_init f fd) : FnOk P w K mg base CX0 1 f fd ["self", "name", "index"] (sp_il K) := by
  refine F.ok sc_il (fun vs H Q E h => ?_) (fun cdv A outer s H vs Q E hr h => ⟨RB _ _, pss_RB, ?_⟩)
  · obtain ⟨_, _, _, _, rfl, _⟩ := h; rfl
  obtain ⟨a, C, y, z, rfl, T, n1, n2, ha, q⟩ := h
  refine rb_cons (rs_ost (re_var 1 rfl (re_var 0 rfl ⟨a, C, rfl, T, n1, .inl ⟨ha, fun dx hdx ne => ?_⟩⟩)))
  refine rb_one (rs_ost (re_var 2 rfl (re_var 0 rfl ⟨a, C, rfl, T, n2, .inr ⟨dx, [("name", y)], upd_same, ?_, Nat.le_of_ble_eq_true rfl, ?_⟩⟩)))
  · rw [upd_ne ne, upd_same]
  · refine q dx _ hdx ne (fun b o hb hba => ?_) ?_ upd_same
    · have hbd : b ≠ dx := fun e => by rw [e, hdx] at hb; cases hb
      rw [upd_ne hbd, upd_ne hba, upd_ne hbd]
      exact hb
    · rw [upd_ne (Ne.symm ne), upd_same]
end
/-- what the written part says of InvalidLine, at C -/
structure IL (P : Program) (w : World) (K : PySem.W.Frag) (mg : Str → Option Value) (base : Heap) (C : Addr) : Prop where
  oex : OexC K C
  n1 : PySem.W.findIn K (.ref C) "name" = some none
  n2 : PySem.W.findIn K (.ref C) "index" = some none
  gm : mg "InvalidLine" = some (.ref C)
  init : ∃ fI fd, PySem.W.findIn K (.ref C) "__init__" = some (some (.ref fI)) ∧ PySem.W.typeIn K (.ref fI) = some (.type "function") ∧ Binds K fd ["self", "name", "index"] [] ∧ FnOk P w K mg base CX0 1 fI fd ["self", "name", "index"] (sp_il K)
section
variable {X : Cx} {e1 e2 : Expr} {σ : L2.St} {H : Hp} {D : Ends} {p p2 p3 : Pos}
theorem rs_raiseIL {C : Addr} {W : WX} (T : IL X.prog X.w X.K X.mg X.base C) (hc : X.calm = true) (hr : Room 2 X.A) (tk : Takes X W)
    (h : RA X [e1, e2] σ H fun vs H1 => ∃ y z, vs = [y, z] ∧ ∀ d H2, H1 d = none → Ex H1 H2 → H2 d = some (.xd [("index", z), ("name", y)]) → W (.ref C) (some d) σ H2) (hg : Gl X "InvalidLine" := by rfl)
    (he : starEach [e1, e2] X.env = (false, eval e1 X.env) :: starEach [e2] X.env := by rfl) (hpl : (backTo p2 (starEach [e2] X.env)).any (·.1) = false := by rfl) :
    RS X (.Raise (some (.Call (.Name "InvalidLine" p) [e1, e2] [] p2)) none p3) D σ H := by
  obtain ⟨fI, fd, iC, tI, hb, F⟩ := T.init
  refine rs_raise hc tk (pmk_oex T.oex iC tI F hr hb .nil pass0 hg T.gm pa_RA (he := he) (hpl := hpl)) ?_
  refine h.mono fun vs H1 ⟨y, z, ev, q⟩ => ⟨by rw [ev]; exact (by decide : 2 ≤ 1000), fun a ha => ?_⟩
  subst ev
  refine ⟨a, C, y, z, rfl, T.oex, T.n1, T.n2, upd_same, fun dx H' hdx ne keep h1 h2 => ⟨rfl, dx, _, h1, h2, ?_, q dx _ ?_ (fun b o hb => ?_) upd_same⟩⟩
  · rw [← hdx, upd_ne ne]
  · rw [← hdx, upd_ne ne]
  · have hdx' : H1 dx = none := by rw [← hdx, upd_ne ne]
    have hba : b ≠ a := fun e => by rw [e, ha] at hb; cases hb
    have hbd : b ≠ dx := fun e => by rw [e, hdx'] at hb; cases hb
    rw [upd_ne hbd, del_ne hba]
    exact keep b o (by rw [upd_ne hba]; exact hb) hba
end
/-! ### check_functions: one function -/
abbrev nm_check : List Str := ["functions", "bare", "name", "wrong"]
theorem sc_check : FnScope nm_check ["functions", "bare"] (defScope s_check_functions) := ⟨rfl, rfl, rfl, by decide +kernel, rfl, by decide +kernel, by decide +kernel⟩
/-- what is asked of the one function main -/
structure OneFn (b : Bool) (v : V) (d : PyData) : Prop where
  any : AnyLines d
  pos : 0 < (itemsD d).length
  len : (itemsD d).length ≤ 60
  good : firstWrong [(.inr "main", v)] b (itemsD d) = none → Good d ∧ Tidy (itemsD d) b
def sp_check (K : PySem.W.Frag) (C : Addr) : Sp := fun vs H Q E => ∃ fa v d b, vs = [.ref fa, .bl b] ∧ H fa = some (.dK [(.inr "main", v)]) ∧ D K H v d ∧ OneFn b v d ∧
  (firstWrong [(.inr "main", v)] b (itemsD d) = none → ∀ H', Ex H H' → Q .non H') ∧
  ∀ i, firstWrong [(.inr "main", v)] b (itemsD d) = some i → ∀ dx H', H dx = none → Ex H H' → H' dx = some (.xd [("index", .int (i : Nat)), ("name", .str "main")]) → E (.ref C) (some dx) H'
theorem re_ra2 {X : Cx} {e1 e2 : Expr} {σ : L2.St} {H : Hp} {QA : List V → Hp → Prop} (h : RE X e1 σ H fun x H1 => RE X e2 σ H1 fun y H2 => QA [x, y] H2) (h1 : starEach [e1, e2] X.env = (false, eval e1 X.env) :: starEach [e2] X.env := by rfl) (h2 : starEach [e2] X.env = (false, eval e2 X.env) :: starEach [] X.env := by rfl) :
    RA X [e1, e2] σ H QA := ra_cons (h.mono fun x H1 q => ra_cons (q.mono fun y H2 q2 => ra_nil q2) h2) h1
theorem isWord_main : isWordS "main" = true := by decide +kernel
theorem one_sorted {ys : List Str} {x : Str} (h : ys.Perm [x]) : ys = [x] := List.perm_singleton.mp h
section
variable {P : Program} {w : World} {K : PySem.W.Frag} {mg : Str → Option Value} {base : Heap} {f : Addr} {fd : FuncData}
theorem ok_check {C : Addr} (F : Fun K "check_functions" "check_functions" s_check_functions f fd) (G : Gb mg) (T : IL P w K mg base C) (c1 : Cl P w K mg base CX0 3 "_are_functions" (sp_are_functions K)) (c2 : Cl P w K mg base CX0 5 "_first_wrong" (sp_first_wrong K))
    (c3 : Cl P w K mg base CX0 1 "_check_lengths" (sp_check_lengths K)) (c4 : Cl P w K mg base CX0 4 "is_tidy" (sp_is_tidy K)) : FnOk P w K mg base (L2.CX P w) 6 f fd ["functions", "bare"] (sp_check K C) := by
  refine F.okX sc_check (fun vs H Q E h => ?_) (fun cdv A outer s H vs Q E hr h => ⟨RB _ _, pss_RB, ?_⟩)
  · obtain ⟨_, _, _, _, rfl, _⟩ := h; rfl
  obtain ⟨fa, v, d, b, rfl, hfa, hd, one, q, qe⟩ := h
  have hDK : DK K H [(.inr "main", v)] [(.str "main", d)] := .cons hd .nil
  have edl : dlen d = (itemsD d).length := by
    have hl := one.any.isl
    cases d with
    | list _ => rfl
    | tuple _ => rfl
    | _ => exact absurd (show false = true from hl) Bool.false_ne_true
  have hfill : isFilledD d = true := by
    have hp := one.pos
    have hl := one.any.isl
    show (isListD d && decide (0 < dlen d)) = true
    rw [edl, decide_eq_true hp, Bool.and_true]
    exact hl
  have hare : areF (.dict [(.str "main", d)]) = true := by
    have h1 : entOk (.str "main", d) = true := by
      show (isWordS "main" && isFilledD d) = true
      rw [isWord_main, hfill]; rfl
    have h2 : strIs "main" (.str "main") = true := by decide +kernel
    unfold areF
    simp only [List.all_cons, List.all_nil, h1, h2, List.any_cons, List.any_nil, List.length_cons, List.length_nil]
    rfl
  have hDD : D K H (.ref fa) (.dict [(.str "main", d)]) := .dic (.inl hfa) hDK
  have tk : Takes (cxOf (L2.CX P w) P w K mg base nm_check "check_functions" (defScope s_check_functions) f cdv A outer s H E) (fun cls d _ H => E cls d H) := takes_of rfl rfl rfl rfl
  refine rb_cons (rs_if (rt_not (rt_val (re_call c1 hr (ra_cons (re_var 0 rfl (ra_nil ⟨.ref fa, _, rfl, hDD, ?_, fun a o kvs z => ?_, fun r H1 e1 h1 => ⟨_, h1, ?_⟩⟩)))))))
  · intro e he
    rw [List.mem_singleton.mp he]
    exact (by decide +kernel : (4 : Nat) ≤ 100000)
  · cases z
    rw [hfa]
    intro z
    cases z
  rw [hare]
  refine ifF (rb_nil ?_)
  -- the lines
  refine rb_cons (rs_for (g := gName 2) (passes_of rfl) rfl (pg_name (i := 2) (by exact sc_check.nd) rfl (Or.inl rfl)) good_name ?_)
  refine ri_list (re_cb (call_sortedD rfl) G.sorted (ra_cons (re_var 0 rfl (ra_nil ⟨fa, _, ["main"], rfl, .inl (e1 _ _ hfa), rfl, (by decide : 1 < 64), fun ys p hperm _ hp => ?_⟩))))
  obtain rfl := one_sorted hperm
  have e2 : Ex H1 (upd H1 p (.lst [.str "main"])) := Ex.new hp
  have hpl : upd H1 p (.lst [V.str "main"]) p = some (.lst [.str "main"]) := upd_same
  have e12 := e1.trans e2
  refine ⟨p, [.str "main"], rfl, .inl (.inl upd_same), _, _, _, fun i σ' H' => ∃ x y, σ' = [some (.ref fa), some (.bl b), x, y] ∧ Ex (upd H1 p (.lst [V.str "main"])) H' ∧ (0 < i → firstWrong [(.inr "main", v)] b (itemsD d) = none), walk_list (xs := [V.str "main"]), ?_, ?_, ?_, ?_⟩
  · exact ⟨_, _, rfl, Ex.refl _, fun z => absurd z (Nat.lt_irrefl 0)⟩
  · rintro i σ' H' hi ⟨_, _, _, e', _⟩
    exact Evl.ex_l e' (.inl (.inl upd_same))
  · rintro i x σ' Ha Hb hi ⟨x1, y1, rfl, e3, _⟩ ⟨rfl, hx⟩
    have hi0 : i = 0 := by
      have : i < 1 := hi
      omega
    subst hi0
    obtain rfl := Option.some.inj hx
    have e13 := e12.trans e3
    refine rb_cons (rs_set 3 (by exact sc_check.nd) (re_call c2 hr (ra_cons (re_dget (hu_of hr) (re_var 0 rfl (re_var 2 rfl ⟨fa, _, .inr "main", v, rfl, e13 _ _ hfa, rfl, rfl, ra_cons (re_var 0 rfl (ra_cons (re_var 1 rfl (ra_nil ⟨v, d, fa, _, b, rfl, hd.mono e13, one.any, e13 _ _ hfa, fun r H4 e4 h4 => ?_⟩))))⟩))))))
    subst h4
    have e14 := e13.trans e4
    refine rb_one (rs_if (rt_cmp op_notN (re_var 3 rfl (re_non ⟨rfl, _, rfl, ?_⟩))))
    cases hfw : firstWrong [(.inr "main", v)] b (itemsD d) with
    | some n =>
      refine ifT (rb_one (rs_raiseIL T rfl (hr.mono (by decide)) tk (re_ra2 (re_var 2 rfl (re_var 3 rfl ⟨.str "main", .int (n : Nat), rfl, fun dx H5 hdx e5 hx => ?_⟩)))))
      exact qe n hfw dx H5 (fresh_back e14 hdx) (e14.trans e5) hx
    | none =>
      exact ifF (rb_nil ⟨_, _, rfl, e3.trans e4, fun _ => rfl⟩)
  · rintro σ' H3 ⟨x1, y1, rfl, e3, hno⟩
    have hfw := hno Nat.one_pos
    have e13 := e12.trans e3
    obtain ⟨good, tidy⟩ := one.good hfw
    have q := q hfw
    refine rb_cons (rs_expr (re_call c3 hr (ra_cons (re_var 0 rfl (ra_nil ⟨fa, _, [(.str "main", d)], rfl, e13 _ _ hfa, .cons (hd.mono e13) .nil, ⟨Nat.one_pos, (by decide : 1 ≤ 24), ?_, ?_, ?_⟩, fun H4 e4 => ?_⟩)))))
    · intro e he
      rw [List.mem_singleton.mp he]
      exact good.isl
    · intro e he
      rw [List.mem_singleton.mp he]
      show dlen d ≤ 60
      rw [edl]; exact one.len
    · show (dlen d :: []).sum ≤ 240
      rw [List.sum_cons, List.sum_nil, edl]
      have := one.len
      omega
    have e14 := e13.trans e4
    refine rb_one (rs_for (g := gName 2) (passes_of rfl) rfl (pg_name (i := 2) (by exact sc_check.nd) rfl (Or.inl rfl)) good_name ?_)
    refine ri_list (re_cb (call_sortedD rfl) G.sorted (ra_cons (re_var 0 rfl (ra_nil ⟨fa, _, ["main"], rfl, .inl (e14 _ _ hfa), rfl, (by decide : 1 < 64), fun ys p2 hperm _ hp2 => ?_⟩))))
    obtain rfl := one_sorted hperm
    have e5 : Ex H4 (upd H4 p2 (.lst [.str "main"])) := Ex.new hp2
    have e15 := e14.trans e5
    refine ⟨p2, [.str "main"], rfl, .inl (.inl upd_same), _, _, _, fun i σ' H' => ∃ x y, σ' = [some (.ref fa), some (.bl b), x, y] ∧ Ex (upd H4 p2 (.lst [V.str "main"])) H', walk_list (xs := [V.str "main"]), ⟨_, _, rfl, Ex.refl _⟩, ?_, ?_, ?_⟩
    · rintro i σ' H' hi ⟨_, _, _, e'⟩
      exact Evl.ex_l e' (.inl (.inl upd_same))
    · rintro i x σ' Ha Hb hi ⟨x1, y1, rfl, e6⟩ ⟨rfl, hx⟩
      have hi0 : i = 0 := by
        have : i < 1 := hi
        omega
      subst hi0
      obtain rfl := Option.some.inj hx
      have e16 := e15.trans e6
      refine rb_one (rs_if (rt_not (rt_val (re_call c4 hr (ra_cons (re_dget (hu_of hr) (re_var 0 rfl (re_var 2 rfl ⟨fa, _, .inr "main", v, rfl, e16 _ _ hfa, rfl, rfl, ra_cons (re_var 1 rfl (ra_nil ⟨v, d, b, rfl, hd.mono e16, good, fun k H7 e7 hk => ⟨_, rfl, ?_⟩⟩))⟩))))))))
      rw [hk.mpr tidy]
      exact ifF (rb_nil ⟨_, _, rfl, e6.trans e7⟩)
    · rintro σ' H' ⟨_, _, _, e'⟩
      exact q _ (e15.trans e')
end
end Fl
end
section
set_option Elab.async false
set_option linter.all false
set_option maxRecDepth 100000
set_option maxHeartbeats 4000000
namespace Fx
open PySem PySem.Spec PyProof.Rows L2
open Evl (Ex fresh_back)
/-- all but the dicts stay -/
def Exd (H H' : Hp) : Prop := ∀ b o, H b = some o → (∀ kvs, o ≠ .dK kvs) → H' b = some o
theorem Exd.of {H H' : Hp} (e : Ex H H') : Exd H H' := fun b o h _ => e b o h
theorem Exd.put {H : Hp} {a : Addr} {kvs : List (Key × V)} {o : HO} (h : H a = some (.dK kvs)) : Exd H (upd H a o) := fun b u hb hn => by
  have : b ≠ a := fun e => by
    rw [e, h] at hb
    exact hn kvs (Option.some.inj hb).symm
  rw [upd_ne this]; exact hb
theorem exd_t {K : PySem.W.Frag} {H H' : Hp} {a : Addr} {xs : List V} (e : Exd H H') (h : SqT K H a xs) : SqT K H' a xs := by
  rcases h with (h | ⟨o, h⟩) | h
  · exact .inl (.inl (e _ _ h (fun _ z => nomatch z)))
  · exact .inl (.inr ⟨o, e _ _ h (fun _ z => nomatch z)⟩)
  · exact .inr h
/-- what can be read stays, but for instances -/
def Ei (H H' : Hp) : Prop := ∀ b u, (∀ C dx fs, u ≠ .ins C dx fs) → Rd H b u → Rd H' b u
section
variable {K : PySem.W.Frag} {H H' : Hp}
theorem ei_l {a : Addr} {xs : List V} (e : Ei H H') (h : SqL K H a xs) : SqL K H' a xs := h.imp (e _ _ (fun _ _ _ z => nomatch z)) id
theorem ei_t {a : Addr} {xs : List V} (e : Ei H H') (h : SqT K H a xs) : SqT K H' a xs := h.imp (e _ _ (fun _ _ _ z => nomatch z)) id
theorem Ei.of (e : Ex H H') : Ei H H' := fun _ _ _ h => Evl.ex_rd e h
theorem Ei.trans {H'' : Hp} (e : Ei H H') (e' : Ei H' H'') : Ei H H'' := fun a u n h => e' a u n (e a u n h)
theorem Ei.put {a C dx : Addr} {fs : List (Str × V)} {o : HO} (h : H a = some (.ins C dx fs)) : Ei H (upd H a o) := fun b u n hb => by
  have ne : b ≠ a := fun e => by
    subst e
    rcases hb with hb | ⟨z, hb⟩
    · exact n _ _ _ (Option.some.inj (hb.symm.trans h))
    · exact nomatch (Option.some.inj (hb.symm.trans h))
  rcases hb with hb | ⟨z, hb⟩
  · exact .inl ((upd_ne ne).trans hb)
  · exact .inr ⟨z, (upd_ne ne).trans hb⟩
mutual
theorem D.monoI (e : Ei H H') {v : V} : ∀ {d : PyData}, D K H v d → D K H' v d
  | .none, h => by cases h; exact .non
  | .bool b, h => by cases h; exact .bl b
  | .int i, h => by cases h; exact .int i
  | .str x, h => by cases h; exact .str x
  | .list ds, h => by cases h with | lst a b => exact .lst (ei_l e a) (DA.monoI e b)
  | .tuple ds, h => by cases h with | tup a b => exact .tup (ei_t e a) (DA.monoI e b)
  | .dict ds, h => by cases h with | dic a b => exact .dic (e _ _ (fun _ _ _ z => nomatch z) a) (DK.monoI e b)
theorem DA.monoI (e : Ei H H') : ∀ {ds : List PyData} {vs : List V}, DA K H vs ds → DA K H' vs ds
  | [], _, h => by cases h; exact .nil
  | d :: ds, _, h => by cases h with | cons a b => exact .cons (D.monoI e a) (DA.monoI e b)
theorem DK.monoI (e : Ei H H') : ∀ {ds : List (PyData × PyData)} {vs : List (Key × V)}, DK K H vs ds → DK K H' vs ds
  | [], _, h => by cases h; exact .nil
  | (_, d) :: ds, _, h => by cases h with | cons a b => exact .cons (D.monoI e a) (DK.monoI e b)
end
end
section
variable {X : Cx} {kx vx c tg iter : Expr} {σ : L2.St} {H : Hp} {Q : VK} {pos : Pos} {scope : Scope} {own : List (Str × Nat)} {g : TG}
/-- {kx: vx for target in iter}, what is said of the made dict told of the heap, too -/
theorem re_dcH (hc : X.calm = true) (hN : X.N.Nodup) (ok : BlkOk X.N X.env.scope scope own) (hg : ∀ s H C cl fp, PG (Blk X scope s H C cl fp) tg g) (gm : GoodG g)
    (h : RI X tg iter σ H fun J H1 => ∃ (n : Nat) (G : Hp → Prop) (Y : Nat → Hp → V → Hp → Prop) (Acc : Nat → Hp → List (Key × V) → Prop), Walk J n G Y ∧ n ≤ 40000 ∧ (∀ H', Ex H1 H' → G H') ∧ (∀ H', Acc 0 H' []) ∧ (∀ i Ha Hb acc, Exd Ha Hb → Acc i Ha acc → Acc i Hb acc) ∧
      (∀ i x H2 H3, i < n → Ex H1 H2 → Y i H2 x H3 → Ex H2 H3 ∧ g x (wipe σ (own.map (·.2))) H3 fun σ2 H4 => wipe σ2 (own.map (·.2)) = wipe σ (own.map (·.2)) ∧ Ex H3 H4 ∧ ∀ s0 H0 C cl fp,
        RE (Blk X scope s0 H0 C cl fp) kx σ2 H4 fun y H5 => Ex H4 H5 ∧ ∃ k, y = kV k ∧ ∀ s0 H0 C cl fp, RE (Blk X scope s0 H0 C cl fp) vx σ2 H5 fun z H6 => Ex H5 H6 ∧ ∀ acc, Acc i H6 acc → Acc (i + 1) H6 (putK acc k z)) ∧
      ∀ p ys H2, H1 p = none → Ex H1 H2 → H2 p = some (.dK ys) → ys.length ≤ n → Acc n H2 ys → Q (.ref p) H2)
    (hs : ∀ x, foldedSetIterable iter X.env x = pure x := by intro _; rfl) : RE X (.DictComp kx vx [⟨tg, iter, [], 0⟩] scope pos) σ H Q := by
  refine re_of (pe_dc (own := own) (g := g) (tt := tYes) (tk := fun σ H Q => ∀ s0 H0 C cl fp, RE (Blk X scope s0 H0 C cl fp) kx σ H Q) (tv := fun σ H Q => ∀ s0 H0 C cl fp, RE (Blk X scope s0 H0 C cl fp) vx σ H Q) hc hN pi_RI ok hg
    (fun _ _ _ _ _ => pts_nil) (fun s H C cl fp => ⟨fun pins s' σ H' Q I q => (q s H C cl fp).run pins s' I⟩) (fun s H C cl fp => ⟨fun pins s' σ H' Q I q => (q s H C cl fp).run pins s' I⟩) hs) ?_
  refine h.mono fun J H1 ⟨n, G, Y, Acc, w, hn, hG, h0, mono, turn, fin⟩ Dl hD => ?_
  refine dc_walk w (g := g) (tt := tYes) (tk := fun σ H Q => ∀ s0 H0 C cl fp, RE (Blk X scope s0 H0 C cl fp) kx σ H Q) (tv := fun σ H Q => ∀ s0 H0 C cl fp, RE (Blk X scope s0 H0 C cl fp) vx σ H Q) (fun i H' => Ex H1 H' ∧ ∃ acc, H' Dl = some (.dK acc) ∧ acc.length ≤ i ∧ Acc i H' acc)
    ⟨Evl.Ex.new hD, [], upd_same, Nat.le_refl _, h0 _⟩ (fun i H' _ p => hG H' p.1) (fun i x H2 H3 hi p y => ?_) fun H' ⟨e, acc, a1, a2, a3⟩ => fin Dl acc H' hD e a1 a2 a3
  obtain ⟨e2, acc, a1, a2, a3⟩ := p
  obtain ⟨e3, t⟩ := turn i x H2 H3 hi e2 y
  refine gm _ _ _ _ _ (fun σ2 H4 ⟨hw, e4, t⟩ => ⟨hw, ?_⟩) t
  simp only [tYes, if_true]
  intro s0 H0 C cl fp
  refine (t s0 H0 C cl fp).mono fun y' H5 ⟨e5, k, ek, t2⟩ => ?_
  intro s1 H1' C1 cl1 fp1
  refine (t2 s1 H1' C1 cl1 fp1).mono fun z' H6 ⟨e6, k2⟩ => ?_
  have e26 : Ex H2 H6 := ((e3.trans e4).trans e5).trans e6
  exact ⟨acc, k, ek, e26 _ _ a1, Nat.lt_of_lt_of_le (show acc.length < 100000 by omega) (by decide), ex_mut (e2.trans e26) hD, putK acc k z', upd_same, Nat.le_trans (length_putK _ _ _) (by omega), mono _ _ _ _ (Exd.put (e26 _ _ a1)) (k2 acc (mono _ _ _ _ (Exd.of e26) a3))⟩
end
end Fx
namespace Fl
open PySem PySem.Spec PyProof.Rows L2 Fx
open Evl (Ex fresh_back)
/-! ### the class Program -/
/-- the attributes of a program at C are read and stored as such -/
structure PC (K : PySem.W.Frag) (C : Addr) : Prop where
  cls : Cls K C
  bare : Con K C "IS_BARE" (.bl false) (.bool false)
  nF : NoAttr K C "_functions"
/-- at H a program of the one function main: its instance, its dict -/
structure Prog1 (K : PySem.W.Frag) (C : Addr) (H : Hp) (a dx g t : Addr) (xs : List V) (ds : List PyData) : Prop where
  ins : H a = some (.ins C dx [("_functions", .ref g)])
  dict : H g = some (.dK [(.inr "main", .ref t)])
  seq : SqT K H t xs
  dat : DA K H xs ds
def exBut (a : Addr) (H H' : Hp) : Prop := ∀ b o, H b = some o → b ≠ a → H' b = some o
theorem D.seqL {K : PySem.W.Frag} {H : Hp} {v : V} {d : PyData} (h : D K H v d) (hl : (isL d || isT d) = true) : ∃ a xs, v = .ref a ∧ (SqL K H a xs ∨ SqT K H a xs) ∧ DA K H xs (itemsD d) := by
  cases h with
  | lst a b => exact ⟨_, _, rfl, .inl a, b⟩
  | tup a b => exact ⟨_, _, rfl, .inr a, b⟩
  | _ => exact absurd (show false = true from hl) Bool.false_ne_true
section
variable {P : Program} {w : World} {K : PySem.W.Frag} {mg : Str → Option Value} {base : Heap} {f : Addr} {fd : FuncData}
abbrev nm_keep : List Str := ["self", "functions", "name"]
theorem sc_keep : FnScope nm_keep ["self", "functions"] (defScope s_keep) := ⟨rfl, rfl, rfl, by decide +kernel, rfl, by decide +kernel, by decide +kernel⟩
def sp_keep (K : PySem.W.Frag) (C : Addr) : Sp := fun vs H Q _ => ∃ a dx fa v d, vs = [.ref a, .ref fa] ∧ H a = some (.ins C dx []) ∧ H fa = some (.dK [(.inr "main", v)]) ∧ D K H v d ∧ (isL d || isT d) = true ∧ (itemsD d).length ≤ 1000 ∧
  ∀ H' g t xs, exBut a H H' → Prog1 K C H' a dx g t xs (itemsD d) → Q .non H'
theorem ok_keep {C : Addr} (F : Fun K "_keep" "Program._keep" s_keep f fd) (G : Gb mg) (T : PC K C) : FnOk P w K mg base CX0 1 f fd ["self", "functions"] (sp_keep K C) := by
  refine F.ok sc_keep (fun vs H Q E h => ?_) (fun cdv A outer s H vs Q E hr h => ⟨RB _ _, pss_RB, ?_⟩)
  · obtain ⟨_, _, _, _, _, rfl, _⟩ := h; rfl
  obtain ⟨a, dx, fa, v, d, rfl, ha, hfa, hd, hl, h1000, q⟩ := h
  obtain ⟨va, xs, rfl, hsq, hda⟩ := D.seqL hd hl
  refine rb_one (rs_fld ?_)
  refine re_dcH (own := [("name", 2)]) (g := gName 2) rfl (by exact sc_keep.nd) (blkOk_by (N := nm_keep) (sc := defScope s_keep) (by decide +kernel)) (fun _ _ _ _ _ => pg_name (i := 2) (by exact sc_keep.nd) rfl (Or.inl rfl)) good_name ?_
  refine ri_list (re_cb (call_sortedD rfl) G.sorted (ra_cons (re_var 1 rfl (ra_nil ⟨fa, _, ["main"], rfl, .inl hfa, rfl, (by decide : 1 < 64), fun ys p hperm _ hp => ?_⟩))))
  obtain rfl := one_sorted hperm
  have e1 : Ex H (upd H p (.lst [.str "main"])) := Ex.new hp
  refine ⟨p, [.str "main"], rfl, .inl (.inl upd_same), _, _, _, fun i H' acc => (i = 0 ∧ acc = []) ∨ (i = 1 ∧ ∃ t, acc = [(.inr "main", .ref t)] ∧ SqT K H' t xs), walk_list (xs := [V.str "main"]), (by decide : 1 ≤ 40000), fun H' e' => Evl.ex_l e' (.inl (.inl upd_same)), fun H' => .inl ⟨rfl, rfl⟩, ?_, ?_, ?_⟩
  · rintro i Ha Hb acc e (z | ⟨z, t, ha, ht⟩)
    · exact .inl z
    · exact .inr ⟨z, t, ha, exd_t e ht⟩
  · rintro i x Ha Hb hi e2 ⟨rfl, hx⟩
    have hi0 : i = 0 := by
      have : i < 1 := hi
      omega
    subst hi0
    obtain rfl := Option.some.inj hx
    have e12 := e1.trans e2
    refine ⟨Ex.refl _, rfl, Ex.refl _, fun s0 H0 C cl fp => re_var 2 rfl ⟨Ex.refl _, .inr "main", rfl, fun s0 H0 C cl fp => ?_⟩⟩
    refine re_ct call_tuple_of G.tuple (ra_cons (re_dget (hu_of hr) (re_var 1 rfl (re_var 2 rfl ⟨fa, _, .inr "main", .ref va, rfl, e12 _ _ hfa, rfl, rfl, ra_nil ⟨va, xs, rfl, ?_⟩⟩))))
    rcases hsq with hsq | hsq
    · refine .inl ⟨Evl.ex_l e12 hsq, fun l hl => ⟨Ex.new hl, fun acc hacc => ?_⟩⟩
      rcases hacc with ⟨_, rfl⟩ | ⟨z, _⟩
      · exact .inr ⟨rfl, l, rfl, .inl (.inl upd_same)⟩
      · cases z
    · refine .inr ⟨Evl.ex_t e12 hsq, Ex.refl _, fun acc hacc => ?_⟩
      rcases hacc with ⟨_, rfl⟩ | ⟨z, _⟩
      · exact .inr ⟨rfl, va, rfl, Evl.ex_t e12 hsq⟩
      · cases z
  · rintro g ys H2 hg e2 h2 _ hacc
    have e12 := e1.trans e2
    rcases hacc with ⟨z, _⟩ | ⟨_, t, rfl, ht⟩
    · cases z
    refine re_var 0 rfl ⟨a, C, dx, _, rfl, e12 _ _ ha, T.cls, T.nF, by decide, ?_⟩
    have nga : g ≠ a := fun z => by rw [z, e12 _ _ ha] at h2; cases h2
    refine q _ g t xs (fun b o hb hba => by rw [upd_ne hba]; exact e12 _ _ hb) ⟨upd_same, by rw [upd_ne nga]; exact h2, ?_, ?_⟩
    · exact ei_t (Ei.put (e12 _ _ ha)) ht
    · exact (hda.mono e12).monoI (Ei.put (e12 _ _ ha))
abbrev nm_init : List Str := ["self", "functions"]
theorem sc_init : FnScope nm_init ["self", "functions"] (defScope s_init) := ⟨rfl, rfl, rfl, by decide +kernel, rfl, by decide +kernel, by decide +kernel⟩
def sp_init (K : PySem.W.Frag) (C CI : Addr) : Sp := fun vs H Q E => ∃ a dx fa v d, vs = [.ref a, .ref fa] ∧ H a = some (.ins C dx []) ∧ H fa = some (.dK [(.inr "main", v)]) ∧ D K H v d ∧ OneFn false v d ∧
  (firstWrong [(.inr "main", v)] false (itemsD d) = none → ∀ H' g t xs, exBut a H H' → Prog1 K C H' a dx g t xs (itemsD d) → Q .non H') ∧
  ∀ i, firstWrong [(.inr "main", v)] false (itemsD d) = some i → ∀ ed H', H ed = none → Ex H H' → H' ed = some (.xd [("index", .int (i : Nat)), ("name", .str "main")]) → E (.ref CI) (some ed) H'
/-- a global def that may raise -/
structure ClX (P : Program) (w : World) (K : PySem.W.Frag) (mg : Str → Option Value) (base : Heap) (k : Nat) (x : Str) (sp : Sp) : Prop where
  ex : Cl P w K mg base (L2.CX P w) k x sp
/-- a method -/
structure Mt (P : Program) (w : World) (K : PySem.W.Frag) (mg : Str → Option Value) (base : Heap) (CX : CXT) (k : Nat) (C : Addr) (m : Str) (ps : List Str) (sp : Sp) : Prop where
  ex : ∃ g fd, Meth K C m g ∧ Binds K fd ps [] ∧ FnOk P w K mg base CX k g fd ps sp
theorem ok_init {C CI : Addr} (F : Fun K "__init__" "Program.__init__" s_init f fd) (T : PC K C) (c1 : Cl P w K mg base (L2.CX P w) 6 "check_functions" (sp_check K CI)) (m1 : Mt P w K mg base CX0 1 C "_keep" ["self", "functions"] (sp_keep K C)) :
    FnOk P w K mg base (L2.CX P w) 7 f fd ["self", "functions"] (sp_init K C CI) := by
  refine F.okX sc_init (fun vs H Q E h => ?_) (fun cdv A outer s H vs Q E hr h => ⟨RB _ _, pss_RB, ?_⟩)
  · obtain ⟨_, _, _, _, _, rfl, _⟩ := h; rfl
  obtain ⟨a, dx, fa, v, d, rfl, ha, hfa, hd, one, q, qe⟩ := h
  obtain ⟨g, gd, hM, hb, FM⟩ := m1.ex
  have tk : Takes (cxOf (L2.CX P w) P w K mg base nm_init "Program.__init__" (defScope s_init) f cdv A outer s H E) (fun cls d _ H => E cls d H) := takes_of rfl rfl rfl rfl
  refine rb_cons (rs_expr (re_callX c1 hr (passes_call tk (fun _ _ _ _ z => z)) (re_ra2 (re_var 1 rfl (re_con (re_var 0 rfl ⟨a, C, dx, [], _, _, rfl, ha, T.cls, T.bare, rfl, ⟨fa, v, d, false, rfl, hfa, hd, one, fun hn H1 e1 => ?_, qe⟩⟩))))))
  refine rb_one (rs_expr (re_meth T.cls hM FM (hr.mono (by decide)) hb pass0 (re_var 0 rfl ⟨a, dx, [], rfl, e1 _ _ ha, rfl, ra_cons (re_var 1 rfl (ra_nil ⟨a, dx, fa, v, d, rfl, e1 _ _ ha, e1 _ _ hfa, hd.mono e1, one.any.isl, one.any.len, fun H' g t xs ex pr => ?_⟩))⟩)))
  exact q hn H' g t xs (fun b o hb hba => ex b o (e1 _ _ hb) hba) pr
end
end Fl
end
section
set_option Elab.async false
set_option linter.all false
set_option maxRecDepth 100000
set_option maxHeartbeats 4000000
namespace Fx
open PySem PySem.Spec PyProof.Rows L2
open Evl (Ex fresh_back)
section
variable {X : Cx} {o i e : Expr} {σ : L2.St} {H : Hp} {Q : VK} {pos : Pos}
/-- d[k], d perhaps locked -/
theorem re_dgetR (hu : X.A.units + 1 < cLine) (h : RE X o σ H fun x H1 => RE X i σ H1 fun y H2 => ∃ a kvs k v, x = .ref a ∧ Rd H2 a (.dK kvs) ∧ y = kV k ∧ valV kvs k = some v ∧ Q v H2) (hs : PlainIx i := by exact fun _ _ => rfl) : RE X (.Subscript o i pos) σ H Q :=
  re_of (pe_dget hu pe_RE pe_RE hs) (h.mono fun x H1 q => q.mono fun y H2 ⟨a, kvs, k, v, ex, hk, ey, hv, q⟩ => ⟨a, v, ex, .inl ⟨kvs, k, hk, ey, hv.symm⟩, q⟩)
end
end Fx
namespace Fl
open PySem PySem.Spec PyProof.Rows L2 Fx
open Evl (Ex fresh_back)
section
variable {P : Program} {w : World} {K : PySem.W.Frag} {mg : Str → Option Value} {base : Heap} {f : Addr} {fd : FuncData}
theorem sc_functions : FnScope ["self"] ["self"] (defScope s_functions) := ⟨rfl, rfl, rfl, by decide +kernel, rfl, by decide +kernel, by decide +kernel⟩
def sp_functions (K : PySem.W.Frag) (C : Addr) : Sp := fun vs H Q _ => ∃ a dx g t xs ds, vs = [.ref a] ∧ Prog1 K C H a dx g t xs ds ∧ ∀ p, H p = none → Q (.ref p) (upd H p (.dK [(.inr "main", .ref t)]))
theorem ok_functions {C : Addr} (F : Fun K "functions" "Program.functions" s_functions f fd) (G : Gb mg) (T : PC K C) : FnOk P w K mg base CX0 1 f fd ["self"] (sp_functions K C) := by
  refine F.ok sc_functions (fun vs H Q E h => ?_) (fun cdv A outer s H vs Q E hr h => ⟨RB _ _, pss_RB, ?_⟩)
  · obtain ⟨_, _, _, _, _, _, rfl, _⟩ := h; rfl
  obtain ⟨a, dx, g, t, xs, ds, rfl, pr, q⟩ := h
  exact rb_one (rs_ret (re_ct call_dictD G.dict (ra_cons (re_fld (re_var 0 rfl ⟨a, C, dx, _, _, rfl, pr.ins, T.cls, T.nF, rfl, ra_nil ⟨g, _, rfl, .inl pr.dict, fun p hp => q p hp⟩⟩)))))
abbrev nm_size : List Str := ["self", "name"]
def sp_size (K : PySem.W.Frag) (C : Addr) : Sp := fun vs H Q _ => ∃ a dx g t xs ds, vs = [.ref a] ∧ Prog1 K C H a dx g t xs ds ∧ Lines (.tuple ds) ∧ ∀ H', Ex H H' → Q (.int (ds.map sizeD).sum) H'
/-- the class as a global name: what it takes to be made -/
structure CM (P : Program) (w : World) (K : PySem.W.Frag) (mg : Str → Option Value) (base : Heap) (C CI : Addr) : Prop where
  gm : mg "Program" = some (.ref C)
  made : ∃ g fd, Mk K C g ∧ Binds K fd ["self", "functions"] [] ∧ FnOk P w K mg base (L2.CX P w) 7 g fd ["self", "functions"] (sp_init K C CI)
/-- what Program({'main': v}) gives -/
def makeR (K : PySem.W.Frag) (C CI : Addr) (v : V) (d : PyData) (H : Hp) (Q : VK) (E : XK) : Prop := OneFn false v d ∧
  (firstWrong [(.inr "main", v)] false (itemsD d) = none → ∀ H' a dx g t xs, Ex H H' → Prog1 K C H' a dx g t xs (itemsD d) → Q (.ref a) H') ∧
  ∀ i, firstWrong [(.inr "main", v)] false (itemsD d) = some i → ∀ ed H', H ed = none → Ex H H' → H' ed = some (.xd [("index", .int (i : Nat)), ("name", .str "main")]) → E (.ref CI) (some ed) H'
section
variable {H : Hp} {Q : VK} {E : XK}
/-- at the new instance __init__'s promise -/
theorem makeR.init {C CI a dx fa : Addr} {v : V} {d : PyData} (hd : D K H v d) (hf : H fa = some (.dK [(.inr "main", v)])) (h1 : H a = none) (h2 : H dx = none) (ne : dx ≠ a) (m : makeR K C CI v d H Q E) :
    sp_init K C CI [.ref a, .ref fa] (upd (upd H dx (.own a)) a (.ins C dx [])) (fun v H2 => v = .non ∧ Q (.ref a) H2) E := by
  obtain ⟨one, q, qe⟩ := m
  have e : Ex H (upd (upd H dx (.own a)) a (.ins C dx [])) := fun b o hb => by
    rw [upd_ne (ne_of_none hb h1), upd_ne (ne_of_none hb h2)]; exact hb
  refine ⟨a, dx, fa, v, d, rfl, upd_same, e _ _ hf, hd.mono e, one, fun hn H' g t xs ex pr => ⟨rfl, q hn H' a dx g t xs (fun b o hb => ex b o (e _ _ hb) (ne_of_none hb h1)) pr⟩, fun i hi ed H' hed ex hx => qe i hi ed H' (fresh_back e hed) (e.trans ex) hx⟩
end
theorem sc_of : FnScope ["cls", "lines"] ["cls", "lines"] (defScope s_of) := ⟨rfl, rfl, rfl, by decide +kernel, rfl, by decide +kernel, by decide +kernel⟩
def sp_of (K : PySem.W.Frag) (C CI : Addr) : Sp := fun vs H Q E => ∃ t d, vs = [.ref C, .ref t] ∧ D K H (.ref t) d ∧ ∀ H1, Ex H H1 → makeR K C CI (.ref t) d H1 Q E
theorem ok_of {C CI : Addr} (F : Fun K "of" "Program.of" s_of f fd) (M : CM P w K mg base C CI) : FnR P w K mg base (L2.CX P w) 9 f (fun vs H Q E => ∃ ws rest, vs = ws ++ rest ∧ ws.length = ["cls"].length ∧ rest.length ≤ sizeLine ∧ ∀ p, H p = Option.none → sp_of K C CI (ws ++ [V.ref p]) (upd H p (.tup rest)) Q E) := by
  obtain ⟨oc, od, kV, doc, pm, an, cdv, ct, osl, rfl, lk, hcd⟩ := F.ex
  refine StX.fn_star (ps := ["cls"]) (pv := "lines") lk hcd sc_of StX.cxUp (StX.bind_star1 (B := fun us => bindArgs (PySem.W.fnOf "of" "Program.of" (defArgs s_of) (defBody s_of) (defScope s_of) .none kV doc pm an cdv ct) ⟨us, []⟩) (p1 := "cls") (pv := "lines") (fun a => rfl) (fun a r rs => rfl)) (fun A outer s H vs Q E hr h => ⟨RB _ _, pss_RB, ?_⟩)
  obtain ⟨t, d, rfl, hd, mr⟩ := h
  obtain ⟨g, gd, hM, hb, FM⟩ := M.made
  have tk : Takes (cxOf (L2.CX P w) P w K mg base ["cls", "lines"] "Program.of" (defScope s_of) f cdv A outer s H E) (fun cls d _ H => E cls d H) := takes_of rfl rfl rfl rfl
  refine rb_one (rs_ret (re_makeL (i := 0) hM FM hr hb (passes_call tk (fun _ _ _ _ z => z)) rfl (ra_cons (re_dict1 fun p hp => re_str (re_var 1 rfl ⟨upd_same, .inr "main", rfl, ra_nil fun a dx h1 h2 ne => ?_⟩)))))
  have e1 : Ex H (upd (upd H p (.dK [])) p (.dK [(.inr "main", .ref t)])) := fun b o hb => by
    rw [upd_ne (ne_of_none hb hp), upd_ne (ne_of_none hb hp)]; exact hb
  exact makeR.init (hd.mono e1) upd_same h1 h2 ne (mr _ e1)
end
end Fl
namespace Fx
open PySem PySem.Spec PyProof.Rows L2
section
variable {X : Cx} {o e : Expr} {es : List Expr} {σ : L2.St} {H : Hp} {Q : VK} {m : Str} {pos apos : Pos}
/-- C.m(e, ..), m a classmethod -/
theorem re_cmeth {CX : CXT} {k : Nat} {C p g : Addr} {mc : Value} {sp : Sp} {E : XK} {pl : Sem Bool} (r : ClX.CRead X.K C mc) (c : ClX.CMet X.K C mc m p g) (F : FnR X.prog X.w X.K X.mg X.base CX k g sp) (hr : Room k X.A) (hx : Passes CX X E)
    (h : RE X o σ H fun x H1 => x = .ref C ∧ RA X (e :: es) σ H1 fun vs H2 => sp (.ref C :: vs) H2 Q E)
    (hst : starEach (e :: es) X.env = (false, eval e X.env) :: starEach es X.env := by rfl) (hpl : (backTo pos (starEach es X.env)).any (·.1) = false := by rfl)
    (ht : eval (.Call (.Attribute o m apos) (e :: es) [] pos) X.env = (do
      let ov ← eval o X.env
      standAt apos.atName
      let (f, first) ← holding [ov] (getMethod ov m pl)
      callWith pos f first (backTo pos (starEach (e :: es) X.env)) (backToKw pos (keywordEach [] X.env))) := by rfl) : RE X (.Call (.Attribute o m apos) (e :: es) [] pos) σ H Q :=
  re_of (ClX.pe_cmeth pe_RE r c F hr hx pa_RA hst hpl ht) h
end
end Fx
end
section
set_option Elab.async false
set_option linter.all false
set_option maxRecDepth 100000
set_option maxHeartbeats 4000000
namespace Fx
open PySem PySem.Spec PyProof.Rows L2
open Evl (Ex fresh_back)
theorem atI_in {α : Type} {xs : List α} {i : Int} (h0 : 0 ≤ i) (h1 : i < xs.length) : ∃ v, atI xs i = some v ∧ v ∈ xs := by
  obtain ⟨n, rfl⟩ := Int.eq_ofNat_of_zero_le h0
  have hn : n < xs.length := by omega
  exact ⟨xs[n], atI_nat (List.getElem?_eq_getElem hn), List.getElem_mem hn⟩
section
variable {X : Cx} {a b : Expr} {σ : L2.St} {H : Hp} {Q : VK} {pos : Pos}
theorem re_add (h : RE X a σ H fun x H1 => RE X b σ H1 fun y H2 => ∃ i j : Int, x = .int i ∧ y = .int j ∧ Q (.int (i + j)) H2) : RE X (.BinOp a .Add b pos) σ H Q := re_op op_add h
theorem re_sub (h : RE X a σ H fun x H1 => RE X b σ H1 fun y H2 => ∃ i j : Int, x = .int i ∧ y = .int j ∧ Q (.int (i - j)) H2) : RE X (.BinOp a .Sub b pos) σ H Q := re_op op_sub h
theorem re_mul (h : RE X a σ H fun x H1 => RE X b σ H1 fun y H2 => ∃ i j : Int, x = .int i ∧ y = .int j ∧ CMul i j ∧ Q (.int (i * j)) H2) : RE X (.BinOp a .Mult b pos) σ H Q := re_op op_mul h
theorem re_mod (h : RE X a σ H fun x H1 => RE X b σ H1 fun y H2 => ∃ i j : Int, x = .int i ∧ y = .int j ∧ 0 < j ∧ Q (.int (i % j)) H2) : RE X (.BinOp a .Mod b pos) σ H Q := re_op op_mod h
theorem re_fdiv (h : RE X a σ H fun x H1 => RE X b σ H1 fun y H2 => ∃ i j : Int, x = .int i ∧ y = .int j ∧ (0 < j ∧ j < 1073741824) ∧ Q (.int (i / j)) H2) : RE X (.BinOp a .FloorDiv b pos) σ H Q := re_op op_fdiv h
theorem re_int1 {p : Pos} (hm : X.mg "int" = none) (h : RE X a σ H fun x H1 => ∃ i, x = .int i ∧ Q (.int i) H1) (hg : Gl X "int" := by rfl) (h1 : starEach [a] X.env = (false, eval a X.env) :: starEach [] X.env := by rfl) :
    RE X (.Call (.Name "int" p) [a] [] pos) σ H Q := re_ct call_int1 hm (ra_cons (h.mono fun x H1 ⟨i, e, q⟩ => ra_nil (.inl ⟨i, by rw [e], q⟩)) h1) (by decide +kernel) hg (by decide) (by decide) h1
end
end Fx
namespace Fl
open PySem PySem.Spec PyProof.Rows L2 Fx
open Evl (Ex fresh_back)
/-! ### the law's pen -/
def penV (c : Addr) (t l : Int) : List (Key × V) := [(.inr "cells", .ref c), (.inr "turn", .int t), (.inr "left", .int l)]
def primesL : List Int := [2147483629, 2147483647, 2147483587, 2147483563, 2147483579]
theorem primes_ok : ∀ p ∈ primesL, 0 < p ∧ p < 2147483648 := by decide
theorem primes_at {i : Int} (h0 : 0 ≤ i) (h1 : i < 5) : ∃ p : Int, atI (primesL.map V.int) i = some (.int p) ∧ 0 < p ∧ p < 2147483648 := by
  obtain ⟨v, hv, hm⟩ := atI_in (xs := primesL.map V.int) (i := i) h0 (by rw [List.length_map]; exact h1)
  obtain ⟨p, hp, rfl⟩ := List.mem_map.mp hm
  exact ⟨p, hv, primes_ok p hp⟩
theorem hu64 {k : Nat} {A : Around} (hr : Room k A) : A.units + 64 < cLine := by
  have := hr.un
  omega
theorem dpa_ints {K : PySem.W.Frag} {H : Hp} : ∀ ns : List Int, DpAll K H (ns.map V.int) (ns.map PyData.int)
  | [] => .nil
  | n :: r => .cons (.int n) (dpa_ints r)
theorem lay_ints : ∀ ns : List Int, PyData.canLayAll0 (ns.map PyData.int) = true
  | [] => rfl
  | n :: r => by
    show (PyData.canLay0 (.int n) && PyData.canLayAll0 (r.map PyData.int)) = true
    rw [lay_ints r]; rfl
theorem depth_ints : ∀ ns : List Int, PyData.depthAll (ns.map PyData.int) = 0
  | [] => rfl
  | n :: r => by
    show max (PyData.depth (.int n)) (PyData.depthAll (r.map PyData.int)) = 0
    rw [depth_ints r]; rfl
theorem shaped_ints (ns : List Int) : SeqAt.shaped (.list (ns.map PyData.int)) = true := by
  show (PyData.canLayAll0 (ns.map PyData.int) && decide (PyData.depthAll (ns.map PyData.int) + 1 ≤ 64)) = true
  rw [lay_ints, depth_ints]; rfl
theorem pen_cells {c t l} : valV (penV c t l) (.inr "cells") = some (.ref c) := rfl
theorem pen_turn {c t l} : valV (penV c t l) (.inr "turn") = some (.int t) := rfl
theorem pen_left {c t l} : valV (penV c t l) (.inr "left") = some (.int l) := rfl
theorem put_turn {c t l} (t' : Int) : putK (penV c t l) (.inr "turn") (.int t') = penV c t' l := rfl
theorem put_left {c t l} (l' : Int) : putK (penV c t l) (.inr "left") (.int l') = penV c t l' := rfl
structure Pen (K : PySem.W.Frag) (H : Hp) (pa : Addr) (n : Nat) : Prop where
  ex : ∃ (c : Addr) (ns : List Int) (t l : Int), H pa = some (.dK (penV c t l)) ∧ Rd H c (.lst (ns.map V.int)) ∧ ns.length ≤ 63 ∧ 0 ≤ t ∧ t ≤ n ∧ 0 ≤ l
theorem rd_put {H : Hp} {a p : Addr} {xs : List V} {kvs : List (Key × V)} {o : HO} (hp : H p = some (.dK kvs)) (h : Rd H a (.lst xs)) : Rd (upd H p o) a (.lst xs) := by
  rcases h with h | ⟨o', h⟩
  · exact .inl (by rw [upd_ne (ne_of h hp (fun z => nomatch z))]; exact h)
  · exact .inr ⟨o', by rw [upd_ne (ne_of h hp (fun z => nomatch z))]; exact h⟩
theorem Pen.mono {K : PySem.W.Frag} {H H' : Hp} {pa : Addr} {n : Nat} (p : Pen K H pa n) (e : Ex H H') : Pen K H' pa n := by
  obtain ⟨c, ns, t, l, h1, h2, h3⟩ := p.ex
  exact ⟨c, ns, t, l, e _ _ h1, Evl.ex_rd e h2, h3⟩
theorem Pen.dict {K : PySem.W.Frag} {H : Hp} {pa : Addr} {n : Nat} (p : Pen K H pa n) : ∃ kvs, H pa = some (.dK kvs) := by
  obtain ⟨c, ns, t, l, h1, _⟩ := p.ex
  exact ⟨_, h1⟩
theorem exBut.refl {a : Addr} {H : Hp} : exBut a H H := fun _ _ h _ => h
theorem exBut.trans {a : Addr} {H H1 H2 : Hp} (e : exBut a H H1) (e' : exBut a H1 H2) : exBut a H H2 := fun b o h n => e' b o (e b o h n) n
theorem exBut.of {a : Addr} {H H1 : Hp} (e : Ex H H1) : exBut a H H1 := fun b o h _ => e b o h
theorem exBut.put {a : Addr} {H : Hp} {o : HO} : exBut a H (upd H a o) := fun b u h n => by rw [upd_ne n]; exact h
/-- all but the pen stays, and its cells -/
structure exP (a : Addr) (H H' : Hp) : Prop where
  but : exBut a H H'
  cells : ∀ c t l, H a = some (.dK (penV c t l)) → ∃ t' l', H' a = some (.dK (penV c t' l'))
theorem exP.refl {a : Addr} {H : Hp} : exP a H H := ⟨exBut.refl, fun c t l h => ⟨t, l, h⟩⟩
theorem exP.trans {a : Addr} {H H1 H2 : Hp} (e : exP a H H1) (e' : exP a H1 H2) : exP a H H2 := ⟨e.but.trans e'.but, fun c t l h => by
  obtain ⟨t1, l1, h1⟩ := e.cells c t l h
  exact e'.cells c t1 l1 h1⟩
theorem exP.of {a : Addr} {H H1 : Hp} (e : Ex H H1) : exP a H H1 := ⟨exBut.of e, fun c t l h => ⟨t, l, e _ _ h⟩⟩
theorem exP.put {a c : Addr} {t l t' l' : Int} {H : Hp} (h : H a = some (.dK (penV c t l))) : exP a H (upd H a (.dK (penV c t' l'))) := ⟨exBut.put, fun c2 t2 l2 h2 => by
  rw [h] at h2
  have e := HO.dK.inj (Option.some.inj h2)
  have e := (List.cons.inj e).1
  have e := V.ref.inj (Prod.mk.inj e).2
  subst e
  exact ⟨t', l', upd_same⟩⟩
section
variable {P : Program} {w : World} {K : PySem.W.Frag} {mg : Str → Option Value} {base : Heap} {f : Addr} {fd : FuncData}
/-- built-in names of the law -/
structure Gb2 (mg : Str → Option Value) : Prop where
  abs : mg "abs" = none
  range : mg "range" = none
  min : mg "min" = none
  repr : mg "repr" = none
  veE : mg "ValueError" = none
abbrev nm_draw : List Str := ["_law_pen_here", "_law_many", "_law_digit", "_law_turn", "_law_cell", "_law_primes", "_law_prime", "_law_drawn"]
theorem sc_draw : FnScope nm_draw ["_law_pen_here", "_law_many"] (defScope s_draw) := ⟨rfl, rfl, rfl, by decide +kernel, rfl, by decide +kernel, by decide +kernel⟩
def sp_draw (K : PySem.W.Frag) : Sp := fun vs H Q _ => ∃ pa m n, vs = [.ref pa, .int m] ∧ 0 < m ∧ m ≤ 1000 ∧ n ≤ 1000000 ∧ Pen K H pa n ∧ ∀ r H', 0 ≤ r → r < m → exP pa H H' → Pen K H' pa (n + 1) → Q (.int r) H'
theorem ok_draw (F : Fun K "_law_draw" "_law_draw" s_draw f fd) (G : Gb mg) (G2 : Gb2 mg) : FnOk P w K mg base CX0 1 f fd ["_law_pen_here", "_law_many"] (sp_draw K) := by
  refine F.ok sc_draw (fun vs H Q E h => ?_) (fun cdv A outer s H vs Q E hr h => ⟨RB _ _, pss_RB, ?_⟩)
  · obtain ⟨_, _, _, rfl, _⟩ := h; rfl
  obtain ⟨pa, m, n, rfl, m0, m1, n1, pen, q⟩ := h
  obtain ⟨c, ns, t, l, hpa, hc, hns, t0, t1, l0⟩ := pen.ex
  have hm30 : 0 < m ∧ m < 1073741824 := ⟨m0, by omega⟩
  have len3 : ∀ {c t l}, (penV c t l).length < sizeLine := by intro c t l; exact Nat.lt_of_lt_of_le (show 3 < 100000 by decide) (by decide)
  refine rb_cons (rs_if (rt_cmp op_gt (re_dget (hu_of hr) (re_var 0 rfl (re_str ⟨pa, _, .inr "left", _, rfl, hpa, rfl, pen_left, re_int ⟨l, 0, rfl, rfl, _, rfl, ifB (fun e => ?_) fun e => ?_⟩⟩)))))
  · refine rb_cons (rs_set 2 (by exact sc_draw.nd) (re_mod (re_int1 G.int (re_dget (hu_of hr) (re_var 0 rfl (re_str ⟨pa, _, .inr "left", _, rfl, hpa, rfl, pen_left, l, rfl, re_var 1 rfl ⟨l, m, rfl, rfl, m0, ?_⟩⟩))))))
    refine rb_cons (rs_dput (hu_of hr) (re_fdiv (re_dget (hu_of hr) (re_var 0 rfl (re_str ⟨pa, _, .inr "left", _, rfl, hpa, rfl, pen_left, re_var 1 rfl ⟨l, m, rfl, rfl, hm30, re_var 0 rfl (re_str ⟨pa, _, .inr "left", rfl, hpa, rfl, len3, ?_⟩)⟩⟩)))))
    rw [put_left]
    refine rb_one (rs_ret (re_var 2 rfl (q _ _ (Int.emod_nonneg _ (by omega)) (Int.emod_lt_of_pos _ m0) (exP.put hpa) ⟨c, ns, t, l / m, upd_same, rd_put hpa hc, hns, t0, by omega, Int.ediv_nonneg l0 (by omega)⟩)))
  refine rb_nil ?_
  refine rb_cons (rs_set 3 (by exact sc_draw.nd) (re_dget (hu_of hr) (re_var 0 rfl (re_str ⟨pa, _, .inr "turn", _, rfl, hpa, rfl, pen_turn, ?_⟩))))
  refine rb_cons (rs_dput (hu_of hr) (re_add (re_var 3 rfl (re_int ⟨t, 1, rfl, rfl, re_var 0 rfl (re_str ⟨pa, _, .inr "turn", rfl, hpa, rfl, len3, ?_⟩)⟩))))
  rw [put_turn]
  have eH : exP pa H (upd H pa (.dK (penV c (t + 1) l))) := exP.put hpa
  have hpa1 : upd H pa (.dK (penV c (t + 1) l)) pa = some (.dK (penV c (t + 1) l)) := upd_same
  have hc1 := rd_put (o := .dK (penV c (t + 1) l)) hpa hc
  generalize upd H pa (.dK (penV c (t + 1) l)) = H1 at *
  have tb : CMul t (30011 * t + 8117) := .inl ⟨by omega, by omega⟩
  refine rb_cons (rs_set 4 (by exact sc_draw.nd) (re_add (re_mul (re_int (re_var 3 rfl ⟨43, t, rfl, rfl, .inl ⟨by decide, by decide⟩, re_int ⟨_, 19, rfl, rfl, ?_⟩⟩)))))
  refine rb_cons (rs_ifJ (fun σ' H' => ∃ z : Int, σ' = [some (.ref pa), some (.int m), none, some (.int t), some (.int z), none, none, none] ∧ Ex H1 H') ?_ ?_)
  · refine rt_cmp (op_neD (hu64 hr)) (re_dget (hu_of hr) (re_var 0 rfl (re_str ⟨pa, _, .inr "cells", _, rfl, hpa1, rfl, pen_cells, re_lst (ra_nil ⟨(by decide), fun p H2 hp e2 h2 => ?_⟩)⟩)))
    refine ⟨.list (ns.map PyData.int), .list [], .lst (.inl (Evl.ex_rd e2 hc1)) (dpa_ints ns), .lst (.inl (.inl h2)) .nil, shaped_ints ns, rfl, _, rfl, ?_⟩
    cases ns with
    | nil => exact ifF (rb_nil ⟨_, rfl, e2⟩)
    | cons n0 nr =>
      have hlen : ((n0 :: nr).map V.int).length = (n0 :: nr).length := List.length_map ..
      have lpos : (0 : Int) < ((n0 :: nr).length : Nat) := by rw [List.length_cons]; omega
      obtain ⟨v, hv, hmem⟩ := atI_in (xs := (n0 :: nr).map V.int) (i := t % ((n0 :: nr).length : Nat)) (Int.emod_nonneg _ (by omega)) (by rw [hlen]; exact Int.emod_lt_of_pos _ lpos)
      obtain ⟨z, _, rfl⟩ := List.mem_map.mp hmem
      refine ifT (rb_one (rs_set 4 (by exact sc_draw.nd) (re_ixL (re_dget (hu_of hr) (re_var 0 rfl (re_str ⟨pa, _, .inr "cells", _, rfl, e2 _ _ hpa1, rfl, pen_cells, ?_⟩))))))
      refine re_mod (re_int1 G.int (re_var 3 rfl ⟨t, rfl, re_cb call_len G.len (ra_cons (re_dget (hu_of hr) (re_var 0 rfl (re_str ⟨pa, _, .inr "cells", _, rfl, e2 _ _ hpa1, rfl, pen_cells, ra_nil ⟨_, (n0 :: nr).length, rfl, .inl ⟨_, .inl (Evl.ex_rd e2 hc1), hlen.symm⟩, t, _, rfl, rfl, lpos, c, _, _, _, rfl, rfl, .inl (Evl.ex_rd e2 hc1), hv, z, rfl, e2⟩⟩))))⟩))
  rintro σ' H2 ⟨z, rfl, e2⟩
  have hpa2 := e2 _ _ hpa1
  have hc2 := Evl.ex_rd e2 hc1
  have fin : ∀ (H' : Hp) (l' r : Int), exP pa H2 H' → H' pa = some (.dK (penV c (t + 1) l')) → Rd H' c (.lst (ns.map V.int)) → 0 ≤ l' → 0 ≤ r → r < m → Q (.int r) H' := fun H' l' r ex hp' hc' l'0 r0 r1 =>
    q r H' r0 r1 (eH.trans ((exP.of e2).trans ex)) ⟨c, ns, t + 1, l', hp', hc', hns, by omega, by omega, l'0⟩
  have hlenN : (ns.map V.int).length = ns.length := List.length_map ..
  have rest : RB (cxOf CX0 P w K mg base nm_draw "_law_draw" (defScope s_draw) f cdv A outer s H E).nox ((defBody s_draw).drop 6) { nx := fun _ H' => Q .non H', rt := Q } [some (.ref pa), some (.int m), none, some (.int t), some (.int z), none, none, none] H2 := by
    refine rb_cons <| rs_set 5 (by exact sc_draw.nd) <| re_lst <| ra_cons <| re_int <| ra_cons <| re_int <| ra_cons <| re_int <| ra_cons <| re_int <| ra_cons <| re_int <| ra_nil ⟨(by decide : 5 ≤ 100000), fun lp H3 hlp e3 h3 => ?_⟩
    have hL : SqL K H3 lp (primesL.map V.int) := .inl (.inl h3)
    obtain ⟨p1, hp1, p10, p11⟩ := primes_at (Int.emod_nonneg t (by decide : (5 : Int) ≠ 0)) (Int.emod_lt_of_pos t (by decide : (0 : Int) < 5))
    obtain ⟨p2, hp2, p20, p21⟩ := primes_at (Int.emod_nonneg (t + 2) (by decide : (5 : Int) ≠ 0)) (Int.emod_lt_of_pos (t + 2) (by decide : (0 : Int) < 5))
    have fiv : (0 : Int) < 5 := by decide
    refine rb_cons <| rs_set 6 (by exact sc_draw.nd) <| re_ixL <| re_var 5 rfl <| re_mod <| re_int1 G.int <| re_var 3 rfl ⟨t, rfl, re_int ⟨t, 5, rfl, rfl, fiv, lp, _, _, _, rfl, rfl, hL, hp1, ?_⟩⟩
    have b1 := Int.emod_nonneg z (by omega : p1 ≠ 0)
    have b2 := Int.emod_lt_of_pos z p10
    refine rb_cons <| rs_set 7 (by exact sc_draw.nd) <| re_mod <| re_int1 G.int <| re_add <| re_add <| re_mul <| re_mod <| re_int1 G.int <| re_var 4 rfl ⟨z, rfl, re_var 6 rfl ⟨z, p1, rfl, rfl, p10, re_int ⟨_, 39373, rfl, rfl, .inl ⟨by omega, by omega⟩, ?_⟩⟩⟩
    refine re_mul <| re_var 3 rfl <| re_add <| re_mul <| re_int <| re_var 3 rfl ⟨30011, t, rfl, rfl, .inl ⟨by decide, by decide⟩, re_int ⟨_, 8117, rfl, rfl, t, _, rfl, rfl, tb, _, _, rfl, rfl, re_int ⟨_, 23, rfl, rfl, _, rfl, re_var 6 rfl ⟨_, p1, rfl, rfl, p10, ?_⟩⟩⟩⟩
    generalize hd1 : (z % p1 * 39373 + t * (30011 * t + 8117) + 23) % p1 = d1
    have b3 : 0 ≤ d1 := by rw [← hd1]; exact Int.emod_nonneg _ (by omega)
    have b4 : d1 < p1 := by rw [← hd1]; exact Int.emod_lt_of_pos _ p10
    refine rb_cons <| rs_set 7 (by exact sc_draw.nd) <| re_mod <| re_int1 G.int <| re_mul <| re_var 7 rfl <| re_add <| re_var 7 rfl <| re_int ⟨d1, 69621, rfl, rfl, d1, _, rfl, rfl, .inl ⟨by omega, by omega⟩, _, rfl, ?_⟩
    refine re_ixL <| re_var 5 rfl <| re_mod <| re_int1 G.int <| re_add <| re_var 3 rfl <| re_int ⟨t, 2, rfl, rfl, _, rfl, re_int ⟨_, 5, rfl, rfl, fiv, lp, _, _, _, rfl, rfl, hL, hp2, _, p2, rfl, rfl, p20, ?_⟩⟩
    generalize hd2 : d1 * (d1 + 69621) % p2 = d2
    have b5 : 0 ≤ d2 := by rw [← hd2]; exact Int.emod_nonneg _ (by omega)
    have b6 : d2 < p2 := by rw [← hd2]; exact Int.emod_lt_of_pos _ p20
    refine rb_one <| rs_ret <| re_mod <| re_int1 G.int <| re_fdiv <| re_mod <| re_int1 G.int <| re_add <| re_add <| re_mul <| re_var 7 rfl <| re_var 7 rfl ⟨d2, d2, rfl, rfl, .inl ⟨by omega, by omega⟩, re_mul <| re_int <| re_var 7 rfl ⟨16807, d2, rfl, rfl, .inl ⟨by decide, by decide⟩, _, _, rfl, rfl, re_var 3 rfl ⟨_, t, rfl, rfl, _, rfl, re_int ⟨_, 2147483549, rfl, rfl, by decide, re_int ⟨_, 64, rfl, rfl, ⟨by decide, by decide⟩, _, rfl, re_var 1 rfl ⟨_, m, rfl, rfl, m0, ?_⟩⟩⟩⟩⟩⟩
    exact fin _ _ _ (exP.of e3) (e3 _ _ hpa2) (Evl.ex_rd e3 hc2) l0 (Int.emod_nonneg _ (by omega)) (Int.emod_lt_of_pos _ m0)
  refine rb_cons <| rs_if <| rt_w <| rw_and <| rt_cmp op_lt <| re_var 3 rfl <| re_cb call_len G.len <| ra_cons <| re_dget (hu_of hr) <| re_var 0 rfl <| re_str ⟨pa, _, .inr "cells", _, rfl, hpa2, rfl, pen_cells, ra_nil ⟨_, ns.length, rfl, .inl ⟨_, .inl hc2, hlenN.symm⟩, t, _, rfl, rfl, _, rfl, ifB (fun e => ?_) fun e => ?_⟩⟩
  · refine rw_and1 <| rt_cmp op_ge <| re_cb call_abs G2.abs <| ra_cons <| re_var 4 rfl <| ra_nil ⟨z, rfl, re_op op_pow <| re_int <| re_int ⟨10, 18, rfl, rfl, ⟨by decide, by decide, by decide⟩, _, _, rfl, rfl, _, rfl, ifB (fun e => ?_) fun e => rb_nil rest⟩⟩
    have hge : (10 : Int) ^ (18 : Int).toNat ≤ (if z < 0 then -z else z) := of_decide_eq_true e
    generalize hz' : (if z < 0 then -z else z) = az at *
    refine rb_cons <| rs_dput (hu_of hr) <| re_fdiv <| re_sub <| re_cb call_abs G2.abs <| ra_cons <| re_var 4 rfl <| ra_nil ⟨z, rfl, re_op op_pow <| re_int <| re_int ⟨10, 18, rfl, rfl, ⟨by decide, by decide, by decide⟩, _, _, rfl, rfl, re_var 1 rfl ⟨_, m, rfl, rfl, hm30, re_var 0 rfl <| re_str ⟨pa, _, .inr "left", rfl, hpa2, rfl, len3, ?_⟩⟩⟩⟩
    rw [put_left, hz']
    refine rb_one <| rs_ret <| re_mod <| re_sub <| re_cb call_abs G2.abs <| ra_cons <| re_var 4 rfl <| ra_nil ⟨z, rfl, re_op op_pow <| re_int <| re_int ⟨10, 18, rfl, rfl, ⟨by decide, by decide, by decide⟩, _, _, rfl, rfl, re_var 1 rfl ⟨_, m, rfl, rfl, m0, ?_⟩⟩⟩
    rw [hz']
    exact fin _ _ _ (exP.put hpa2) upd_same (rd_put hpa2 hc2) (Int.ediv_nonneg (by omega) (by omega)) (Int.emod_nonneg _ (by omega)) (Int.emod_lt_of_pos _ m0)
  · exact ifF (rb_nil rest)
end
end Fl
end
section
set_option Elab.async false
set_option linter.all false
set_option maxRecDepth 100000
set_option maxHeartbeats 4000000
namespace Fx
open PySem PySem.Spec PyProof.Rows L2
open Evl (Ex fresh_back)
/-- d.update(another dict) -/
theorem mt_dupd {X : Cx} : MtR X "dict.update" (fun x vs H Q => ∃ (d o : Addr) (kvs more : List (Key × V)), x = .ref d ∧ vs = [.ref o] ∧ H d = some (.dK kvs) ∧ H o = some (.dK more) ∧ d ≠ o ∧ kvs.length + more.length ≤ 1000 ∧ (mergeK kvs more).length ≤ 1000 ∧
    Q .non (upd H d (.dK (mergeK kvs more)))) := by
  intro pins s σ H x xs v us Q I rx rxs h
  obtain ⟨d, o, kvs, more, rfl, rfl, hd, ho, hne, hl1, hl2, q⟩ := h
  cases rx
  obtain ⟨u, rfl, ru⟩ := rxs.one
  cases ru
  obtain ⟨z, lo, vs, rel, dd⟩ := dk_of I.hok hd
  obtain ⟨z2, lo2, vs2, rel2, dd2⟩ := dk_of I.hok ho
  have e1 := rel.length
  have e2 := rel2.length
  refine call_meetsIn PySem.F.slot_dict_update dd.typeIs PySem.F.entry_dict_update (PySem.F.args_dict_update_2 _ _) (meets_dict_update (mixKind X.prog X.w) d o hne lo2)
    ⟨vs, vs2, dd, dd2, by rw [sizeLine_eq]; omega, fun h' dd' _ hs => ?_⟩
  have he : ∃ q, h'.get? d = some q := let ⟨q, _, _, hq, _⟩ := dd'; ⟨q, hq⟩
  exact ⟨.non, _, d_write I (by rw [hd]; exact True.intro) hs he (dk_new (by rw [sizeLine_eq]; omega) lo (rel2.merge rel) dd'), rfl, q⟩
section
variable {X : Cx} {e o : Expr} {σ : L2.St} {H : Hp} {Q : VK} {pos apos cpos : Pos}
theorem re_update (h : RE X o σ H fun x H1 => ∃ d, x = .ref d ∧ (∃ kvs, H1 d = some (.dK kvs)) ∧ RE X e σ H1 fun y H2 => ∃ p kvs more, y = .ref p ∧ H2 d = some (.dK kvs) ∧ H2 p = some (.dK more) ∧ d ≠ p ∧ kvs.length + more.length ≤ 1000 ∧ (mergeK kvs more).length ≤ 1000 ∧ Q .non (upd H2 d (.dK (mergeK kvs more))))
    (base : attributeBase o "update" X.env (eval o X.env) = eval o X.env := by rfl) (line : (apos.endLine == cpos.line) = true := by rfl)
    (few : (((backTo cpos (starEach [e] X.env)).all (fun x => !x.1) && (backToKw cpos (keywordEach [] X.env)).all (fun x => x.1.isSome)) && decide (([e] : List Expr).length + ([] : List Keyword).length + (if ([] : List Keyword).isEmpty = true then 0 else 1) < 30)) = true := by rfl)
    (h1 : starEach [e] X.env = (false, eval e X.env) :: starEach [] X.env := by rfl) : RE X (.Call (.Attribute o "update" apos) [e] [] cpos) σ H Q :=
  re_of (pe_bm PySem.F.plainAttrs_dict PySem.F.slot_dict_update PySem.F.type_dict_update mt_dupd pe_RE pa_RA base few line h1 rfl) (h.mono fun x H1 ⟨d, ex, ⟨kvs0, hd⟩, q⟩ => by
    subst ex
    exact ⟨.inr (.inr (.inl ⟨rfl, .inl ⟨_, hd⟩⟩)), ra_cons (hs := h1) (q.mono fun y H2 ⟨p, kvs, more, ey, a, b, c, l1, l2, q⟩ => ra_nil ⟨d, p, kvs, more, rfl, by rw [ey], a, b, c, l1, l2, q⟩)⟩)
/-- what is just evaluated is locked for good -/
theorem re_freshLock (h : RE X e σ H fun v H1 => ∃ d u, v = .ref d ∧ H1 d = some u ∧ Mut (some u) ∧ ∀ od, Q v (upd H1 d (.frz od u))) : RE X e σ H Q := RE.made fun pins s I => thn (h.run pins s I) fun v s1 ⟨x, H1, I1, r, d, u, ex, hd, mu, q⟩ => by
  obtain ⟨od, I2⟩ := I1.lock hd mu
  exact ⟨x, _, I2, r, q od⟩
end
end Fx
end
section
set_option Elab.async false
set_option linter.all false
set_option maxRecDepth 100000
set_option maxHeartbeats 4000000
namespace Fl
open PySem PySem.Spec PyProof.Rows L2 Fx
open Evl (Ex fresh_back)
/-! ### the drawn main -/
abbrev lineOut : PyData := .tuple [.str "out", .int 0]
abbrev jumpB : PyData := .tuple [.str "jump", .str "b"]
abbrev markA : PyData := .tuple [.str "mark", .str "a"]
abbrev markB : PyData := .tuple [.str "mark", .str "b"]
abbrev stopL : PyData := .tuple [.str "stop"]
def drawn (n : Nat) (d : PyData) : List PyData := List.replicate n lineOut ++ [jumpB, d, markA, markB, stopL]
theorem il_out : isLineD lineOut = true := by decide +kernel
theorem il_jump : isLineD jumpB = true := by decide +kernel
theorem il_markA : isLineD markA = true := by decide +kernel
theorem il_markB : isLineD markB = true := by decide +kernel
theorem il_stop : isLineD stopL = true := by decide +kernel
theorem markN_here {ds : List PyData} {i : Nat} {d : PyData} {s : Str} (h : ds[i]? = some d) (hw : wordD d = "mark") (hl : labD d = s) : markN ds (i + 1) s = some i := by
  show (match ds[i]? with | some d => if wordD d = "mark" ∧ labD d = s then some i else markN ds i s | none => markN ds i s) = _
  rw [h]
  exact if_pos ⟨hw, hl⟩
theorem markN_skip {ds : List PyData} {i : Nat} {d : PyData} {s : Str} (h : ds[i]? = some d) (hn : ¬ (wordD d = "mark" ∧ labD d = s)) : markN ds (i + 1) s = markN ds i s := by
  show (match ds[i]? with | some d => if wordD d = "mark" ∧ labD d = s then some i else markN ds i s | none => markN ds i s) = _
  rw [h]
  exact if_neg hn
theorem markN_none {ds : List PyData} {s : Str} : ∀ {i : Nat}, (∀ j d, j < i → ds[j]? = some d → wordD d ≠ "mark") → markN ds i s = none
  | 0, _ => rfl
  | i + 1, h => by
    cases hd : ds[i]? with
    | none =>
      show (match ds[i]? with | some d => if wordD d = "mark" ∧ labD d = s then some i else markN ds i s | none => markN ds i s) = _
      rw [hd]
      exact markN_none fun j d hj => h j d (by omega)
    | some d =>
      rw [markN_skip hd fun z => h i d (Nat.lt_succ_self _) hd z.1]
      exact markN_none fun j d hj => h j d (by omega)
/-- a list without marks, and then the three last lines -/
theorem markN_tail {xs : List PyData} (hx : ∀ d ∈ xs, wordD d ≠ "mark") (s : Str) : markN (xs ++ [markA, markB, stopL]) (xs ++ [markA, markB, stopL]).length s = if s = "b" then some (xs.length + 1) else if s = "a" then some xs.length else none := by
  have hl : (xs ++ [markA, markB, stopL]).length = xs.length + 1 + 1 + 1 := by rw [List.length_append]; rfl
  have at_ : ∀ k, (xs ++ [markA, markB, stopL])[xs.length + k]? = [markA, markB, stopL][k]? := fun k => by
    rw [List.getElem?_append_right (Nat.le_add_right _ _), Nat.add_sub_cancel_left]
  rw [hl, markN_skip (d := stopL) (i := xs.length + 1 + 1) (at_ 2) (by
    rintro ⟨z, _⟩
    exact absurd z (by decide +kernel))]
  by_cases hb : s = "b"
  · subst hb
    rw [if_pos rfl, markN_here (d := markB) (s := "b") (at_ 1) rfl rfl]
  rw [if_neg hb, markN_skip (d := markB) (at_ 1) (fun z => hb z.2.symm)]
  by_cases ha : s = "a"
  · subst ha
    rw [if_pos rfl]
    exact markN_here (d := markA) (at_ 0) rfl rfl
  rw [if_neg ha, markN_skip (i := xs.length) (d := markA) (at_ 0) (fun z => ha z.2.symm)]
  refine markN_none fun j d hj hd => ?_
  rw [List.getElem?_append_left hj] at hd
  exact hx d (List.mem_of_getElem? hd)
theorem val_tail {xs : List PyData} (hx : ∀ d ∈ xs, wordD d ≠ "mark") (s : Str) : (valV (marksV (xs ++ [markA, markB, stopL])) (.inr s)).isSome = (decide (s = "b") || decide (s = "a")) := by
  unfold marksV
  rw [val_marks, markN_tail hx]
  by_cases hb : s = "b"
  · rw [if_pos hb, decide_eq_true hb]; rfl
  · rw [if_neg hb, decide_eq_false hb]
    by_cases ha : s = "a"
    · rw [if_pos ha, decide_eq_true ha]; rfl
    · rw [if_neg ha, decide_eq_false ha]; rfl
/-- names that are there where a and b are the labels and main the function -/
def hereD (d : PyData) : Bool := (match nlD d with | .str s => decide (s = "b") || decide (s = "a") | _ => true) && (match nfD d with | .str s => decide (s = "main") | _ => true)
theorem there_tail {xs : List PyData} (hx : ∀ d ∈ xs, wordD d ≠ "mark") {v : V} (d : PyData) : thereD (marksV (xs ++ [markA, markB, stopL])) [(.inr "main", v)] d = hereD d := by
  unfold thereD hereD
  congr 1
  · unfold hasK
    cases nlD d with
    | str s => exact val_tail hx s
    | _ => rfl
  · unfold hasK
    cases nfD d with
    | str s =>
      show (valV [((Sum.inr "main" : Key), v)] (.inr s)).isSome = decide (s = "main")
      by_cases e : s = "main"
      · rw [decide_eq_true e, show [((Sum.inr "main" : Key), v)] = putK [] (.inr "main") v from rfl, val_put, if_pos (by rw [e])]; rfl
      · rw [decide_eq_false e, show [((Sum.inr "main" : Key), v)] = putK [] (.inr "main") v from rfl, val_put, if_neg (fun z => e (Sum.inr.inj z))]; rfl
    | _ => rfl
theorem wrong_pre {ls fs : List (Key × V)} {m : List Str} : ∀ {pre r : List PyData} {i : Nat}, (∀ d ∈ pre, isLineD d = true ∧ wordD d ≠ "mark" ∧ thereD ls fs d = true) → wrongFrom ls fs false (pre ++ r) i m = wrongFrom ls fs false r (i + pre.length) m
  | [], r, i, _ => rfl
  | d :: pre, r, i, h => by
    obtain ⟨h1, h2, h3⟩ := h d List.mem_cons_self
    show (if isLineD d = false ∨ (false = true ∧ wordD d ∈ stackL) then some i
      else if wordD d = "mark" ∧ labD d ∈ m then some i
      else if thereD ls fs d = false then some i
      else wrongFrom ls fs false (pre ++ r) (i + 1) (if wordD d = "mark" then m ++ [labD d] else m)) = _
    rw [if_neg (by rw [h1]; rintro (z | ⟨z, _⟩) <;> exact nomatch z), if_neg (fun z => h2 z.1), if_neg (by rw [h3]; exact fun z => nomatch z), if_neg h2, wrong_pre fun x hx => h x (List.mem_cons_of_mem _ hx), List.length_cons]
    congr 1
    omega
theorem wrong_end {ls fs : List (Key × V)} {i : Nat} : wrongFrom ls fs false [markA, markB, stopL] i [] = none := by
  have step : ∀ {d : PyData} {r : List PyData} {i : Nat} {m : List Str}, isLineD d = true → thereD ls fs d = true → ¬ (wordD d = "mark" ∧ labD d ∈ m) → wrongFrom ls fs false (d :: r) i m = wrongFrom ls fs false r (i + 1) (if wordD d = "mark" then m ++ [labD d] else m) := fun {d r i m} h1 h3 h2 => by
    show (if isLineD d = false ∨ (false = true ∧ wordD d ∈ stackL) then some i
      else if wordD d = "mark" ∧ labD d ∈ m then some i
      else if thereD ls fs d = false then some i
      else wrongFrom ls fs false r (i + 1) (if wordD d = "mark" then m ++ [labD d] else m)) = _
    rw [if_neg (by rw [h1]; rintro (z | ⟨z, _⟩) <;> exact nomatch z), if_neg h2, if_neg (by rw [h3]; exact fun z => nomatch z)]
  rw [step il_markA rfl (by rintro ⟨_, z⟩; exact nomatch z), if_pos (show wordD markA = "mark" from rfl)]
  rw [step il_markB rfl (by
    rintro ⟨_, z⟩
    rcases List.mem_cons.mp z with z | z
    · exact absurd z (by decide +kernel)
    · exact nomatch z), if_pos (show wordD markB = "mark" from rfl)]
  rw [step il_stop rfl (by rintro ⟨z, _⟩; exact absurd z (by decide +kernel))]
  rfl
theorem drawn_split (n : Nat) (d : PyData) : drawn n d = (List.replicate n lineOut ++ [jumpB]) ++ (d :: [markA, markB, stopL]) := by
  unfold drawn; rw [List.append_assoc]; rfl
theorem drawn_split2 (n : Nat) (d : PyData) : drawn n d = (List.replicate n lineOut ++ [jumpB, d]) ++ [markA, markB, stopL] := by
  unfold drawn; rw [List.append_assoc]; rfl
theorem mem_pre {n : Nat} {x : PyData} (h : x ∈ List.replicate n lineOut ++ [jumpB]) : x = lineOut ∨ x = jumpB := by
  rcases List.mem_append.mp h with h | h
  · exact .inl (List.eq_of_mem_replicate h)
  · exact .inr (List.mem_singleton.mp h)
theorem filter_drawn {n : Nat} {d : PyData} : ∃ xs, (drawn n d).filter isLineD = xs ++ [markA, markB, stopL] ∧ ∀ x ∈ xs, x = lineOut ∨ x = jumpB ∨ x = d := by
  refine ⟨(List.replicate n lineOut ++ [jumpB, d]).filter isLineD, ?_, fun x hx => ?_⟩
  · rw [drawn_split2, List.filter_append]
    congr 1
  · have hx := (List.mem_filter.mp hx).1
    rcases List.mem_append.mp hx with h | h
    · exact .inl (List.eq_of_mem_replicate h)
    · rcases List.mem_cons.mp h with h | h
      · exact .inr (.inl h)
      · exact .inr (.inr (List.mem_singleton.mp h))
theorem first_drawn {n : Nat} {d : PyData} {v : V} (hm : wordD d ≠ "mark") : firstWrong [(.inr "main", v)] false (drawn n d) = if isLineD d = true ∧ hereD d = true then none else some (n + 1) := by
  obtain ⟨xs, hf, hxs⟩ := filter_drawn (n := n) (d := d)
  have hno : ∀ x ∈ xs, wordD x ≠ "mark" := fun x hx => by
    rcases hxs x hx with rfl | rfl | rfl
    · exact (by decide +kernel)
    · exact (by decide +kernel)
    · exact hm
  unfold firstWrong
  rw [hf, drawn_split, wrong_pre]
  · have hl : (List.replicate n lineOut ++ [jumpB]).length = n + 1 := by rw [List.length_append, List.length_replicate]; rfl
    rw [hl, Nat.zero_add]
    show (if isLineD d = false ∨ (false = true ∧ wordD d ∈ stackL) then some (n + 1)
      else if wordD d = "mark" ∧ labD d ∈ ([] : List Str) then some (n + 1)
      else if thereD _ _ d = false then some (n + 1)
      else wrongFrom _ _ false [markA, markB, stopL] (n + 1 + 1) (if wordD d = "mark" then [] ++ [labD d] else [])) = _
    rw [there_tail hno]
    by_cases h1 : isLineD d = true
    · rw [if_neg (by rw [h1]; rintro (z | ⟨z, _⟩) <;> exact nomatch z), if_neg (fun z => hm z.1)]
      by_cases h2 : hereD d = true
      · rw [if_neg (by rw [h2]; exact fun z => nomatch z), if_neg hm, wrong_end, if_pos ⟨h1, h2⟩]
      · rw [if_pos (by simpa using h2), if_neg (fun z => h2 z.2)]
    · rw [if_pos (.inl (by simpa using h1)), if_neg (fun z => h1 z.1)]
  · intro x hx
    rw [there_tail hno]
    rcases mem_pre hx with rfl | rfl
    · exact ⟨il_out, by decide +kernel, by decide +kernel⟩
    · exact ⟨il_jump, by decide +kernel, by decide +kernel⟩
theorem drawn_len (n : Nat) (d : PyData) : (drawn n d).length = n + 5 := by
  unfold drawn; rw [List.length_append, List.length_replicate]; rfl
theorem drawn_low {n i : Nat} {d : PyData} (h : i < n) : (drawn n d)[i]? = some lineOut := by
  unfold drawn
  rw [List.getElem?_append_left (by rw [List.length_replicate]; exact h), List.getElem?_replicate, if_pos h]
theorem drawn_at (n k : Nat) (d : PyData) : (drawn n d)[n + k]? = [jumpB, d, markA, markB, stopL][k]? := by
  unfold drawn
  rw [List.getElem?_append_right (by rw [List.length_replicate]; exact Nat.le_add_right _ _), List.length_replicate, Nat.add_sub_cancel_left]
theorem goal_drawn (n : Nat) (d : PyData) : goalN (drawn n d) jumpB = n + 3 := by
  unfold goalN
  rw [drawn_len, markN_skip (i := n + 4) (drawn_at n 4 d) (by
    rintro ⟨z, _⟩
    exact absurd z (by decide +kernel)), markN_here (i := n + 3) (d := markB) (s := labD jumpB) (drawn_at n 3 d) rfl rfl]
  rfl
theorem beh_lt {ds : List PyData} {i : Nat} (h : i + 1 < ds.length) : behN ds i = [i + 1] := if_pos h
theorem leads_plain {ds : List PyData} {i : Nat} {d : PyData} (h : ds[i]? = some d) (h1 : wordD d ∉ (["back", "tail", "stop"] : List Str)) (h2 : wordD d ≠ "jump") (h3 : wordD d ∉ (["if", "unless"] : List Str)) : leadsN ds i = behN ds i := by
  unfold leadsN
  rw [h]
  show (if _ then _ else _) = _
  rw [if_neg h1, if_neg h2, if_neg (fun z => h3 z.1)]
theorem leads_end {ds : List PyData} {i : Nat} {d : PyData} (h : ds[i]? = some d) (h1 : wordD d ∈ (["back", "tail", "stop"] : List Str)) : leadsN ds i = [] := by
  unfold leadsN
  rw [h]
  exact if_pos h1
theorem leads_jump {ds : List PyData} {i : Nat} {d : PyData} (h : ds[i]? = some d) (h1 : wordD d = "jump") : leadsN ds i = [goalN ds d] := by
  unfold leadsN
  rw [h]
  show (if _ then _ else _) = _
  rw [if_neg (by rw [h1]; decide +kernel), if_pos h1]
theorem leads_low {n i : Nat} {d : PyData} (h : i < n) : leadsN (drawn n d) i = [i + 1] := by
  rw [leads_plain (drawn_low h) (by decide +kernel) (by decide +kernel) (by decide +kernel), beh_lt (by rw [drawn_len]; omega)]
theorem leads_at0 (n : Nat) (d : PyData) : leadsN (drawn n d) n = [n + 3] := by
  have h : (drawn n d)[n]? = some jumpB := drawn_at n 0 d
  rw [leads_jump h rfl, goal_drawn]
theorem leads_at3 (n : Nat) (d : PyData) : leadsN (drawn n d) (n + 3) = [n + 4] := by
  rw [leads_plain (drawn_at n 3 d) (by decide +kernel) (by decide +kernel) (by decide +kernel), beh_lt (by rw [drawn_len]; omega)]
theorem leads_at4 (n : Nat) (d : PyData) : leadsN (drawn n d) (n + 4) = [] := leads_end (drawn_at n 4 d) (by decide +kernel)
theorem reach_drawn {n i : Nat} {d : PyData} (h : Reach (drawn n d) i) : i < n ∨ i = n ∨ i = n + 3 ∨ i = n + 4 := by
  induction h with
  | zero => omega
  | step h hj ih =>
    rcases ih with h | rfl | rfl | rfl
    · rw [leads_low h] at hj
      have := List.mem_singleton.mp hj
      omega
    · rw [leads_at0] at hj
      have := List.mem_singleton.mp hj
      omega
    · rw [leads_at3] at hj
      have := List.mem_singleton.mp hj
      omega
    · rw [leads_at4] at hj
      exact nomatch hj
theorem tidy_drawn (n : Nat) (d : PyData) : Tidy (drawn n d) false where
  last _ := by
    rw [drawn_len]
    exact ⟨stopL, drawn_at n 4 d, by decide +kernel⟩
  rows _ := by
    refine ⟨fun _ => [], rfl, fun i hi => ?_⟩
    rcases reach_drawn hi with h | rfl | rfl | rfl
    · exact ⟨lineOut, [], drawn_low h, (by show rowB lineOut [] = some []; decide +kernel), fun _ _ => rfl⟩
    · exact ⟨jumpB, [], drawn_at i 0 d, (by show rowB jumpB [] = some []; decide +kernel), fun _ _ => rfl⟩
    · exact ⟨markB, [], drawn_at n 3 d, (by show rowB markB [] = some []; decide +kernel), fun _ _ => rfl⟩
    · exact ⟨stopL, [], drawn_at n 4 d, (by show rowB stopL [] = some []; decide +kernel), fun _ _ => rfl⟩
  link _ i x hi hx hb := by
    rcases reach_drawn hi with h | rfl | rfl | rfl
    · rw [drawn_low h] at hx; cases hx; exact absurd hb (by decide +kernel)
    · rw [show (drawn i d)[i]? = some jumpB from drawn_at i 0 d] at hx; cases hx; exact absurd hb (by decide +kernel)
    · rw [drawn_at n 3 d] at hx; cases hx; exact absurd hb (by decide +kernel)
    · rw [drawn_at n 4 d] at hx; cases hx; exact absurd hb (by decide +kernel)
theorem mem_drawn {n : Nat} {d x : PyData} (h : x ∈ drawn n d) : x = lineOut ∨ x = jumpB ∨ x = d ∨ x = markA ∨ x = markB ∨ x = stopL := by
  rcases List.mem_append.mp h with h | h
  · exact .inl (List.eq_of_mem_replicate h)
  · simp only [List.mem_cons, List.not_mem_nil, or_false] at h
    exact .inr h
theorem short_str (s : Str) (h : s.length ≤ 100000) : shortS (.str s) := h
theorem good_drawn {n : Nat} {d D : PyData} (hn : n ≤ 2) (hm : wordD d ≠ "mark") (hD : (isL D || isT D) = true) (hi : itemsD D = drawn n d) (h1 : isLineD d = true) (h2 : hereD d = true) : Good D where
  isl := hD
  pos := by rw [hi, drawn_len]; omega
  len := by rw [hi, drawn_len]; omega
  ok x hx := by
    rw [hi] at hx
    rcases mem_drawn hx with rfl | rfl | rfl | rfl | rfl | rfl
    · exact il_out
    · exact il_jump
    · exact h1
    · exact il_markA
    · exact il_markB
    · exact il_stop
  lab x hx := by
    rw [hi] at hx ⊢
    have hno : ∀ y ∈ List.replicate n lineOut ++ [jumpB, d], wordD y ≠ "mark" := fun y hy => by
      rcases List.mem_append.mp hy with h | h
      · rw [List.eq_of_mem_replicate h]; decide +kernel
      · rcases List.mem_cons.mp h with rfl | h
        · decide +kernel
        · rw [List.mem_singleton.mp h]; exact hm
    have hh : ∀ y, hereD y = true → hasK (marksV (drawn n d)) (nlD y) = true := fun y hy => by
      have := there_tail hno (v := .non) y
      rw [hy] at this
      unfold thereD at this
      rw [Bool.and_eq_true] at this
      rw [drawn_split2]
      exact this.1
    rcases mem_drawn hx with rfl | rfl | rfl | rfl | rfl | rfl
    · exact hh _ (by decide +kernel)
    · exact hh _ (by decide +kernel)
    · exact hh _ h2
    · exact hh _ (by decide +kernel)
    · exact hh _ (by decide +kernel)
    · exact hh _ (by decide +kernel)
theorem short_tup1 {w : Str} (h : w.length ≤ 100000) : shortL (.tuple [.str w]) := ⟨by show 1 ≤ 1000; decide, fun x hx => by
  rw [List.mem_singleton.mp hx]; exact h⟩
theorem short_tup2 {w : Str} {y : PyData} (h : w.length ≤ 100000) (hy : shortS y) : shortL (.tuple [.str w, y]) := ⟨by show 2 ≤ 1000; decide, fun x hx => by
  rcases List.mem_cons.mp hx with rfl | hx
  · exact h
  · rw [List.mem_singleton.mp hx]; exact hy⟩
theorem one_drawn {n : Nat} {d D : PyData} {v : V} (hn : n ≤ 2) (hm : wordD d ≠ "mark") (hs : shortL d) (hD : (isL D || isT D) = true) (hi : itemsD D = drawn n d) : OneFn false v D where
  any := ⟨hD, by rw [hi, drawn_len]; omega, fun x hx => by
    rw [hi] at hx
    rcases mem_drawn hx with rfl | rfl | rfl | rfl | rfl | rfl
    · exact short_tup2 (by decide +kernel) trivial
    · exact short_tup2 (by decide +kernel) (short_str _ (by decide +kernel))
    · exact hs
    · exact short_tup2 (by decide +kernel) (short_str _ (by decide +kernel))
    · exact short_tup2 (by decide +kernel) (short_str _ (by decide +kernel))
    · exact short_tup1 (by decide +kernel)⟩
  pos := by rw [hi, drawn_len]; omega
  len := by rw [hi, drawn_len]; omega
  good h := by
    rw [hi] at h ⊢
    rw [first_drawn hm] at h
    by_cases hh : isLineD d = true ∧ hereD d = true
    · exact ⟨good_drawn hn hm hD hi hh.1 hh.2, tidy_drawn n d⟩
    · rw [if_neg hh] at h
      exact nomatch h
/-! ### the other main -/
abbrev againL : List PyData := [markA, lineOut, markA, stopL]
theorem first_again {v : V} : firstWrong [(.inr "main", v)] false againL = some 2 := by
  have hf : againL.filter isLineD = againL := by
    refine List.filter_eq_self.mpr fun x hx => ?_
    simp only [List.mem_cons, List.not_mem_nil, or_false] at hx
    rcases hx with rfl | rfl | rfl | rfl
    · exact il_markA
    · exact il_out
    · exact il_markA
    · exact il_stop
  unfold firstWrong
  rw [hf]
  generalize marksV againL = ls
  have step : ∀ {d : PyData} {r : List PyData} {i : Nat} {m : List Str}, isLineD d = true → thereD ls [((Sum.inr "main" : Key), v)] d = true → ¬ (wordD d = "mark" ∧ labD d ∈ m) → wrongFrom ls [(.inr "main", v)] false (d :: r) i m = wrongFrom ls [(.inr "main", v)] false r (i + 1) (if wordD d = "mark" then m ++ [labD d] else m) := fun {d r i m} h1 h3 h2 => by
    show (if isLineD d = false ∨ (false = true ∧ wordD d ∈ stackL) then some i
      else if wordD d = "mark" ∧ labD d ∈ m then some i
      else if thereD ls _ d = false then some i
      else wrongFrom ls _ false r (i + 1) (if wordD d = "mark" then m ++ [labD d] else m)) = _
    rw [if_neg (by rw [h1]; rintro (z | ⟨z, _⟩) <;> exact nomatch z), if_neg h2, if_neg (by rw [h3]; exact fun z => nomatch z)]
  rw [step il_markA rfl (by rintro ⟨_, z⟩; exact nomatch z), if_pos (show wordD markA = "mark" from rfl)]
  rw [step il_out rfl (by rintro ⟨z, _⟩; exact absurd z (by decide +kernel)), if_neg (by decide +kernel)]
  show (if isLineD markA = false ∨ _ then some 2 else if wordD markA = "mark" ∧ labD markA ∈ [labD markA] then some 2 else _) = some 2
  rw [if_neg (by rw [il_markA]; rintro (z | ⟨z, _⟩) <;> exact nomatch z), if_pos ⟨rfl, List.mem_cons_self⟩]
theorem one_again {v : V} {D : PyData} (hD : (isL D || isT D) = true) (hi : itemsD D = againL) : OneFn false v D where
  any := ⟨hD, by rw [hi]; decide, fun x hx => by
    rw [hi] at hx
    simp only [List.mem_cons, List.not_mem_nil, or_false] at hx
    rcases hx with rfl | rfl | rfl | rfl
    · exact short_tup2 (by decide +kernel) (short_str _ (by decide +kernel))
    · exact short_tup2 (by decide +kernel) trivial
    · exact short_tup2 (by decide +kernel) (short_str _ (by decide +kernel))
    · exact short_tup1 (by decide +kernel)⟩
  pos := by rw [hi]; decide
  len := by rw [hi]; decide
  good h := by
    rw [hi, first_again] at h
    exact nomatch h
end Fl
end
section
set_option Elab.async false
set_option linter.all false
set_option maxRecDepth 100000
set_option maxHeartbeats 4000000
namespace Fx
open PySem PySem.Spec PyProof.Rows L2
open Evl (Ex fresh_back)
end Fx
namespace Fl
open PySem PySem.Spec PyProof.Rows L2 Fx
open Evl (Ex fresh_back)
/-! ### the law's choices -/
/-- all but what stands at pa -/
def hide (pa : Addr) (H : Hp) : Hp := fun b => if b = pa then none else H b
section
variable {pa b : Addr} {H H' : Hp} {K : PySem.W.Frag}
theorem hide_ne (h : b ≠ pa) : hide pa H b = H b := if_neg h
theorem hide_ex (e : exP pa H H') : Ex (hide pa H) (hide pa H') := fun b o h => by
  by_cases hb : b = pa
  · unfold hide at h
    rw [if_pos hb] at h
    cases h
  · rw [hide_ne hb] at h ⊢
    exact e.but b o h hb
theorem hide_sub : Ex (hide pa H) H := fun b o h => by
  by_cases hb : b = pa
  · unfold hide at h
    rw [if_pos hb] at h
    cases h
  · rwa [hide_ne hb] at h
abbrev Dh (K : PySem.W.Frag) (pa : Addr) (H : Hp) (v : V) (d : PyData) : Prop := D K (hide pa H) v d
theorem Dh.mono {v : V} {d : PyData} (h : Dh K pa H v d) (e : exP pa H H') : Dh K pa H' v d := D.mono (hide_ex e) h
theorem Dh.d {v : V} {d : PyData} (h : Dh K pa H v d) : D K H v d := D.mono hide_sub h
theorem sql_but {a : Addr} {xs : List V} {kvs : List (Key × V)} (hp : H pa = some (.dK kvs)) (e : exP pa H H') (h : SqL K H a xs) : SqL K H' a xs := by
  rcases h with (h | ⟨o', h⟩) | h
  · exact .inl (.inl (e.but _ _ h (ne_of h hp (fun z => nomatch z))))
  · exact .inl (.inr ⟨o', e.but _ _ h (ne_of h hp (fun z => nomatch z))⟩)
  · exact .inr h
end
section
variable {P : Program} {w : World} {K : PySem.W.Frag} {mg : Str → Option Value} {base : Heap} {f : Addr} {fd : FuncData}
abbrev nm_pick : List Str := ["_law_pen_here", "_law_options"]
theorem sc_pick : FnScope nm_pick nm_pick (defScope s_pick) := ⟨rfl, rfl, rfl, by decide +kernel, rfl, by decide +kernel, by decide +kernel⟩
def sp_pick (K : PySem.W.Frag) : Sp := fun vs H Q _ => ∃ pa o xs n, vs = [.ref pa, .ref o] ∧ SqL K H o xs ∧ 0 < xs.length ∧ xs.length ≤ 1000 ∧ n ≤ 1000000 ∧ Pen K H pa n ∧ ∀ v H', v ∈ xs → exP pa H H' → Pen K H' pa (n + 1) → Q v H'
theorem ok_pick (F : Fun K "_law_pick" "_law_pick" s_pick f fd) (G : Gb mg) (c1 : Cl P w K mg base CX0 1 "_law_draw" (sp_draw K)) : FnOk P w K mg base CX0 2 f fd nm_pick (sp_pick K) := by
  refine F.ok sc_pick (fun vs H Q E h => ?_) (fun cdv A outer s H vs Q E hr h => ⟨RB _ _, pss_RB, ?_⟩)
  · obtain ⟨_, _, _, _, rfl, _⟩ := h; rfl
  obtain ⟨pa, o, xs, n, rfl, ho, h0, h1, hn, pen, q⟩ := h
  obtain ⟨kvs, hpa⟩ := pen.dict
  refine rb_one <| rs_ret <| re_ixL <| re_var 1 rfl <| re_call c1 hr <| ra_cons <| re_var 0 rfl <| ra_cons <| re_cb call_len G.len <| ra_cons <| re_var 1 rfl <| ra_nil ⟨_, xs.length, rfl, .inl ⟨_, ho, rfl⟩, ra_nil ⟨pa, (xs.length : Nat), n, rfl, by omega, by omega, hn, pen, fun r H' r0 r1 e pen' => ?_⟩⟩
  obtain ⟨v, hv, hm⟩ := atI_in r0 r1
  exact ⟨o, xs, r, v, rfl, rfl, sql_but hpa e ho, hv, q v H' hm e pen'⟩
abbrev nm_number : List Str := ["_law_pen_here", "_law_small"]
theorem sc_number : FnScope nm_number ["_law_pen_here"] (defScope s_number) := ⟨rfl, rfl, rfl, by decide +kernel, rfl, by decide +kernel, by decide +kernel⟩
def sp_number (K : PySem.W.Frag) : Sp := fun vs H Q _ => ∃ pa n, vs = [.ref pa] ∧ n ≤ 900000 ∧ Pen K H pa n ∧ ∀ z H', -2147483648 ≤ z → z ≤ 2147483647 → exP pa H H' → Pen K H' pa (n + 2) → Q (.int z) H'
theorem ok_number (F : Fun K "_law_number" "_law_number" s_number f fd) (G : Gb mg) (c1 : Cl P w K mg base CX0 1 "_law_draw" (sp_draw K)) (c2 : Cl P w K mg base CX0 2 "_law_pick" (sp_pick K)) : FnOk P w K mg base CX0 3 f fd ["_law_pen_here"] (sp_number K) := by
  refine F.ok sc_number (fun vs H Q E h => ?_) (fun cdv A outer s H vs Q E hr h => ⟨RB _ _, pss_RB, ?_⟩)
  · obtain ⟨_, _, rfl, _⟩ := h; rfl
  obtain ⟨pa, n, rfl, hn, pen, q⟩ := h
  obtain ⟨kvs, hpa⟩ := pen.dict
  refine rb_cons <| rs_set 1 (by exact sc_number.nd) <| re_sub <| re_call c1 hr <| ra_cons <| re_var 0 rfl <| ra_cons <| re_int <| ra_nil ⟨pa, 16, n, rfl, by decide, by decide, by omega, pen, fun r H1 r0 r1 e1 pen1 => ?_⟩
  refine re_int ⟨r, 8, rfl, rfl, ?_⟩
  have p31 : (2 : Int) ^ (31 : Int).toNat = 2147483648 := by decide
  refine rb_one <| rs_ret <| re_call c2 hr <| ra_cons <| re_var 0 rfl <| ra_cons <| re_lst <| ra_cons <| re_var 1 rfl <| ra_cons <| re_var 1 rfl <| ra_cons <| re_var 1 rfl <| ra_cons <| re_var 1 rfl <| ra_cons <| re_int <| ra_cons <| re_un un_neg <| re_int ⟨9, rfl, ?_⟩
  refine ra_cons <| re_add <| re_int <| re_var 1 rfl ⟨1000, _, rfl, rfl, ?_⟩
  refine ra_cons <| re_sub <| re_op op_pow <| re_int <| re_int ⟨2, 31, rfl, rfl, ⟨by decide, by decide, by decide⟩, re_int ⟨_, 1, rfl, rfl, ?_⟩⟩
  refine ra_cons <| re_sub <| re_int <| re_op op_pow <| re_int <| re_int ⟨2, 31, rfl, rfl, ⟨by decide, by decide, by decide⟩, 0, _, rfl, rfl, ra_nil ⟨Nat.le_of_ble_eq_true rfl, fun p H2 hp e2 h2 => ra_nil ⟨pa, p, _, n + 1, rfl, .inl (.inl h2), Nat.le_of_ble_eq_true rfl, Nat.le_of_ble_eq_true rfl, by omega, pen1.mono e2, fun v H3 hv e3 pen3 => ?_⟩⟩⟩
  have e13 := e1.trans ((exP.of e2).trans e3)
  simp only [List.mem_cons, List.not_mem_nil, or_false, p31] at hv
  have go : ∀ z : Int, v = .int z → -2147483648 ≤ z → z ≤ 2147483647 → Q v H3 := fun z ez z0 z1 => by
    rw [ez]; exact q z H3 z0 z1 e13 pen3
  rcases hv with h | h | h | h | h | h | h | h | h
  · exact go _ h (by omega) (by omega)
  · exact go _ h (by omega) (by omega)
  · exact go _ h (by omega) (by omega)
  · exact go _ h (by omega) (by omega)
  · exact go _ h (by omega) (by omega)
  · exact go _ h (by omega) (by omega)
  · exact go _ h (by omega) (by omega)
  · exact go _ h (by omega) (by omega)
  · exact go _ h (by omega) (by omega)
end
end Fl
end
section
set_option Elab.async false
set_option linter.all false
set_option maxRecDepth 100000
set_option maxHeartbeats 4000000
namespace Fl
open PySem PySem.Spec PyProof.Rows L2 Fx
open Evl (Ex fresh_back)
/-! ### check_functions: many functions, all of them right -/
/-- a function: its name, the lines' value and data -/
abbrev Fn3 := Str × V × PyData
def bkV (fs : List Fn3) : List (Key × V) := fs.map fun e => (.inr e.1, e.2.1)
def bkD (fs : List Fn3) : List (PyData × PyData) := fs.map fun e => (.str e.1, e.2.2)
def bkN (fs : List Fn3) : List Str := fs.map (·.1)
structure Book (b : Bool) (fs : List Fn3) : Prop where
  word : ∀ e ∈ fs, isWordS e.1 = true
  nodup : (bkN fs).Nodup
  main : ("main" : Str) ∈ bkN fs
  len : fs.length ≤ 24
  any : ∀ e ∈ fs, AnyLines e.2.2
  all : (fs.map fun e => dlen e.2.2).sum ≤ 240
  wrong : ∀ e ∈ fs, firstWrong (bkV fs) b (itemsD e.2.2) = none
  good : ∀ e ∈ fs, Good e.2.2
  tidy : ∀ e ∈ fs, Tidy (itemsD e.2.2) b
theorem dlen_items {d : PyData} (hl : (isL d || isT d) = true) : dlen d = (itemsD d).length := by
  cases d with
  | list _ => rfl
  | tuple _ => rfl
  | _ => exact absurd (show false = true from hl) Bool.false_ne_true
theorem dk_book {K : PySem.W.Frag} {H : Hp} : ∀ {fs : List Fn3}, (∀ e ∈ fs, D K H e.2.1 e.2.2) → DK K H (bkV fs) (bkD fs)
  | [], _ => .nil
  | e :: r, h => .cons (k := .inr e.1) (h e List.mem_cons_self) (dk_book fun x hx => h x (List.mem_cons_of_mem _ hx))
theorem bk_val : ∀ {fs : List Fn3} {e : Fn3}, (bkN fs).Nodup → e ∈ fs → valV (bkV fs) (.inr e.1) = some e.2.1
  | [], _, _, h => nomatch h
  | x :: r, e, hn, h => by
    have hn : (x.1 :: bkN r).Nodup := hn
    rw [List.nodup_cons] at hn
    rcases List.mem_cons.mp h with rfl | h
    · exact valV_pos (p := ((Sum.inr e.1 : Key), e.2.1)) rfl
    · have : ¬ (Sum.inr x.1 : Key) = .inr e.1 := fun z => hn.1 (by rw [Sum.inr.inj z]; exact List.mem_map_of_mem h)
      exact (valV_neg (p := ((Sum.inr x.1 : Key), x.2.1)) this).trans (bk_val hn.2 h)
theorem bk_at {fs : List Fn3} {ys : List Str} {i : Nat} {x : V} (hp : ys.Perm (bkN fs)) (hx : (ys.map V.str)[i]? = some x) : ∃ e ∈ fs, x = .str e.1 := by
  rw [List.getElem?_map] at hx
  cases hy : ys[i]? with
  | none => rw [hy] at hx; cases hx
  | some y =>
    rw [hy] at hx
    obtain rfl : V.str y = x := Option.some.inj hx
    have hm : y ∈ bkN fs := hp.mem_iff.mp (List.mem_of_getElem? hy)
    obtain ⟨e, he, rfl⟩ := List.mem_map.mp hm
    exact ⟨e, he, rfl⟩
theorem bk_keys (fs : List Fn3) : (bkV fs).map (·.1) = (bkN fs).map Sum.inr := by
  unfold bkV bkN
  rw [List.map_map, List.map_map]
  rfl
theorem word_short {w : Str} (h : isWordS w = true) : w.length ≤ 100000 := by
  unfold isWordS at h
  rw [Bool.and_eq_true, Bool.and_eq_true, decide_eq_true_eq, decide_eq_true_eq] at h
  omega
def sp_checkB (K : PySem.W.Frag) : Sp := fun vs H Q _ => ∃ fa fs b, vs = [.ref fa, .bl b] ∧ H fa = some (.dK (bkV fs)) ∧ (∀ e ∈ fs, D K H e.2.1 e.2.2) ∧ Book b fs ∧ ∀ H', Ex H H' → Q .non H'
section
variable {P : Program} {w : World} {K : PySem.W.Frag} {mg : Str → Option Value} {base : Heap} {f : Addr} {fd : FuncData}
abbrev nm_check2 : List Str := ["functions", "bare", "name", "wrong"]
theorem ok_checkB (F : Fun K "check_functions" "check_functions" s_check_functions f fd) (G : Gb mg) (c1 : Cl P w K mg base CX0 3 "_are_functions" (sp_are_functions K)) (c2 : Cl P w K mg base CX0 5 "_first_wrong" (sp_first_wrong K))
    (c3 : Cl P w K mg base CX0 1 "_check_lengths" (sp_check_lengths K)) (c4 : Cl P w K mg base CX0 4 "is_tidy" (sp_is_tidy K)) : FnOk P w K mg base CX0 6 f fd ["functions", "bare"] (sp_checkB K) := by
  refine F.ok sc_check (fun vs H Q E h => ?_) (fun cdv A outer s H vs Q E hr h => ⟨RB _ _, pss_RB, ?_⟩)
  · obtain ⟨_, _, _, rfl, _⟩ := h; rfl
  obtain ⟨fa, fs, b, rfl, hfa, hd, bk, q⟩ := h
  have hDK := dk_book hd
  have hpos : 1 ≤ fs.length := by
    cases fs with
    | nil => exact absurd bk.main List.not_mem_nil
    | cons a r => exact Nat.succ_le_succ (Nat.zero_le _)
  have hare : areF (.dict (bkD fs)) = true := by
    have h1 : (bkD fs).length = fs.length := List.length_map ..
    have h2 : (bkD fs).any (fun e => strIs "main" e.1) = true := by
      obtain ⟨e, he, h⟩ := List.mem_map.mp bk.main
      refine List.any_eq_true.mpr ⟨(.str e.1, e.2.2), List.mem_map_of_mem he, ?_⟩
      show decide (e.1 = "main") = true
      rw [h]; exact decide_eq_true rfl
    have h3 : (bkD fs).all entOk = true := by
      rw [List.all_eq_true]
      intro x hx
      obtain ⟨e, he, rfl⟩ := List.mem_map.mp hx
      show (isWordS e.1 && isFilledD e.2.2) = true
      rw [bk.word e he, Bool.true_and]
      show (isListD e.2.2 && decide (0 < dlen e.2.2)) = true
      have hg := bk.good e he
      rw [dlen_items hg.isl, decide_eq_true hg.pos, Bool.and_true]
      exact hg.isl
    show (decide (1 ≤ (bkD fs).length) && decide ((bkD fs).length ≤ 24) && ((bkD fs).any fun e => strIs "main" e.1) && (bkD fs).all entOk) = true
    rw [h1, h2, h3, decide_eq_true hpos, decide_eq_true bk.len]; rfl
  have hDD : D K H (.ref fa) (.dict (bkD fs)) := .dic (.inl hfa) hDK
  refine rb_cons (rs_if (rt_not (rt_val (re_call c1 hr (ra_cons (re_var 0 rfl (ra_nil ⟨.ref fa, _, rfl, hDD, ?_, fun a o kvs z => ?_, fun r H1 e1 h1 => ⟨_, h1, ?_⟩⟩)))))))
  · intro x hx
    obtain ⟨e, he, rfl⟩ := List.mem_map.mp hx
    exact word_short (bk.word e he)
  · cases z
    rw [hfa]
    intro z
    cases z
  rw [hare]
  refine ifF (rb_nil ?_)
  -- the lines
  have hn64 : (bkN fs).length < 64 := by
    have := bk.len
    show (fs.map _).length < 64
    rw [List.length_map]; omega
  refine rb_cons (rs_for (g := gName 2) PassesOwn.never rfl (pg_name (i := 2) (by exact sc_check.nd) rfl (Or.inl rfl)) good_name ?_)
  refine ri_list (re_cb (call_sortedD rfl) G.sorted (ra_cons (re_var 0 rfl (ra_nil ⟨fa, _, bkN fs, rfl, .inl (e1 _ _ hfa), bk_keys fs, hn64, fun ys p hperm _ hp => ?_⟩))))
  have e2 : Ex H1 (upd H1 p (.lst (ys.map V.str))) := Ex.new hp
  have e12 := e1.trans e2
  refine ⟨p, ys.map V.str, rfl, .inl (.inl upd_same), _, _, _, fun i σ' H' => ∃ x y, σ' = [some (.ref fa), some (.bl b), x, y] ∧ Ex (upd H1 p (.lst (ys.map V.str))) H', walk_list (xs := ys.map V.str), ⟨_, _, rfl, Ex.refl _⟩, ?_, ?_, ?_⟩
  · rintro i σ' H' hi ⟨_, _, _, e'⟩
    exact Evl.ex_l e' (.inl (.inl upd_same))
  · rintro i x σ' Ha Hb hi ⟨x1, y1, rfl, e3⟩ ⟨rfl, hx⟩
    obtain ⟨e, he, rfl⟩ := bk_at hperm hx
    have e13 := e12.trans e3
    refine rb_cons (rs_set 3 (by exact sc_check.nd) (re_call c2 hr (ra_cons (re_dget (hu_of hr) (re_var 0 rfl (re_var 2 rfl ⟨fa, _, .inr e.1, e.2.1, rfl, e13 _ _ hfa, rfl, bk_val bk.nodup he, ra_cons (re_var 0 rfl (ra_cons (re_var 1 rfl (ra_nil ⟨e.2.1, e.2.2, fa, _, b, rfl, (hd e he).mono e13, bk.any e he, e13 _ _ hfa, fun r H4 e4 h4 => ?_⟩))))⟩))))))
    subst h4
    refine rb_one (rs_if (rt_cmp op_notN (re_var 3 rfl (re_non ⟨rfl, _, rfl, ?_⟩))))
    rw [bk.wrong e he]
    exact ifF (rb_nil ⟨_, _, rfl, e3.trans e4⟩)
  rintro σ' H3 ⟨x1, y1, rfl, e3⟩
  have e13 := e12.trans e3
  refine rb_cons (rs_expr (re_call c3 hr (ra_cons (re_var 0 rfl (ra_nil ⟨fa, _, bkD fs, rfl, e13 _ _ hfa, dk_book fun e he => (hd e he).mono e13, ⟨?_, ?_, ?_, ?_, ?_⟩, fun H4 e4 => ?_⟩)))))
  · show 0 < (fs.map _).length
    rw [List.length_map]; exact hpos
  · show (fs.map _).length ≤ 24
    rw [List.length_map]; exact bk.len
  · intro x hx
    obtain ⟨e, he, rfl⟩ := List.mem_map.mp hx
    exact (bk.good e he).isl
  · intro x hx
    obtain ⟨e, he, rfl⟩ := List.mem_map.mp hx
    show dlen e.2.2 ≤ 60
    rw [dlen_items (bk.good e he).isl]
    exact (bk.good e he).len
  · show ((fs.map fun e : Fn3 => ((PyData.str e.1, e.2.2) : PyData × PyData)).map fun e => dlen e.2).sum ≤ 240
    rw [List.map_map]
    exact bk.all
  have e14 := e13.trans e4
  refine rb_one (rs_for (g := gName 2) PassesOwn.never rfl (pg_name (i := 2) (by exact sc_check.nd) rfl (Or.inl rfl)) good_name ?_)
  refine ri_list (re_cb (call_sortedD rfl) G.sorted (ra_cons (re_var 0 rfl (ra_nil ⟨fa, _, bkN fs, rfl, .inl (e14 _ _ hfa), bk_keys fs, hn64, fun zs p2 hperm2 _ hp2 => ?_⟩))))
  have e5 : Ex H4 (upd H4 p2 (.lst (zs.map V.str))) := Ex.new hp2
  have e15 := e14.trans e5
  refine ⟨p2, zs.map V.str, rfl, .inl (.inl upd_same), _, _, _, fun i σ' H' => ∃ x y, σ' = [some (.ref fa), some (.bl b), x, y] ∧ Ex (upd H4 p2 (.lst (zs.map V.str))) H', walk_list (xs := zs.map V.str), ⟨_, _, rfl, Ex.refl _⟩, ?_, ?_, ?_⟩
  · rintro i σ' H' hi ⟨_, _, _, e'⟩
    exact Evl.ex_l e' (.inl (.inl upd_same))
  · rintro i x σ' Ha Hb hi ⟨x1, y1, rfl, e6⟩ ⟨rfl, hx⟩
    obtain ⟨e, he, rfl⟩ := bk_at hperm2 hx
    have e16 := e15.trans e6
    refine rb_one (rs_if (rt_not (rt_val (re_call c4 hr (ra_cons (re_dget (hu_of hr) (re_var 0 rfl (re_var 2 rfl ⟨fa, _, .inr e.1, e.2.1, rfl, e16 _ _ hfa, rfl, bk_val bk.nodup he, ra_cons (re_var 1 rfl (ra_nil ⟨e.2.1, e.2.2, b, rfl, (hd e he).mono e16, bk.good e he, fun k H7 e7 hk => ⟨_, rfl, ?_⟩⟩))⟩))))))))
    rw [hk.mpr (bk.tidy e he)]
    exact ifF (rb_nil ⟨_, _, rfl, e6.trans e7⟩)
  · rintro σ' H' ⟨_, _, _, e'⟩
    exact q _ (e15.trans e')
end
end Fl
end
section
set_option Elab.async false
set_option linter.all false
set_option maxRecDepth 100000
set_option maxHeartbeats 4000000
namespace Fl
open PySem PySem.Spec PyProof.Rows L2 Fx
open Evl (Ex fresh_back)
/-! ### a program of many functions -/
def dN (ys : List Str) (t : Str → Addr) : List (Key × V) := ys.map fun n => (.inr n, .ref (t n))
structure ProgN (K : PySem.W.Frag) (C : Addr) (H : Hp) (a dx g : Addr) (ys : List Str) (t : Str → Addr) (xs : Str → List V) (ls : Str → List PyData) : Prop where
  ins : H a = some (.ins C dx [("_functions", .ref g)])
  dict : H g = some (.dK (dN ys t))
  seq : ∀ n ∈ ys, SqT K H (t n) (xs n)
  dat : ∀ n ∈ ys, DA K H (xs n) (ls n)
structure FitsB (fs : List Fn3) (ys : List Str) (ls : Str → List PyData) : Prop where
  perm : ys.Perm (bkN fs)
  srt : sortedS ys = true
  ls : ∀ e ∈ fs, ls e.1 = itemsD e.2.2
theorem pick_xs {K : PySem.W.Frag} {H : Hp} : ∀ {fs : List Fn3}, (bkN fs).Nodup → (∀ e ∈ fs, D K H e.2.1 e.2.2 ∧ (isL e.2.2 || isT e.2.2) = true) →
    ∃ (xs : Str → List V) (ls : Str → List PyData), ∀ e ∈ fs, ls e.1 = itemsD e.2.2 ∧ ∃ va, e.2.1 = .ref va ∧ (SqL K H va (xs e.1) ∨ SqT K H va (xs e.1)) ∧ DA K H (xs e.1) (ls e.1)
  | [], _, _ => ⟨fun _ => [], fun _ => [], fun _ h => nomatch h⟩
  | e :: r, hn, h => by
    have hn : (e.1 :: bkN r).Nodup := hn
    rw [List.nodup_cons] at hn
    obtain ⟨xs, ls, ih⟩ := pick_xs hn.2 fun x hx => h x (List.mem_cons_of_mem _ hx)
    obtain ⟨hd, hl⟩ := h e List.mem_cons_self
    obtain ⟨va, zs, hv, hs, ha⟩ := D.seqL hd hl
    refine ⟨fun n => if n = e.1 then zs else xs n, fun n => if n = e.1 then itemsD e.2.2 else ls n, fun x hx => ?_⟩
    rcases List.mem_cons.mp hx with rfl | hx
    · simp only [if_pos]
      exact ⟨trivial, va, hv, hs, ha⟩
    · have ne : x.1 ≠ e.1 := fun z => hn.1 (by rw [← z]; exact List.mem_map_of_mem hx)
      simp only [if_neg ne]
      exact ih x hx
theorem dN_val {ys : List Str} {t : Str → Addr} {n : Str} (h : n ∉ ys) : valV (dN ys t) (.inr n) = none := by
  cases hv : valV (dN ys t) (.inr n) with
  | none => rfl
  | some v =>
    obtain ⟨m, hm, z⟩ := List.mem_map.mp (valV_in hv)
    obtain ⟨m', hm', rfl⟩ := List.mem_map.mp hm
    cases z
    exact absurd hm' h
theorem dN_get : ∀ {ys : List Str} {t : Str → Addr} {n : Str}, n ∈ ys → valV (dN ys t) (.inr n) = some (.ref (t n))
  | [], _, _, h => nomatch h
  | y :: r, t, n, h => by
    by_cases e : y = n
    · subst e; exact valV_pos (p := ((Sum.inr y : Key), V.ref (t y))) rfl
    · have : ¬ (Sum.inr y : Key) = .inr n := fun z => e (Sum.inr.inj z)
      rcases List.mem_cons.mp h with z | h
      · exact absurd z.symm e
      · exact (valV_neg (p := ((Sum.inr y : Key), V.ref (t y))) this).trans (dN_get h)
theorem take_mem {α : Type} {ys : List α} {i : Nat} {x : α} (h : x ∈ ys.take i) : x ∈ ys := List.mem_of_mem_take h
section
variable {P : Program} {w : World} {K : PySem.W.Frag} {mg : Str → Option Value} {base : Heap} {f : Addr} {fd : FuncData}
def sp_keepB (K : PySem.W.Frag) (C : Addr) : Sp := fun vs H Q _ => ∃ a dx fa fs, vs = [.ref a, .ref fa] ∧ H a = some (.ins C dx []) ∧ H fa = some (.dK (bkV fs)) ∧ (∀ e ∈ fs, D K H e.2.1 e.2.2) ∧ (bkN fs).Nodup ∧ fs.length ≤ 24 ∧ (∀ e ∈ fs, (isL e.2.2 || isT e.2.2) = true ∧ (itemsD e.2.2).length ≤ 1000) ∧
  ∀ H' g ys t xs ls, exBut a H H' → FitsB fs ys ls → ProgN K C H' a dx g ys t xs ls → Q .non H'
theorem ok_keepB {C : Addr} (F : Fun K "_keep" "Program._keep" s_keep f fd) (G : Gb mg) (T : PC K C) : FnOk P w K mg base CX0 1 f fd ["self", "functions"] (sp_keepB K C) := by
  refine F.ok sc_keep (fun vs H Q E h => ?_) (fun cdv A outer s H vs Q E hr h => ⟨RB _ _, pss_RB, ?_⟩)
  · obtain ⟨_, _, _, _, rfl, _⟩ := h; rfl
  obtain ⟨a, dx, fa, fs, rfl, ha, hfa, hd, hnd, h24, hl, q⟩ := h
  obtain ⟨xs, ls, hx⟩ := pick_xs hnd fun e he => ⟨hd e he, (hl e he).1⟩
  have hn64 : (bkN fs).length < 64 := by
    show (fs.map _).length < 64
    rw [List.length_map]; omega
  refine rb_one (rs_fld ?_)
  refine re_dcH (own := [("name", 2)]) (g := gName 2) rfl (by exact sc_keep.nd) (blkOk_by (N := nm_keep) (sc := defScope s_keep) (by decide +kernel)) (fun _ _ _ _ _ => pg_name (i := 2) (by exact sc_keep.nd) rfl (Or.inl rfl)) good_name ?_
  refine ri_list (re_cb (call_sortedD rfl) G.sorted (ra_cons (re_var 1 rfl (ra_nil ⟨fa, _, bkN fs, rfl, .inl hfa, bk_keys fs, hn64, fun ys p hperm hsrt hp => ?_⟩))))
  have e1 : Ex H (upd H p (.lst (ys.map V.str))) := Ex.new hp
  have ysl : ys.length ≤ 24 := by rw [hperm.length_eq]; show (fs.map _).length ≤ 24; rw [List.length_map]; exact h24
  have ysn : ys.Nodup := hperm.nodup_iff.mpr hnd
  refine ⟨p, ys.map V.str, rfl, .inl (.inl upd_same), _, _, _, fun i H' acc => ∃ t : Str → Addr, acc = dN (ys.take i) t ∧ ∀ n ∈ ys.take i, SqT K H' (t n) (xs n), walk_list (xs := ys.map V.str), ?_, fun H' e' => Evl.ex_l e' (.inl (.inl upd_same)), fun H' => ⟨fun _ => 0, rfl, fun n h => nomatch h⟩, ?_, ?_, ?_⟩
  · rw [List.length_map]; omega
  · rintro i Ha Hb acc e ⟨t, h1, h2⟩
    exact ⟨t, h1, fun n hn => exd_t e (h2 n hn)⟩
  · rintro i x Ha Hb hi e2 ⟨rfl, hx'⟩
    obtain ⟨e, he, rfl⟩ := bk_at hperm hx'
    obtain ⟨hls, va, hva, hsq, hda⟩ := hx e he
    have hyi : ys[i]? = some e.1 := by
      rw [List.getElem?_map] at hx'
      cases hy : ys[i]? with
      | none => rw [hy] at hx'; cases hx'
      | some y => rw [hy] at hx'; cases hx'; rfl
    have e12 := e1.trans e2
    have fresh : e.1 ∉ ys.take i := fun hm => by
      have hn := ysn
      rw [← List.take_append_drop i ys, drop_at hyi] at hn
      exact (List.nodup_append.mp hn).2.2 _ hm _ List.mem_cons_self rfl
    have step : ∀ (l : Addr) (H6 : Hp), SqT K H6 l (xs e.1) → ∀ acc, (∃ t : Str → Addr, acc = dN (ys.take i) t ∧ ∀ n ∈ ys.take i, SqT K H6 (t n) (xs n)) → ∃ t : Str → Addr, putK acc (.inr e.1) (.ref l) = dN (ys.take (i + 1)) t ∧ ∀ n ∈ ys.take (i + 1), SqT K H6 (t n) (xs n) := by
      rintro l H6 hl' acc ⟨t, rfl, h2⟩
      have tk : ys.take (i + 1) = ys.take i ++ [e.1] := take_snoc hyi
      refine ⟨fun n => if n = e.1 then l else t n, ?_, fun n hn => ?_⟩
      · rw [putK_new _ (dN_val fresh), tk]
        unfold dN
        rw [List.map_append]
        congr 1
        · refine List.map_congr_left fun n hn => ?_
          have : n ≠ e.1 := fun z => fresh (z ▸ hn)
          simp only [if_neg this]
        · simp
      · rw [tk] at hn
        rcases List.mem_append.mp hn with hn | hn
        · have : n ≠ e.1 := fun z => fresh (z ▸ hn)
          simp only [if_neg this]
          exact h2 n hn
        · rw [List.mem_singleton.mp hn]
          simp only [if_pos]
          exact hl'
    refine ⟨Ex.refl _, rfl, Ex.refl _, fun s0 H0 C cl fp => re_var 2 rfl ⟨Ex.refl _, .inr e.1, rfl, fun s0 H0 C cl fp => ?_⟩⟩
    refine re_ct call_tuple_of G.tuple (ra_cons (re_dget (hu_of hr) (re_var 1 rfl (re_var 2 rfl ⟨fa, _, .inr e.1, .ref va, rfl, e12 _ _ hfa, rfl, by rw [bk_val hnd he, hva], ra_nil ⟨va, xs e.1, rfl, ?_⟩⟩))))
    rcases hsq with hsq | hsq
    · exact .inl ⟨Evl.ex_l e12 hsq, fun l hl => ⟨Ex.new hl, step l _ (.inl (.inl upd_same))⟩⟩
    · exact .inr ⟨Evl.ex_t e12 hsq, Ex.refl _, step va _ (Evl.ex_t e12 hsq)⟩
  · rintro g acc H2 hg e2 h2 _ ⟨t, rfl, hts⟩
    have e12 := e1.trans e2
    have tkall : ys.take (ys.map V.str).length = ys := by rw [List.length_map, List.take_length]
    rw [tkall] at h2 hts
    refine re_var 0 rfl ⟨a, C, dx, _, rfl, e12 _ _ ha, T.cls, T.nF, by decide, ?_⟩
    have nga : g ≠ a := fun z => by rw [z, e12 _ _ ha] at h2; cases h2
    refine q _ g ys t xs ls (fun b o hb hba => by rw [upd_ne hba]; exact e12 _ _ hb) ⟨hperm, hsrt, fun e he => (hx e he).1⟩ ⟨upd_same, by rw [upd_ne nga]; exact h2, fun n hn => ei_t (Ei.put (e12 _ _ ha)) (hts n hn), fun n hn => ?_⟩
    obtain ⟨e, he, rfl⟩ := List.mem_map.mp (hperm.mem_iff.mp hn)
    obtain ⟨_, va, _, _, hda⟩ := hx e he
    exact (hda.mono e12).monoI (Ei.put (e12 _ _ ha))
def sp_initB (K : PySem.W.Frag) (C : Addr) (b : Bool) : Sp := fun vs H Q _ => ∃ a dx fa fs, vs = [.ref a, .ref fa] ∧ H a = some (.ins C dx []) ∧ H fa = some (.dK (bkV fs)) ∧ (∀ e ∈ fs, D K H e.2.1 e.2.2) ∧ Book b fs ∧
  ∀ H' g ys t xs ls, exBut a H H' → FitsB fs ys ls → ProgN K C H' a dx g ys t xs ls → Q .non H'
/-- a class of programs: bare or not -/
structure PCb (K : PySem.W.Frag) (C : Addr) (b : Bool) : Prop where
  cls : Cls K C
  bare : Con K C "IS_BARE" (.bl b) (.bool b)
  nF : NoAttr K C "_functions"
theorem ok_initB {C : Addr} {b : Bool} (F : Fun K "__init__" "Program.__init__" s_init f fd) (T : PCb K C b) (c1 : Cl P w K mg base CX0 6 "check_functions" (sp_checkB K)) (m1 : Mt P w K mg base CX0 1 C "_keep" ["self", "functions"] (sp_keepB K C)) :
    FnOk P w K mg base CX0 7 f fd ["self", "functions"] (sp_initB K C b) := by
  refine F.ok sc_init (fun vs H Q E h => ?_) (fun cdv A outer s H vs Q E hr h => ⟨RB _ _, pss_RB, ?_⟩)
  · obtain ⟨_, _, _, _, rfl, _⟩ := h; rfl
  obtain ⟨a, dx, fa, fs, rfl, ha, hfa, hd, bk, q⟩ := h
  obtain ⟨g, gd, hM, hb, FM⟩ := m1.ex
  refine rb_cons (rs_expr (re_call c1 hr (re_ra2 (re_var 1 rfl (re_con (re_var 0 rfl ⟨a, C, dx, [], _, _, rfl, ha, T.cls, T.bare, rfl, ⟨fa, fs, b, rfl, hfa, hd, bk, fun H1 e1 => ?_⟩⟩))))))
  refine rb_one (rs_expr (re_meth T.cls hM FM (hr.mono (by decide)) hb pass0 (re_var 0 rfl ⟨a, dx, [], rfl, e1 _ _ ha, rfl, ra_cons (re_var 1 rfl (ra_nil ⟨a, dx, fa, fs, rfl, e1 _ _ ha, e1 _ _ hfa, fun e he => (hd e he).mono e1, bk.nodup, bk.len, fun e he => ⟨(bk.any e he).isl, (bk.any e he).len⟩, fun H' g ys t xs ls ex ft pr => ?_⟩))⟩)))
  exact q H' g ys t xs ls (fun b o hb hba => ex b o (e1 _ _ hb) hba) ft pr
end
end Fl
end
section
set_option Elab.async false
set_option linter.all false
set_option maxRecDepth 100000
set_option maxHeartbeats 1000000
namespace Fl
open PySem PySem.Spec PyProof.Rows L2 Fx
/-! ### the mathematics of tidy lines: rows and the link by going along the text -/
def jumpL : List Str := ["jump", "if", "unless"]
/-- γ: the row at each label; q: whether the link is looked after -/
def Lay (γ : Str → Option (List Str)) (q : Bool) (ns : List Str) : List PyData → List Str → Bool → List Str → Bool → Prop
  | [], r, o, r', o' => r = r' ∧ o = o'
  | d :: ds, r, o, r', o' => isLineD d = true ∧ (∀ s, nfD d = .str s → s ∈ ns) ∧ ((wordD d = "mark" ∨ wordD d ∈ jumpL) → γ (labD d) = some r ∧ (q = true → o = true)) ∧ (needsB d = true → q = true ∧ o = true) ∧
    ∃ r1, rowB d r = some r1 ∧ Lay γ q ns ds r1 (ownB d o) r' o'
theorem Lay.app {γ : Str → Option (List Str)} {q : Bool} {ns : List Str} {r' : List Str} {o' : Bool} {r'' : List Str} {o'' : Bool} {bs : List PyData} (hb : Lay γ q ns bs r' o' r'' o'') : ∀ {as : List PyData} {r : List Str} {o : Bool}, Lay γ q ns as r o r' o' → Lay γ q ns (as ++ bs) r o r'' o''
  | [], r, o, h => by
    obtain ⟨rfl, rfl⟩ := h
    exact hb
  | d :: as, r, o, ⟨h1, h2, h3, h4, r1, h5, h6⟩ => ⟨h1, h2, h3, h4, r1, h5, Lay.app hb h6⟩
theorem Lay.mono {γ γ' : Str → Option (List Str)} {q : Bool} {ns ns' : List Str} (hγ : ∀ s row, γ s = some row → γ' s = some row) (hns : ∀ s ∈ ns, s ∈ ns') : ∀ {as : List PyData} {r r' : List Str} {o o' : Bool}, Lay γ q ns as r o r' o' → Lay γ' q ns' as r o r' o'
  | [], _, _, _, _, h => h
  | d :: as, _, _, _, _, ⟨h1, h2, h3, h4, r1, h5, h6⟩ => ⟨h1, fun s e => hns s (h2 s e), fun z => ⟨hγ _ _ (h3 z).1, (h3 z).2⟩, h4, r1, h5, Lay.mono hγ hns h6⟩
def labelsOf (ds : List PyData) : List Str := (ds.filter fun d => decide (wordD d = "mark")).map labD
theorem labelsOf_app (a b : List PyData) : labelsOf (a ++ b) = labelsOf a ++ labelsOf b := by
  unfold labelsOf
  rw [List.filter_append, List.map_append]
theorem labelsOf_cons (d : PyData) (b : List PyData) : labelsOf (d :: b) = (if wordD d = "mark" then [labD d] else []) ++ labelsOf b := by
  unfold labelsOf
  by_cases h : wordD d = "mark"
  · rw [if_pos h, List.filter_cons_of_pos (by rw [decide_eq_true h])]; rfl
  · rw [if_neg h, List.filter_cons_of_neg (by rw [decide_eq_false h]; exact Bool.false_ne_true)]; rfl
/-- along the text -/
def rowAtN (ds : List PyData) : Nat → List Str
  | 0 => []
  | i + 1 => match ds[i]? with
    | some d => (rowB d (rowAtN ds i)).getD []
    | none => []
def ownAtN (ds : List PyData) : Nat → Bool
  | 0 => true
  | i + 1 => match ds[i]? with
    | some d => ownB d (ownAtN ds i)
    | none => true
/-- a line where it stands -/
structure Here (γ : Str → Option (List Str)) (q : Bool) (ns : List Str) (d : PyData) (r : List Str) (o : Bool) (r1 : List Str) : Prop where
  ok : isLineD d = true
  fn : ∀ s, nfD d = .str s → s ∈ ns
  lab : (wordD d = "mark" ∨ wordD d ∈ jumpL) → γ (labD d) = some r ∧ (q = true → o = true)
  own : needsB d = true → q = true ∧ o = true
  row : rowB d r = some r1
theorem Lay.at {γ : Str → Option (List Str)} {q : Bool} {ns : List Str} {all : List PyData} {r' : List Str} {o' : Bool} : ∀ {ds : List PyData} {k : Nat}, all.drop k = ds → Lay γ q ns ds (rowAtN all k) (ownAtN all k) r' o' → ∀ i d, k ≤ i → all[i]? = some d → Here γ q ns d (rowAtN all i) (ownAtN all i) (rowAtN all (i + 1))
  | [], k, hk, h, i, d, hi, hd => by
    have : all.length ≤ k := List.drop_eq_nil_iff.mp hk
    have := (List.getElem?_eq_some_iff.mp hd).1
    omega
  | x :: ds, k, hk, ⟨h1, h2, h3, h4, r1, h5, h6⟩, i, d, hi, hd => by
    have hx : all[k]? = some x := by
      have : (all.drop k)[0]? = some x := by rw [hk]; rfl
      rwa [List.getElem?_drop, Nat.add_zero] at this
    have hr : rowAtN all (k + 1) = r1 := by
      show (match all[k]? with | some d => (rowB d (rowAtN all k)).getD [] | none => []) = r1
      rw [hx]
      show (rowB x (rowAtN all k)).getD [] = r1
      rw [h5]; rfl
    have ho : ownAtN all (k + 1) = ownB x (ownAtN all k) := by
      show (match all[k]? with | some d => ownB d (ownAtN all k) | none => true) = _
      rw [hx]
    by_cases e : i = k
    · subst e
      rw [hx] at hd
      cases hd
      exact ⟨h1, h2, h3, h4, by rw [hr]; exact h5⟩
    · refine Lay.at (ds := ds) (k := k + 1) (r' := r') (o' := o') ?_ ?_ i d (by omega) hd
      · have := congrArg (List.drop 1) hk
        rw [List.drop_drop] at this
        exact this
      · rw [hr, ho]; exact h6
/-- the whole of a function -/
structure Whole (q : Bool) (ns : List Str) (ds : List PyData) : Prop where
  lay : ∃ γ r' o', Lay γ q ns ds [] true r' o'
  nodup : (labelsOf ds).Nodup
  jumps : ∀ d ∈ ds, wordD d ∈ jumpL → labD d ∈ labelsOf ds
  last : ∃ d, ds[ds.length - 1]? = some d ∧ wordD d ∈ endL
  pos : 0 < ds.length
theorem rowB_flow {d : PyData} {r : List Str} (h : wordD d = "mark" ∨ wordD d ∈ jumpL) : rowB d r = some r := by
  unfold rowB
  have hm : wordD d ∈ (["mark", "jump", "if", "unless"] : List Str) := by
    rcases h with h | h
    · rw [h]; exact List.mem_cons_self
    · exact List.mem_cons_of_mem _ h
  have all : ∀ w ∈ (["push", "pop", "read", "write", "back", "tail"] : List Str), w ∉ (["mark", "jump", "if", "unless"] : List Str) := by decide +kernel
  have ne : ∀ w : Str, w ∈ (["push", "pop", "read", "write", "back", "tail"] : List Str) → wordD d ≠ w := fun w hw e => all w hw (e ▸ hm)
  rw [if_neg (ne _ (by decide +kernel)), if_neg (ne _ (by decide +kernel)), if_neg (ne _ (by decide +kernel)), if_neg (ne _ (by decide +kernel)), if_neg]
  intro hm
  simp only [List.mem_cons, List.not_mem_nil, or_false] at hm
  rcases hm with hm | hm
  · exact ne "back" (by decide +kernel) hm
  · exact ne "tail" (by decide +kernel) hm
theorem markN_some {ds : List PyData} {s : Str} : ∀ {i : Nat}, (∃ j d, j < i ∧ ds[j]? = some d ∧ wordD d = "mark" ∧ labD d = s) → ∃ n d, markN ds i s = some n ∧ ds[n]? = some d ∧ wordD d = "mark" ∧ labD d = s
  | 0, ⟨j, d, h, _⟩ => absurd h (Nat.not_lt_zero _)
  | i + 1, ⟨j, d, hj, hd, hw, hl⟩ => by
    cases hi : ds[i]? with
    | none =>
      have : i ≠ j := fun z => by rw [z, hd] at hi; cases hi
      show ∃ n d, (match ds[i]? with | some d => if wordD d = "mark" ∧ labD d = s then some i else markN ds i s | none => markN ds i s) = some n ∧ _
      rw [hi]
      exact markN_some ⟨j, d, by omega, hd, hw, hl⟩
    | some x =>
      show ∃ n d, (match ds[i]? with | some d => if wordD d = "mark" ∧ labD d = s then some i else markN ds i s | none => markN ds i s) = some n ∧ _
      rw [hi]
      show ∃ n d, (if wordD x = "mark" ∧ labD x = s then some i else markN ds i s) = some n ∧ _
      by_cases c : wordD x = "mark" ∧ labD x = s
      · rw [if_pos c]; exact ⟨i, x, rfl, hi, c⟩
      · rw [if_neg c]
        have : i ≠ j := fun z => by rw [z, hd] at hi; cases hi; exact c ⟨hw, hl⟩
        exact markN_some ⟨j, d, by omega, hd, hw, hl⟩
theorem mem_labels {ds : List PyData} {s : Str} (h : s ∈ labelsOf ds) : ∃ j d, j < ds.length ∧ ds[j]? = some d ∧ wordD d = "mark" ∧ labD d = s := by
  obtain ⟨d, hd, rfl⟩ := List.mem_map.mp h
  rw [List.mem_filter, decide_eq_true_eq] at hd
  obtain ⟨j, hj, rfl⟩ := List.mem_iff_getElem.mp hd.1
  exact ⟨j, _, hj, List.getElem?_eq_getElem hj, hd.2, rfl⟩
namespace Whole
variable {q : Bool} {ns : List Str} {ds : List PyData}
theorem here (W : Whole q ns ds) : ∃ γ, ∀ i d, ds[i]? = some d → Here γ q ns d (rowAtN ds i) (ownAtN ds i) (rowAtN ds (i + 1)) := by
  obtain ⟨γ, r', o', h⟩ := W.lay
  exact ⟨γ, fun i d hd => Lay.at (all := ds) (k := 0) (ds := ds) rfl h i d (Nat.zero_le _) hd⟩
theorem goal (W : Whole q ns ds) {i : Nat} {d : PyData} (hd : ds[i]? = some d) (hw : wordD d ∈ jumpL) : ∃ m, ds[goalN ds d]? = some m ∧ wordD m = "mark" ∧ labD m = labD d := by
  obtain ⟨n, m, h1, h2, h3, h4⟩ := markN_some (mem_labels (W.jumps d (List.mem_of_getElem? hd) hw))
  have : goalN ds d = n := by unfold goalN; rw [h1]; rfl
  exact ⟨m, by rw [this]; exact h2, h3, h4⟩
/-- where a line leads: to the next one, or to its mark -/
theorem leads (W : Whole q ns ds) {i j : Nat} {d : PyData} (hd : ds[i]? = some d) (hj : j ∈ leadsN ds i) : (j = i + 1 ∧ j < ds.length) ∨ (wordD d ∈ jumpL ∧ j = goalN ds d) := by
  have beh : ∀ {j}, j ∈ behN ds i → j = i + 1 ∧ j < ds.length := fun {j} h => by
    unfold behN at h
    by_cases hl : i + 1 < ds.length
    · rw [if_pos hl] at h
      obtain rfl := List.mem_singleton.mp h
      exact ⟨rfl, hl⟩
    · rw [if_neg hl] at h; exact nomatch h
  unfold leadsN at hj
  rw [hd] at hj
  dsimp only at hj
  split at hj
  · exact nomatch hj
  split at hj
  · rename_i _ hw
    exact .inr ⟨by rw [hw]; exact List.mem_cons_self, List.mem_singleton.mp hj⟩
  split at hj
  · rename_i _ _ hw
    have hwj : wordD d ∈ jumpL := List.mem_cons_of_mem _ hw.1
    split at hj
    · rcases List.mem_cons.mp hj with h | h
      · exact .inr ⟨hwj, h⟩
      · exact .inl (beh h)
    · rcases List.mem_append.mp hj with h | h
      · exact .inl (beh h)
      · exact .inr ⟨hwj, List.mem_singleton.mp h⟩
  · exact .inl (beh hj)
theorem rowsOk (W : Whole q ns ds) : RowsOk ds (rowAtN ds) := by
  obtain ⟨γ, H⟩ := W.here
  refine ⟨rfl, fun i hi => ?_⟩
  have hlt : i < ds.length := by
    cases hi with
    | zero => exact W.pos
    | step a b =>
      rename_i i0
      cases hd : ds[i0]? with
      | none =>
        unfold leadsN at b
        rw [hd] at b
        exact nomatch b
      | some d =>
        rcases W.leads hd b with ⟨_, h⟩ | ⟨hw, rfl⟩
        · exact h
        · obtain ⟨m, hm, _⟩ := W.goal hd hw
          exact (List.getElem?_eq_some_iff.mp hm).1
  obtain ⟨d, hd⟩ : ∃ d, ds[i]? = some d := ⟨_, List.getElem?_eq_getElem hlt⟩
  have h := H i d hd
  refine ⟨d, rowAtN ds (i + 1), hd, h.row, fun j hj => ?_⟩
  rcases W.leads hd hj with ⟨rfl, _⟩ | ⟨hw, rfl⟩
  · rfl
  · obtain ⟨m, hm, hmw, hml⟩ := W.goal hd hw
    have g1 := (H _ m hm).lab (.inl hmw)
    have g2 := h.lab (.inr hw)
    rw [hml] at g1
    have e1 := Option.some.inj (g1.1.symm.trans g2.1)
    have e2 := Option.some.inj (h.row.symm.trans (rowB_flow (.inr hw)))
    rw [e1, e2]
theorem notOwn (W : Whole true ns ds) : ∀ {i : Nat}, NotOwn ds i → ownAtN ds i = false := by
  obtain ⟨γ, H⟩ := W.here
  have nxt : ∀ {i : Nat} {d : PyData}, ds[i]? = some d → ownAtN ds (i + 1) = ownB d (ownAtN ds i) := fun {i d} hd => by
    show (match ds[i]? with | some d => ownB d (ownAtN ds i) | none => true) = _
    rw [hd]
  have low : ∀ {d : PyData}, ownB d true = false → ∀ b, ownB d b = false := fun {d} h b => by
    cases b with
    | true => exact h
    | false =>
      unfold ownB at h ⊢
      rw [Bool.or_eq_false_iff] at h
      rw [h.1]; rfl
  intro i h
  induction h with
  | call a hd ho hj =>
    rename_i i j d
    rcases W.leads hd hj with ⟨rfl, _⟩ | ⟨hw, rfl⟩
    · rw [nxt hd]; exact low ho _
    · exfalso
      unfold ownB at ho
      rw [Bool.or_eq_false_iff, Bool.true_and, Bool.not_eq_false', decide_eq_true_eq] at ho
      have := ho.2
      unfold jumpL at hw
      simp only [List.mem_cons, List.not_mem_nil, or_false] at hw this
      rcases hw with e | e | e <;> rw [e] at this <;> revert this <;> decide +kernel
  | step a hd ho hj ih =>
    rename_i i j d
    rcases W.leads hd hj with ⟨rfl, _⟩ | ⟨hw, rfl⟩
    · rw [nxt hd, ih]; exact ho
    · have := ((H _ d hd).lab (.inr hw)).2 rfl
      rw [ih] at this
      cases this
theorem tidy (W : Whole q ns ds) (b : Bool) : Tidy ds b := by
  obtain ⟨γ, H⟩ := W.here
  refine ⟨fun _ => W.last, fun _ => ⟨_, W.rowsOk⟩, fun _ i d hi hd hn hno => ?_⟩
  obtain ⟨rfl, ho⟩ := (H i d hd).own hn
  rw [W.notOwn hno] at ho
  cases ho
theorem ok (W : Whole q ns ds) : ∀ d ∈ ds, isLineD d = true := fun d hd => by
  obtain ⟨γ, H⟩ := W.here
  obtain ⟨j, hj, rfl⟩ := List.mem_iff_getElem.mp hd
  exact (H j _ (List.getElem?_eq_getElem hj)).ok
theorem named (W : Whole q ns ds) : ∀ d ∈ ds, ∀ s, nfD d = .str s → s ∈ ns := fun d hd => by
  obtain ⟨γ, H⟩ := W.here
  obtain ⟨j, hj, rfl⟩ := List.mem_iff_getElem.mp hd
  exact (H j _ (List.getElem?_eq_getElem hj)).fn
theorem labs (W : Whole q ns ds) : ∀ d ∈ ds, hasK (marksV ds) (nlD d) = true := fun d hd => by
  unfold nlD
  by_cases h : wordD d = "jump" ∨ wordD d = "if" ∨ wordD d = "unless"
  · rw [if_pos h]
    have hw : wordD d ∈ jumpL := by
      unfold jumpL
      simpa only [List.mem_cons, List.not_mem_nil, or_false] using h
    have hl := W.jumps d hd hw
    have hp : partD 1 d = .str (labD d) := by
      rcases h with h | h | h
      · exact word_part (W.ok d hd) h (by decide +kernel)
      · exact word_part (W.ok d hd) h (by decide +kernel)
      · exact word_part (W.ok d hd) h (by decide +kernel)
    rw [hp]
    obtain ⟨n, m, h1, _⟩ := markN_some (mem_labels hl)
    show (valV (marksTo ds ds.length) (.inr (labD d))).isSome = true
    rw [val_marks, h1]; rfl
  · rw [if_neg h]; rfl
theorem good {d : PyData} (W : Whole q ns (itemsD d)) (isl : (isL d || isT d) = true) (h60 : (itemsD d).length ≤ 60) : Good d := ⟨isl, W.pos, h60, W.ok, W.labs⟩
theorem wrong (W : Whole q ns ds) {fs : List (Key × V)} {b : Bool} (hns : ∀ s ∈ ns, (valV fs (.inr s)).isSome = true) (hb : b = true → ∀ d ∈ ds, wordD d ∉ stackL) : firstWrong fs b ds = none := by
  have hf : ds.filter isLineD = ds := List.filter_eq_self.mpr W.ok
  have go : ∀ (r : List PyData) (i : Nat) (m : List Str), (∀ d ∈ r, d ∈ ds) → (m ++ labelsOf r).Nodup → wrongFrom (marksV ds) fs b r i m = none := by
    intro r
    induction r with
    | nil => intro i m _ _; rfl
    | cons d r ih =>
      intro i m hm hn
      have hd := hm d List.mem_cons_self
      rw [labelsOf_cons] at hn
      have hthere : thereD (marksV ds) fs d = true := by
        unfold thereD
        rw [W.labs d hd, Bool.true_and]
        unfold hasK
        cases hnf : nfD d with
        | str s => exact hns s (W.named d hd s hnf)
        | _ => rfl
      show (if isLineD d = false ∨ (b = true ∧ wordD d ∈ stackL) then some i
        else if wordD d = "mark" ∧ labD d ∈ m then some i
        else if thereD (marksV ds) fs d = false then some i
        else wrongFrom (marksV ds) fs b r (i + 1) (if wordD d = "mark" then m ++ [labD d] else m)) = none
      rw [if_neg, if_neg, if_neg (by rw [hthere]; exact fun z => nomatch z)]
      · refine ih _ _ (fun x hx => hm x (List.mem_cons_of_mem _ hx)) ?_
        by_cases hw : wordD d = "mark"
        · rw [if_pos hw] at hn ⊢
          rw [List.append_assoc]; exact hn
        · rw [if_neg hw] at hn ⊢
          exact hn
      · rintro ⟨hw, hl⟩
        rw [if_pos hw] at hn
        exact (List.nodup_append.mp hn).2.2 _ hl _ List.mem_cons_self rfl
      · rintro (z | ⟨z, z2⟩)
        · rw [W.ok d hd] at z; cases z
        · exact hb z d hd z2
  unfold firstWrong
  rw [hf]
  exact go ds 0 [] (fun _ h => h) (by simpa using W.nodup)
end Whole
end Fl
end
section
set_option Elab.async false
set_option linter.all false
set_option maxRecDepth 100000
set_option maxHeartbeats 1000000
namespace Fl
open PySem PySem.Spec PyProof.Rows L2 Fx
/-! ### drawn pieces of code that leave the rows as they were -/
structure Item (q : Bool) (ns U : List Str) (ds : List PyData) : Prop where
  lay : ∀ r o, (q = true → o = true) → ∃ γ o', (∀ s row, γ s = some row → s ∈ U) ∧ (q = true → o' = true) ∧ Lay γ q ns ds r o r o'
  nodup : (labelsOf ds).Nodup
  labs : ∀ s ∈ labelsOf ds, s ∈ U
  jumps : ∀ d ∈ ds, wordD d ∈ jumpL → labD d ∈ labelsOf ds
/-- a line without label that leaves each row as it is -/
structure Neut (ns : List Str) (d : PyData) : Prop where
  ok : isLineD d = true
  fn : ∀ s, nfD d = .str s → s ∈ ns
  lab : wordD d ∉ (["mark", "jump", "if", "unless"] : List Str)
  own : needsB d = false
  row : ∀ r, rowB d r = some r
/-- .. that also leaves the link as it is -/
structure Pln (ns : List Str) (d : PyData) : Prop extends Neut ns d where
  call : wordD d ∉ (["call", "callr"] : List Str)
theorem nolab {d : PyData} (h : wordD d ∉ (["mark", "jump", "if", "unless"] : List Str)) : ¬ (wordD d = "mark" ∨ wordD d ∈ jumpL) := fun z => h (by
  rcases z with z | z
  · rw [z]; exact List.mem_cons_self
  · exact List.mem_cons_of_mem _ z)
theorem labels_no {d : PyData} (h : wordD d ∉ (["mark", "jump", "if", "unless"] : List Str)) (ds : List PyData) : labelsOf (d :: ds) = labelsOf ds := by
  rw [labelsOf_cons, if_neg fun z => nolab h (.inl z)]; rfl
theorem pln_own {ns : List Str} {d : PyData} (h : Pln ns d) (o : Bool) (hp : wordD d ≠ "pop") : ownB d o = o := by
  unfold ownB isPair
  rw [decide_eq_false hp, decide_eq_false h.call]
  cases o <;> rfl
theorem lay_neut {γ : Str → Option (List Str)} {q : Bool} {ns : List Str} : ∀ {ds : List PyData} {r : List Str} {o : Bool}, (∀ d ∈ ds, Neut ns d) → ∃ o', Lay γ q ns ds r o r o'
  | [], r, o, _ => ⟨o, rfl, rfl⟩
  | d :: ds, r, o, h => by
    have n := h d List.mem_cons_self
    obtain ⟨o', h'⟩ := lay_neut (γ := γ) (q := q) (r := r) (o := ownB d o) (ds := ds) fun x hx => h x (List.mem_cons_of_mem _ hx)
    exact ⟨o', n.ok, n.fn, fun z => absurd z (nolab n.lab), fun z => absurd (n.own.symm.trans z) Bool.false_ne_true, r, n.row r, h'⟩
theorem lay_pln {γ : Str → Option (List Str)} {q : Bool} {ns : List Str} : ∀ {ds : List PyData} {r : List Str} {o : Bool}, (∀ d ∈ ds, Pln ns d ∧ wordD d ≠ "pop") → Lay γ q ns ds r o r o
  | [], r, o, _ => ⟨rfl, rfl⟩
  | d :: ds, r, o, h => by
    have n := (h d List.mem_cons_self).1
    refine ⟨n.ok, n.fn, fun z => absurd z (nolab n.lab), fun z => absurd (n.own.symm.trans z) Bool.false_ne_true, r, n.row r, ?_⟩
    rw [pln_own n o (h d List.mem_cons_self).2]
    exact lay_pln fun x hx => h x (List.mem_cons_of_mem _ hx)
theorem labels_neut {ns : List Str} : ∀ {ds : List PyData}, (∀ d ∈ ds, Neut ns d) → labelsOf ds = []
  | [], _ => rfl
  | d :: ds, h => by rw [labels_no (h d List.mem_cons_self).lab, labels_neut fun x hx => h x (List.mem_cons_of_mem _ hx)]
theorem jumps_neut {ns : List Str} {ds : List PyData} (h : ∀ d ∈ ds, Neut ns d) : ∀ d ∈ ds, wordD d ∈ jumpL → labD d ∈ labelsOf ds := fun d hd hw => absurd (.inr hw) (nolab (h d hd).lab)
namespace Item
variable {q : Bool} {ns U V W : List Str} {a b c : List PyData}
theorem nil : Item q ns [] [] := ⟨fun r o h => ⟨fun _ => none, o, (fun _ _ z => nomatch z), h, rfl, rfl⟩, List.nodup_nil, (fun _ h => nomatch h), (fun _ h => nomatch h)⟩
/-- plain lines -/
theorem pln (h : ∀ d ∈ a, Pln ns d ∧ wordD d ≠ "pop") : Item q ns [] a := by
  have hn : ∀ d ∈ a, Neut ns d := fun d hd => (h d hd).1.toNeut
  exact ⟨fun r o ho => ⟨fun _ => none, o, fun _ _ z => (nomatch z), ho, lay_pln h⟩, by rw [labels_neut hn]; exact List.nodup_nil, (by rw [labels_neut hn]; exact fun _ h => nomatch h), jumps_neut hn⟩
/-- neutral lines where the link is lost -/
theorem neut (h : ∀ d ∈ a, Neut ns d) : Item false ns [] a := by
  refine ⟨fun r o ho => ?_, by rw [labels_neut h]; exact List.nodup_nil, (by rw [labels_neut h]; exact fun _ h => nomatch h), jumps_neut h⟩
  obtain ⟨o', h'⟩ := lay_neut (γ := fun _ => none) (q := false) (r := r) (o := o) h
  exact ⟨fun _ => none, o', fun _ _ z => (nomatch z), fun z => (nomatch z), h'⟩
theorem mono (h : Item q ns U a) (hU : ∀ s ∈ U, s ∈ V) : Item q ns V a := ⟨fun r o ho => let ⟨γ, o', h1, h2, h3⟩ := h.lay r o ho; ⟨γ, o', fun s row z => hU s (h1 s row z), h2, h3⟩, h.nodup, fun s hs => hU s (h.labs s hs), h.jumps⟩
theorem app (h : Item q ns U a) (k : Item q ns V b) (dis : ∀ s ∈ U, s ∉ V) : Item q ns (U ++ V) (a ++ b) := by
  refine ⟨fun r o ho => ?_, ?_, ?_, ?_⟩
  · obtain ⟨γ1, o1, g1, p1, l1⟩ := h.lay r o ho
    obtain ⟨γ2, o2, g2, p2, l2⟩ := k.lay r o1 p1
    refine ⟨fun s => if s ∈ U then γ1 s else γ2 s, o2, fun s row z => ?_, p2, Lay.app (Lay.mono (fun s row z => ?_) (fun _ h => h) l2) (Lay.mono (fun s row z => ?_) (fun _ h => h) l1)⟩
    · by_cases hs : s ∈ U
      · exact List.mem_append_left _ hs
      · simp only [if_neg hs] at z
        exact List.mem_append_right _ (g2 s row z)
    · have : s ∉ U := fun hu => dis s hu (g2 s row z)
      simp only [if_neg this]; exact z
    · simp only [if_pos (g1 s row z)]; exact z
  · rw [labelsOf_app]
    exact List.nodup_append.mpr ⟨h.nodup, k.nodup, fun x hx y hy e => dis x (h.labs x hx) (k.labs x (e ▸ hy))⟩
  · rw [labelsOf_app]
    intro s hs
    rcases List.mem_append.mp hs with hs | hs
    · exact List.mem_append_left _ (h.labs s hs)
    · exact List.mem_append_right _ (k.labs s hs)
  · rw [labelsOf_app]
    intro d hd hw
    rcases List.mem_append.mp hd with hd | hd
    · exact List.mem_append_left _ (h.jumps d hd hw)
    · exact List.mem_append_right _ (k.jumps d hd hw)
/-- plain lines ahead, behind -/
theorem pre (h : ∀ d ∈ a, Pln ns d ∧ wordD d ≠ "pop") (k : Item q ns V b) : Item q ns V (a ++ b) := (Item.pln h).app k (fun _ z => nomatch z)
theorem post (h : ∀ d ∈ b, Pln ns d ∧ wordD d ≠ "pop") (k : Item q ns V a) : Item q ns V (a ++ b) := by
  have := k.app (Item.pln (q := q) h) (fun _ _ z => nomatch z)
  rwa [List.append_nil] at this
end Item
end Fl
end
section
set_option Elab.async false
set_option linter.all false
set_option maxRecDepth 100000
set_option maxHeartbeats 1000000
namespace Fl
open PySem PySem.Spec PyProof.Rows L2 Fx
/-! ### lines as they are drawn -/
theorem isLine_of {w : Str} {xs : List PyData} {kinds : List Str} (h : forms.lookup w = some kinds) (hl : xs.length = kinds.length) (hf : ((kinds.zip xs).all fun p => fitsD p.1 p.2) = true) : isLineD (.tuple (.str w :: xs)) = true := by
  show (match forms.lookup w with | some kinds => decide (xs.length = kinds.length) && (kinds.zip xs).all fun p => fitsD p.1 p.2 | none => false) = true
  rw [h]
  show (decide (xs.length = kinds.length) && (kinds.zip xs).all fun p => fitsD p.1 p.2) = true
  rw [decide_eq_true hl, hf]; rfl
def isReg (i : Int) : Prop := 0 ≤ i ∧ i < 6
def isNum (i : Int) : Prop := -2147483648 ≤ i ∧ i ≤ 2147483647
theorem fit_reg {i : Int} (h : isReg i) : fitsD "reg" (.int i) = true := by
  show (decide (0 ≤ i) && decide (i < 6)) = true
  rw [decide_eq_true h.1, decide_eq_true h.2]; rfl
theorem fit_regl {i : Int} (h : isReg i) : fitsD "reg or link" (.int i) = true := by
  show (decide (0 ≤ i) && decide (i < 6)) = true
  rw [decide_eq_true h.1, decide_eq_true h.2]; rfl
theorem fit_num {i : Int} (h : isNum i) : fitsD "number" (.int i) = true := by
  have h1 := h.1
  have h2 := h.2
  show isNumD (.int i) = true
  unfold isNumD
  simp only [isIntD, h1, h2, decide_true, Bool.and_true]
theorem fit_word {s : Str} (h : isWordS s = true) : fitsD "word" (.str s) = true := h
theorem fit_entry {n : Nat} (h : n ≤ 59) : fitsD "entry" (.int (n : Nat)) = true := by
  show (decide ((0 : Int) ≤ n) && decide ((n : Int) ≤ 59)) = true
  rw [decide_eq_true (by omega), decide_eq_true (by omega)]; rfl
abbrev lnum (r n : Int) : PyData := .tuple [.str "num", .int r, .int n]
abbrev lrr (w : Str) (r s : Int) : PyData := .tuple [.str w, .int r, .int s]
abbrev lrrr (w : Str) (r s t : Int) : PyData := .tuple [.str w, .int r, .int s, .int t]
abbrev lr (w : Str) (r : Int) : PyData := .tuple [.str w, .int r]
abbrev laddr (r : Int) (f : Str) : PyData := .tuple [.str "addr", .int r, .str f]
abbrev ls1 (w s : Str) : PyData := .tuple [.str w, .str s]
abbrev lread (r : Int) (k : Nat) : PyData := .tuple [.str "read", .int r, .int (k : Nat)]
abbrev lwrite (k : Nat) (r : Int) : PyData := .tuple [.str "write", .int (k : Nat), .int r]
abbrev lend (w : Str) : PyData := .tuple [.str w]
section
variable {ns : List Str} {r s t n : Int} {f : Str}
theorem rowB_plain {d : PyData} (h : wordD d ∉ (["push", "pop", "read", "write", "back", "tail"] : List Str)) (row : List Str) : rowB d row = some row := by
  unfold rowB
  simp only [List.mem_cons, List.not_mem_nil, or_false, not_or] at h
  rw [if_neg h.1, if_neg h.2.1, if_neg h.2.2.1, if_neg h.2.2.2.1, if_neg]
  simp only [List.mem_cons, List.not_mem_nil, or_false, not_or]
  exact h.2.2.2.2
theorem needs_plain {d : PyData} (h : wordD d ∉ (["push", "back", "tail"] : List Str)) : needsB d = false := by
  unfold needsB isPair
  simp only [List.mem_cons, List.not_mem_nil, or_false, not_or] at h
  rw [decide_eq_false h.1, decide_eq_false (by simp only [List.mem_cons, List.not_mem_nil, or_false, not_or]; exact h.2)]; rfl
theorem nf_plain {d : PyData} (h : wordD d ∉ (["addr", "call", "tail"] : List Str)) : ∀ s, nfD d = .str s → s ∈ ns := fun s e => by
  unfold nfD at e
  simp only [List.mem_cons, List.not_mem_nil, or_false, not_or] at h
  rw [if_neg h.1, if_neg (by rw [not_or]; exact h.2)] at e
  cases e
/-- a line of a word that does nothing with rows, links, names -/
theorem pln_of {w : Str} {xs : List PyData} (h : isLineD (.tuple (.str w :: xs)) = true) (hw : w ∈ (["num", "copy", "add", "sub", "mul", "same", "less", "in", "out"] : List Str)) : Pln ns (.tuple (.str w :: xs)) ∧ wordD (.tuple (.str w :: xs)) ≠ "pop" := by
  have go : ∀ v ∈ (["num", "copy", "add", "sub", "mul", "same", "less", "in", "out"] : List Str), v ∉ (["push", "pop", "read", "write", "back", "tail"] : List Str) ∧ v ∉ (["push", "back", "tail"] : List Str) ∧ v ∉ (["addr", "call", "tail"] : List Str) ∧ v ∉ (["mark", "jump", "if", "unless"] : List Str) ∧ v ∉ (["call", "callr"] : List Str) ∧ v ≠ "pop" := by decide +kernel
  obtain ⟨h1, h2, h3, h4, h5, h6⟩ := go w hw
  exact ⟨⟨⟨h, nf_plain h3, h4, needs_plain h2, rowB_plain h1⟩, h5⟩, h6⟩
theorem p_num (hr : isReg r) (hn : isNum n) : Pln ns (lnum r n) ∧ wordD (lnum r n) ≠ "pop" := pln_of (isLine_of (kinds := ["reg", "number"]) (by decide +kernel) rfl (by simp [List.zip, List.zipWith, fit_reg hr, fit_num hn])) (by decide +kernel)
theorem p_rr {w : Str} (hw : w ∈ (["copy", "same", "less"] : List Str)) (hr : isReg r) (hs : isReg s) : Pln ns (lrr w r s) ∧ wordD (lrr w r s) ≠ "pop" := by
  have go : ∀ v ∈ (["copy", "same", "less"] : List Str), forms.lookup v = some (["reg", "reg"] : List Str) ∧ v ∈ (["num", "copy", "add", "sub", "mul", "same", "less", "in", "out"] : List Str) := by decide +kernel
  exact pln_of (isLine_of (kinds := ["reg", "reg"]) (go w hw).1 rfl (by simp [List.zip, List.zipWith, fit_reg hr, fit_reg hs])) (go w hw).2
theorem p_rrr {w : Str} (hw : w ∈ (["add", "sub", "mul"] : List Str)) (hr : isReg r) (hs : isReg s) (ht : isReg t) : Pln ns (lrrr w r s t) ∧ wordD (lrrr w r s t) ≠ "pop" := by
  have go : ∀ v ∈ (["add", "sub", "mul"] : List Str), forms.lookup v = some (["reg", "reg", "reg"] : List Str) ∧ v ∈ (["num", "copy", "add", "sub", "mul", "same", "less", "in", "out"] : List Str) := by decide +kernel
  exact pln_of (isLine_of (kinds := ["reg", "reg", "reg"]) (go w hw).1 rfl (by simp [List.zip, List.zipWith, fit_reg hr, fit_reg hs, fit_reg ht])) (go w hw).2
theorem p_r {w : Str} (hw : w ∈ (["in", "out"] : List Str)) (hr : isReg r) : Pln ns (lr w r) ∧ wordD (lr w r) ≠ "pop" := by
  have go : ∀ v ∈ (["in", "out"] : List Str), forms.lookup v = some (["reg"] : List Str) ∧ v ∈ (["num", "copy", "add", "sub", "mul", "same", "less", "in", "out"] : List Str) := by decide +kernel
  exact pln_of (isLine_of (kinds := ["reg"]) (go w hw).1 rfl (by simp [List.zip, List.zipWith, fit_reg hr])) (go w hw).2
theorem p_addr (hr : isReg r) (hf : f ∈ ns) (hw : isWordS f = true) : Pln ns (laddr r f) ∧ wordD (laddr r f) ≠ "pop" := by
  have e : wordD (laddr r f) = "addr" := rfl
  refine ⟨⟨⟨isLine_of (kinds := ["reg", "word"]) (by decide +kernel) rfl (by simp [List.zip, List.zipWith, fit_reg hr, fit_word hw]), fun s h => ?_, by rw [e]; decide +kernel, needs_plain (by rw [e]; decide +kernel), rowB_plain (by rw [e]; decide +kernel)⟩, by rw [e]; decide +kernel⟩, by rw [e]; decide +kernel⟩
  have : nfD (laddr r f) = .str f := rfl
  rw [this] at h
  cases h
  exact hf
theorem n_call (hf : f ∈ ns) (hw : isWordS f = true) : Neut ns (ls1 "call" f) := by
  have e : wordD (ls1 "call" f) = "call" := rfl
  refine ⟨isLine_of (kinds := ["word"]) (by decide +kernel) rfl (by simp [List.zip, List.zipWith, fit_word hw]), fun s h => ?_, by rw [e]; decide +kernel, needs_plain (by rw [e]; decide +kernel), rowB_plain (by rw [e]; decide +kernel)⟩
  have : nfD (ls1 "call" f) = .str f := rfl
  rw [this] at h
  cases h
  exact hf
theorem n_callr (hr : isReg r) : Neut ns (lr "callr" r) := by
  have e : wordD (lr "callr" r) = "callr" := rfl
  exact ⟨isLine_of (kinds := ["reg"]) (by decide +kernel) rfl (by simp [List.zip, List.zipWith, fit_reg hr]), nf_plain (by rw [e]; decide +kernel), by rw [e]; decide +kernel, needs_plain (by rw [e]; decide +kernel), rowB_plain (by rw [e]; decide +kernel)⟩
end
end Fl
end
section
set_option Elab.async false
set_option linter.all false
set_option maxRecDepth 100000
set_option maxHeartbeats 1000000
namespace Fl
open PySem PySem.Spec PyProof.Rows L2 Fx
/-! ### drawn pieces: calls within link lines, entries of one's own, loops, branches -/
abbrev plink : PyData := ls1 "push" "link"
abbrev poplink : PyData := ls1 "pop" "link"
theorem row_plink (r : List Str) : rowB plink r = some (r ++ [("link" : Str)]) := rfl
theorem drop_last {r : List Str} {e : Str} : (r ++ [e]).drop ((r ++ [e]).length - 1) = [e] := by
  rw [List.length_append, List.length_singleton, Nat.add_sub_cancel, List.drop_left]
theorem row_pop {d : PyData} {r : List Str} {e : Str} (hw : wordD d = "pop") (he : entryD d = e) : rowB d (r ++ [e]) = some r := by
  unfold rowB
  rw [if_neg (by rw [hw]; decide +kernel), if_pos hw, he, drop_last, if_pos rfl, List.dropLast_concat]
theorem lay_lab {γ : Str → Option (List Str)} {q : Bool} {ns : List Str} {d : PyData} {r : List Str} {o : Bool} (ok : isLineD d = true) (hw : wordD d ∈ (["mark", "jump", "if", "unless"] : List Str)) (hγ : γ (labD d) = some r) (hq : q = true → o = true) : Lay γ q ns [d] r o r o := by
  have go : ∀ v ∈ (["mark", "jump", "if", "unless"] : List Str), v ∉ (["push", "back", "tail"] : List Str) ∧ v ∉ (["addr", "call", "tail"] : List Str) ∧ v ∉ (["call", "callr"] : List Str) ∧ v ≠ "pop" ∧ (v = "mark" ∨ v ∈ jumpL) := by decide +kernel
  obtain ⟨h1, h2, h3, h4, h5⟩ := go _ hw
  refine ⟨ok, nf_plain h2, fun _ => ⟨hγ, hq⟩, fun z => absurd ((needs_plain h1).symm.trans z) Bool.false_ne_true, r, rowB_flow h5, rfl, ?_⟩
  unfold ownB isPair
  rw [decide_eq_false h4, decide_eq_false h3]
  cases o <;> rfl
theorem line_lab {w s : Str} (hw : w ∈ (["mark", "jump", "if", "unless"] : List Str)) (hs : isWordS s = true) : isLineD (ls1 w s) = true := by
  have go : ∀ v ∈ (["mark", "jump", "if", "unless"] : List Str), forms.lookup v = some (["word"] : List Str) := by decide +kernel
  exact isLine_of (kinds := ["word"]) (go w hw) rfl (by simp [List.zip, List.zipWith, fit_word hs])
theorem labels_one (s : Str) : labelsOf [ls1 "mark" s] = [s] := rfl
theorem labels_jump {w s : Str} (hw : w ∈ jumpL) : labelsOf [ls1 w s] = [] := by
  have go : ∀ v ∈ jumpL, v ≠ "mark" := by decide +kernel
  rw [labelsOf_cons, if_neg (show ¬ wordD (ls1 w s) = "mark" from go w hw)]; rfl
theorem labels_pln {ns : List Str} {a : List PyData} (h : ∀ d ∈ a, Pln ns d ∧ wordD d ≠ "pop") : labelsOf a = [] := labels_neut (ns := ns) fun d hd => (h d hd).1.toNeut
theorem jump_pln {ns : List Str} {a : List PyData} (h : ∀ d ∈ a, Pln ns d ∧ wordD d ≠ "pop") {d : PyData} (hd : d ∈ a) (hw : wordD d ∈ jumpL) {A : Prop} : A := absurd (.inr hw) (nolab (h d hd).1.lab)
namespace Item
variable {q : Bool} {ns U V W : List Str} {a b c : List PyData}
/-- calls within link lines -/
theorem wrap (h : ∀ d ∈ a, Neut ns d) : Item true ns [] ([plink] ++ a ++ [poplink]) := by
  have hl : labelsOf ([plink] ++ a ++ [poplink]) = [] := by
    rw [labelsOf_app, labelsOf_app, labels_neut h]; rfl
  refine ⟨fun r o ho => ?_, by rw [hl]; exact List.nodup_nil, (by rw [hl]; exact fun _ h => nomatch h), fun d hd hw => ?_⟩
  · obtain ⟨o', h'⟩ := lay_neut (γ := fun _ => none) (q := true) (r := r ++ [("link" : Str)]) (o := o) h
    refine ⟨fun _ => none, true, (fun _ _ z => nomatch z), fun _ => rfl, Lay.app ?_ (Lay.app h' ?_)⟩
    · refine ⟨by decide +kernel, nf_plain (by decide +kernel), fun z => absurd z (by decide +kernel), fun z => absurd z (by decide +kernel), r, row_pop (d := poplink) (e := "link") rfl rfl, rfl, ?_⟩
      rfl
    · refine ⟨by decide +kernel, nf_plain (by decide +kernel), fun z => absurd z (by decide +kernel), fun _ => ⟨rfl, ho rfl⟩, _, row_plink r, rfl, ?_⟩
      rw [ho rfl]; rfl
  · rcases List.mem_append.mp hd with hd | hd
    · rcases List.mem_append.mp hd with hd | hd
      · rw [List.mem_singleton.mp hd] at hw
        exact absurd hw (by decide +kernel)
      · exact absurd (.inr hw) (nolab (h d hd).lab)
    · rw [List.mem_singleton.mp hd] at hw
      exact absurd hw (by decide +kernel)
end Item
theorem lay_push {γ : Str → Option (List Str)} {q : Bool} {ns : List Str} : ∀ {rs : List Int} {r : List Str} {o : Bool}, (∀ x ∈ rs, isReg x) → Lay γ q ns (rs.map (lr "push")) r o (r ++ List.replicate rs.length ("value" : Str)) o
  | [], r, o, _ => ⟨by simp, rfl⟩
  | x :: rs, r, o, h => by
    have hx := h x List.mem_cons_self
    have ih := lay_push (γ := γ) (q := q) (ns := ns) (r := r ++ [("value" : Str)]) (o := o) (rs := rs) fun y hy => h y (List.mem_cons_of_mem _ hy)
    have e : wordD (lr "push" x) = "push" := rfl
    refine ⟨isLine_of (kinds := ["reg or link"]) (by decide +kernel) rfl (by simp [List.zip, List.zipWith, fit_regl hx]), nf_plain (by rw [e]; decide +kernel), fun z => absurd z (by rw [e]; decide +kernel), fun z => ?_, r ++ [("value" : Str)], rfl, ?_⟩
    · exact absurd (show false = true from z) Bool.false_ne_true
    · have ho : ownB (lr "push" x) o = o := by cases o <;> rfl
      rw [ho]
      have hr : r ++ List.replicate (x :: rs).length ("value" : Str) = r ++ [("value" : Str)] ++ List.replicate rs.length ("value" : Str) := by
        rw [List.length_cons, List.replicate_succ, List.append_assoc]; rfl
      rw [hr]; exact ih
theorem lay_pop {γ : Str → Option (List Str)} {q : Bool} {ns : List Str} : ∀ {rs : List Int} {r : List Str} {o : Bool}, (∀ x ∈ rs, isReg x) → Lay γ q ns (rs.map (lr "pop")) (r ++ List.replicate rs.length ("value" : Str)) o r o
  | [], r, o, _ => ⟨by simp, rfl⟩
  | x :: rs, r, o, h => by
    have hx := h x List.mem_cons_self
    have ih := lay_pop (γ := γ) (q := q) (ns := ns) (r := r) (o := o) (rs := rs) fun y hy => h y (List.mem_cons_of_mem _ hy)
    have e : wordD (lr "pop" x) = "pop" := rfl
    refine ⟨isLine_of (kinds := ["reg or link"]) (by decide +kernel) rfl (by simp [List.zip, List.zipWith, fit_regl hx]), nf_plain (by rw [e]; decide +kernel), fun z => absurd z (by rw [e]; decide +kernel), fun z => ?_, r ++ List.replicate rs.length ("value" : Str), ?_, ?_⟩
    · exact absurd (show false = true from z) Bool.false_ne_true
    · have hr : r ++ List.replicate (x :: rs).length ("value" : Str) = (r ++ List.replicate rs.length ("value" : Str)) ++ [("value" : Str)] := by
        rw [List.length_cons, List.replicate_succ', List.append_assoc]
      rw [hr]; exact row_pop rfl rfl
    · have ho : ownB (lr "pop" x) o = o := by cases o <;> rfl
      rw [ho]; exact ih
/-- a read or a write within so many entries -/
def RwL (n : Nat) (d : PyData) : Prop := ∃ (g : Int) (k : Nat), (d = lread g k ∨ d = lwrite k g) ∧ isReg g ∧ k < n ∧ k ≤ 59
theorem hasV_rep {r : List Str} {n k : Nat} (h : k < n) : hasV (r ++ List.replicate n ("value" : Str)) k = true := by
  unfold hasV
  have hl : (r ++ List.replicate n ("value" : Str)).length = r.length + n := by rw [List.length_append, List.length_replicate]
  rw [hl, decide_eq_true (by omega), Bool.true_and, decide_eq_true_eq, List.getElem?_append_right (by omega), List.getElem?_replicate, if_pos (by omega)]
theorem lay_rw {γ : Str → Option (List Str)} {q : Bool} {ns : List Str} {n : Nat} : ∀ {ds : List PyData} {r : List Str} {o : Bool}, (∀ d ∈ ds, RwL n d) → Lay γ q ns ds (r ++ List.replicate n ("value" : Str)) o (r ++ List.replicate n ("value" : Str)) o
  | [], r, o, _ => ⟨rfl, rfl⟩
  | d :: ds, r, o, h => by
    have ih := lay_rw (γ := γ) (q := q) (ns := ns) (r := r) (o := o) (ds := ds) fun y hy => h y (List.mem_cons_of_mem _ hy)
    obtain ⟨g, k, hd, hg, hk, hk2⟩ := h d List.mem_cons_self
    rcases hd with rfl | rfl
    · have e : wordD (lread g k) = "read" := rfl
      refine ⟨isLine_of (kinds := ["reg", "entry"]) (by decide +kernel) rfl (by simp [List.zip, List.zipWith, fit_reg hg, fit_entry hk2]), nf_plain (by rw [e]; decide +kernel), fun z => absurd z (by rw [e]; decide +kernel), fun z => absurd (show false = true from z) Bool.false_ne_true, r ++ List.replicate n ("value" : Str), ?_, ?_⟩
      · show (if hasV (r ++ List.replicate n ("value" : Str)) k = true then some _ else none) = some _
        rw [if_pos (hasV_rep hk)]
      · have ho : ownB (lread g k) o = o := by cases o <;> rfl
        rw [ho]; exact ih
    · have e : wordD (lwrite k g) = "write" := rfl
      refine ⟨isLine_of (kinds := ["entry", "reg"]) (by decide +kernel) rfl (by simp [List.zip, List.zipWith, fit_reg hg, fit_entry hk2]), nf_plain (by rw [e]; decide +kernel), fun z => absurd z (by rw [e]; decide +kernel), fun z => absurd (show false = true from z) Bool.false_ne_true, r ++ List.replicate n ("value" : Str), ?_, ?_⟩
      · show (if hasV (r ++ List.replicate n ("value" : Str)) k = true then some _ else none) = some _
        rw [if_pos (hasV_rep hk)]
      · have ho : ownB (lwrite k g) o = o := by cases o <;> rfl
        rw [ho]; exact ih
theorem labels_of_words {w : Str} (hw : w ∉ (["mark", "jump", "if", "unless"] : List Str)) : ∀ {ds : List PyData}, (∀ d ∈ ds, wordD d = w) → labelsOf ds = []
  | [], _ => rfl
  | d :: ds, h => by rw [labels_no (by rw [h d List.mem_cons_self]; exact hw), labels_of_words hw fun x hx => h x (List.mem_cons_of_mem _ hx)]
theorem labels_rw {n : Nat} : ∀ {ds : List PyData}, (∀ d ∈ ds, RwL n d) → labelsOf ds = []
  | [], _ => rfl
  | d :: ds, h => by
    have : wordD d ∉ (["mark", "jump", "if", "unless"] : List Str) := by
      obtain ⟨g, k, hd, _⟩ := h d List.mem_cons_self
      rcases hd with rfl | rfl
      · show ("read" : Str) ∉ _; decide +kernel
      · show ("write" : Str) ∉ _; decide +kernel
    rw [labels_no this, labels_rw fun x hx => h x (List.mem_cons_of_mem _ hx)]
theorem word_map {w : Str} {rs : List Int} {d : PyData} (h : d ∈ rs.map (lr w)) : wordD d = w := by
  obtain ⟨x, _, rfl⟩ := List.mem_map.mp h
  rfl
namespace Item
variable {q : Bool} {ns U V W : List Str} {a b c : List PyData}
theorem stack {ps qs : List Int} {rw' : List PyData} (h : Item q ns U a) (hp : ∀ x ∈ ps, isReg x) (hq : ∀ x ∈ qs, isReg x) (hl : qs.length = ps.length) (hr : ∀ d ∈ rw', RwL ps.length d) : Item q ns U (ps.map (lr "push") ++ a ++ rw' ++ qs.map (lr "pop")) := by
  have e1 : labelsOf (ps.map (lr "push")) = [] := labels_of_words (w := "push") (by decide +kernel) fun d hd => word_map hd
  have e2 : labelsOf (qs.map (lr "pop")) = [] := labels_of_words (w := "pop") (by decide +kernel) fun d hd => word_map hd
  have hlab : labelsOf (ps.map (lr "push") ++ a ++ rw' ++ qs.map (lr "pop")) = labelsOf a := by
    rw [labelsOf_app, labelsOf_app, labelsOf_app, e1, e2, labels_rw hr]; simp
  refine ⟨fun r o ho => ?_, by rw [hlab]; exact h.nodup, by rw [hlab]; exact h.labs, fun d hd hw => ?_⟩
  · obtain ⟨γ, o', h1, h2, h3⟩ := h.lay (r ++ List.replicate ps.length ("value" : Str)) o ho
    refine ⟨γ, o', h1, h2, Lay.app ?_ (Lay.app (lay_rw hr) (Lay.app h3 (lay_push hp)))⟩
    rw [← hl]; exact lay_pop hq
  · rw [hlab]
    have no : ∀ {w : Str}, wordD d = w → w ∉ jumpL → labD d ∈ labelsOf a := fun e hn => absurd (e ▸ hw) hn
    rcases List.mem_append.mp hd with hd | hd
    · rcases List.mem_append.mp hd with hd | hd
      · rcases List.mem_append.mp hd with hd | hd
        · exact no (word_map hd) (by decide +kernel)
        · exact h.jumps d hd hw
      · obtain ⟨g, k, hd, _⟩ := hr d hd
        rcases hd with rfl | rfl
        · exact no (w := "read") rfl (by decide +kernel)
        · exact no (w := "write") rfl (by decide +kernel)
    · exact no (word_map hd) (by decide +kernel)
end Item
end Fl
end
section
set_option Elab.async false
set_option linter.all false
set_option maxRecDepth 100000
set_option maxHeartbeats 1000000
namespace Fl
open PySem PySem.Spec PyProof.Rows L2 Fx
abbrev PW (ns : List Str) (a : List PyData) : Prop := ∀ d ∈ a, Pln ns d ∧ wordD d ≠ "pop"
theorem word_nf {w s : Str} (hw : w ∈ (["mark", "jump", "if", "unless"] : List Str)) : labD (ls1 w s) = s := rfl
namespace Item
variable {q : Bool} {ns U V W : List Str} {a b c : List PyData} {one two w w2 : Str}
/-- a loop, or lines that are left out -/
theorem ring (h : Item q ns U a) (hw : isWordS one = true) (h1 : one ∉ U) {x y : Str} (hx : x ∈ (["mark", "jump", "if", "unless"] : List Str)) (hy : y ∈ (["mark", "jump", "if", "unless"] : List Str)) (hxy : (x = "mark" ∧ y ∈ jumpL) ∨ (x ∈ jumpL ∧ y = "mark")) {p r : List PyData} (hp : PW ns p) (hr : PW ns r) :
    Item q ns (one :: U) (p ++ [ls1 x one] ++ a ++ r ++ [ls1 y one]) := by
  have hlab : (labelsOf (p ++ [ls1 x one] ++ a ++ r ++ [ls1 y one])).Perm (one :: labelsOf a) := by
    rw [labelsOf_app, labelsOf_app, labelsOf_app, labelsOf_app, labels_pln hp, labels_pln hr]
    rcases hxy with ⟨rfl, hj⟩ | ⟨hj, rfl⟩
    · rw [labels_one, labels_jump hj]; simp
    · rw [labels_one, labels_jump hj]; simp
  have hn1 : one ∉ labelsOf a := fun z => h1 (h.labs _ z)
  refine ⟨fun r0 o ho => ?_, hlab.nodup_iff.mpr (List.nodup_cons.mpr ⟨hn1, h.nodup⟩), fun s hs => ?_, fun d hd hj => ?_⟩
  · obtain ⟨γ, o', g1, g2, g3⟩ := h.lay r0 o ho
    have gg : (fun s => if s = one then some r0 else γ s) one = some r0 := by simp
    refine ⟨fun s => if s = one then some r0 else γ s, o', fun s row z => ?_, g2, ?_⟩
    · by_cases e : s = one
      · rw [e]; exact List.mem_cons_self
      · simp only [if_neg e] at z
        exact List.mem_cons_of_mem _ (g1 s row z)
    · refine Lay.app (lay_lab (line_lab hy hw) hy gg g2) (Lay.app (lay_pln hr) (Lay.app (Lay.mono (fun s row z => ?_) (fun _ h => h) g3) (Lay.app (lay_lab (line_lab hx hw) hx gg ho) (lay_pln hp))))
      have : s ≠ one := fun e => h1 (e ▸ g1 s row z)
      simp only [if_neg this]; exact z
  · rcases List.mem_cons.mp (hlab.mem_iff.mp hs) with rfl | hs
    · exact List.mem_cons_self
    · exact List.mem_cons_of_mem _ (h.labs s hs)
  · refine hlab.mem_iff.mpr ?_
    rcases List.mem_append.mp hd with hd | hd
    · rcases List.mem_append.mp hd with hd | hd
      · rcases List.mem_append.mp hd with hd | hd
        · rcases List.mem_append.mp hd with hd | hd
          · exact jump_pln hp hd hj
          · rw [List.mem_singleton.mp hd]; exact List.mem_cons_self
        · exact List.mem_cons_of_mem _ (h.jumps d hd hj)
      · exact jump_pln hr hd hj
    · rw [List.mem_singleton.mp hd]; exact List.mem_cons_self
/-- one of two -/
theorem either (h : Item q ns U a) (k : Item q ns V b) (dis : ∀ s ∈ U, s ∉ V) (hw : isWordS one = true) (hw2 : isWordS two = true) (ne : one ≠ two) (h1 : one ∉ U) (h1' : one ∉ V) (h2 : two ∉ U) (h2' : two ∉ V) {p : List PyData} (hp : PW ns p) {x : Str} (hx : x ∈ (["if", "unless"] : List Str)) :
    Item q ns (one :: two :: (U ++ V)) (p ++ [ls1 x one] ++ a ++ [ls1 "jump" two, ls1 "mark" one] ++ b ++ [ls1 "mark" two]) := by
  have hxj : x ∈ jumpL := List.mem_cons_of_mem _ hx
  have hx4 : x ∈ (["mark", "jump", "if", "unless"] : List Str) := List.mem_cons_of_mem _ hxj
  have hj4 : ("jump" : Str) ∈ (["mark", "jump", "if", "unless"] : List Str) := by decide +kernel
  have hm4 : ("mark" : Str) ∈ (["mark", "jump", "if", "unless"] : List Str) := by decide +kernel
  have ab := h.app k dis
  have hlab : (labelsOf (p ++ [ls1 x one] ++ a ++ [ls1 "jump" two, ls1 "mark" one] ++ b ++ [ls1 "mark" two])).Perm (one :: two :: labelsOf (a ++ b)) := by
    rw [labelsOf_app, labelsOf_app, labelsOf_app, labelsOf_app, labelsOf_app, labels_pln hp, labels_jump hxj, labels_one, labelsOf_app a b, show labelsOf [ls1 "jump" two, ls1 "mark" one] = [one] from rfl]
    simp only [List.nil_append]
    refine List.perm_iff_count.mpr fun z => ?_
    simp only [List.count_append, List.count_cons, List.count_nil]
    omega
  refine ⟨fun r0 o ho => ?_, hlab.nodup_iff.mpr (List.nodup_cons.mpr ⟨fun z => ?_, List.nodup_cons.mpr ⟨fun z => ?_, ab.nodup⟩⟩), fun s hs => ?_, fun d hd hj => ?_⟩
  · obtain ⟨γ1, o1, g1, p1, l1⟩ := h.lay r0 o ho
    obtain ⟨γ2, o2, g2, p2, l2⟩ := k.lay r0 o1 p1
    have gA : (fun s => if s = one ∨ s = two then some r0 else if s ∈ U then γ1 s else γ2 s) one = some r0 := by simp
    have gB : (fun s => if s = one ∨ s = two then some r0 else if s ∈ U then γ1 s else γ2 s) two = some r0 := by simp
    refine ⟨fun s => if s = one ∨ s = two then some r0 else if s ∈ U then γ1 s else γ2 s, o2, fun s row z => ?_, p2, ?_⟩
    · by_cases e : s = one ∨ s = two
      · rcases e with e | e
        · rw [e]; exact List.mem_cons_self
        · rw [e]; exact List.mem_cons_of_mem _ List.mem_cons_self
      · simp only [if_neg e] at z
        refine List.mem_cons_of_mem _ (List.mem_cons_of_mem _ ?_)
        by_cases hs : s ∈ U
        · exact List.mem_append_left _ hs
        · simp only [if_neg hs] at z
          exact List.mem_append_right _ (g2 s row z)
    · refine Lay.app (lay_lab (line_lab hm4 hw2) hm4 gB p2) (Lay.app (Lay.mono (fun s row z => ?_) (fun _ h => h) l2) (Lay.app (Lay.app (as := [ls1 "jump" two]) (lay_lab (line_lab hm4 hw) hm4 gA p1) (lay_lab (line_lab hj4 hw2) hj4 gB p1)) (Lay.app (Lay.mono (fun s row z => ?_) (fun _ h => h) l1) (Lay.app (lay_lab (line_lab hx4 hw) hx4 gA ho) (lay_pln hp)))))
      · have hv := g2 s row z
        have e : ¬ (s = one ∨ s = two) := by
          rintro (e | e)
          · exact h1' (e ▸ hv)
          · exact h2' (e ▸ hv)
        have hu : s ∉ U := fun hu => dis s hu hv
        simp only [if_neg e, if_neg hu]; exact z
      · have hu := g1 s row z
        have e : ¬ (s = one ∨ s = two) := by
          rintro (e | e)
          · exact h1 (e ▸ hu)
          · exact h2 (e ▸ hu)
        simp only [if_neg e, if_pos hu]; exact z
  · rcases List.mem_cons.mp z with e | z
    · exact ne e
    · rcases List.mem_append.mp (ab.labs _ z) with z | z
      · exact h1 z
      · exact h1' z
  · rcases List.mem_append.mp (ab.labs _ z) with z | z
    · exact h2 z
    · exact h2' z
  · rcases List.mem_cons.mp (hlab.mem_iff.mp hs) with rfl | hs
    · exact List.mem_cons_self
    · refine List.mem_cons_of_mem _ ?_
      rcases List.mem_cons.mp hs with rfl | hs
      · exact List.mem_cons_self
      · exact List.mem_cons_of_mem _ (ab.labs s hs)
  · refine hlab.mem_iff.mpr ?_
    have inOne : one ∈ one :: two :: labelsOf (a ++ b) := List.mem_cons_self
    have inTwo : two ∈ one :: two :: labelsOf (a ++ b) := List.mem_cons_of_mem _ List.mem_cons_self
    have inAB : labD d ∈ labelsOf (a ++ b) → labD d ∈ one :: two :: labelsOf (a ++ b) := fun z => List.mem_cons_of_mem _ (List.mem_cons_of_mem _ z)
    rcases List.mem_append.mp hd with hd | hd
    · rcases List.mem_append.mp hd with hd | hd
      · rcases List.mem_append.mp hd with hd | hd
        · rcases List.mem_append.mp hd with hd | hd
          · rcases List.mem_append.mp hd with hd | hd
            · exact jump_pln hp hd hj
            · rw [List.mem_singleton.mp hd]; exact inOne
          · exact inAB (ab.jumps d (List.mem_append_left _ hd) hj)
        · rcases List.mem_cons.mp hd with rfl | hd
          · exact inTwo
          · rw [List.mem_singleton.mp hd]; exact inOne
      · exact inAB (ab.jumps d (List.mem_append_right _ hd) hj)
    · rw [List.mem_singleton.mp hd]; exact inTwo
end Item
/-! ### whole functions -/
/-- a line that leaves a function -/
structure Leave (q : Bool) (ns : List Str) (d : PyData) : Prop where
  ok : isLineD d = true
  word : wordD d ∈ (["back", "tail", "stop"] : List Str)
  fn : ∀ s, nfD d = .str s → s ∈ ns
  own : wordD d ∈ (["back", "tail"] : List Str) → q = true
theorem leave_back {ns : List Str} : Leave true ns (lend "back") := ⟨by decide +kernel, by decide +kernel, nf_plain (by decide +kernel), fun _ => rfl⟩
theorem leave_stop {q : Bool} {ns : List Str} : Leave q ns (lend "stop") := ⟨by decide +kernel, by decide +kernel, nf_plain (by decide +kernel), fun h => absurd h (by decide +kernel)⟩
theorem leave_tail {ns : List Str} {f : Str} (hf : f ∈ ns) (hw : isWordS f = true) : Leave true ns (ls1 "tail" f) := by
  refine ⟨isLine_of (kinds := ["word"]) (by decide +kernel) rfl (by simp [List.zip, List.zipWith, fit_word hw]), (by show ("tail" : Str) ∈ _; decide +kernel), fun s h => ?_, fun _ => rfl⟩
  have : nfD (ls1 "tail" f) = .str f := rfl
  rw [this] at h
  cases h
  exact hf
theorem lay_leave {γ : Str → Option (List Str)} {q : Bool} {ns : List Str} {d : PyData} {o : Bool} (h : Leave q ns d) (ho : q = true → o = true) : Lay γ q ns [d] [] o [] o := by
  have go : ∀ v ∈ (["back", "tail", "stop"] : List Str), v ∉ (["mark", "jump", "if", "unless"] : List Str) ∧ v ∉ (["call", "callr"] : List Str) ∧ v ≠ "pop" ∧ v ≠ "push" ∧ v ≠ "read" ∧ v ≠ "write" := by decide +kernel
  obtain ⟨h1, h2, h3, h4, h5, h6⟩ := go _ h.word
  refine ⟨h.ok, h.fn, fun z => absurd z (nolab h1), fun z => ?_, [], ?_, rfl, ?_⟩
  · unfold needsB isPair at z
    rw [decide_eq_false h4, Bool.false_and, Bool.false_or, decide_eq_true_eq] at z
    exact ⟨h.own z, ho (h.own z)⟩
  · unfold rowB
    rw [if_neg h4, if_neg h3, if_neg h5, if_neg h6]
    split
    · rfl
    · rfl
  · unfold ownB isPair
    rw [decide_eq_false h3, decide_eq_false h2]
    cases o <;> rfl
theorem leave_lab {q : Bool} {ns : List Str} {d : PyData} (h : Leave q ns d) : wordD d ∉ (["mark", "jump", "if", "unless"] : List Str) := by
  have go : ∀ v ∈ (["back", "tail", "stop"] : List Str), v ∉ (["mark", "jump", "if", "unless"] : List Str) := by decide +kernel
  exact go _ h.word
theorem leave_end {q : Bool} {ns : List Str} {d : PyData} (h : Leave q ns d) : wordD d ∈ endL := List.mem_cons_of_mem _ h.word
theorem labels_leave {q : Bool} {ns : List Str} {d : PyData} (h : Leave q ns d) : labelsOf [d] = [] := by
  rw [labels_no (leave_lab h)]; rfl
section
variable {q : Bool} {ns U V W : List Str} {a b c : List PyData} {l e : PyData} {one : Str}
theorem last_app (a : List PyData) (l : PyData) : (a ++ [l])[(a ++ [l]).length - 1]? = some l := by
  rw [List.length_append, List.length_singleton, Nat.add_sub_cancel, List.getElem?_append_right (Nat.le_refl _), Nat.sub_self]; rfl
theorem whole_item (h : Item q ns U a) (hl : Leave q ns l) : Whole q ns (a ++ [l]) := by
  obtain ⟨γ, o', g1, g2, g3⟩ := h.lay [] true (fun _ => rfl)
  have e : labelsOf (a ++ [l]) = labelsOf a := by rw [labelsOf_app, labels_leave hl, List.append_nil]
  refine ⟨⟨γ, [], o', Lay.app (lay_leave hl g2) g3⟩, by rw [e]; exact h.nodup, fun d hd hj => ?_, ⟨l, last_app a l, leave_end hl⟩, by rw [List.length_append]; exact Nat.succ_pos _⟩
  rw [e]
  rcases List.mem_append.mp hd with hd | hd
  · exact h.jumps d hd hj
  · rw [List.mem_singleton.mp hd] at hj
    exact absurd (.inr hj) (nolab (leave_lab hl))
/-- with an early end -/
theorem whole_early (ha : Item q ns U a) (hb : Item q ns V b) (hc : Item q ns W c) (d1 : ∀ s ∈ U, s ∉ V) (d2 : ∀ s ∈ U, s ∉ W) (d3 : ∀ s ∈ V, s ∉ W) (hw : isWordS one = true) (o1 : one ∉ U) (o2 : one ∉ V) (o3 : one ∉ W) (he : Leave q ns e) (hl : Leave q ns l) {p : List PyData} (hp : PW ns p) :
    Whole q ns (a ++ (p ++ [ls1 "if" one] ++ b ++ [e, ls1 "mark" one]) ++ c ++ [l]) := by
  have hi4 : ("if" : Str) ∈ (["mark", "jump", "if", "unless"] : List Str) := by decide +kernel
  have hm4 : ("mark" : Str) ∈ (["mark", "jump", "if", "unless"] : List Str) := by decide +kernel
  obtain ⟨γ1, x1, g1, p1, l1⟩ := ha.lay [] true (fun _ => rfl)
  obtain ⟨γ2, x2, g2, p2, l2⟩ := hb.lay [] x1 p1
  obtain ⟨γ3, x3, g3, p3, l3⟩ := hc.lay [] x2 p2
  let γ : Str → Option (List Str) := fun s => if s = one then some [] else if s ∈ U then γ1 s else if s ∈ V then γ2 s else γ3 s
  have k0 : γ one = some [] := by simp [γ]
  have k1 : ∀ s row, γ1 s = some row → γ s = some row := fun s row z => by
    have hu := g1 s row z
    have e : s ≠ one := fun e => o1 (e ▸ hu)
    simp only [γ, if_neg e, if_pos hu]; exact z
  have k2 : ∀ s row, γ2 s = some row → γ s = some row := fun s row z => by
    have hv := g2 s row z
    have e : s ≠ one := fun e => o2 (e ▸ hv)
    have hu : s ∉ U := fun hu => d1 s hu hv
    simp only [γ, if_neg e, if_neg hu, if_pos hv]; exact z
  have k3 : ∀ s row, γ3 s = some row → γ s = some row := fun s row z => by
    have hv := g3 s row z
    have e : s ≠ one := fun e => o3 (e ▸ hv)
    have hu : s ∉ U := fun hu => d2 s hu hv
    have hv' : s ∉ V := fun hu => d3 s hu hv
    simp only [γ, if_neg e, if_neg hu, if_neg hv']; exact z
  have habc := (ha.app hb d1).app hc (fun s hs hw => by
    rcases List.mem_append.mp hs with h | h
    · exact d2 s h hw
    · exact d3 s h hw)
  have hlab : (labelsOf (a ++ (p ++ [ls1 "if" one] ++ b ++ [e, ls1 "mark" one]) ++ c ++ [l])).Perm (one :: labelsOf (a ++ b ++ c)) := by
    rw [labelsOf_app, labelsOf_app, labelsOf_app, labelsOf_app, labelsOf_app, labelsOf_app, labels_pln hp, labels_leave hl, labels_jump (w := "if") (by decide +kernel), labels_no (leave_lab he), labels_one, labelsOf_app (a ++ b), labelsOf_app a b]
    simp only [List.nil_append, List.append_nil]
    refine List.perm_iff_count.mpr fun z => ?_
    simp only [List.count_append, List.count_cons, List.count_nil]
    omega
  have no1 : one ∉ labelsOf (a ++ b ++ c) := fun z => by
    rcases List.mem_append.mp (habc.labs _ z) with z | z
    · rcases List.mem_append.mp z with z | z
      · exact o1 z
      · exact o2 z
    · exact o3 z
  refine ⟨⟨γ, [], x3, Lay.app (lay_leave hl p3) (Lay.app (Lay.mono k3 (fun _ h => h) l3) (Lay.app (Lay.app (Lay.app (as := [e]) (lay_lab (line_lab hm4 hw) hm4 k0 p2) (lay_leave he p2)) (Lay.app (Lay.mono k2 (fun _ h => h) l2) (Lay.app (lay_lab (line_lab hi4 hw) hi4 k0 p1) (lay_pln hp)))) (Lay.mono k1 (fun _ h => h) l1)))⟩, hlab.nodup_iff.mpr (List.nodup_cons.mpr ⟨no1, habc.nodup⟩), fun d hd hj => ?_, ⟨l, last_app _ l, leave_end hl⟩, by rw [List.length_append]; exact Nat.succ_pos _⟩
  refine hlab.mem_iff.mpr ?_
  have inAB : labD d ∈ labelsOf (a ++ b ++ c) → labD d ∈ one :: labelsOf (a ++ b ++ c) := fun z => List.mem_cons_of_mem _ z
  rcases List.mem_append.mp hd with hd | hd
  · rcases List.mem_append.mp hd with hd | hd
    · rcases List.mem_append.mp hd with hd | hd
      · exact inAB (habc.jumps d (List.mem_append_left _ (List.mem_append_left _ hd)) hj)
      · rcases List.mem_append.mp hd with hd | hd
        · rcases List.mem_append.mp hd with hd | hd
          · rcases List.mem_append.mp hd with hd | hd
            · exact jump_pln hp hd hj
            · rw [List.mem_singleton.mp hd]; exact List.mem_cons_self
          · exact inAB (habc.jumps d (List.mem_append_left _ (List.mem_append_right _ hd)) hj)
        · rcases List.mem_cons.mp hd with rfl | hd
          · exact absurd (.inr hj) (nolab (leave_lab he))
          · rw [List.mem_singleton.mp hd]; exact List.mem_cons_self
    · exact inAB (habc.jumps d (List.mem_append_right _ hd) hj)
  · rw [List.mem_singleton.mp hd] at hj
    exact absurd (.inr hj) (nolab (leave_lab hl))
end
end Fl
end
section
set_option Elab.async false
set_option linter.all false
set_option maxRecDepth 100000
set_option maxHeartbeats 4000000
namespace Fx
open PySem PySem.Spec PyProof.Rows L2
open Evl (Ex fresh_back)
section
variable {X : Cx} {σ : L2.St} {H : Hp} {Q : VK} {pos : Pos}
/-- the pairs of a display, one behind the other -/
def RPairs (X : Cx) (σ : L2.St) : List (Option Expr) → List Expr → Hp → (List (V × V) → Hp → Prop) → Prop
  | some k :: ks, v :: vs, H, QA => RE X k σ H fun x H1 => RE X v σ H1 fun y H2 => RPairs X σ ks vs H2 fun ps H3 => QA ((x, y) :: ps) H3
  | _, _, H, QA => QA [] H
theorem rp_cons {k v : Expr} {ks : List (Option Expr)} {vs : List Expr} {QA} (h : RE X k σ H fun x H1 => RE X v σ H1 fun y H2 => RPairs X σ ks vs H2 fun ps H3 => QA ((x, y) :: ps) H3) : RPairs X σ (some k :: ks) (v :: vs) H QA := h
theorem rp_nil {QA : List (V × V) → Hp → Prop} (h : QA [] H) : RPairs X σ [] [] H QA := h
theorem pps_of : ∀ (keys : List (Option Expr)) (values : List Expr), keys.all (·.isSome) = true → keys.length = values.length → ∃ trs, PPs X pos keys values trs ∧ ∀ σ H QA, RPairs X σ keys values H QA → tPairs trs σ H QA
  | [], [], _, _ => ⟨[], pps_nil, fun _ _ _ h => h⟩
  | [], _ :: _, _, h => nomatch h
  | _ :: _, [], _, h => nomatch h
  | none :: _, _ :: _, h, _ => nomatch h
  | some k :: ks, v :: vs, ha, hl => by
    obtain ⟨trs, hp, hq⟩ := pps_of ks vs (by simpa using ha) (by simpa using hl)
    exact ⟨_, pps_cons pe_RE pe_RE hp, fun σ H QA h => h.mono fun x H1 q => q.mono fun y H2 q => hq _ _ _ q⟩
theorem re_disp {keys : List (Option Expr)} {values : List Expr} (h : ∀ p, H p = none → RPairs X σ keys values (upd H p (.dK [])) fun ps H2 => H2 p = some (.dK []) ∧ ∃ kvs : List (Key × V), ps = kvs.map (fun kv => (kV kv.1, kv.2)) ∧ kvs.length ≤ 15 ∧ Q (.ref p) (upd H2 p (.dK (mergeK [] kvs))))
    (ha : keys.all (·.isSome) = true := by rfl) (hl : keys.length = values.length := by rfl) (h0 : keys ≠ [] := by exact List.cons_ne_nil _ _) (h15 : keys.length ≤ 15 := by exact Nat.le_of_ble_eq_true rfl) : RE X (.Dict keys values pos) σ H Q := by
  obtain ⟨trs, hp, hq⟩ := pps_of (X := X) (pos := pos) keys values ha hl
  exact re_of (pe_disp hp ha hl h0 h15) fun p hp' => hq _ _ _ (h p hp')
/-- a call of a def without arguments -/
theorem re_call0 {k j : Nat} {x : Str} {sp : Sp} {p : Pos} (c : Fl.Cl X.prog X.w X.K X.mg X.base CX0 k x sp) (hr : Room j X.A) (h : sp [] H Q E0) (hk : k ≤ j := by decide) (hg : Gl X x := by rfl)
    (hd : (x == ("__debug__" : Str)) = false := by decide) : RE X (.Call (.Name x p) [] [] pos) σ H Q := by
  obtain ⟨f, fd, ps, hm, hk', hb, F⟩ := c.ex
  exact re_of (pe_call0 F (hr.mono hk) hg hm hk' hb .nil pass0 (hdb := hd)) h
end
end Fx

namespace Fx
open PySem PySem.Spec PyProof.Rows L2
open Evl (Ex fresh_back)
section
variable {X : Cx} {a b : Expr} {σ : L2.St} {H : Hp} {Q : VK} {pos : Pos}
/-- == of a tuple with the empty one -/
theorem op_eqT0 (hu : X.A.units < cLine) : OpR X (compareOp .Eq) (fun x y H Q => ∃ a xs b, x = .ref a ∧ y = .ref b ∧ SqT X.K H a xs ∧ SqT X.K H b [] ∧ Q (.bl xs.isEmpty) H) := by
  intro pins s σ H x y v u Q I rx ry h
  obtain ⟨a, xs, b, rfl, rfl, ha, hb, q⟩ := h
  obtain rfl : v = Value.ref a := rx
  obtain rfl : u = Value.ref b := ry
  obtain ⟨its, e1, ⟨o, h1, h2, n, h3⟩, _⟩ := I.tuple ha
  obtain ⟨jts, e2, ⟨o', g1, g2, m, g3⟩, _⟩ := I.tuple hb
  have hj : jts = [] := by
    cases jts with
    | nil => rfl
    | cons x r => cases e2
  subst hj
  refine SeqAt.RcAt.tuples (items := its.toArray) (items2 := #[]) (e := fun _ => true) ⟨o, h1, h2, n, h3⟩ ⟨o', g1, g2, m, g3⟩ hu (fun j _ hj => absurd hj (Nat.not_lt_zero _)) _ _ _ _ ⟨.bl xs.isEmpty, H, I, ?_, q⟩
  show Value.bool _ = Value.bool _
  congr 1
  have hl : xs.length = its.length := e1.length
  cases xs with
  | nil =>
    have : its = [] := List.eq_nil_of_length_eq_zero hl.symm
    subst this
    rfl
  | cons x r =>
    cases its with
    | nil => cases hl
    | cons y its => simp
theorem re_ixS (h : RE X a σ H fun x H1 => RE X b σ H1 fun y H2 => ∃ z i c, x = .str z ∧ y = .int i ∧ z.length ≤ sizeLine ∧ atI z.cps.toList i = some c ∧ Q (.str ⟨#[c]⟩) H2) (hs : PlainIx b := by exact fun _ _ => rfl) : RE X (.Subscript a b pos) σ H Q := re_of (pe_ix ix_str pe_RE pe_RE hs) h
end
end Fx

namespace Fx
open PySem PySem.Spec PyProof.Rows L2
open Evl (Ex fresh_back)
section
variable {X : Cx} {e f o i value : Expr} {σ : L2.St} {H : Hp} {Q : VK} {D : Ends} {pos apos cpos pos' : Pos}
theorem re_insert (h : RE X o σ H fun x H1 => ∃ l, x = .ref l ∧ (∃ zs, H1 l = some (.lst zs)) ∧ RE X e σ H1 fun y H2 => RE X f σ H2 fun z H3 => ∃ xs i, y = .int i ∧ H3 l = some (.lst xs) ∧ xs.length < sizeLine ∧ 0 ≤ i ∧ i < 2 ^ 63 ∧ Q .non (upd H3 l (.lst (xs.take i.toNat ++ [z] ++ xs.drop i.toNat)))) (base : attributeBase o "insert" X.env (eval o X.env) = eval o X.env := by rfl) (line : (apos.endLine == cpos.line) = true := by rfl)
    (few : (((backTo cpos (starEach [e, f] X.env)).all (fun x => !x.1) && (backToKw cpos (keywordEach [] X.env)).all (fun x => x.1.isSome)) && decide (([e, f] : List Expr).length + ([] : List Keyword).length + (if ([] : List Keyword).isEmpty = true then 0 else 1) < 30)) = true := by rfl)
    (h1 : starEach [e, f] X.env = (false, eval e X.env) :: starEach [f] X.env := by rfl) (h2 : starEach [f] X.env = (false, eval f X.env) :: starEach [] X.env := by rfl) (h3 : (backTo cpos (starEach [f] X.env)).any (·.1) = false := by rfl) : RE X (.Call (.Attribute o "insert" apos) [e, f] [] cpos) σ H Q :=
  re_of (pe_bm PySem.F.plainAttrs_list PySem.F.slot_list_insert PySem.F.type_list_insert mt_insert pe_RE pa_RA base few line h1 h3) (h.mono fun x H1 ⟨l, ex, ⟨zs, hz⟩, q⟩ => by
    subst ex
    exact ⟨.inl ⟨rfl, _, SqL.of hz⟩, ra_cons (hs := h1) (q.mono fun y H2 q => ra_cons (hs := h2) (q.mono fun z H3 ⟨xs, i, ey, hl, a, b, c, q⟩ => ra_nil ⟨l, xs, i, z, rfl, by rw [ey], hl, a, b, c, q⟩))⟩)
theorem re_popAt (h : RE X o σ H fun x H1 => ∃ l, x = .ref l ∧ (∃ zs, H1 l = some (.lst zs)) ∧ RE X e σ H1 fun y H2 => ∃ xs i v, y = .int i ∧ H2 l = some (.lst xs) ∧ 0 ≤ i ∧ i < xs.length ∧ xs.length ≤ 1000 ∧ xs[i.toNat]? = some v ∧ Q v (upd H2 l (.lst (xs.eraseIdx i.toNat)))) (base : attributeBase o "pop" X.env (eval o X.env) = eval o X.env := by rfl) (line : (apos.endLine == cpos.line) = true := by rfl)
    (few : (((backTo cpos (starEach [e] X.env)).all (fun x => !x.1) && (backToKw cpos (keywordEach [] X.env)).all (fun x => x.1.isSome)) && decide (([e] : List Expr).length + ([] : List Keyword).length + (if ([] : List Keyword).isEmpty = true then 0 else 1) < 30)) = true := by rfl)
    (h1 : starEach [e] X.env = (false, eval e X.env) :: starEach [] X.env := by rfl) (h3 : (backTo cpos (starEach [] X.env)).any (·.1) = false := by rfl) : RE X (.Call (.Attribute o "pop" apos) [e] [] cpos) σ H Q :=
  re_of (pe_bm PySem.F.plainAttrs_list PySem.F.slot_list_pop PySem.F.type_list_pop mt_popAt pe_RE pa_RA base few line h1 h3) (h.mono fun x H1 ⟨l, ex, ⟨zs, hz⟩, q⟩ => by
    subst ex
    refine ⟨.inl ⟨rfl, _, SqL.of hz⟩, ra_cons (hs := h1) (q.mono fun y H2 ⟨xs, i, v, ey, hl, a, b, c, hv, q⟩ => ra_nil ⟨l, xs, i, i.toNat, v, rfl, by rw [ey], hl, by omega, by omega, ?_, hv, q⟩)⟩
    unfold seqIndex?
    simp only [a, b]
    first | rfl | (simp; omega))
theorem rs_setItem (h : RE X value σ H fun v H1 => RE X o σ H1 fun x H2 => RE X i σ H2 fun y H3 => ∃ p xs k, x = .ref p ∧ y = .int k ∧ H3 p = some (.lst xs) ∧ 0 ≤ k ∧ k < xs.length ∧ D.nx σ (upd H3 p (.lst (xs.set k.toNat v))))
    (hs : swapsWithSole [.Subscript o i pos'] value pos.line X.env = pure false := by rfl) (ha : swappedStores [.Subscript o i pos'] value X.env = pure none := by rfl) (hb : (assignEach [.Subscript o i pos'] X.env).map (·.2) = [assign (.Subscript o i pos') X.env] := by rfl)
    (hp : PG X (.Subscript o i pos') (gSub (RE X o) (RE X i) rSetL) := by exact pg_sub pe_RE pe_RE set_list) : RS X (.Assign [.Subscript o i pos'] value pos) D σ H :=
  rs_of (ps_asg pe_RE hp hs ha hb) (h.mono fun v H1 q => q.mono fun x H2 q => q.mono fun y H3 ⟨p, xs, k, ex, ey, hp, h0, h1, q⟩ => ⟨p, xs, k, k.toNat, ex, ey, hp, by
    unfold ixN
    rw [if_pos h0, if_pos h1], q⟩)
end
section
variable {X : Cx} {elt : Expr} {scope : Scope} {own : List (Str × Nat)} {g : TG} {tg iter : Expr} {σ : L2.St} {H : Hp} {Q : VK} {pos : Pos}
/-- [elt for target in iter] whose turns change what stands in the heap -/
theorem re_lcS (hc : X.calm = true) (hN : X.N.Nodup) (ok : BlkOk X.N X.env.scope scope own) (hg : ∀ s H C cl fp, PG (Blk X scope s H C cl fp) tg g) (gm : GoodG g)
    (h : RI X tg iter σ H fun J H1 => ∃ (n : Nat) (G : Hp → Prop) (Y : Nat → Hp → V → Hp → Prop) (S : Addr → Nat → Hp → List V → Prop), Walk J n G Y ∧ n ≤ 40000 ∧ (∀ Dl i H' acc, S Dl i H' acc → G H') ∧ (∀ Dl, H1 Dl = none → S Dl 0 (upd H1 Dl (.lst [])) []) ∧
      (∀ Dl i x H2 H3 acc, H1 Dl = none → i < n → H2 Dl = some (.lst acc) → acc.length = i → S Dl i H2 acc → Y i H2 x H3 → g x (wipe σ (own.map (·.2))) H3 fun σ2 H4 => wipe σ2 (own.map (·.2)) = wipe σ (own.map (·.2)) ∧ ∀ s0 H0 C cl fp,
        RE (Blk X scope s0 H0 C cl fp) elt σ2 H4 fun y H6 => H6 Dl = some (.lst acc) ∧ S Dl (i + 1) (upd H6 Dl (.lst (acc ++ [y]))) (acc ++ [y])) ∧
      ∀ Dl acc H2, H1 Dl = none → H2 Dl = some (.lst acc) → acc.length = n → S Dl n H2 acc → Q (.ref Dl) H2)
    (hs : ∀ x, foldedSetIterable iter X.env x = pure x := by intro _; rfl) : RE X (.ListComp elt [⟨tg, iter, [], 0⟩] scope pos) σ H Q := by
  refine re_of (pe_lc (own := own) (g := g) (tt := tYes) (te := fun σ H Q => ∀ s0 H0 C cl fp, RE (Blk X scope s0 H0 C cl fp) elt σ H Q) hc hN pi_RI ok hg (fun _ _ _ _ _ => pts_nil) (fun s H C cl fp => ⟨fun pins s' σ H' Q I q => (q s H C cl fp).run pins s' I⟩) hs) ?_
  refine h.mono fun J H1 ⟨n, G, Y, S, w, hn, hG, h0, turn, fin⟩ Dl hD => ?_
  refine lc_it w (g := g) (tt := tYes) (te := fun σ H Q => ∀ s0 H0 C cl fp, RE (Blk X scope s0 H0 C cl fp) elt σ H Q) (fun i H' => ∃ acc, H' Dl = some (.lst acc) ∧ acc.length = i ∧ S Dl i H' acc)
    ⟨[], upd_same, rfl, h0 Dl hD⟩ (fun i H' _ ⟨acc, _, _, p⟩ => hG Dl i H' acc p) (fun i x H2 H3 hi p y => ?_) fun H' ⟨acc, a1, a2, a3⟩ => fin Dl acc H' hD a1 a2 a3
  obtain ⟨acc, a1, a2, a3⟩ := p
  refine gm _ _ _ _ _ (fun σ2 H4 ⟨hw, t⟩ => ⟨hw, ?_⟩) (turn Dl i x H2 H3 acc hD hi a1 a2 a3 y)
  simp only [tYes, if_true]
  intro s0 H0 C cl fp
  refine (t s0 H0 C cl fp).mono fun y' H6 ⟨h6, k⟩ => ?_
  exact ⟨acc, h6, Nat.lt_of_lt_of_le (show acc.length < 100000 by omega) (by decide), acc ++ [y'], upd_same, by rw [List.length_append]; simp [a2], k⟩
end
end Fx
end
section
set_option Elab.async false
set_option linter.all false
set_option maxRecDepth 100000
set_option maxHeartbeats 4000000
namespace Fx
open PySem PySem.Spec PyProof.Rows L2
open Evl (Ex fresh_back)
section
variable {X : Cx} {a b o e f lo hi : Expr} {es : List Expr} {σ : L2.St} {H : Hp} {Q : VK} {pos p p2 apos : Pos} {D : Ends}
/-- pieces of a text -/
theorem re_sto (h : RE X e σ H fun x H1 => RE X f σ H1 fun y H2 => ∃ i z, y = .int i ∧ x = .str z ∧ z.length ≤ sizeLine ∧ Q (.str (cutS z none (some i))) H2) : RE X (.Subscript e (.Slice none (some f) none p2) pos) σ H Q :=
  re_of (pe_slice sl_str pe_RE po_none (po_some pe_RE)) (h.mono fun x H1 q => q.mono fun y H2 ⟨i, z, ey, ex, hz, q⟩ => ⟨i, ey, z, ex, hz, q⟩)
theorem re_sfrom (h : RE X e σ H fun x H1 => RE X f σ H1 fun y H2 => ∃ i z, y = .int i ∧ x = .str z ∧ z.length ≤ sizeLine ∧ Q (.str (cutS z (some i) none)) H2) : RE X (.Subscript e (.Slice (some f) none none p2) pos) σ H Q :=
  re_of (pe_slice sl_str pe_RE (po_some pe_RE) po_none) (h.mono fun x H1 q => q.mono fun y H2 ⟨i, z, ey, ex, hz, q⟩ => ⟨i, ey, z, ex, hz, q⟩)
/-- pieces of a list -/
theorem re_lto (h : RE X e σ H fun x H1 => RE X f σ H1 fun y H2 => ∃ i l xs, y = .int i ∧ x = .ref l ∧ SqL X.K H2 l xs ∧ ∀ p, H2 p = none → Q (.ref p) (upd H2 p (.lst (cutV xs none (some i))))) : RE X (.Subscript e (.Slice none (some f) none p2) pos) σ H Q :=
  re_of (pe_slice sl_list pe_RE po_none (po_some pe_RE)) (h.mono fun x H1 q => q.mono fun y H2 ⟨i, l, xs, ey, ex, hs, q⟩ => ⟨i, ey, l, xs, ex, hs, q⟩)
theorem re_lfrom (h : RE X e σ H fun x H1 => RE X f σ H1 fun y H2 => ∃ i l xs, y = .int i ∧ x = .ref l ∧ SqL X.K H2 l xs ∧ ∀ p, H2 p = none → Q (.ref p) (upd H2 p (.lst (cutV xs (some i) none)))) : RE X (.Subscript e (.Slice (some f) none none p2) pos) σ H Q :=
  re_of (pe_slice sl_list pe_RE (po_some pe_RE) po_none) (h.mono fun x H1 q => q.mono fun y H2 ⟨i, l, xs, ey, ex, hs, q⟩ => ⟨i, ey, l, xs, ex, hs, q⟩)
theorem re_join (h : RE X o σ H fun x H1 => (∃ a, x = .str a) ∧ RE X e σ H1 fun y H2 => ∃ a p ys, x = .str a ∧ y = .ref p ∧ SqL X.K H2 p (ys.map V.str) ∧ (ys.map (·.length)).sum + ys.length * a.length ≤ 16777216 ∧ Q (.str (Str.join a ys)) H2)
    (hs : starEach [e] X.env = [(false, eval e X.env)] := by rfl) (hbase : attributeBase o "join" X.env (eval o X.env) = eval o X.env := by rfl) (hline : (apos.endLine == pos.line) = true := by rfl) : RE X (.Call (.Attribute o "join" apos) [e] [] pos) σ H Q :=
  re_of (pe_join pe_RE pe_RE hs hbase hline) (h.mono fun x H1 ⟨hx, q⟩ => ⟨hx, q.mono fun y H2 ⟨a, p, ys, ex, ey, hl, hz, q⟩ => ⟨a, p, ys, ex, by rw [ey], .inl hl, hz, by rw [TL.join_eq]; exact q⟩⟩)
/-- target = value, stored in order -/
theorem rs_asg {tg : Expr} {g : TG} (hg : PG X tg g) (h : RE X e σ H fun x H1 => g x σ H1 D.nx) (hs : swapsWithSole [tg] e pos.line X.env = pure false := by rfl) (hw : swappedStores [tg] e X.env = pure none := by rfl)
    (h1 : (assignEach [tg] X.env).map (·.2) = [assign tg X.env] := by rfl) : RS X (.Assign [tg] e pos) D σ H := rs_of (ps_asg pe_RE hg hs hw h1) h
end
end Fx
end
section
set_option Elab.async false
set_option linter.all false
set_option maxRecDepth 100000
set_option maxHeartbeats 4000000
namespace Fl
open PySem PySem.Spec PyProof.Rows L2 Fx
open Evl (Ex fresh_back)
/-! ### drawn words: mathematics -/
def small (c : Nat) : Prop := 97 ≤ c ∧ c ≤ 122
theorem isWord_tl {s : Str} : isWordS s = true ↔ 1 ≤ (TL.tl s).length ∧ (TL.tl s).length ≤ 8 ∧ ∀ c ∈ TL.tl s, small c := by
  unfold isWordS small
  have : s.length = (TL.tl s).length := (Array.length_toList).symm
  rw [Bool.and_eq_true, Bool.and_eq_true, decide_eq_true_eq, decide_eq_true_eq, List.all_eq_true, this, and_assoc]
  refine and_congr Iff.rfl (and_congr Iff.rfl (forall_congr' fun c => ?_))
  refine imp_congr Iff.rfl ?_
  rw [Bool.and_eq_true, decide_eq_true_eq, decide_eq_true_eq]
def lettersS : Str := "abcdefghijklmnopqrstuvwxyz"
theorem letters_tl : TL.tl lettersS = List.range' 97 26 := by decide +kernel
theorem letter_at {i : Nat} {c : Nat} (h : (TL.tl lettersS)[i]? = some c) : c = 97 + i ∧ i < 26 := by
  rw [letters_tl] at h
  have hi : i < 26 := by
    have := (List.getElem?_eq_some_iff.mp h).1
    rwa [List.length_range'] at this
  rw [List.getElem?_range' hi] at h
  have := Option.some.inj h
  exact ⟨by omega, hi⟩
theorem tl_one (c : Nat) : TL.tl ⟨#[c]⟩ = [c] := rfl
theorem tl_len (s : Str) : (TL.tl s).length = s.length := Array.length_toList
theorem tl_cut_to {z : Str} {i : Nat} (h : i ≤ z.length) : TL.tl (cutS z none (some (i : Int))) = (TL.tl z).take i := by
  show ((z.cps.toList.drop (HT.sIx z.length 0 none)).take (HT.sIx z.length z.length (some (i : Int)) - HT.sIx z.length 0 none)) = _
  rw [HT.sIx_none, HT.sIx_nat, List.drop_zero, Nat.sub_zero, Nat.min_eq_left h]
theorem tl_cut_from {z : Str} {i : Nat} (h : i ≤ z.length) : TL.tl (cutS z (some (i : Int)) none) = (TL.tl z).drop i := by
  show ((z.cps.toList.drop (HT.sIx z.length 0 (some (i : Int)))).take (HT.sIx z.length z.length none - HT.sIx z.length 0 (some (i : Int)))) = _
  rw [HT.sIx_none, HT.sIx_nat, Nat.min_eq_left h]
  refine List.take_of_length_le ?_
  rw [List.length_drop]
  exact Nat.le_of_eq (by rw [← tl_len])
/-- the word of a letter -/
def wordK (stem : Str) (at_ : Nat) (c : Nat) : Str := cutS stem none (some (at_ : Int)) ++ ⟨#[c]⟩ ++ cutS stem (some (at_ : Int)) none
theorem wordK_tl {stem : Str} {at_ c : Nat} (h : at_ ≤ stem.length) : TL.tl (wordK stem at_ c) = (TL.tl stem).take at_ ++ [c] ++ (TL.tl stem).drop at_ := by
  unfold wordK
  rw [TL.tl_append, TL.tl_append, tl_cut_to h, tl_cut_from h, tl_one]
theorem wordK_word {stem : Str} {at_ c : Nat} (h : at_ ≤ stem.length) (h3 : stem.length ≤ 7) (hs : ∀ x ∈ TL.tl stem, small x) (hc : small c) : isWordS (wordK stem at_ c) = true := by
  rw [isWord_tl, wordK_tl h]
  have hl := tl_len stem
  refine ⟨?_, ?_, fun x hx => ?_⟩
  · rw [List.length_append, List.length_append, List.length_singleton]; omega
  · rw [List.length_append, List.length_append, List.length_singleton, List.length_take, List.length_drop]; omega
  · rcases List.mem_append.mp hx with hx | hx
    · rcases List.mem_append.mp hx with hx | hx
      · exact hs x (List.mem_of_mem_take hx)
      · rw [List.mem_singleton.mp hx]; exact hc
    · exact hs x (List.mem_of_mem_drop hx)
theorem wordK_inj {stem : Str} {at_ c c' : Nat} (h : at_ ≤ stem.length) (e : wordK stem at_ c = wordK stem at_ c') : c = c' := by
  have e := congrArg TL.tl e
  rw [wordK_tl h, wordK_tl h] at e
  have e := List.append_inj_left' e rfl
  have e := List.append_inj_right' e rfl
  exact (List.cons.inj e).1
/-- the letters are unlike: the step has no part in common with 26 -/
def letK (first step k : Int) : Nat := (97 + (first + step * k) % 26).toNat
def stepsL : List Int := [1, 3, 5, 7, 9, 11, 15, 17]
theorem letK_small (first step k : Int) : small (letK first step k) := by
  unfold small letK
  have h0 := Int.emod_nonneg (first + step * k) (by decide : (26 : Int) ≠ 0)
  have h1 := Int.emod_lt_of_pos (first + step * k) (by decide : (0 : Int) < 26)
  omega
theorem letK_inj {first step : Int} (hs : step ∈ stepsL) {j k : Nat} (hj : j < 26) (hk : k < 26) (e : letK first step j = letK first step k) : j = k := by
  unfold letK at e
  have h0 := Int.emod_nonneg (first + step * j) (by decide : (26 : Int) ≠ 0)
  have h2 := Int.emod_nonneg (first + step * k) (by decide : (26 : Int) ≠ 0)
  have e' : (first + step * j) % 26 = (first + step * k) % 26 := by omega
  unfold stepsL at hs
  simp only [List.mem_cons, List.not_mem_nil, or_false] at hs
  rcases hs with rfl | rfl | rfl | rfl | rfl | rfl | rfl | rfl <;> omega
def wordsAll (stem : Str) (at_ : Nat) (first step : Int) (n : Nat) : List Str := (List.range n).map fun k : Nat => wordK stem at_ (letK first step (k : Nat))
theorem wordsAll_nodup {stem : Str} {at_ : Nat} {first step : Int} (h : at_ ≤ stem.length) (hs : step ∈ stepsL) : (wordsAll stem at_ first step 26).Nodup := by
  unfold wordsAll
  refine List.pairwise_map.mpr (List.Pairwise.imp_of_mem (fun {j k} hj hk ne e => ne ?_) (List.nodup_range (n := 26)))
  exact letK_inj hs (List.mem_range.mp hj) (List.mem_range.mp hk) (wordK_inj h e)
end Fl
end
section
set_option Elab.async false
set_option linter.all false
set_option maxRecDepth 100000
set_option maxHeartbeats 4000000
namespace Fl
open PySem PySem.Spec PyProof.Rows L2 Fx
open Evl (Ex fresh_back)
theorem pen_c {H : Hp} {pa c c' : Addr} {t l t' l' : Int} (h : H pa = some (.dK (penV c t l))) (h' : H pa = some (.dK (penV c' t' l'))) : c = c' := by
  rw [h] at h'
  have e := HO.dK.inj (Option.some.inj h')
  exact V.ref.inj (Prod.mk.inj (List.cons.inj e).1).2
/-- the pen's cells stand elsewhere -/
def Away (H : Hp) (pa la : Addr) : Prop := ∃ c t l, H pa = some (.dK (penV c t l)) ∧ c ≠ la
section
variable {K : PySem.W.Frag} {H H' : Hp} {pa la : Addr} {n : Nat}
theorem Pen.away (p : Pen K H pa n) (h : H la = none) : Away H pa la := by
  obtain ⟨c, ns, t, l, h1, h2, _⟩ := p.ex
  refine ⟨c, t, l, h1, fun e => ?_⟩
  subst e
  rcases h2 with h2 | ⟨_, h2⟩
  · rw [h] at h2; cases h2
  · rw [h] at h2; cases h2
theorem Away.step (a : Away H pa la) (e : exP pa H H') : Away H' pa la := by
  obtain ⟨c, t, l, h1, h2⟩ := a
  obtain ⟨t', l', h⟩ := e.cells _ _ _ h1
  exact ⟨c, t', l', h, h2⟩
theorem Away.mut {o : HO} (a : Away H pa la) (hne : pa ≠ la) : Away (upd H la o) pa la := by
  obtain ⟨c, t, l, h1, h2⟩ := a
  exact ⟨c, t, l, by rw [upd_ne hne]; exact h1, h2⟩
theorem Pen.mut {o : HO} (p : Pen K H pa n) (a : Away H pa la) (hne : pa ≠ la) : Pen K (upd H la o) pa n := by
  obtain ⟨c, ns, t, l, h1, h2, h3⟩ := p.ex
  obtain ⟨c', t', l', g1, g2⟩ := a
  have e := pen_c h1 g1
  rw [← e] at g2
  refine ⟨c, ns, t, l, by rw [upd_ne hne]; exact h1, ?_, h3⟩
  rcases h2 with h2 | ⟨ob, h2⟩
  · exact .inl (by rw [upd_ne g2]; exact h2)
  · exact .inr ⟨ob, by rw [upd_ne g2]; exact h2⟩
theorem Pen.ne_new (p : Pen K H pa n) (h : H la = none) : pa ≠ la := fun e => by
  obtain ⟨kvs, hp⟩ := p.dict
  rw [e, h] at hp
  cases hp
theorem exP.mut {H0 : Hp} {o : HO} (e : exP pa H0 H) (h0 : H0 la = none) (hne : pa ≠ la) : exP pa H0 (upd H la o) := ⟨fun b u hb hn => by
  rw [upd_ne (ne_of_none hb h0)]; exact e.but b u hb hn, fun c t l h => by
  obtain ⟨t', l', h⟩ := e.cells c t l h
  exact ⟨t', l', by rw [upd_ne hne]; exact h⟩⟩
end
section
variable {K : PySem.W.Frag} {H : Hp}
theorem DA.take : ∀ {vs : List V} {ds : List PyData} (i : Nat), DA K H vs ds → DA K H (vs.take i) (ds.take i)
  | [], _, i, h => by cases h; simp only [List.take_nil]; exact .nil
  | v :: vs, _, 0, h => by cases h; exact .nil
  | v :: vs, _, i + 1, h => by cases h with | cons a b => exact .cons a (DA.take i b)
theorem DA.drop : ∀ {vs : List V} {ds : List PyData} (i : Nat), DA K H vs ds → DA K H (vs.drop i) (ds.drop i)
  | [], _, i, h => by cases h; simp only [List.drop_nil]; exact .nil
  | v :: vs, _, 0, h => h
  | v :: vs, _, i + 1, h => by cases h with | cons a b => exact DA.drop i b
theorem DA.set {v : V} {d : PyData} (hd : D K H v d) : ∀ {vs : List V} {ds : List PyData} (i : Nat), DA K H vs ds → DA K H (vs.set i v) (ds.set i d)
  | [], _, i, h => by cases h; exact .nil
  | x :: vs, _, 0, h => by cases h with | cons a b => exact .cons hd b
  | x :: vs, _, i + 1, h => by cases h with | cons a b => exact .cons a (DA.set hd i b)
end
end Fl
end
section
set_option Elab.async false
set_option linter.all false
set_option maxRecDepth 100000
set_option maxHeartbeats 4000000
namespace Fl
open PySem PySem.Spec PyProof.Rows L2 Fx
open Evl (Ex fresh_back)
/-! ### drawn words: the law's def -/
theorem Pen.upto {K : PySem.W.Frag} {H : Hp} {pa : Addr} {n m : Nat} (p : Pen K H pa n) (h : n ≤ m) : Pen K H pa m := by
  obtain ⟨c, ns, t, l, h1, h2, h3, h4, h5, h6⟩ := p.ex
  exact ⟨c, ns, t, l, h1, h2, h3, h4, by omega, h6⟩
section
variable {P : Program} {w : World} {K : PySem.W.Frag} {mg : Str → Option Value} {base : Heap} {f : Addr} {fd : FuncData}
/-- a pick from a text -/
def sp_pickS (K : PySem.W.Frag) : Sp := fun vs H Q _ => ∃ pa z n, vs = [.ref pa, .str z] ∧ 0 < z.length ∧ z.length ≤ 1000 ∧ n ≤ 1000000 ∧ Pen K H pa n ∧ ∀ c H', c ∈ TL.tl z → exP pa H H' → Pen K H' pa (n + 1) → Q (.str ⟨#[c]⟩) H'
theorem ok_pickS (F : Fun K "_law_pick" "_law_pick" s_pick f fd) (G : Gb mg) (c1 : Cl P w K mg base CX0 1 "_law_draw" (sp_draw K)) : FnOk P w K mg base CX0 2 f fd nm_pick (sp_pickS K) := by
  refine F.ok sc_pick (fun vs H Q E h => ?_) (fun cdv A outer s H vs Q E hr h => ⟨RB _ _, pss_RB, ?_⟩)
  · obtain ⟨_, _, _, rfl, _⟩ := h; rfl
  obtain ⟨pa, z, n, rfl, h0, h1, hn, pen, q⟩ := h
  have hz : z.length ≤ sizeLine := Nat.le_trans h1 (by rw [sizeLine_eq]; decide)
  refine rb_one <| rs_ret <| re_ixS <| re_var 1 rfl <| re_call c1 hr <| ra_cons <| re_var 0 rfl <| ra_cons <| re_cb call_len G.len <| ra_cons <| re_var 1 rfl <| ra_nil ⟨_, z.length, rfl, ⟨hz, rfl⟩, ra_nil ⟨pa, (z.length : Nat), n, rfl, by omega, by omega, hn, pen, fun r H' r0 r1 e pen' => ?_⟩⟩
  obtain ⟨c, hc, hm⟩ := atI_in (xs := TL.tl z) r0 (by rw [tl_len]; exact r1)
  exact ⟨z, r, c, rfl, rfl, hz, hc, q c H' hm e pen'⟩
abbrev nm_words : List Str := ["_law_pen_here", "_law_many", "_law_letters", "_law_stem", "_law_at", "_law_first", "_law_step", "_law_found", "_law_k", "_law_word"]
theorem sc_words : FnScope nm_words ["_law_pen_here", "_law_many"] (defScope s_words) := ⟨rfl, rfl, rfl, by decide +kernel, rfl, by decide +kernel, by decide +kernel⟩
def Words (ws : List Str) (m : Nat) : Prop := (∀ x ∈ ws, isWordS x = true ∧ x ≠ ("main" : Str)) ∧ ws.Nodup ∧ ws.length ≤ m ∧ ws.length ≤ 26
def sp_words (K : PySem.W.Frag) : Sp := fun vs H Q _ => ∃ (pa : Addr) (m : Nat) (n : Nat), vs = [.ref pa, .int (m : Nat)] ∧ n ≤ 900000 ∧ Pen K H pa n ∧ ∀ l ws H', Words ws m → H l = none → H' l = some (.lst (ws.map V.str)) → exP pa H H' → Pen K H' pa (n + 10) → Q (.ref l) H'
/-- texts of one small letter -/
def Ones (ys : List Str) : Prop := ∀ y ∈ ys, ∃ c, y = ⟨#[c]⟩ ∧ small c
theorem ones_len : ∀ {ys : List Str}, Ones ys → (ys.map (·.length)).sum = ys.length
  | [], _ => rfl
  | y :: r, h => by
    obtain ⟨c, rfl, _⟩ := h y List.mem_cons_self
    rw [List.map_cons, List.sum_cons, ones_len fun x hx => h x (List.mem_cons_of_mem _ hx), List.length_cons, Nat.add_comm]; rfl
theorem ones_join : ∀ {ys : List Str}, Ones ys → (TL.tl (Str.join "" ys)).length = ys.length ∧ ∀ c ∈ TL.tl (Str.join "" ys), small c
  | [], _ => ⟨rfl, fun c h => nomatch h⟩
  | [y], h => by
    obtain ⟨c, rfl, hc⟩ := h y List.mem_cons_self
    exact ⟨rfl, fun x hx => by rw [List.mem_singleton.mp hx]; exact hc⟩
  | y :: z :: r, h => by
    obtain ⟨c, rfl, hc⟩ := h y List.mem_cons_self
    obtain ⟨ih1, ih2⟩ := ones_join (ys := z :: r) fun x hx => h x (List.mem_cons_of_mem _ hx)
    have e : TL.tl (Str.join "" (⟨#[c]⟩ :: z :: r)) = [c] ++ TL.tl (Str.join "" (z :: r)) := by
      show TL.tl (⟨#[c]⟩ ++ "" ++ Str.join "" (z :: r)) = _
      rw [TL.tl_append, TL.tl_append]; rfl
    rw [e]
    refine ⟨?_, fun x hx => ?_⟩
    · rw [List.length_append, ih1]; simp; omega
    · rcases List.mem_append.mp hx with hx | hx
      · rw [List.mem_singleton.mp hx]; exact hc
      · exact ih2 x hx
theorem ok_words (F : Fun K "_law_words" "_law_words" s_words f fd) (G : Gb mg) (G2 : Gb2 mg) (c1 : Cl P w K mg base CX0 1 "_law_draw" (sp_draw K)) (c2 : Cl P w K mg base CX0 2 "_law_pick" (sp_pick K)) (c3 : Cl P w K mg base CX0 2 "_law_pick" (sp_pickS K)) : FnOk P w K mg base CX0 3 f fd ["_law_pen_here", "_law_many"] (sp_words K) := by
  refine F.ok sc_words (fun vs H Q E h => ?_) (fun cdv A outer s H vs Q E hr h => ⟨RB _ _, pss_RB, ?_⟩)
  · obtain ⟨_, _, _, rfl, _⟩ := h; rfl
  obtain ⟨pa, m, n, rfl, hn, pen, q⟩ := h
  obtain ⟨kvs, hpa⟩ := pen.dict
  refine rb_cons <| rs_set 2 (by exact sc_words.nd) <| re_str ?_
  -- the stem
  refine rb_cons <| rs_set 3 (by exact sc_words.nd) <| re_join <| re_str ⟨⟨_, rfl⟩, ?_⟩
  refine re_lcS (own := [("_law_k", 8)]) (g := gName 8) rfl (by exact sc_words.nd) (blkOk_by (N := nm_words) (sc := defScope s_words) (by decide +kernel)) (fun _ _ _ _ _ => pg_name (i := 8) (by exact sc_words.nd) rfl (Or.inl rfl)) good_name ?_
  refine ri_range (n := 0) G2.range <| ra_cons <| re_call c1 hr <| ra_cons <| re_var 0 rfl <| ra_cons <| re_int <| ra_nil ⟨pa, 4, n, rfl, by decide, by decide, by omega, pen, fun r H1 r0 r1 e1 pen1 => ra_nil ⟨r, rfl, by omega, by omega, ?_⟩⟩
  refine ⟨_, _, _, fun Dl i H' acc => ∃ ys, acc = ys.map V.str ∧ Ones ys ∧ ys.length = i ∧ exP pa H H' ∧ Pen K H' pa (n + 1 + i) ∧ Away H' pa Dl, walk_range, by omega, fun _ _ _ _ _ => trivial, fun Dl hD => ?_, ?_, ?_⟩
  · have hD0 : H Dl = none := by
      cases hh : H Dl with
      | none => rfl
      | some o =>
        by_cases e : Dl = pa
        · subst e
          obtain ⟨k1, g1⟩ := pen1.dict
          rw [hD] at g1; cases g1
        · rw [e1.but _ _ hh e] at hD; cases hD
    exact ⟨[], rfl, (fun _ h => nomatch h), rfl, e1.mut hD0 (pen1.ne_new hD), pen1.mut (pen1.away hD) (pen1.ne_new hD), (pen1.away hD).mut (pen1.ne_new hD)⟩
  · rintro Dl i x H2 H3 acc hD hi hDl hlen ⟨ys, rfl, ho, hyl, e2, pen2, aw2⟩ ⟨rfl, rfl⟩
    have hi4 : i < 4 := by omega
    refine ⟨rfl, fun s0 H0 C cl fp => ?_⟩
    refine re_call c3 hr <| ra_cons <| re_var 0 rfl <| ra_cons <| re_var 2 rfl <| ra_nil ⟨pa, lettersS, n + 1 + i, rfl, by decide +kernel, by decide +kernel, by omega, pen2, fun c H4 hc e4 pen4 => ?_⟩
    have neD : Dl ≠ pa := (pen1.ne_new hD).symm
    have hD0 : H Dl = none := by
      cases hh : H Dl with
      | none => rfl
      | some o => rw [e1.but _ _ hh neD] at hD; cases hD
    refine ⟨e4.but _ _ hDl neD, ys ++ [⟨#[c]⟩], by rw [List.map_append]; rfl, fun y hy => ?_, by rw [List.length_append, hyl]; rfl, (e2.trans e4).mut hD0 neD.symm, pen4.mut (aw2.step e4) neD.symm, (aw2.step e4).mut neD.symm⟩
    rcases List.mem_append.mp hy with hy | hy
    · exact ho y hy
    · rw [List.mem_singleton.mp hy]
      obtain ⟨j, hj, hje⟩ := List.mem_iff_getElem.mp hc
      obtain ⟨h1, h2⟩ := letter_at (i := j) (c := c) (by rw [List.getElem?_eq_getElem hj, hje])
      exact ⟨c, rfl, by unfold small; omega⟩
  rintro Dl acc H2 hD hDl hlen ⟨ys, rfl, ho, hyl, e2, pen2, aw2⟩
  have hys : ys.length ≤ 3 := by omega
  obtain ⟨j1, j2⟩ := ones_join ho
  refine ⟨"", Dl, ys, rfl, rfl, .inl (.inl hDl), (by rw [ones_len ho, show ("" : Str).length = 0 from rfl]; omega), ?_⟩
  have hstem : (Str.join "" ys).length = ys.length := by rw [← tl_len, j1]
  generalize hst : Str.join "" ys = stem at *
  have pen2 : Pen K H2 pa (n + 4) := pen2.upto (by omega)
  -- where, the first letter, the step
  refine rb_cons <| rs_asg (g := gTup K 3 (gCons (gName 4) (gCons (gName 5) (gCons (gName 6) gNil)))) (pg_tup rfl (pgs_cons (pg_name (i := 4) (by exact sc_words.nd) rfl (Or.inr rfl)) (pgs_cons (pg_name (i := 5) (by exact sc_words.nd) rfl (Or.inr rfl)) (pgs_cons (pg_name (i := 6) (by exact sc_words.nd) rfl (Or.inr rfl)) pgs_nil)))) ?_
  refine re_tup <| ra_cons <| re_call c1 hr <| ra_cons <| re_var 0 rfl <| ra_cons <| re_add <| re_cb call_len G.len <| ra_cons <| re_var 3 rfl <| ra_nil ⟨_, stem.length, rfl, ⟨Nat.le_trans (m := 10) (by omega) (by rw [sizeLine_eq]; decide), rfl⟩, re_int ⟨(stem.length : Nat), 1, rfl, rfl, ra_nil ⟨pa, (stem.length : Nat) + 1, n + 4, rfl, by omega, by omega, by omega, pen2, fun at_ H3 a0 a1 e3 pen3 => ?_⟩⟩⟩
  refine ra_cons <| re_call c1 hr <| ra_cons <| re_var 0 rfl <| ra_cons <| re_int <| ra_nil ⟨pa, 26, n + 5, rfl, by decide, by decide, by omega, pen3, fun first H4 f0 f1 e4 pen4 => ?_⟩
  refine ra_cons <| re_call c2 hr <| ra_cons <| re_var 0 rfl <| ra_cons <| re_lst <| ra_cons <| re_int <| ra_cons <| re_int <| ra_cons <| re_int <| ra_cons <| re_int <| ra_cons <| re_int <| ra_cons <| re_int <| ra_nil ⟨Nat.le_of_ble_eq_true rfl, fun p5 H5 hp5 e5 h5 => ra_nil ⟨pa, p5, _, n + 6, rfl, .inl (.inl h5), Nat.le_of_ble_eq_true rfl, Nat.le_of_ble_eq_true rfl, by omega, pen4.mono e5, fun v H6a hv e6a pen6a => ra_nil ⟨Nat.le_of_ble_eq_true rfl, fun p6 H6 hp6 e6t h6 => ⟨p6, _, rfl, .inl (.inl h6), rfl, _, _, rfl, _, _, rfl, _, _, rfl, rfl, ?_⟩⟩⟩⟩
  have e6 := e6a.trans (exP.of e6t)
  have pen6 := pen6a.mono e6t
  have hstep : ∃ step, v = .int step ∧ step ∈ stepsL := by
    simp only [List.mem_cons, List.not_mem_nil, or_false] at hv
    rcases hv with h | h | h | h | h | h <;> exact ⟨_, h, by decide⟩
  obtain ⟨step, rfl, hs⟩ := hstep
  obtain ⟨a, rfl⟩ := Int.eq_ofNat_of_zero_le a0
  have ha : a ≤ stem.length := by omega
  have e06 : exP pa H H6 := (((e2.trans e3).trans e4).trans (exP.of e5)).trans e6
  have hstep11 : 0 ≤ step ∧ step ≤ 17 := by
    revert hs; unfold stepsL
    intro hs
    simp only [List.mem_cons, List.not_mem_nil, or_false] at hs
    omega
  -- all words
  refine rb_cons <| rs_setLc (own := [("_law_k", 8)]) (g := gName 8) 7 rfl (by exact sc_words.nd) (blkOk_by (N := nm_words) (sc := defScope s_words) (by decide +kernel)) (fun _ _ _ _ _ => pg_name (i := 8) (by exact sc_words.nd) rfl (Or.inl rfl)) good_name ?_
  refine ri_range (n := 0) G2.range <| ra_cons <| re_int <| ra_nil ⟨26, rfl, by decide, by decide, ?_⟩
  refine ⟨_, _, _, fun i ys => ys = (wordsAll stem a first step i).map V.str, walk_range, by decide, fun _ _ => trivial, rfl, ?_, ?_⟩
  · rintro i x Ha Hb hi ea ⟨rfl, rfl⟩
    have hi26 : i < 26 := hi
    refine ⟨Ex.refl _, rfl, Ex.refl _, fun s0 H0 C cl fp => ?_⟩
    have hz : stem.length ≤ sizeLine := Nat.le_trans (m := 10) (by omega) (by rw [sizeLine_eq]; decide)
    have him : (0 : Int) ≤ (first + step * (0 + (i : Nat))) % 26 := Int.emod_nonneg _ (by decide)
    have him2 : (first + step * (0 + (i : Nat))) % 26 < 26 := Int.emod_lt_of_pos _ (by decide)
    obtain ⟨c, hc, _⟩ := atI_in (xs := TL.tl lettersS) (i := (first + step * (0 + (i : Nat))) % 26) him (by rw [letters_tl, List.length_range']; exact him2)
    have hcl : c = letK first step (i : Nat) := by
      obtain ⟨kk, hk⟩ := Int.eq_ofNat_of_zero_le him
      rw [hk] at hc him2
      have hc' : (TL.tl lettersS)[kk]? = some c := by
        have hlt : kk < (TL.tl lettersS).length := by rw [letters_tl, List.length_range']; omega
        have h1 := atI_nat (List.getElem?_eq_getElem hlt)
        rw [h1] at hc
        rw [List.getElem?_eq_getElem hlt]; exact hc
      have h2 := (letter_at hc').1
      unfold letK
      have : (first + step * ((i : Nat) : Int)) % 26 = kk := by rw [← hk]; congr 2; rw [Int.zero_add]
      rw [this, h2]; omega
    refine re_op op_add_str <| re_op op_add_str <| re_sto <| re_var 3 rfl <| re_var 4 rfl ⟨(a : Nat), stem, rfl, rfl, hz, ?_⟩
    refine re_ixS <| re_var 2 rfl <| re_mod <| re_int1 G.int <| re_add <| re_var 5 rfl <| re_mul <| re_var 6 rfl <| re_var 8 rfl ⟨step, _, rfl, rfl, .inl ⟨by omega, by omega⟩, first, _, rfl, rfl, _, rfl, re_int ⟨_, 26, rfl, rfl, by decide, lettersS, _, c, rfl, rfl, by decide +kernel, hc, ?_⟩⟩
    have l1 : (cutS stem none (some (a : Int))).length ≤ 3 := Nat.le_trans (cutS_length ..) (by omega)
    have l2 : (cutS stem (some (a : Int)) none).length ≤ 3 := Nat.le_trans (cutS_length ..) (by omega)
    have l3 : (⟨#[c]⟩ : Str).length = 1 := rfl
    refine ⟨_, _, rfl, rfl, Nat.le_trans (m := 10) (by omega) (by rw [sizeLine_eq]; decide), ?_⟩
    refine re_sfrom <| re_var 3 rfl <| re_var 4 rfl ⟨(a : Nat), stem, rfl, rfl, hz, _, _, rfl, rfl, ?_, Ex.refl _, fun acc hacc => ?_⟩
    · rw [Str.length_append]
      exact Nat.le_trans (m := 10) (by omega) (by rw [sizeLine_eq]; decide)
    · subst hacc
      unfold wordsAll
      rw [List.range_succ, List.map_append, List.map_append, hcl]
      rfl
  rintro lp ys H7 hlp e7 h7 _ rfl
  -- but main, and so many
  let all := wordsAll stem a first step 26
  have hall : all.length = 26 := by simp [all, wordsAll]
  have okw : ∀ x ∈ all, isWordS x = true := fun x hx => by
    obtain ⟨k, hk, rfl⟩ := List.mem_map.mp hx
    exact wordK_word ha (by omega) j2 (letK_small _ _ _)
  refine rb_one <| rs_ret <| re_lto ?_
  refine re_lcIf (own := [("_law_word", 9)]) (g := gName 9) rfl (by exact sc_words.nd) (blkOk_by (N := nm_words) (sc := defScope s_words) (by decide +kernel)) (fun _ _ _ _ _ => pg_name (i := 9) (by exact sc_words.nd) rfl (Or.inl rfl)) good_name ?_
  refine ri_list <| re_var 7 rfl ⟨lp, all.map V.str, rfl, .inl (.inl h7), _, _, _, fun i ys => ys = ((all.take i).filter fun x => decide (x ≠ ("main" : Str))).map V.str, walk_list (xs := all.map V.str), ?_, fun H' e' => Evl.ex_l e' (.inl (.inl h7)), rfl, ?_, ?_⟩
  · rw [List.length_map, hall]; decide
  · rintro i x Ha Hb hi ea ⟨rfl, hx⟩
    rw [List.getElem?_map] at hx
    cases hy : all[i]? with
    | none => rw [hy] at hx; cases hx
    | some y =>
      rw [hy] at hx
      obtain rfl := Option.some.inj hx
      have tk : all.take (i + 1) = all.take i ++ [y] := take_snoc hy
      refine ⟨Ex.refl _, rfl, Ex.refl _, fun s0 H0 C cl fp => rt_cmp op_ne <| re_var 9 rfl <| re_str ⟨rfl, _, rfl, Ex.refl _, fun hk s0 H0 C cl fp => re_var 9 rfl ⟨Ex.refl _, fun acc hacc => ?_⟩, fun hk acc hacc => ?_⟩⟩
      · subst hacc
        have hne : y ≠ "main" := fun z => by rw [z] at hk; simp at hk
        rw [tk, List.filter_append, List.map_append, List.filter_cons_of_pos (by simpa using hne)]; rfl
      · subst hacc
        have he : y = "main" := by
          by_cases z : y = "main"
          · exact z
          · exfalso
            rw [decide_eq_false fun e : V.str y = V.str "main" => z (V.str.inj e)] at hk
            cases hk
        rw [tk, List.filter_append, List.filter_cons_of_neg (by simp [he])]; simp
  rintro Dl2 acc H8 hD2 e8 h8 _ rfl
  have tkall : all.take (all.map V.str).length = all := by rw [List.length_map, List.take_length]
  rw [tkall] at h8
  refine re_var 1 rfl ⟨(m : Nat), Dl2, _, rfl, rfl, .inl (.inl h8), fun p9 hp9 => ?_⟩
  let flt := all.filter fun x => decide (x ≠ ("main" : Str))
  have hcut : cutV (flt.map V.str) none (some (m : Int)) = (flt.take m).map V.str := by
    unfold cutV
    rw [HT.sIx_none, HT.sIx_nat, List.drop_zero, Nat.sub_zero, List.map_take]
    by_cases hm : m ≤ (flt.map V.str).length
    · rw [Nat.min_eq_left hm]
    · rw [Nat.min_eq_right (by omega), List.take_length, List.take_of_length_le (by omega)]
  have e08 : exP pa H H8 := (e06.trans (exP.of e7)).trans (exP.of e8)
  have pen8 := (pen6.mono e7).mono e8
  have h90 : H p9 = none := by
    cases hh : H p9 with
    | none => rfl
    | some o => rw [e08.but _ _ hh (pen8.ne_new hp9).symm] at hp9; cases hp9
  refine q p9 (flt.take m) _ ⟨fun x hx => ?_, ?_, ?_, ?_⟩ h90 (by rw [← hcut]; exact upd_same) (e08.trans (exP.of (Ex.new hp9))) ((pen8.mono (Ex.new hp9)).upto (by omega))
  · have hx := List.mem_of_mem_take hx
    rw [List.mem_filter, decide_eq_true_eq] at hx
    exact ⟨okw x hx.1, hx.2⟩
  · exact ((wordsAll_nodup ha hs).sublist List.filter_sublist).sublist (List.take_sublist _ _)
  · rw [List.length_take]; exact Nat.min_le_left _ _
  · rw [List.length_take]
    have hfl : flt.length ≤ all.length := List.length_filter_le _ _
    omega
end
end Fl
end
section
set_option Elab.async false
set_option linter.all false
set_option maxRecDepth 100000
set_option maxHeartbeats 4000000
namespace Fl
open PySem PySem.Spec PyProof.Rows L2 Fx
open Evl (Ex fresh_back)
/-! ### the world that is drawn from -/
def hideL (S : List Addr) (H : Hp) : Hp := fun b => if b ∈ S then none else H b
section
variable {S S' : List Addr} {H H' : Hp} {b : Addr} {o : HO}
theorem hideL_at (hb : b ∉ S) (h : H b = some o) : hideL S H b = some o := (if_neg hb).trans h
theorem hideL_of (h : hideL S H b = some o) : b ∉ S ∧ H b = some o := by
  unfold hideL at h
  by_cases hb : b ∈ S
  · rw [if_pos hb] at h; cases h
  · rw [if_neg hb] at h; exact ⟨hb, h⟩
theorem hideL_ex (e : ∀ b o, H b = some o → b ∉ S → H' b = some o) : Ex (hideL S H) (hideL S H') := fun b o h => by
  obtain ⟨h1, h2⟩ := hideL_of h
  exact hideL_at h1 (e b o h2 h1)
theorem hideL_sub (h : ∀ x ∈ S, x ∈ S') : Ex (hideL S' H) (hideL S H) := fun b o hb => by
  obtain ⟨h1, h2⟩ := hideL_of hb
  exact hideL_at (fun z => h1 (h _ z)) h2
theorem hideL_ex0 : Ex (hideL S H) H := fun b o h => (hideL_of h).2
theorem hideL_new {p : Addr} (h : H p = none) : Ex (hideL S H) (hideL (p :: S) H) := fun b o hb => by
  obtain ⟨h1, h2⟩ := hideL_of hb
  refine hideL_at (fun z => ?_) h2
  rcases List.mem_cons.mp z with z | z
  · rw [z, h] at h2; cases h2
  · exact h1 z
end
def wdV (na po : Addr) (at_ : Nat) (q : Bool) (la : Addr) : List (Key × V) := [(.inr "names", .ref na), (.inr "pool", .ref po), (.inr "at", .int (at_ : Nat)), (.inr "lost", .bl (!q)), (.inr "labels", .ref la)]
/-- what is known of the names and labels -/
structure Nms (names : List Str) : Prop where
  word : ∀ f ∈ names, isWordS f = true
  len : names.length ≤ 30
abbrev PWd (names : List Str) (d : PyData) : Prop := Pln names d ∧ wordD d ≠ "pop"
structure Wd (K : PySem.W.Frag) (H : Hp) (pa wa la na po : Addr) (names : List Str) (at_ : Nat) (q : Bool) (L : List Str) (n : Nat) : Prop where
  pen : Pen K H pa n
  away : Away H pa la
  wd : H wa = some (.dK (wdV na po at_ q la))
  wp : wa ≠ pa
  nm : H na = some (.lst (names.map V.str))
  nl : na ≠ la
  pl : po ≠ la
  pool : ∃ ps : List Addr, H po = some (.lst (ps.map V.ref)) ∧ 0 < ps.length ∧ ps.length ≤ 3 ∧ ∀ p ∈ ps, ∃ ds, D K (hideL [pa, wa, la] H) (.ref p) (.list ds) ∧ (∀ d ∈ ds, PWd names d) ∧ ds.length ≤ 10
  lab : H la = some (.lst (L.map V.str))
  ok : Nms names
  at_lt : at_ < names.length
  labs : (∀ s ∈ L, isWordS s = true) ∧ L.Nodup ∧ L.length ≤ 30
section
variable {K : PySem.W.Frag} {H H' : Hp} {pa wa la na po : Addr} {names : List Str} {at_ : Nat} {q : Bool} {L : List Str} {n m : Nat}
theorem ne_kind {a b : Addr} {x y : HO} (ha : H a = some x) (hb : H b = some y) (h : x ≠ y) : a ≠ b := fun e => by
  rw [e, hb] at ha
  exact h (Option.some.inj ha).symm
theorem Wd.lp (W : Wd K H pa wa la na po names at_ q L n) : la ≠ pa := by
  obtain ⟨kvs, h⟩ := W.pen.dict
  exact ne_kind W.lab h (fun z => nomatch z)
theorem Wd.np (W : Wd K H pa wa la na po names at_ q L n) : na ≠ pa := by
  obtain ⟨kvs, h⟩ := W.pen.dict
  exact ne_kind W.nm h (fun z => nomatch z)
theorem Wd.wl (W : Wd K H pa wa la na po names at_ q L n) : wa ≠ la := ne_kind W.wd W.lab (fun z => nomatch z)
/-- draws alone -/
theorem Wd.step (W : Wd K H pa wa la na po names at_ q L n) (e : exP pa H H') (p : Pen K H' pa m) : Wd K H' pa wa la na po names at_ q L m := by
  obtain ⟨kvs, hpa⟩ := W.pen.dict
  obtain ⟨ps, h1, h2, h3, h4⟩ := W.pool
  refine ⟨p, W.away.step e, e.but _ _ W.wd W.wp, W.wp, e.but _ _ W.nm W.np, W.nl, W.pl, ⟨ps, e.but _ _ h1 (ne_kind h1 hpa (fun z => nomatch z)), h2, h3, fun p hp => ?_⟩, e.but _ _ W.lab W.lp, W.ok, W.at_lt, W.labs⟩
  obtain ⟨ds, g1, g2, g3⟩ := h4 p hp
  exact ⟨ds, g1.mono (hideL_ex fun b o hb hn => e.but b o hb fun z => hn (by rw [z]; exact List.mem_cons_self)), g2, g3⟩
theorem Wd.le (W : Wd K H pa wa la na po names at_ q L n) (h : n ≤ m) : Wd K H pa wa la na po names at_ q L m := ⟨W.pen.upto h, W.away, W.wd, W.wp, W.nm, W.nl, W.pl, W.pool, W.lab, W.ok, W.at_lt, W.labs⟩
/-- what is made anew is none of the three -/
theorem Wd.new (W : Wd K H pa wa la na po names at_ q L n) {b : Addr} (h : H b = none) : b ∉ [pa, wa, la] := fun z => by
  obtain ⟨kvs, hp⟩ := W.pen.dict
  simp only [List.mem_cons, List.not_mem_nil, or_false] at z
  rcases z with rfl | rfl | rfl
  · rw [h] at hp; cases hp
  · have := W.wd; rw [h] at this; cases this
  · have := W.lab; rw [h] at this; cases this
end
/-- exP, back: what is free behind is free ahead -/
theorem exP.back {pa b : Addr} {H H' : Hp} (e : exP pa H H') (h : H' b = none) (hn : b ≠ pa) : H b = none := by
  cases hh : H b with
  | none => rfl
  | some o => rw [e.but _ _ hh hn] at h; cases h
section
variable {P : Program} {w : World} {K : PySem.W.Frag} {mg : Str → Option Value} {base : Heap} {f : Addr} {fd : FuncData}
abbrev nm_pline : List Str := ["_law_pen_here", "_law_world", "_law_way", "_law_r", "_law_s", "_law_t"]
theorem sc_pline : FnScope nm_pline ["_law_pen_here", "_law_world"] (defScope s_plain_line) := ⟨rfl, rfl, rfl, by decide +kernel, rfl, by decide +kernel, by decide +kernel⟩
/-- what plain_line needs of the world: a pen, names -/
structure Wn (K : PySem.W.Frag) (H : Hp) (pa wa na : Addr) (names : List Str) (n : Nat) : Prop where
  pen : Pen K H pa n
  wd : ∃ kvs, H wa = some (.dK kvs) ∧ valV kvs (.inr "names") = some (.ref na)
  wp : wa ≠ pa
  nm : H na = some (.lst (names.map V.str))
  ok : Nms names
  pos : 0 < names.length
theorem Wn.step {H H' : Hp} {pa wa na : Addr} {names : List Str} {n m : Nat} (W : Wn K H pa wa na names n) (e : exP pa H H') (p : Pen K H' pa m) : Wn K H' pa wa na names m := by
  obtain ⟨kvs, hpa⟩ := W.pen.dict
  obtain ⟨kv, h1, h2⟩ := W.wd
  exact ⟨p, ⟨kv, e.but _ _ h1 W.wp, h2⟩, W.wp, e.but _ _ W.nm (ne_kind W.nm hpa (fun z => nomatch z)), W.ok, W.pos⟩
theorem Wd.wn {H : Hp} {pa wa la na po : Addr} {names : List Str} {at_ : Nat} {q : Bool} {L : List Str} {n : Nat} (W : Wd K H pa wa la na po names at_ q L n) : Wn K H pa wa na names n := ⟨W.pen, ⟨_, W.wd, rfl⟩, W.wp, W.nm, W.ok, Nat.lt_of_le_of_lt (Nat.zero_le _) W.at_lt⟩
/-- at v behind: a line that is drawn, of ints and texts alone -/
def sp_pline (K : PySem.W.Frag) : Sp := fun vs H Q _ => ∃ pa wa na names n, vs = [.ref pa, .ref wa] ∧ n ≤ 800000 ∧ Wn K H pa wa na names n ∧ ∀ p d xs H', PWd names d → d = .tuple (itemsD d) → (∀ HH, DA K HH xs (itemsD d)) → H p = none → H' p = some (.tup xs) → exP pa H H' → Pen K H' pa (n + 6) → Q (.ref p) H'
end
end Fl
end
section
set_option Elab.async false
set_option linter.all false
set_option maxRecDepth 100000
set_option maxHeartbeats 4000000
namespace Fl
open PySem PySem.Spec PyProof.Rows L2 Fx
open Evl (Ex fresh_back)
section
variable {P : Program} {w : World} {K : PySem.W.Frag} {mg : Str → Option Value} {base : Heap} {f : Addr} {fd : FuncData}
theorem op_ltB {X : Cx} {a b : Expr} {σ : L2.St} {H : Hp} {QB : Bool → Hp → Prop} {pos : Pos} (h : RE X a σ H fun x H1 => RE X b σ H1 fun y H2 => ∃ i j : Int, x = .int i ∧ y = .int j ∧ QB (decide (i < j)) H2) (hm : behindInMarks .Lt b = false := by first | exact nobehind _ (by decide) (by decide) | rfl) : RT X (.Compare a [.Lt] [b] pos) σ H QB :=
  rt_cmp op_lt (h.mono fun x H1 q => q.mono fun y H2 ⟨i, j, ex, ey, q⟩ => ⟨i, j, ex, ey, _, rfl, q⟩) hm
theorem reg5 {r : Int} (h0 : 0 ≤ r) (h1 : r < 5) : isReg r := ⟨h0, by omega⟩
theorem pick3 {w0 w1 w2 : Str} {i : Int} (h0 : 0 ≤ i) (h1 : i < 3) : ∃ w, atI [V.str w0, V.str w1, V.str w2] i = some (.str w) ∧ w ∈ ([w0, w1, w2] : List Str) := by
  obtain ⟨v, hv, hm⟩ := atI_in (xs := [V.str w0, V.str w1, V.str w2]) h0 h1
  simp only [List.mem_cons, List.not_mem_nil, or_false] at hm
  rcases hm with rfl | rfl | rfl
  · exact ⟨_, hv, List.mem_cons_self⟩
  · exact ⟨_, hv, List.mem_cons_of_mem _ List.mem_cons_self⟩
  · exact ⟨_, hv, List.mem_cons_of_mem _ (List.mem_cons_of_mem _ List.mem_cons_self)⟩
theorem pick2 {w0 w1 : Str} {i : Int} (h0 : 0 ≤ i) (h1 : i < 2) : ∃ w, atI [V.str w0, V.str w1] i = some (.str w) ∧ w ∈ ([w0, w1] : List Str) := by
  obtain ⟨v, hv, hm⟩ := atI_in (xs := [V.str w0, V.str w1]) h0 h1
  simp only [List.mem_cons, List.not_mem_nil, or_false] at hm
  rcases hm with rfl | rfl
  · exact ⟨_, hv, List.mem_cons_self⟩
  · exact ⟨_, hv, List.mem_cons_of_mem _ List.mem_cons_self⟩
theorem ok_pline (F : Fun K "_law_plain_line" "_law_plain_line" s_plain_line f fd) (G : Gb mg) (c1 : Cl P w K mg base CX0 1 "_law_draw" (sp_draw K)) (c2 : Cl P w K mg base CX0 2 "_law_pick" (sp_pick K)) (c3 : Cl P w K mg base CX0 3 "_law_number" (sp_number K)) :
    FnOk P w K mg base CX0 4 f fd ["_law_pen_here", "_law_world"] (sp_pline K) := by
  refine F.ok sc_pline (fun vs H Q E h => ?_) (fun cdv A outer s H vs Q E hr h => ⟨RB _ _, pss_RB, ?_⟩)
  · obtain ⟨_, _, _, _, _, rfl, _⟩ := h; rfl
  obtain ⟨pa, wa, na, names, n, rfl, hn, W, q⟩ := h
  refine rb_cons <| rs_asg (g := gTup K 4 (gCons (gName 2) (gCons (gName 3) (gCons (gName 4) (gCons (gName 5) gNil))))) (pg_tup rfl (pgs_cons (pg_name (i := 2) (by exact sc_pline.nd) rfl (Or.inl rfl)) (pgs_cons (pg_name (i := 3) (by exact sc_pline.nd) rfl (Or.inl rfl)) (pgs_cons (pg_name (i := 4) (by exact sc_pline.nd) rfl (Or.inl rfl)) (pgs_cons (pg_name (i := 5) (by exact sc_pline.nd) rfl (Or.inl rfl)) pgs_nil))))) ?_
  refine re_tup <| ra_cons <| re_call c1 hr <| ra_cons <| re_var 0 rfl <| ra_cons <| re_int <| ra_nil ⟨pa, 14, n, rfl, by decide, by decide, by omega, W.pen, fun way H1 y0 y1 e1 pen1 => ?_⟩
  have W1 := W.step e1 pen1
  refine ra_cons <| re_call c1 hr <| ra_cons <| re_var 0 rfl <| ra_cons <| re_int <| ra_nil ⟨pa, 5, n + 1, rfl, by decide, by decide, by omega, pen1, fun r H2 r0 r1 e2 pen2 => ?_⟩
  have W2 := W1.step e2 pen2
  refine ra_cons <| re_call c1 hr <| ra_cons <| re_var 0 rfl <| ra_cons <| re_int <| ra_nil ⟨pa, 5, n + 2, rfl, by decide, by decide, by omega, pen2, fun s' H3 s0 s1 e3 pen3 => ?_⟩
  have W3 := W2.step e3 pen3
  refine ra_cons <| re_call c1 hr <| ra_cons <| re_var 0 rfl <| ra_cons <| re_int <| ra_nil ⟨pa, 5, n + 3, rfl, by decide, by decide, by omega, pen3, fun t H4a t0 t1 e4 pen4 => ra_nil ⟨Nat.le_of_ble_eq_true rfl, fun p6 H4 hp6 e4t h6 => ⟨p6, _, rfl, .inl (.inl h6), rfl, _, _, rfl, _, _, rfl, _, _, rfl, _, _, rfl, rfl, ?_⟩⟩⟩
  have e04 : exP pa H H4 := (((e1.trans e2).trans e3).trans e4).trans (exP.of e4t)
  have W4 := (W3.step e4 pen4).step (exP.of e4t) (pen4.mono e4t)
  -- the tuple that is made
  have fin : ∀ (H5 : Hp) (xs : List V) (ds : List PyData) (d : PyData), d = .tuple ds → PWd names d → (∀ HH, DA K HH xs ds) → exP pa H4 H5 → Pen K H5 pa (n + 6) → ∀ p H6, H5 p = none → Ex H5 H6 → H6 p = some (.tup xs) → Q (.ref p) H6 := fun H5 xs ds d hd hp hda e5 pen5 p H6 hp6 e6 h6 => by
    have e05 := e04.trans e5
    refine q p d xs H6 hp (by rw [hd]; rfl) (by rw [hd]; exact hda) (e05.back hp6 (pen5.ne_new hp6).symm) h6 (e05.trans (exP.of e6)) (pen5.mono e6)
  have pen46 : Pen K H4 pa (n + 6) := W4.pen.upto (by omega)
  refine rb_cons <| rs_if <| op_ltB <| re_var 2 rfl <| re_int ⟨way, 2, rfl, rfl, ifB (fun e => ?_) fun e => rb_nil ?_⟩
  · refine rb_one <| rs_ret <| re_tup <| ra_cons <| re_str <| ra_cons <| re_var 3 rfl <| ra_cons <| re_call c3 hr <| ra_cons <| re_var 0 rfl <| ra_nil ⟨pa, n + 4, rfl, by omega, W4.pen, fun z H5 z0 z1 e5 pen5 => ra_nil ⟨Nat.le_of_ble_eq_true rfl, ?_⟩⟩
    exact fin H5 _ [.str "num", .int r, .int z] _ rfl (p_num (reg5 r0 r1) ⟨z0, z1⟩) (fun HH => .cons (.str _) (.cons (.int _) (.cons (.int _) .nil))) e5 pen5
  refine rb_cons <| rs_if <| op_ltB <| re_var 2 rfl <| re_int ⟨way, 4, rfl, rfl, ifB (fun e => ?_) fun e => rb_nil ?_⟩
  · refine rb_one <| rs_ret <| re_tup <| ra_cons <| re_str <| ra_cons <| re_var 3 rfl <| ra_cons <| re_var 4 rfl <| ra_nil ⟨Nat.le_of_ble_eq_true rfl, ?_⟩
    exact fin H4 _ [.str "copy", .int r, .int s'] _ rfl (p_rr (by decide +kernel) (reg5 r0 r1) (reg5 s0 s1)) (fun HH => .cons (.str _) (.cons (.int _) (.cons (.int _) .nil))) exP.refl pen46
  have way4 : 4 ≤ way := by simpa using e
  refine rb_cons <| rs_if <| op_ltB <| re_var 2 rfl <| re_int ⟨way, 7, rfl, rfl, ifB (fun e => ?_) fun e => rb_nil ?_⟩
  · have way7 : way < 7 := by simpa using e
    obtain ⟨wd, hwd, hwm⟩ := pick3 (w0 := "add") (w1 := "sub") (w2 := "mul") (i := way - 4) (by omega) (by omega)
    refine rb_one <| rs_ret <| re_tup <| ra_cons <| re_ixL <| re_lst <| ra_cons <| re_str <| ra_cons <| re_str <| ra_cons <| re_str <| ra_nil ⟨Nat.le_of_ble_eq_true rfl, fun p7 H5 hp7 e5 h7 => re_sub <| re_var 2 rfl <| re_int ⟨way, 4, rfl, rfl, p7, _, _, _, rfl, rfl, .inl (.inl h7), hwd, ?_⟩⟩
    refine ra_cons <| re_var 3 rfl <| ra_cons <| re_var 4 rfl <| ra_cons <| re_var 5 rfl <| ra_nil ⟨Nat.le_of_ble_eq_true rfl, ?_⟩
    exact fin H5 _ [.str wd, .int r, .int s', .int t] _ rfl (p_rrr hwm (reg5 r0 r1) (reg5 s0 s1) (reg5 t0 t1)) (fun HH => .cons (.str _) (.cons (.int _) (.cons (.int _) (.cons (.int _) .nil)))) (exP.of e5) (pen46.mono e5)
  have way7 : 7 ≤ way := by simpa using e
  refine rb_cons <| rs_if <| op_ltB <| re_var 2 rfl <| re_int ⟨way, 9, rfl, rfl, ifB (fun e => ?_) fun e => rb_nil ?_⟩
  · have way9 : way < 9 := by simpa using e
    obtain ⟨wd, hwd, hwm⟩ := pick2 (w0 := "same") (w1 := "less") (i := way - 7) (by omega) (by omega)
    refine rb_one <| rs_ret <| re_tup <| ra_cons <| re_ixL <| re_lst <| ra_cons <| re_str <| ra_cons <| re_str <| ra_nil ⟨Nat.le_of_ble_eq_true rfl, fun p7 H5 hp7 e5 h7 => re_sub <| re_var 2 rfl <| re_int ⟨way, 7, rfl, rfl, p7, _, _, _, rfl, rfl, .inl (.inl h7), hwd, ?_⟩⟩
    refine ra_cons <| re_var 3 rfl <| ra_cons <| re_var 4 rfl <| ra_nil ⟨Nat.le_of_ble_eq_true rfl, ?_⟩
    exact fin H5 _ [.str wd, .int r, .int s'] _ rfl (p_rr (List.mem_cons_of_mem _ hwm) (reg5 r0 r1) (reg5 s0 s1)) (fun HH => .cons (.str _) (.cons (.int _) (.cons (.int _) .nil))) (exP.of e5) (pen46.mono e5)
  refine rb_cons <| rs_if <| rt_cmp op_eq <| re_var 2 rfl <| re_int ⟨rfl, _, rfl, ifB (fun e => ?_) fun e => rb_nil ?_⟩
  · refine rb_one <| rs_ret <| re_tup <| ra_cons <| re_str <| ra_cons <| re_var 3 rfl <| ra_nil ⟨Nat.le_of_ble_eq_true rfl, ?_⟩
    exact fin H4 _ [.str "in", .int r] _ rfl (p_r (by decide +kernel) (reg5 r0 r1)) (fun HH => .cons (.str _) (.cons (.int _) .nil)) exP.refl pen46
  refine rb_cons <| rs_if <| rt_cmp op_eq <| re_var 2 rfl <| re_int ⟨rfl, _, rfl, ifB (fun e => ?_) fun e => rb_nil ?_⟩
  · obtain ⟨kvs, hwa, hvn⟩ := W4.wd
    refine rb_one <| rs_ret <| re_tup <| ra_cons <| re_str <| ra_cons <| re_var 3 rfl <| ra_cons <| re_call c2 hr <| ra_cons <| re_var 0 rfl <| ra_cons <| re_dget (hu_of hr) <| re_var 1 rfl <| re_str ⟨wa, kvs, .inr "names", _, rfl, hwa, rfl, hvn, ra_nil ⟨pa, na, names.map V.str, n + 4, rfl, .inl (.inl W4.nm), by rw [List.length_map]; exact W4.pos, by rw [List.length_map]; have := W4.ok.len; omega, by omega, W4.pen, fun v H5 hv e5 pen5 => ra_nil ⟨Nat.le_of_ble_eq_true rfl, ?_⟩⟩⟩
    obtain ⟨fn, hfn, rfl⟩ := List.mem_map.mp hv
    exact fin H5 _ [.str "addr", .int r, .str fn] _ rfl (p_addr (reg5 r0 r1) hfn (W4.ok.word fn hfn)) (fun HH => .cons (.str _) (.cons (.int _) (.cons (.str _) .nil))) e5 (pen5.upto (by omega))
  refine rb_one <| rs_ret <| re_tup <| ra_cons <| re_str <| ra_cons <| re_var 3 rfl <| ra_nil ⟨Nat.le_of_ble_eq_true rfl, ?_⟩
  exact fin H4 _ [.str "out", .int r] _ rfl (p_r (by decide +kernel) (reg5 r0 r1)) (fun HH => .cons (.str _) (.cons (.int _) .nil)) exP.refl pen46
end
end Fl
end
section
set_option Elab.async false
set_option linter.all false
set_option maxRecDepth 100000
set_option maxHeartbeats 4000000
namespace Fx
open PySem PySem.Spec PyProof.Rows L2
open Evl (Ex fresh_back)
theorem rt_neL {X : Cx} {a b : Expr} {σ : L2.St} {H : Hp} {QB : Bool → Hp → Prop} {pos : Pos} (hu : X.A.units + 64 < cLine) (h : RE X a σ H fun x H1 => RE X b σ H1 fun y H2 => ∃ (p q : Addr) (us : List Str), x = .ref p ∧ y = .ref q ∧ SqL X.K H2 p (us.map V.str) ∧ SqL X.K H2 q [] ∧ (∀ u ∈ us, PyData.strOk u = true) ∧ QB (!us.isEmpty) H2) (hm : behindInMarks .NotEq b = false := by rfl) : RT X (.Compare a [.NotEq] [b] pos) σ H QB :=
  rt_cmp (op_neD hu) (h.mono fun x H1 q => q.mono fun y H2 ⟨p, r, us, ex, ey, h1, h2, ok, z⟩ => ⟨.list (strsD us), .list [], by rw [ex]; exact .lst h1 (dp_strs us), by rw [ey]; exact .lst h2 .nil, by
    show (PyData.canLayAll0 (strsD us) && decide (PyData.depthAll (strsD us) + 1 ≤ 64)) = true
    rw [Fx.lay_strs us ok, Fx.depth_strs]; rfl, rfl, _, rfl, by
    cases us with
    | nil => exact z
    | cons u r => exact z⟩) hm
end Fx
namespace Fl
open PySem PySem.Spec PyProof.Rows L2 Fx
open Evl (Ex fresh_back)
theorem word_strOk {s : Str} (h : isWordS s = true) : PyData.strOk s = true := by
  obtain ⟨_, _, h⟩ := isWord_tl.mp h
  unfold PyData.strOk
  rw [← Array.all_toList, List.all_eq_true]
  intro c hc
  have := (h c hc).2
  exact decide_eq_true (by omega)
theorem cut_from {us : List Str} {i : Nat} : cutV (us.map V.str) (some (i : Int)) none = (us.drop i).map V.str := by
  unfold cutV
  rw [HT.sIx_none, HT.sIx_nat, List.map_drop]
  by_cases h : i ≤ (us.map V.str).length
  · rw [Nat.min_eq_left h, List.take_of_length_le]
    rw [List.length_drop]; omega
  · rw [Nat.min_eq_right (by omega), Nat.sub_self, List.take_zero, List.drop_eq_nil_of_le (by omega)]
section
variable {P : Program} {w : World} {K : PySem.W.Frag} {mg : Str → Option Value} {base : Heap} {f : Addr} {fd : FuncData}
abbrev nm_called : List Str := ["_law_pen_here", "_law_world", "_law_later"]
theorem sc_called : FnScope nm_called ["_law_pen_here", "_law_world"] (defScope s_called) := ⟨rfl, rfl, rfl, by decide +kernel, rfl, by decide +kernel, by decide +kernel⟩
def sp_called (K : PySem.W.Frag) : Sp := fun vs H Q _ => ∃ pa wa la na po names at_ q' L n, vs = [.ref pa, .ref wa] ∧ n ≤ 800000 ∧ Wd K H pa wa la na po names at_ q' L n ∧ ∀ fn H', fn ∈ names → exP pa H H' → Pen K H' pa (n + 2) → Q (.str fn) H'
theorem ok_called (F : Fun K "_law_called" "_law_called" s_called f fd) (G : Gb mg) (c1 : Cl P w K mg base CX0 1 "_law_draw" (sp_draw K)) (c2 : Cl P w K mg base CX0 2 "_law_pick" (sp_pick K)) : FnOk P w K mg base CX0 3 f fd ["_law_pen_here", "_law_world"] (sp_called K) := by
  refine F.ok sc_called (fun vs H Q E h => ?_) (fun cdv A outer s H vs Q E hr h => ⟨RB _ _, pss_RB, ?_⟩)
  · obtain ⟨_, _, _, _, _, _, _, _, _, _, rfl, _⟩ := h; rfl
  obtain ⟨pa, wa, la, na, po, names, at_, q', L, n, rfl, hn, W, q⟩ := h
  have hlen := W.ok.len
  have pos : 0 < names.length := Nat.lt_of_le_of_lt (Nat.zero_le _) W.at_lt
  refine rb_cons <| rs_set 2 (by exact sc_called.nd) <| re_lfrom <| re_dget (hu_of hr) <| re_var 1 rfl <| re_str ⟨wa, _, .inr "names", .ref na, rfl, W.wd, rfl, rfl, ?_⟩
  refine re_add <| re_dget (hu_of hr) <| re_var 1 rfl <| re_str ⟨wa, _, .inr "at", .int (at_ : Nat), rfl, W.wd, rfl, rfl, re_int ⟨(at_ : Nat), 1, rfl, rfl, ((at_ + 1 : Nat) : Int), na, names.map V.str, rfl, rfl, .inl (.inl W.nm), fun p hp => ?_⟩⟩
  rw [cut_from]
  have e1 : Ex H (upd H p (.lst ((names.drop (at_ + 1)).map V.str))) := Ex.new hp
  have h1 : upd H p (.lst ((names.drop (at_ + 1)).map V.str)) p = some (.lst ((names.drop (at_ + 1)).map V.str)) := upd_same
  generalize upd H p (.lst ((names.drop (at_ + 1)).map V.str)) = H1 at *
  have W1 := W.step (exP.of e1) (W.pen.mono e1)
  have dl : ∀ u ∈ names.drop (at_ + 1), u ∈ names := fun u hu => List.mem_of_mem_drop hu
  refine rb_one <| rs_ret <| re_if <| rt_w <| rw_and <| rt_neL (hu64 hr) <| re_var 2 rfl <| re_lst <| ra_nil ⟨(by decide), fun p2 H2 hp2 e2 h2 => ⟨p, p2, names.drop (at_ + 1), rfl, rfl, .inl (.inl (e2 _ _ h1)), .inl (.inl h2), fun u hu => word_strOk (W.ok.word u (dl u hu)), ?_⟩⟩
  have W2 := W1.step (exP.of e2) (W1.pen.mono e2)
  have fin1 : ∀ (H3 : Hp) (m : Nat), exP pa H2 H3 → Pen K H3 pa m → m ≤ n + 1 → ∀ fn H4, fn ∈ names → exP pa H3 H4 → Pen K H4 pa (m + 1) → Q (.str fn) H4 := fun H3 m e3 p3 hm fn H4 hf e4 p4 => q fn H4 hf ((((exP.of e1).trans (exP.of e2)).trans e3).trans e4) (p4.upto (by omega))
  refine ifB (fun hne => ?_) fun hne => ?_
  · refine rw_and1 <| rt_cmp op_gt <| re_call c1 hr <| ra_cons <| re_var 0 rfl <| ra_cons <| re_int <| ra_nil ⟨pa, 5, n, rfl, by decide, by decide, by omega, W2.pen, fun r H3 r0 r1 e3 pen3 => re_int ⟨r, 0, rfl, rfl, _, rfl, ?_⟩⟩
    have W3 := W2.step e3 pen3
    refine ifB (fun hk => ?_) fun hk => ?_
    · have hpos : 0 < ((names.drop (at_ + 1)).map V.str).length := by
        rw [List.length_map]
        cases hd : names.drop (at_ + 1) with
        | nil => rw [hd] at hne; cases hne
        | cons a b => exact Nat.succ_pos _
      have hle : ((names.drop (at_ + 1)).map V.str).length ≤ 1000 := by rw [List.length_map, List.length_drop]; omega
      have hpp : H3 p = some (.lst ((names.drop (at_ + 1)).map V.str)) := e3.but _ _ (e2 _ _ h1) (by
        obtain ⟨kvs, hpa⟩ := W2.pen.dict
        exact ne_kind (e2 _ _ h1) hpa (fun z => nomatch z))
      refine re_call c2 hr <| ra_cons <| re_var 0 rfl <| ra_cons <| re_var 2 rfl <| ra_nil ⟨pa, p, _, n + 1, rfl, .inl (.inl hpp), hpos, hle, by omega, pen3, fun v H4 hv e4 pen4 => ?_⟩
      obtain ⟨fn, hfn, rfl⟩ := List.mem_map.mp hv
      exact fin1 H3 (n + 1) e3 pen3 (Nat.le_refl _) fn H4 (dl fn hfn) e4 pen4
    · refine re_call c2 hr <| ra_cons <| re_var 0 rfl <| ra_cons <| re_dget (hu_of hr) <| re_var 1 rfl <| re_str ⟨wa, _, .inr "names", .ref na, rfl, W3.wd, rfl, rfl, ra_nil ⟨pa, na, names.map V.str, n + 1, rfl, .inl (.inl W3.nm), by rw [List.length_map]; exact pos, by rw [List.length_map]; omega, by omega, pen3, fun v H4 hv e4 pen4 => ?_⟩⟩
      obtain ⟨fn, hfn, rfl⟩ := List.mem_map.mp hv
      exact fin1 H3 (n + 1) e3 pen3 (Nat.le_refl _) fn H4 hfn e4 pen4
  · refine re_call c2 hr <| ra_cons <| re_var 0 rfl <| ra_cons <| re_dget (hu_of hr) <| re_var 1 rfl <| re_str ⟨wa, _, .inr "names", .ref na, rfl, W2.wd, rfl, rfl, ra_nil ⟨pa, na, names.map V.str, n, rfl, .inl (.inl W2.nm), by rw [List.length_map]; exact pos, by rw [List.length_map]; omega, by omega, W2.pen, fun v H4 hv e4 pen4 => ?_⟩⟩
    obtain ⟨fn, hfn, rfl⟩ := List.mem_map.mp hv
    exact fin1 H2 n exP.refl W2.pen (by omega) fn H4 hfn e4 pen4
end
end Fl
end
section
set_option Elab.async false
set_option linter.all false
set_option maxRecDepth 100000
set_option maxHeartbeats 4000000
namespace Fl
open PySem PySem.Spec PyProof.Rows L2 Fx
open Evl (Ex fresh_back)
theorem hideL_e {S : List Addr} {H H' : Hp} (e : Ex H H') : Ex (hideL S H) (hideL S H') := hideL_ex fun b o h _ => e b o h
theorem hideL_p {pa : Addr} {S : List Addr} {H H' : Hp} (hS : pa ∈ S) (e : exP pa H H') : Ex (hideL S H) (hideL S H') := hideL_ex fun b o h hn => e.but b o h fun z => hn (z ▸ hS)
section
variable {P : Program} {w : World} {K : PySem.W.Frag} {mg : Str → Option Value} {base : Heap} {f : Addr} {fd : FuncData}
abbrev nm_lcall : List Str := ["_law_pen_here", "_law_world", "_law_r", "_law_ahead", "_law_found"]
theorem sc_lcall : FnScope nm_lcall ["_law_pen_here", "_law_world"] (defScope s_lcall) := ⟨rfl, rfl, rfl, by decide +kernel, rfl, by decide +kernel, by decide +kernel⟩
def sp_lcall (K : PySem.W.Frag) : Sp := fun vs H Q _ => ∃ pa wa la na po names at_ q' L n, vs = [.ref pa, .ref wa] ∧ n ≤ 700000 ∧ Wd K H pa wa la na po names at_ q' L n ∧ ∀ l xs ds H', Item q' names [] ds → ds.length ≤ 4 → H l = none → H' l = some (.lst xs) → DA K (hideL [pa, wa, la] H') xs ds → exP pa H H' → Pen K H' pa (n + 8) → Q (.ref l) H'
theorem ok_lcall (F : Fun K "_law_call" "_law_call" s_lcall f fd) (G : Gb mg) (c1 : Cl P w K mg base CX0 1 "_law_draw" (sp_draw K)) (c2 : Cl P w K mg base CX0 2 "_law_pick" (sp_pick K)) (c3 : Cl P w K mg base CX0 3 "_law_called" (sp_called K)) : FnOk P w K mg base CX0 4 f fd ["_law_pen_here", "_law_world"] (sp_lcall K) := by
  refine F.ok sc_lcall (fun vs H Q E h => ?_) (fun cdv A outer s H vs Q E hr h => ⟨RB _ _, pss_RB, ?_⟩)
  · obtain ⟨_, _, _, _, _, _, _, _, _, _, rfl, _⟩ := h; rfl
  obtain ⟨pa, wa, la, na, po, names, at_, q', L, n, rfl, hn, W, q⟩ := h
  refine rb_cons <| rs_set 2 (by exact sc_lcall.nd) <| re_call c1 hr <| ra_cons <| re_var 0 rfl <| ra_cons <| re_int <| ra_nil ⟨pa, 5, n, rfl, by decide, by decide, by omega, W.pen, fun r H1 r0 r1 e1 pen1 => ?_⟩
  have W1 := W.step e1 pen1
  have hS : pa ∈ [pa, wa, la] := List.mem_cons_self
  -- an address, a call by it
  refine rb_cons <| rs_set 3 (by exact sc_lcall.nd) <| re_lst <| ra_cons <| re_tup <| ra_cons <| re_str <| ra_cons <| re_var 2 rfl <| ra_cons <| re_call c3 hr <| ra_cons <| re_var 0 rfl <| ra_cons <| re_var 1 rfl <| ra_nil ⟨pa, wa, la, na, po, names, at_, q', L, n + 1, rfl, by omega, W1, fun f0 H2 hf0 e2 pen2 => ra_nil ⟨Nat.le_of_ble_eq_true rfl, fun t1 H3 ht1 e3 h3 => ?_⟩⟩
  have W2 := W1.step e2 pen2
  have W3 := W2.step (exP.of e3) (W2.pen.mono e3)
  refine ra_cons <| re_tup <| ra_cons <| re_str <| ra_cons <| re_var 2 rfl <| ra_nil ⟨Nat.le_of_ble_eq_true rfl, fun t2 H4 ht2 e4 h4 => ra_nil ⟨Nat.le_of_ble_eq_true rfl, fun l1 H5 hl1 e5 h5 => ?_⟩⟩
  have W4 := W3.step (exP.of e4) (W3.pen.mono e4)
  have W5 := W4.step (exP.of e5) (W4.pen.mono e5)
  have dA : DA K (hideL [pa, wa, la] H5) [.ref t1, .ref t2] [laddr r f0, lr "callr" r] := .cons (.tup (.inl (.inl (hideL_at (W2.new ht1) (e5 _ _ (e4 _ _ h3))))) (.cons (.str _) (.cons (.int _) (.cons (.str _) .nil)))) (.cons (.tup (.inl (.inl (hideL_at (W3.new ht2) (e5 _ _ h4)))) (.cons (.str _) (.cons (.int _) .nil))) .nil)
  have nA : ∀ d ∈ [laddr r f0, lr "callr" r], Neut names d := fun d hd => by
    rcases List.mem_cons.mp hd with rfl | hd
    · exact (p_addr (reg5 r0 r1) hf0 (W.ok.word f0 hf0)).1.toNeut
    · rw [List.mem_singleton.mp hd]; exact n_callr (reg5 r0 r1)
  -- one of three
  refine rb_cons <| rs_set 4 (by exact sc_lcall.nd) <| re_call c2 hr <| ra_cons <| re_var 0 rfl <| ra_cons <| re_lst <| ra_cons <| re_lst <| ra_cons <| re_tup <| ra_cons <| re_str <| ra_cons <| re_call c3 hr <| ra_cons <| re_var 0 rfl <| ra_cons <| re_var 1 rfl <| ra_nil ⟨pa, wa, la, na, po, names, at_, q', L, n + 3, rfl, by omega, W5.le (by omega), fun f1 H6 hf1 e6 pen6 => ra_nil ⟨Nat.le_of_ble_eq_true rfl, fun t3 H7 ht3 e7 h7 => ra_nil ⟨Nat.le_of_ble_eq_true rfl, fun l2 H8 hl2 e8 h8 => ?_⟩⟩⟩
  have W6 := W5.step e6 pen6
  have W7 := W6.step (exP.of e7) (W6.pen.mono e7)
  have W8 := W7.step (exP.of e8) (W7.pen.mono e8)
  have dB : DA K (hideL [pa, wa, la] H8) [.ref t3] [ls1 "call" f1] := .cons (.tup (.inl (.inl (hideL_at (W6.new ht3) (e8 _ _ h7)))) (.cons (.str _) (.cons (.str _) .nil))) .nil
  refine ra_cons <| re_lst <| ra_cons <| re_tup <| ra_cons <| re_str <| ra_cons <| re_call c3 hr <| ra_cons <| re_var 0 rfl <| ra_cons <| re_var 1 rfl <| ra_nil ⟨pa, wa, la, na, po, names, at_, q', L, n + 5, rfl, by omega, W8.le (by omega), fun f2 H9 hf2 e9 pen9 => ra_nil ⟨Nat.le_of_ble_eq_true rfl, fun t4 H10 ht4 e10 h10 => ra_nil ⟨Nat.le_of_ble_eq_true rfl, fun l3 H11 hl3 e11 h11 => ?_⟩⟩⟩
  have W9 := W8.step e9 pen9
  have W10 := W9.step (exP.of e10) (W9.pen.mono e10)
  have W11 := W10.step (exP.of e11) (W10.pen.mono e11)
  have dC : DA K (hideL [pa, wa, la] H11) [.ref t4] [ls1 "call" f2] := .cons (.tup (.inl (.inl (hideL_at (W9.new ht4) (e11 _ _ h10)))) (.cons (.str _) (.cons (.str _) .nil))) .nil
  refine ra_cons <| re_var 3 rfl <| ra_nil ⟨Nat.le_of_ble_eq_true rfl, fun l4 H12 hl4 e12 h12 => ra_nil ⟨pa, l4, _, n + 7, rfl, .inl (.inl h12), Nat.le_of_ble_eq_true rfl, Nat.le_of_ble_eq_true rfl, by omega, (W11.pen.mono e12).upto (by omega), fun v H13 hv e13 pen13 => ?_⟩⟩
  have W12 := W11.step (exP.of e12) (W11.pen.mono e12)
  have W13 := W12.step e13 pen13
  have e05 : exP pa H H5 := (((e1.trans e2).trans (exP.of e3)).trans (exP.of e4)).trans (exP.of e5)
  have e58 : exP pa H5 H8 := (e6.trans (exP.of e7)).trans (exP.of e8)
  have e8b : exP pa H8 H11 := (e9.trans (exP.of e10)).trans (exP.of e11)
  have ebd : exP pa H11 H13 := (exP.of e12).trans e13
  have e0d : exP pa H H13 := ((e05.trans e58).trans e8b).trans ebd
  have key : ∃ l xs ds, v = .ref l ∧ H l = none ∧ H13 l = some (.lst xs) ∧ DA K (hideL [pa, wa, la] H13) xs ds ∧ (∀ d ∈ ds, Neut names d) ∧ ds.length ≤ 2 := by
    have npa : ∀ {H0 : Hp} {b : Addr} {m : Nat}, Wd K H0 pa wa la na po names at_ q' L m → H0 b = none → b ≠ pa := fun W h => (W.pen.ne_new h).symm
    simp only [List.mem_cons, List.not_mem_nil, or_false] at hv
    rcases hv with rfl | rfl | rfl
    · have nb : l2 ≠ pa := npa W7 hl2
      refine ⟨l2, _, [ls1 "call" f1], rfl, ?_, (e8b.trans ebd).but _ _ h8 nb, dB.mono ((hideL_p hS e8b).trans (hideL_p hS ebd)), fun d hd => ?_, Nat.le_of_ble_eq_true rfl⟩
      · exact ((e05.trans e6).trans (exP.of e7)).back hl2 nb
      · rw [List.mem_singleton.mp hd]; exact n_call hf1 (W.ok.word f1 hf1)
    · have nb : l3 ≠ pa := npa W10 hl3
      refine ⟨l3, _, [ls1 "call" f2], rfl, ?_, ebd.but _ _ h11 nb, dC.mono (hideL_p hS ebd), fun d hd => ?_, Nat.le_of_ble_eq_true rfl⟩
      · exact (((e05.trans e58).trans e9).trans (exP.of e10)).back hl3 nb
      · rw [List.mem_singleton.mp hd]; exact n_call hf2 (W.ok.word f2 hf2)
    · have nb : l1 ≠ pa := npa W4 hl1
      refine ⟨l1, _, [laddr r f0, lr "callr" r], rfl, ?_, ((e58.trans e8b).trans ebd).but _ _ h5 nb, dA.mono (((hideL_p hS e58).trans (hideL_p hS e8b)).trans (hideL_p hS ebd)), nA, Nat.le_of_ble_eq_true rfl⟩
      exact (((e1.trans e2).trans (exP.of e3)).trans (exP.of e4)).back hl1 nb
  obtain ⟨l, xs, ds, rfl, hl0, hl, hda, hneu, hlen⟩ := key
  refine rb_one <| rs_ret <| re_if <| rt_val <| re_dget (hu_of hr) <| re_var 1 rfl <| re_str ⟨wa, _, .inr "lost", .bl (!q'), rfl, W13.wd, rfl, rfl, _, rfl, ?_⟩
  cases q' with
  | false => exact ifT <| re_var 4 rfl <| q l xs ds H13 (Item.neut hneu) (by omega) hl0 hl hda e0d pen13
  | true =>
    refine ifF <| re_op op_cat <| re_op op_cat <| re_lst <| ra_cons <| re_tup <| ra_cons <| re_str <| ra_cons <| re_str <| ra_nil ⟨Nat.le_of_ble_eq_true rfl, fun t5 H14 ht5 e14 h14 => ra_nil ⟨Nat.le_of_ble_eq_true rfl, fun l5 H15 hl5 e15 h15 => ?_⟩⟩
    have W14 := W13.step (exP.of e14) (W13.pen.mono e14)
    have W15 := W14.step (exP.of e15) (W14.pen.mono e15)
    have hxl : xs.length = ds.length := hda.length
    refine re_var 4 rfl ⟨l5, l, _, xs, rfl, rfl, h15, e15 _ _ (e14 _ _ hl), Nat.le_trans (m := 100) (by rw [hxl]; simp; omega) (by rw [sizeLine_eq]; decide), fun l6 hl6 => ?_⟩
    have e16 : Ex H15 (upd H15 l6 (.lst ([.ref t5] ++ xs))) := Ex.new hl6
    have h16 : upd H15 l6 (.lst ([.ref t5] ++ xs)) l6 = some (.lst ([.ref t5] ++ xs)) := upd_same
    generalize upd H15 l6 (.lst ([.ref t5] ++ xs)) = H16 at *
    have W16 := W15.step (exP.of e16) (W15.pen.mono e16)
    refine re_lst <| ra_cons <| re_tup <| ra_cons <| re_str <| ra_cons <| re_str <| ra_nil ⟨Nat.le_of_ble_eq_true rfl, fun t7 H17 ht7 e17 h17 => ra_nil ⟨Nat.le_of_ble_eq_true rfl, fun l7 H18 hl7 e18 h18 => ⟨l6, l7, _, _, rfl, rfl, e18 _ _ (e17 _ _ h16), h18, Nat.le_trans (m := 100) (by simp; omega) (by rw [sizeLine_eq]; decide), fun l8 hl8 => ?_⟩⟩⟩
    have W17 := W16.step (exP.of e17) (W16.pen.mono e17)
    have W18 := W17.step (exP.of e18) (W17.pen.mono e18)
    have e19 : Ex H18 (upd H18 l8 (.lst ([.ref t5] ++ xs ++ [.ref t7]))) := Ex.new hl8
    have eD8 : Ex H13 H18 := (((e14.trans e15).trans e16).trans e17).trans e18
    have eall : exP pa H H18 := e0d.trans (exP.of eD8)
    refine q l8 _ ([plink] ++ ds ++ [poplink]) _ (Item.wrap hneu) (by simp; omega) (eall.back hl8 (W18.pen.ne_new hl8).symm) upd_same (((DA.app (.cons ?_ .nil) (hda.mono (hideL_e eD8))).app (.cons ?_ .nil)).mono (hideL_e e19)) (eall.trans (exP.of e19)) ((W18.pen.mono e19).upto (by omega))
    · exact .tup (.inl (.inl (hideL_at (W13.new ht5) (e18 _ _ (e17 _ _ (e16 _ _ (e15 _ _ h14))))))) (.cons (.str _) (.cons (.str _) .nil))
    · exact .tup (.inl (.inl (hideL_at (W16.new ht7) (e18 _ _ h17)))) (.cons (.str _) (.cons (.str _) .nil))
end
end Fl
end
section
set_option Elab.async false
set_option linter.all false
set_option maxRecDepth 100000
set_option maxHeartbeats 4000000
namespace Fl
open PySem PySem.Spec PyProof.Rows L2 Fx
open Evl (Ex fresh_back)
/-- all but the pen and the labels stay, and the pen's cells -/
structure exW (pa la : Addr) (H H' : Hp) : Prop where
  but : ∀ b o, H b = some o → b ≠ pa → b ≠ la → H' b = some o
  cells : ∀ c t l, H pa = some (.dK (penV c t l)) → ∃ t' l', H' pa = some (.dK (penV c t' l'))
instance {pa la : Addr} {H H' : Hp} : CoeFun (exW pa la H H') (fun _ => ∀ b o, H b = some o → b ≠ pa → b ≠ la → H' b = some o) := ⟨exW.but⟩
section
variable {K : PySem.W.Frag} {H H' H'' : Hp} {pa wa la na po b : Addr} {names : List Str} {at_ : Nat} {q : Bool} {L : List Str} {n m : Nat}
theorem exW.refl : exW pa la H H := ⟨fun _ _ h _ _ => h, fun c t l h => ⟨t, l, h⟩⟩
theorem exW.trans (e : exW pa la H H') (e' : exW pa la H' H'') : exW pa la H H'' := ⟨fun b o h n1 n2 => e' b o (e b o h n1 n2) n1 n2, fun c t l h => by
  obtain ⟨t1, l1, h1⟩ := e.cells c t l h
  exact e'.cells c t1 l1 h1⟩
theorem exW.p (e : exP pa H H') : exW pa la H H' := ⟨fun b o h n1 _ => e.but b o h n1, e.cells⟩
theorem exW.of (e : Ex H H') : exW pa la H H' := ⟨fun b o h _ _ => e b o h, fun c t l h => ⟨t, l, e _ _ h⟩⟩
theorem exW.back (e : exW pa la H H') (h : H' b = none) (n1 : b ≠ pa) (n2 : b ≠ la) : H b = none := by
  cases hh : H b with
  | none => rfl
  | some o => rw [e _ _ hh n1 n2] at h; cases h
theorem Away.stepW {lf : Addr} (a : Away H pa lf) (e : exW pa la H H') : Away H' pa lf := by
  obtain ⟨c, t, l, h1, h2⟩ := a
  obtain ⟨t', l', h⟩ := e.cells _ _ _ h1
  exact ⟨c, t', l', h, h2⟩
theorem exW.hide (e : exW pa la H H') : Ex (hideL [pa, wa, la] H) (hideL [pa, wa, la] H') := hideL_ex fun b o h hn => e b o h (fun z => hn (by rw [z]; exact List.mem_cons_self)) fun z => hn (by rw [z]; exact List.mem_cons_of_mem _ (List.mem_cons_of_mem _ List.mem_cons_self))
theorem Wd.newp (W : Wd K H pa wa la na po names at_ q L n) (h : H b = none) : b ≠ pa ∧ b ≠ la := by
  have := W.new h
  exact ⟨fun z => this (by rw [z]; exact List.mem_cons_self), fun z => this (by rw [z]; exact List.mem_cons_of_mem _ (List.mem_cons_of_mem _ List.mem_cons_self))⟩
theorem Wd.ex (W : Wd K H pa wa la na po names at_ q L n) (e : Ex H H') : Wd K H' pa wa la na po names at_ q L n := W.step (exP.of e) (W.pen.mono e)
/-- the first label is taken -/
theorem Wd.pop {s : Str} (W : Wd K H pa wa la na po names at_ q (s :: L) n) : Wd K (upd H la (.lst (L.map V.str))) pa wa la na po names at_ q L n := by
  have hne : pa ≠ la := fun z => W.lp z.symm
  obtain ⟨ps, h1, h2, h3, h4⟩ := W.pool
  refine ⟨W.pen.mut W.away hne, W.away.mut hne, by rw [upd_ne W.wl]; exact W.wd, W.wp, by rw [upd_ne W.nl]; exact W.nm, W.nl, W.pl, ⟨ps, by rw [upd_ne W.pl]; exact h1, h2, h3, fun p hp => ?_⟩, upd_same, W.ok, W.at_lt, ⟨fun x hx => W.labs.1 x (List.mem_cons_of_mem _ hx), (List.nodup_cons.mp W.labs.2.1).2, by have := W.labs.2.2; rw [List.length_cons] at this; omega⟩⟩
  obtain ⟨ds, g1, g2, g3⟩ := h4 p hp
  refine ⟨ds, g1.mono (hideL_ex fun b o hb hn => ?_), g2, g3⟩
  rw [upd_ne fun z => hn (by rw [z]; exact List.mem_cons_of_mem _ (List.mem_cons_of_mem _ List.mem_cons_self))]
  exact hb
theorem exW.pop {o : HO} (hne : la ≠ pa) : exW pa la H (upd H la o) := ⟨fun b o h _ n2 => by rw [upd_ne n2]; exact h, fun c t l h => ⟨t, l, by rw [upd_ne hne.symm]; exact h⟩⟩
/-- what is drawn in between -/
theorem Wd.far {L' : List Str} (W : Wd K H pa wa la na po names at_ q L n) (e : exW pa la H H') (p : Pen K H' pa m) (hl : H' la = some (.lst (L'.map V.str))) (hL : (∀ s ∈ L', isWordS s = true) ∧ L'.Nodup ∧ L'.length ≤ 30) : Wd K H' pa wa la na po names at_ q L' m := by
  obtain ⟨kvs, hpa⟩ := W.pen.dict
  obtain ⟨ps, h1, h2, h3, h4⟩ := W.pool
  refine ⟨p, W.away.stepW e, e _ _ W.wd W.wp W.wl, W.wp, e _ _ W.nm W.np W.nl, W.nl, W.pl, ⟨ps, e _ _ h1 (ne_kind h1 hpa (fun z => nomatch z)) W.pl, h2, h3, fun p hp => ?_⟩, hl, W.ok, W.at_lt, hL⟩
  obtain ⟨ds, g1, g2, g3⟩ := h4 p hp
  exact ⟨ds, g1.mono e.hide, g2, g3⟩
end
/-- what items give -/
def ResI (K : PySem.W.Frag) (H H' : Hp) (pa wa la na po : Addr) (names : List Str) (at_ : Nat) (q' : Bool) (L : List Str) (m len : Nat) (l : Addr) : Prop :=
  ∃ xs ds U L', L = U ++ L' ∧ Item q' names U ds ∧ ds.length ≤ len ∧ H l = none ∧ H' l = some (.lst xs) ∧ DA K (hideL [pa, wa, la] H') xs ds ∧ exW pa la H H' ∧ Wd K H' pa wa la na po names at_ q' L' m
def ci : Nat → Nat
  | 0 => 20
  | d + 1 => 100 + 6 * ci d
def il : Nat → Nat
  | 0 => 10
  | d + 1 => 14 + 6 * il d
theorem il_le {d : Nat} (h : d ≤ 2) : il d ≤ 1000 := by
  match d, h with
  | 0, _ => decide
  | 1, _ => decide
  | 2, _ => decide
def sp_item (K : PySem.W.Frag) (deep : Nat) : Sp := fun vs H Q _ => ∃ pa wa la na po names at_ q' L n, vs = [.ref pa, .ref wa, .int (deep : Nat)] ∧ n + ci deep ≤ 600000 ∧ Wd K H pa wa la na po names at_ q' L n ∧ ∀ l H', ResI K H H' pa wa la na po names at_ q' L (n + ci deep) (il deep) l → Q (.ref l) H'
def sp_items (K : PySem.W.Frag) (deep : Nat) : Sp := fun vs H Q _ => ∃ (pa wa la na po : Addr) (names : List Str) (at_ : Nat) (q' : Bool) (L : List Str) (n many : Nat), vs = [.ref pa, .ref wa, .int (many : Nat), .int (deep : Nat)] ∧ many ≤ 3 ∧ n + (1 + 3 * ci deep) ≤ 600000 ∧ Wd K H pa wa la na po names at_ q' L n ∧ ∀ l H', ResI K H H' pa wa la na po names at_ q' L (n + (1 + 3 * ci deep)) (3 * il deep) l → Q (.ref l) H'
section
variable {P : Program} {w : World} {K : PySem.W.Frag} {mg : Str → Option Value} {base : Heap} {f : Addr} {fd : FuncData}
abbrev nm_items : List Str := ["_law_pen_here", "_law_world", "_law_many", "_law_deep", "_law_found", "_law_k"]
theorem sc_items : FnScope nm_items ["_law_pen_here", "_law_world", "_law_many", "_law_deep"] (defScope s_items) := ⟨rfl, rfl, rfl, by decide +kernel, rfl, by decide +kernel, by decide +kernel⟩
theorem ok_items {deep j : Nat} (F : Fun K "_law_items" "_law_items" s_items f fd) (G2 : Gb2 mg) (c1 : Cl P w K mg base CX0 1 "_law_draw" (sp_draw K)) (c2 : Cl P w K mg base CX0 j "_law_item" (sp_item K deep)) (hj : 1 ≤ j) (hd : deep ≤ 2) : FnOk P w K mg base CX0 (j + 1) f fd ["_law_pen_here", "_law_world", "_law_many", "_law_deep"] (sp_items K deep) := by
  refine F.ok sc_items (fun vs H Q E h => ?_) (fun cdv A outer s H vs Q E hr h => ⟨RB _ _, pss_RB, ?_⟩)
  · obtain ⟨_, _, _, _, _, _, _, _, _, _, _, rfl, _⟩ := h; rfl
  obtain ⟨pa, wa, la, na, po, names, at_, q', L, n, many, rfl, hm, hn, W, q⟩ := h
  refine rb_cons <| rs_set 4 (by exact sc_items.nd) <| re_lst <| ra_nil ⟨(by decide), fun l0 H1 hl0 e1 h1 => ?_⟩
  have W1 := W.ex e1
  refine rb_cons <| rs_for (g := gName 5) PassesOwn.never rfl (pg_name (i := 5) (by exact sc_items.nd) rfl (Or.inl rfl)) good_name ?_
  refine ri_range (n := 0) G2.range <| ra_cons <| re_call c1 hr (hk := hj) <| ra_cons <| re_var 0 rfl <| ra_cons <| re_add <| re_var 2 rfl <| re_int ⟨(many : Nat), 1, rfl, rfl, ra_nil ⟨pa, (many : Nat) + 1, n, rfl, by omega, by omega, by omega, W1.pen, fun r H2 r0 r1 e2 pen2 => ra_nil ⟨r, rfl, by omega, by omega, ?_⟩⟩⟩
  have W2 := W1.step e2 pen2
  obtain ⟨kvs, hpa⟩ := W1.pen.dict
  refine ⟨_, _, _, fun i σ' H' => ∃ x l, σ' = [some (.ref pa), some (.ref wa), some (.int (many : Nat)), some (.int (deep : Nat)), some (.ref l), x] ∧ ResI K H H' pa wa la na po names at_ q' L (n + 1 + i * ci deep) (i * il deep) l, walk_range, ?_, fun _ _ _ _ _ => trivial, ?_, ?_⟩
  · refine ⟨_, l0, rfl, [], [], [], L, rfl, Item.nil, Nat.zero_le _, hl0, e2.but _ _ h1 (ne_kind h1 hpa (fun z => nomatch z)), .nil, (exW.of e1).trans (exW.p e2), W2.le (by omega)⟩
  · rintro i x σ' Ha Hb hi ⟨x1, l, rfl, xs, ds, U, L', hL, it, hlen, hl, hxs, hda, ew, Wa⟩ ⟨rfl, rfl⟩
    have hi3 : i ≤ 2 := by omega
    have hii : i * ci deep ≤ 2 * ci deep := Nat.mul_le_mul_right _ hi3
    have hil : i * il deep ≤ 2 * il deep := Nat.mul_le_mul_right _ hi3
    refine rb_one <| rs_set 4 (by exact sc_items.nd) <| re_op op_cat <| re_var 4 rfl <| re_call c2 hr (hk := Nat.le_refl _) <| ra_cons <| re_var 0 rfl <| ra_cons <| re_var 1 rfl <| ra_cons <| re_var 3 rfl <| ra_nil ⟨pa, wa, la, na, po, names, at_, q', L', n + 1 + i * ci deep, rfl, by omega, Wa, fun l2 Hc hres => ?_⟩
    obtain ⟨ys, es, V', L2', hL2, it2, hlen2, hl2, hys, hdb, ew2, Wc⟩ := hres
    have hxl : xs.length = ds.length := hda.length
    have hyl : ys.length = es.length := hdb.length
    have hxs2 : Hc l = some (.lst xs) := by
      have h1 := W.newp hl
      exact ew2 _ _ hxs h1.1 h1.2
    refine ⟨l, l2, xs, ys, rfl, rfl, hxs2, hys, ?_, fun p hp => ?_⟩
    · rw [hxl, hyl]
      have := il_le hd
      exact Nat.le_trans (m := 5000) (by omega) (by rw [sizeLine_eq]; decide)
    have ep : Ex Hc (upd Hc p (.lst (xs ++ ys))) := Ex.new hp
    have hpn := Wc.newp hp
    refine ⟨_, p, rfl, xs ++ ys, ds ++ es, U ++ V', L2', by rw [hL, hL2, List.append_assoc], it.app it2 (fun s hs hv => ?_), ?_, ((ew.trans ew2).back hp hpn.1 hpn.2), upd_same, ((hda.mono ew2.hide).app hdb).mono (hideL_e ep), (ew.trans ew2).trans (exW.of ep), (Wc.ex ep).le ?_⟩
    · have hnd := W.labs.2.1
      rw [hL, hL2] at hnd
      exact (List.nodup_append.mp hnd).2.2 s hs s (List.mem_append_left _ hv) rfl
    · rw [List.length_append, Nat.add_mul, Nat.one_mul]; omega
    · rw [Nat.add_mul, Nat.one_mul]; omega
  · rintro σ' H3 ⟨x, l, rfl, xs, ds, U, L', hL, it, hlen, hl, hxs, hda, ew, Wa⟩
    have hr3 : r.toNat ≤ 3 := by omega
    have hii : r.toNat * ci deep ≤ 3 * ci deep := Nat.mul_le_mul_right _ hr3
    have hil : r.toNat * il deep ≤ 3 * il deep := Nat.mul_le_mul_right _ hr3
    exact rb_one <| rs_ret <| re_var 4 rfl <| q l H3 ⟨xs, ds, U, L', hL, it, by omega, hl, hxs, hda, ew, Wa.le (by omega)⟩
end
end Fl
end
section
set_option Elab.async false
set_option linter.all false
set_option maxRecDepth 100000
set_option maxHeartbeats 2000000
namespace Fx
open PySem PySem.Spec PyProof.Rows L2
/-- a, b = x, y with plain local names -/
theorem rs_two {X : Cx} {σ : L2.St} {H : Hp} {i j : Nat} {x y : Str} {a b : PySem.Expr} {px py pt pos : Pos} {kt k2 : Nat} {pt2 : Pos} {D : Ends} (hc : X.calm = true) (hN : X.N.Nodup) (hi : X.N[i]? = some x) (hj : X.N[j]? = some y) (hij : i ≠ j) (hx : List.lookup x X.env.scope.names = some .local) (hy : List.lookup y X.env.scope.names = some .local)
    (hw : swappedStores [.Tuple [.Name x px, .Name y py] kt pt] (.Tuple [a, b] k2 pt2) X.env = pure (some [x, y]))
    (h : RA X [a, b] σ H fun vs H1 => ∃ v w, vs = [v, w] ∧ D.nx ((σ.set i (some v)).set j (some w)) H1)
    (hs : swapsWithSole [.Tuple [.Name x px, .Name y py] kt pt] (.Tuple [a, b] k2 pt2) pos.line X.env = pure false := by rfl) : RS X (.Assign [.Tuple [.Name x px, .Name y py] kt pt] (.Tuple [a, b] k2 pt2) pos) D σ H :=
  rs_of (ps_par hc hN hi hj hij hx hy pa_RA hw hs) h
end Fx
end
section
set_option Elab.async false
set_option linter.all false
set_option maxRecDepth 100000
set_option maxHeartbeats 4000000
namespace Fl
open PySem PySem.Spec PyProof.Rows L2 Fx
open Evl (Ex fresh_back)
abbrev nm_item : List Str := ["_law_pen_here", "_law_world", "_law_deep", "_law_way", "_law_inner", "_law_many", "_law_found", "_law_k", "_law_spot", "_law_some", "_law_one", "_law_two", "_law_test", "_law_other"]
theorem sc_item : FnScope nm_item ["_law_pen_here", "_law_world", "_law_deep"] (defScope s_item) := ⟨rfl, rfl, rfl, by decide +kernel, rfl, by decide +kernel, by decide +kernel⟩
theorem il_ge (d : Nat) : 10 ≤ il d := by
  cases d with
  | zero => exact Nat.le_refl _
  | succ d => show 10 ≤ 14 + 6 * il d; omega
theorem ci_ge (d : Nat) : 20 ≤ ci d := by
  cases d with
  | zero => exact Nat.le_refl _
  | succ d => show 20 ≤ 100 + 6 * ci d; omega
section
variable {K : PySem.W.Frag} {H H' H'' : Hp} {pa wa la na po b : Addr} {names : List Str} {at_ : Nat} {q : Bool} {L : List Str} {n m : Nat}
theorem ResI.of0 {ds : List PyData} {xs : List V} {l : Addr} {len : Nat} (it : Item q names [] ds) (hl : ds.length ≤ len) (h0 : H l = none) (h1 : H' l = some (.lst xs)) (hd : DA K (hideL [pa, wa, la] H') xs ds) (e : exW pa la H H') (W : Wd K H' pa wa la na po names at_ q L m) : ResI K H H' pa wa la na po names at_ q L m len l :=
  ⟨xs, ds, [], L, rfl, it, hl, h0, h1, hd, e, W⟩
theorem one_atom {d : PyData} (h : PWd names d) : Item q names [] [d] := Item.pln fun x hx => by rw [List.mem_singleton.mp hx]; exact h
/-- a new tuple, seen from afar -/
theorem tupAt {S : List Addr} {t : Addr} {xs : List V} {ds : List PyData} (hn : t ∉ S) (h : H t = some (.tup xs)) (hd : DA K (hideL S H) xs ds) : D K (hideL S H) (.ref t) (.tuple ds) := .tup (.inl (.inl (hideL_at hn h))) hd
theorem szl {a : Nat} (h : a ≤ 90000) : a ≤ sizeLine := Nat.le_trans (m := 90000) h (by rw [sizeLine_eq]; decide)
theorem szlt {a : Nat} (h : a ≤ 90000) : a < sizeLine := Nat.lt_of_le_of_lt (m := 90000) h (by rw [sizeLine_eq]; decide)
end
section
variable {P : Program} {w : World} {K : PySem.W.Frag} {mg : Str → Option Value} {base : Heap} {f : Addr} {fd : FuncData}
def bodyIf : Stmt → List Stmt
  | .If _ b _ _ => b
  | _ => []
theorem item_stack {d' j : Nat} (G2 : Gb2 mg)
    (c1 : Cl P w K mg base CX0 1 "_law_draw" (sp_draw K)) (c2 : Cl P w K mg base CX0 2 "_law_pick" (sp_pick K)) (cI : Cl P w K mg base CX0 j "_law_items" (sp_items K d')) (hj : 4 ≤ j) (hd : d' + 1 ≤ 2)
    {cdv : Value} {A : Around} {outer : List Env} {s : Shared} {H0 : Hp} {E : XK} {De : Ends} (hr : Room j (A.deeper (envOfC "_law_item" (defScope s_item) s.heap.objs.size f cdv))) {pa wa la na po : Addr} {names : List Str} {at_ : Nat} {q' : Bool} {L : List Str} {n : Nat} {H H1 : Hp} {way : Int}
    (hn : n + ci (d' + 1) ≤ 600000) (e1 : exP pa H H1) (W1 : Wd K H1 pa wa la na po names at_ q' L (n + 1)) (q : ∀ l H', ResI K H H' pa wa la na po names at_ q' L (n + ci (d' + 1)) (il (d' + 1)) l → De.rt (.ref l) H') :
    RB (cxOf CX0 P w K mg base nm_item "_law_item" (defScope s_item) f cdv A outer s H0 E).nox (bodyIf ((defBody s_item).getD 3 (.Pass ⟨0, 0, 0, 0⟩))) De [some (.ref pa), some (.ref wa), some (.int ((d' + 1 : Nat) : Int)), some (.int way), none, none, none, none, none, none, none, none, none, none] H1 := by
  have hS : pa ∈ [pa, wa, la] := List.mem_cons_self
  have hci : ci (d' + 1) = 100 + 6 * ci d' := rfl
  have hil : il (d' + 1) = 14 + 6 * il d' := rfl
  have hil2 := il_le (d := d') (by omega)
  have hd1 : (((d' + 1 : Nat) : Int) - 1) = (d' : Nat) := by omega
  refine rb_cons <| rs_two (i := 4) (j := 5) rfl (by exact sc_item.nd) rfl rfl (by decide) rfl rfl rfl ?_
  refine ra_cons <| re_call cI hr (hk := Nat.le_refl _) <| ra_cons <| re_var 0 rfl <| ra_cons <| re_var 1 rfl <| ra_cons <| re_int <| ra_cons <| re_sub <| re_var 2 rfl <| re_int ⟨_, 1, rfl, rfl, ra_nil ⟨pa, wa, la, na, po, names, at_, q', L, n + 1, 2, by rw [hd1]; rfl, by decide, by omega, W1, fun li H2 hres => ?_⟩⟩
  obtain ⟨xs, ds, U, L', hL, it, hlen, hli, hxs, hda, ew, W2⟩ := hres
  have hxl := hda.length
  have nli := W1.newp hli
  refine ra_cons <| re_call c2 hr (hk := by omega) <| ra_cons <| re_var 0 rfl <| ra_cons <| re_lst <| ra_cons <| re_int <| ra_cons <| re_int <| ra_cons <| re_int <| ra_cons <| re_int <| ra_nil ⟨Nat.le_of_ble_eq_true rfl, fun p3 H3 hp3 e3 h3 => ra_nil ⟨pa, p3, _, _, rfl, .inl (.inl h3), Nat.le_of_ble_eq_true rfl, Nat.le_of_ble_eq_true rfl, ?_, W2.pen.mono e3, fun v H4 hv e4 pen4 => ra_nil ⟨.ref li, v, rfl, ?_⟩⟩⟩
  · omega
  obtain ⟨many, rfl, hm1, hm5⟩ : ∃ many : Nat, v = .int (many : Nat) ∧ 1 ≤ many ∧ many ≤ 5 := by
    simp only [List.mem_cons, List.not_mem_nil, or_false] at hv
    rcases hv with rfl | rfl | rfl | rfl
    · exact ⟨1, rfl, by decide, by decide⟩
    · exact ⟨1, rfl, by decide, by decide⟩
    · exact ⟨2, rfl, by decide, by decide⟩
    · exact ⟨5, rfl, by decide, by decide⟩
  have W4 := (W2.ex e3).step e4 pen4
  have e24 : exP pa H2 H4 := (exP.of e3).trans e4
  generalize hm0 : n + 1 + (1 + 3 * ci d') + 1 = m0 at *
  -- the pushes
  refine rb_cons <| rs_set 6 (by exact sc_item.nd) <| re_op op_cat <| re_lcS (own := [("_law_k", 7)]) (g := gName 7) rfl (by exact sc_item.nd) (blkOk_by (N := nm_item) (sc := defScope s_item) (by decide +kernel)) (fun _ _ _ _ _ => pg_name (i := 7) (by exact sc_item.nd) rfl (Or.inl rfl)) good_name ?_
  refine ri_range (n := 0) G2.range <| ra_cons <| re_var 5 rfl <| ra_nil ⟨(many : Nat), rfl, by omega, by omega, ?_⟩
  refine ⟨_, _, _, fun Dl i H' acc => ∃ rs : List Int, DA K (hideL [Dl, pa, wa, la] H') acc (rs.map (lr "push")) ∧ rs.length = i ∧ (∀ x ∈ rs, isReg x) ∧ exP pa H4 H' ∧ Pen K H' pa (m0 + i) ∧ Away H' pa Dl, walk_range, by omega, fun _ _ _ _ _ => trivial, fun Dl hD => ?_, ?_, ?_⟩
  · exact ⟨[], .nil, rfl, (fun _ h => nomatch h), (exP.refl).mut hD (W4.newp hD).1.symm, W4.pen.mut (W4.pen.away hD) (W4.newp hD).1.symm, (W4.pen.away hD).mut (W4.newp hD).1.symm⟩
  · rintro Dl i x H5 H6 acc hD hi hDl hlen5 ⟨rs, hda5, hrl, hreg, e5, pen5, aw5⟩ ⟨rfl, rfl⟩
    have hi5 : i < many := hi
    have neD : Dl ≠ pa := (W4.newp hD).1
    refine ⟨rfl, fun s0 H0 C cl fp => ?_⟩
    refine re_tup <| ra_cons <| re_str <| ra_cons <| re_call c1 hr (hk := by omega) <| ra_cons <| re_var 0 rfl <| ra_cons <| re_int <| ra_nil ⟨pa, 5, m0 + i, rfl, by decide, by decide, by omega, pen5, fun r H7 r0 r1 e7 pen7 => ra_nil ⟨Nat.le_of_ble_eq_true rfl, fun t H8 ht e8 h8 => ?_⟩⟩
    have hD7 : H7 Dl = some (.lst acc) := e7.but _ _ hDl neD
    have W7 := (W4.step e5 pen5).step e7 pen7
    have tD : t ≠ Dl := fun z => by rw [z, hD7] at ht; cases ht
    have tS : t ∉ [Dl, pa, wa, la] := fun z => by
      rcases List.mem_cons.mp z with z | z
      · exact tD z
      · exact W7.new ht z
    refine ⟨e8 _ _ hD7, rs ++ [r], ?_, by rw [List.length_append, hrl]; rfl, fun x hx => ?_, ((e5.trans e7).trans (exP.of e8)).mut hD neD.symm, (pen7.mono e8).mut ((aw5.step e7).step (exP.of e8)) neD.symm, ((aw5.step e7).step (exP.of e8)).mut neD.symm⟩
    · rw [List.map_append]
      refine DA.app (hda5.mono (hideL_ex fun b o hb hn => ?_)) (.cons (tupAt tS (by rw [upd_ne tD]; exact h8) (.cons (.str _) (.cons (.int _) .nil))) .nil)
      rw [upd_ne fun z => hn (by rw [z]; exact List.mem_cons_self)]
      exact e8 _ _ (e7.but _ _ hb fun z => hn (by rw [z]; exact List.mem_cons_of_mem _ List.mem_cons_self))
    · rcases List.mem_append.mp hx with hx | hx
      · exact hreg x hx
      · rw [List.mem_singleton.mp hx]; exact reg5 r0 r1
  rintro Dl acc H5 hD hDl hlen5 ⟨rs, hda5, hrl, hreg, e5, pen5, aw5⟩
  have hrm : rs.length = many := by rw [hrl]; rfl
  have hal : acc.length = many := by rw [hlen5]; rfl
  have W5 := W4.step e5 pen5
  have hli5 : H5 li = some (.lst xs) := (e24.trans e5).but _ _ hxs nli.1
  refine re_var 4 rfl ⟨Dl, li, acc, xs, rfl, rfl, hDl, hli5, szl (by omega), fun p hp => ?_⟩
  have e6 : Ex H5 (upd H5 p (.lst (acc ++ xs))) := Ex.new hp
  have h6 : upd H5 p (.lst (acc ++ xs)) p = some (.lst (acc ++ xs)) := upd_same
  have W6 := W5.ex e6
  have eS : ∀ {a : Addr}, ∀ x ∈ [pa, wa, la], x ∈ [a, pa, wa, la] := fun x hx => List.mem_cons_of_mem _ hx
  have da6 : DA K (hideL [p, pa, wa, la] (upd H5 p (.lst (acc ++ xs)))) (acc ++ xs) (rs.map (lr "push") ++ ds) :=
    DA.app (hda5.mono (((hideL_sub eS).trans (hideL_new hp)).trans (hideL_e e6))) (hda.mono (((hideL_p hS (e24.trans e5)).trans (hideL_new hp)).trans (hideL_e e6)))
  have np : p ≠ pa := (W5.newp hp).1
  have l6 : (acc ++ xs).length ≤ 3100 := by rw [List.length_append]; omega
  generalize hys : acc ++ xs = ys6 at *
  generalize upd H5 p (.lst ys6) = H6 at *
  have pen6 := W6.pen
  have aw6 : Away H6 pa p := (pen5.away hp).step (exP.of e6)
  -- reads and writes
  refine rb_cons <| rs_for (g := gName 7) PassesOwn.never rfl (pg_name (i := 7) (by exact sc_item.nd) rfl (Or.inl rfl)) good_name ?_
  refine ri_range (n := 0) G2.range <| ra_cons <| re_call c1 hr (hk := by omega) <| ra_cons <| re_var 0 rfl <| ra_cons <| re_int <| ra_nil ⟨pa, 3, m0 + many, rfl, by decide, by decide, by omega, pen6, fun tr H7 t0 t1 e7 pen7 => ra_nil ⟨tr, rfl, by omega, by omega, ?_⟩⟩
  refine ⟨_, _, _, fun i σ' H' => ∃ x7 x8 x9 ys rw', σ' = [some (.ref pa), some (.ref wa), some (.int ((d' + 1 : Nat) : Int)), some (.int way), some (.ref li), some (.int (many : Nat)), some (.ref p), x7, x8, x9, none, none, none, none] ∧ H' p = some (.lst ys) ∧ DA K (hideL [p, pa, wa, la] H') ys (rs.map (lr "push") ++ ds ++ rw') ∧ (∀ d ∈ rw', RwL many d) ∧ rw'.length = i ∧ exP pa H5 H' ∧ Pen K H' pa (m0 + many + 1 + 4 * i) ∧ Away H' pa p, walk_range, ?_, fun _ _ _ _ _ => trivial, ?_, ?_⟩
  · exact ⟨_, _, _, ys6, [], rfl, e7.but _ _ h6 np, by rw [List.append_nil]; exact da6.mono (hideL_p (List.mem_cons_of_mem _ List.mem_cons_self) e7), (fun _ h => nomatch h), rfl, (exP.of e6).trans e7, pen7, aw6.step e7⟩
  · rintro i x σ' Ha Hb hi ⟨x7, x8, x9, ys, rw', rfl, hys', hda', hrw, hrl', e8, pen8, aw8⟩ ⟨rfl, rfl⟩
    have hi2 : i ≤ 1 := by omega
    have hyl := hda'.length
    have hyl2 : ys.length = many + ds.length + i := by
      rw [hyl, List.length_append, List.length_append, List.length_map, hrm, hrl']
    refine rb_cons <| rs_set 8 (by exact sc_item.nd) <| re_call c1 hr (hk := by omega) <| ra_cons <| re_var 0 rfl <| ra_cons <| re_var 5 rfl <| ra_nil ⟨pa, (many : Nat), _, rfl, by omega, by omega, ?_, pen8, fun sp H9 s0 s1 e9 pen9 => ?_⟩
    · omega
    obtain ⟨spot, rfl⟩ := Int.eq_ofNat_of_zero_le s0
    have hspot : spot < many := by omega
    refine rb_cons <| rs_set 9 (by exact sc_item.nd) <| re_lst <| ra_cons <| re_tup <| ra_cons <| re_str <| ra_cons <| re_call c1 hr (hk := by omega) <| ra_cons <| re_var 0 rfl <| ra_cons <| re_int <| ra_nil ⟨pa, 5, _, rfl, by decide, by decide, ?_, pen9, fun g1 H10 g10 g11 e10 pen10 => ra_cons <| re_var 8 rfl <| ra_nil ⟨Nat.le_of_ble_eq_true rfl, fun t1 H11 ht1 e11 h11 => ?_⟩⟩
    · omega
    refine ra_cons <| re_tup <| ra_cons <| re_str <| ra_cons <| re_var 8 rfl <| ra_cons <| re_call c1 hr (hk := by omega) <| ra_cons <| re_var 0 rfl <| ra_cons <| re_int <| ra_nil ⟨pa, 5, _, rfl, by decide, by decide, ?_, pen10.mono e11, fun g2 H12 g20 g21 e12 pen12 => ra_nil ⟨Nat.le_of_ble_eq_true rfl, fun t2 H13 ht2 e13 h13 => ra_nil ⟨Nat.le_of_ble_eq_true rfl, fun l3 H14 hl3 e14 h14 => ?_⟩⟩⟩
    · omega
    have e814 : exP pa Hb H14 := ((((e9.trans e10).trans (exP.of e11)).trans e12).trans (exP.of e13)).trans (exP.of e14)
    have hp14 : H14 p = some (.lst ys) := e814.but _ _ hys' np
    refine rb_one <| rs_expr <| re_append <| re_var 6 rfl ⟨p, rfl, ⟨_, hp14⟩, re_call c2 hr (hk := by omega) <| ra_cons <| re_var 0 rfl <| ra_cons <| re_var 9 rfl <| ra_nil ⟨pa, l3, _, _, rfl, .inl (.inl h14), Nat.le_of_ble_eq_true rfl, Nat.le_of_ble_eq_true rfl, ?_, (pen12.mono e13).mono e14, fun v H15 hv e15 pen15 => ⟨ys, e15.but _ _ hp14 np, szlt (by omega), ?_⟩⟩⟩
    · omega
    have e815 := e814.trans e15
    have W15 := ((W5.step e8 pen8).step e815 (pen15.upto (Nat.le_refl _)))
    have hp15 : H15 p = some (.lst ys) := e815.but _ _ hys' np
    have key : ∃ t d, v = .ref t ∧ RwL many d ∧ D K (hideL [p, pa, wa, la] H15) (.ref t) d ∧ t ≠ p := by
      simp only [List.mem_cons, List.not_mem_nil, or_false] at hv
      have hn : ∀ {t : Addr} {H0 : Hp}, exP pa Hb H0 → Pen K H0 pa 600000 → H0 t = none → t ∉ [p, pa, wa, la] := fun {t H0} ex pe h z => by
        have W0 := (W5.step e8 pen8).step ex pe
        rcases List.mem_cons.mp z with z | z
        · rw [z, ex.but _ _ hys' np] at h; cases h
        · exact W0.new h z
      rcases hv with rfl | rfl
      · have hh : H15 t1 = some (.tup [.str "read", .int g1, .int (spot : Nat)]) := e15.but _ _ (e14 _ _ (e13 _ _ (e12.but _ _ h11 (fun z => (hn (e9.trans e10) (pen10.upto (by omega)) ht1 (by rw [z]; exact List.mem_cons_of_mem _ List.mem_cons_self)))))) (fun z => (hn (e9.trans e10) (pen10.upto (by omega)) ht1 (by rw [z]; exact List.mem_cons_of_mem _ List.mem_cons_self)))
        have hnt := hn (e9.trans e10) (pen10.upto (by omega)) ht1
        exact ⟨t1, lread g1 spot, rfl, ⟨g1, spot, .inl rfl, reg5 g10 g11, hspot, by omega⟩, tupAt hnt hh (.cons (.str _) (.cons (.int _) (.cons (.int _) .nil))), fun z => hnt (by rw [z]; exact List.mem_cons_self)⟩
      · have hnt := hn (((e9.trans e10).trans (exP.of e11)).trans e12) (pen12.upto (by omega)) ht2
        have hh : H15 t2 = some (.tup [.str "write", .int (spot : Nat), .int g2]) := e15.but _ _ (e14 _ _ h13) (fun z => hnt (by rw [z]; exact List.mem_cons_of_mem _ List.mem_cons_self))
        exact ⟨t2, lwrite spot g2, rfl, ⟨g2, spot, .inr rfl, reg5 g20 g21, hspot, by omega⟩, tupAt hnt hh (.cons (.str _) (.cons (.int _) (.cons (.int _) .nil))), fun z => hnt (by rw [z]; exact List.mem_cons_self)⟩
    obtain ⟨t, dl, rfl, hrd, hdt, htp⟩ := key
    have eP : Ex (hideL [p, pa, wa, la] H15) (hideL [p, pa, wa, la] (upd H15 p (.lst (ys ++ [.ref t])))) := hideL_ex fun b o hb hn => by
      rw [upd_ne fun z => hn (by rw [z]; exact List.mem_cons_self)]; exact hb
    refine ⟨_, _, _, ys ++ [.ref t], rw' ++ [dl], rfl, upd_same, ?_, fun d hd => ?_, by rw [List.length_append, hrl']; rfl, (e8.trans e815).mut hp np.symm, (pen15.upto (by omega)).mut (aw8.step e815) np.symm, (aw8.step e815).mut np.symm⟩
    · rw [← List.append_assoc]
      exact DA.app ((hda'.mono (hideL_p (List.mem_cons_of_mem _ List.mem_cons_self) e815)).mono eP) (.cons (hdt.mono eP) .nil)
    · rcases List.mem_append.mp hd with hd | hd
      · exact hrw d hd
      · rw [List.mem_singleton.mp hd]; exact hrd
  -- the pops
  rintro σ' H8 ⟨x7, x8, x9, ys, rw', rfl, hys', hda', hrw, hrl', e8, pen8, aw8⟩
  have W8 := W5.step e8 pen8
  have hr2 : tr.toNat ≤ 2 := by omega
  have hyl := hda'.length
  have hyl2 : ys.length = many + ds.length + tr.toNat := by
    rw [hyl, List.length_append, List.length_append, List.length_map, hrm, hrl']
  refine rb_one <| rs_ret <| re_op op_cat <| re_var 6 rfl <| re_lcS (own := [("_law_k", 7)]) (g := gName 7) rfl (by exact sc_item.nd) (blkOk_by (N := nm_item) (sc := defScope s_item) (by decide +kernel)) (fun _ _ _ _ _ => pg_name (i := 7) (by exact sc_item.nd) rfl (Or.inl rfl)) good_name ?_
  refine ri_range (n := 0) G2.range <| ra_cons <| re_var 5 rfl <| ra_nil ⟨(many : Nat), rfl, by omega, by omega, ?_⟩
  generalize hm1' : m0 + many + 1 + 4 * tr.toNat = m1 at *
  refine ⟨_, _, _, fun Dl i H' acc => ∃ qs : List Int, DA K (hideL [Dl, pa, wa, la] H') acc (qs.map (lr "pop")) ∧ qs.length = i ∧ (∀ x ∈ qs, isReg x) ∧ exP pa H8 H' ∧ Pen K H' pa (m1 + i) ∧ Away H' pa Dl, walk_range, by omega, fun _ _ _ _ _ => trivial, fun Dl hD => ?_, ?_, ?_⟩
  · exact ⟨[], .nil, rfl, (fun _ h => nomatch h), (exP.refl).mut hD (W8.newp hD).1.symm, W8.pen.mut (W8.pen.away hD) (W8.newp hD).1.symm, (W8.pen.away hD).mut (W8.newp hD).1.symm⟩
  · rintro Dl i x H9 H10 acc hD hi hDl hlen9 ⟨qs, hda9, hql, hreg', e9, pen9, aw9⟩ ⟨rfl, rfl⟩
    have hi5 : i < many := hi
    have neD : Dl ≠ pa := (W8.newp hD).1
    refine ⟨rfl, fun s0 H0 C cl fp => ?_⟩
    refine re_tup <| ra_cons <| re_str <| ra_cons <| re_call c1 hr (hk := by omega) <| ra_cons <| re_var 0 rfl <| ra_cons <| re_int <| ra_nil ⟨pa, 5, m1 + i, rfl, by decide, by decide, by omega, pen9, fun r H11 r0 r1 e11 pen11 => ra_nil ⟨Nat.le_of_ble_eq_true rfl, fun t H12 ht e12 h12 => ?_⟩⟩
    have hD11 : H11 Dl = some (.lst acc) := e11.but _ _ hDl neD
    have W11 := (W8.step e9 pen9).step e11 pen11
    have tD : t ≠ Dl := fun z => by rw [z, hD11] at ht; cases ht
    have tS : t ∉ [Dl, pa, wa, la] := fun z => by
      rcases List.mem_cons.mp z with z | z
      · exact tD z
      · exact W11.new ht z
    refine ⟨e12 _ _ hD11, qs ++ [r], ?_, by rw [List.length_append, hql]; rfl, fun x hx => ?_, ((e9.trans e11).trans (exP.of e12)).mut hD neD.symm, (pen11.mono e12).mut ((aw9.step e11).step (exP.of e12)) neD.symm, ((aw9.step e11).step (exP.of e12)).mut neD.symm⟩
    · rw [List.map_append]
      refine DA.app (hda9.mono (hideL_ex fun b o hb hn => ?_)) (.cons (tupAt tS (by rw [upd_ne tD]; exact h12) (.cons (.str _) (.cons (.int _) .nil))) .nil)
      rw [upd_ne fun z => hn (by rw [z]; exact List.mem_cons_self)]
      exact e12 _ _ (e11.but _ _ hb fun z => hn (by rw [z]; exact List.mem_cons_of_mem _ List.mem_cons_self))
    · rcases List.mem_append.mp hx with hx | hx
      · exact hreg' x hx
      · rw [List.mem_singleton.mp hx]; exact reg5 r0 r1
  rintro Dl acc2 H9 hD hDl hlen9 ⟨qs, hda9, hql, hreg', e9, pen9, aw9⟩
  have hqm : qs.length = many := by rw [hql]; rfl
  have hal2 : acc2.length = many := by rw [hlen9]; rfl
  have W9 := W8.step e9 pen9
  refine ⟨p, Dl, ys, acc2, rfl, rfl, e9.but _ _ hys' np, hDl, szl (by omega), fun l hl => q l _ ?_⟩
  have e10 : Ex H9 (upd H9 l (.lst (ys ++ acc2))) := Ex.new hl
  have e110 : exP pa H2 H9 := ((e24.trans e5).trans e8).trans e9
  refine ⟨ys ++ acc2, rs.map (lr "push") ++ ds ++ rw' ++ qs.map (lr "pop"), U, L', hL, Item.stack it hreg hreg' (by rw [hqm, hrm]) (by rw [hrm]; exact hrw), ?_, ?_, upd_same, ?_, ((exW.p e1).trans (ew.trans (exW.p e110))).trans (exW.of e10), (W9.ex e10).le (by omega)⟩
  · rw [List.length_append, List.length_append, List.length_append, List.length_map, List.length_map]
    omega
  · have nl := W9.newp hl
    exact e1.back ((ew.trans (exW.p e110)).back hl nl.1 nl.2) nl.1
  · exact DA.app (hda'.mono (((hideL_sub eS).trans (hideL_p hS e9)).trans (hideL_e e10))) (hda9.mono ((hideL_sub eS).trans (hideL_e e10)))
end
end Fl
end
section
set_option Elab.async false
set_option linter.all false
set_option maxRecDepth 100000
set_option maxHeartbeats 4000000
namespace Fl
open PySem PySem.Spec PyProof.Rows L2 Fx
open Evl (Ex fresh_back)
section
variable {P : Program} {w : World} {K : PySem.W.Frag} {mg : Str → Option Value} {base : Heap} {f : Addr} {fd : FuncData}
theorem two_of : ∀ {L : List Str}, 2 ≤ L.length → ∃ a b r, L = a :: b :: r
  | [], h => absurd h (by simp)
  | [_], h => absurd h (by simp)
  | a :: b :: r, _ => ⟨a, b, r, rfl⟩
theorem item_marks {d' j : Nat}
    (c1 : Cl P w K mg base CX0 1 "_law_draw" (sp_draw K)) (c2 : Cl P w K mg base CX0 2 "_law_pick" (sp_pick K)) (cI : Cl P w K mg base CX0 j "_law_items" (sp_items K d')) (hj : 4 ≤ j) (hd : d' + 1 ≤ 2)
    {cdv : Value} {A : Around} {outer : List Env} {s : Shared} {H0 : Hp} {E : XK} {De : Ends} (hr : Room j (A.deeper (envOfC "_law_item" (defScope s_item) s.heap.objs.size f cdv))) {pa wa la na po : Addr} {names : List Str} {at_ : Nat} {q' : Bool} {L : List Str} {n : Nat} {H H1 : Hp} {way : Int}
    (hn : n + ci (d' + 1) ≤ 600000) (e1 : exP pa H H1) (W1 : Wd K H1 pa wa la na po names at_ q' L (n + 1)) (q : ∀ l H', ResI K H H' pa wa la na po names at_ q' L (n + ci (d' + 1)) (il (d' + 1)) l → De.rt (.ref l) H') (way8 : 8 ≤ way) (hL2 : 2 ≤ L.length) :
    RB (cxOf CX0 P w K mg base nm_item "_law_item" (defScope s_item) f cdv A outer s H0 E).nox ((defBody s_item).drop 4) De [some (.ref pa), some (.ref wa), some (.int ((d' + 1 : Nat) : Int)), some (.int way), none, none, none, none, none, none, none, none, none, none] H1 := by
  have hS : pa ∈ [pa, wa, la] := List.mem_cons_self
  have hci : ci (d' + 1) = 100 + 6 * ci d' := rfl
  have hil : il (d' + 1) = 14 + 6 * il d' := rfl
  have hil2 := il_le (d := d') (by omega)
  have hd1 : (((d' + 1 : Nat) : Int) - 1) = (d' : Nat) := by omega
  obtain ⟨s1, s2, L2, rfl⟩ := two_of hL2
  have wS1 : isWordS s1 = true := W1.labs.1 s1 List.mem_cons_self
  have wS2 : isWordS s2 = true := W1.labs.1 s2 (List.mem_cons_of_mem _ List.mem_cons_self)
  have hnd := W1.labs.2.1
  rw [List.nodup_cons, List.nodup_cons] at hnd
  have ne12 : s1 ≠ s2 := fun z => hnd.1 (by rw [z]; exact List.mem_cons_self)
  have n1 : s1 ∉ L2 := fun z => hnd.1 (List.mem_cons_of_mem _ z)
  have n2 : s2 ∉ L2 := hnd.2.1
  have hnL2 := hnd.2.2
  have hl30 : (s1 :: s2 :: L2).length ≤ 30 := W1.labs.2.2
  have hl32 : L2.length + 2 ≤ 30 := hl30
  -- the labels are taken
  refine rb_cons <| rs_two (i := 10) (j := 11) rfl (by exact sc_item.nd) rfl rfl (by decide) rfl rfl rfl ?_
  refine ra_cons <| re_popAt <| re_dget (hu_of hr) <| re_var 1 rfl <| re_str ⟨wa, _, .inr "labels", .ref la, rfl, W1.wd, rfl, rfl, la, rfl, ⟨_, W1.lab⟩, re_int ⟨_, 0, .str s1, rfl, W1.lab, by decide, ?_, ?_, rfl, ?_⟩⟩
  · rw [List.length_map, List.length_cons, List.length_cons]; omega
  · rw [List.length_map, List.length_cons, List.length_cons]; omega
  have W2 := W1.pop
  have e2 : exW pa la H1 (upd H1 la (.lst ((s2 :: L2).map V.str))) := exW.pop W1.lp
  show RA _ _ _ (upd H1 la (.lst ((s2 :: L2).map V.str))) _
  generalize upd H1 la (.lst ((s2 :: L2).map V.str)) = H2 at *
  refine ra_cons <| re_popAt <| re_dget (hu_of hr) <| re_var 1 rfl <| re_str ⟨wa, _, .inr "labels", .ref la, rfl, W2.wd, rfl, rfl, la, rfl, ⟨_, W2.lab⟩, re_int ⟨_, 0, .str s2, rfl, W2.lab, by decide, ?_, ?_, rfl, ?_⟩⟩
  · rw [List.length_map, List.length_cons]; omega
  · rw [List.length_map, List.length_cons]; omega
  have W3 := W2.pop
  have e3 : exW pa la H2 (upd H2 la (.lst (L2.map V.str))) := exW.pop W2.lp
  show RA _ _ _ (upd H2 la (.lst (L2.map V.str))) _
  generalize upd H2 la (.lst (L2.map V.str)) = H3 at *
  have e03 : exW pa la H H3 := (exW.p e1).trans (e2.trans e3)
  refine ra_nil ⟨.str s1, .str s2, rfl, ?_⟩
  have r4 : isReg 4 := ⟨by decide, by decide⟩
  have r5 : isReg 5 := ⟨by decide, by decide⟩
  -- a loop
  refine rb_cons <| rs_if <| rt_cmp op_eq <| re_var 3 rfl <| re_int ⟨rfl, _, rfl, ifB (fun e => ?_) fun e => rb_nil ?_⟩
  · refine rb_cons <| rs_set 4 (by exact sc_item.nd) <| re_call cI hr (hk := Nat.le_refl _) <| ra_cons <| re_var 0 rfl <| ra_cons <| re_var 1 rfl <| ra_cons <| re_int <| ra_cons <| re_sub <| re_var 2 rfl <| re_int ⟨_, 1, rfl, rfl, ra_nil ⟨pa, wa, la, na, po, names, at_, q', L2, n + 1, 2, by rw [hd1]; rfl, by decide, by omega, W3, fun li H4 hres => ?_⟩⟩
    obtain ⟨xs, ds, U, L', hL, it, hlen, hli, hxs, hda, ew, W4⟩ := hres
    have nli := W3.newp hli
    have hxl := hda.length
    have hUL : ∀ s ∈ U, s ∈ L2 := fun s hs => by rw [hL]; exact List.mem_append_left _ hs
    refine rb_one <| rs_ret <| re_op op_cat <| re_op op_cat <| re_lst <| ra_cons <| re_tup <| ra_cons <| re_str <| ra_cons <| re_var 10 rfl <| ra_nil ⟨Nat.le_of_ble_eq_true rfl, fun t1 H5 ht1 e5 h5 => ra_nil ⟨Nat.le_of_ble_eq_true rfl, fun l1 H6 hl1 e6 h6 => re_var 4 rfl ⟨l1, li, _, xs, rfl, rfl, h6, e6 _ _ (e5 _ _ hxs), szl (show 1 + xs.length ≤ 90000 by omega), fun l2 hl2 => ?_⟩⟩⟩
    have e7 : Ex H6 (upd H6 l2 (.lst ([V.ref t1] ++ xs))) := Ex.new hl2
    have h7 : upd H6 l2 (.lst ([V.ref t1] ++ xs)) l2 = some (.lst ([V.ref t1] ++ xs)) := upd_same
    generalize upd H6 l2 (.lst ([V.ref t1] ++ xs)) = H7 at *
    refine re_lst <| ra_cons <| re_tup <| ra_cons <| re_str <| ra_cons <| re_int <| ra_cons <| re_int <| ra_nil ⟨Nat.le_of_ble_eq_true rfl, fun t2 H8 ht2 e8 h8 => ra_cons <| re_tup <| ra_cons <| re_str <| ra_cons <| re_int <| ra_nil ⟨Nat.le_of_ble_eq_true rfl, fun t3 H9 ht3 e9 h9 => ra_cons <| re_tup <| ra_cons <| re_str <| ra_cons <| re_int <| ra_cons <| re_int <| ra_nil ⟨Nat.le_of_ble_eq_true rfl, fun t4 H10 ht4 e10 h10 => ra_cons <| re_tup <| ra_cons <| re_str <| ra_cons <| re_var 10 rfl <| ra_nil ⟨Nat.le_of_ble_eq_true rfl, fun t5 H11 ht5 e11 h11 => ra_nil ⟨Nat.le_of_ble_eq_true rfl, fun l3 H12 hl3 e12 h12 => ?_⟩⟩⟩⟩⟩
    have e712 : Ex H7 H12 := e8.trans (e9.trans (e10.trans (e11.trans e12)))
    refine ⟨l2, l3, _, _, rfl, rfl, e712 _ _ h7, h12, szl (show (xs.length + 1) + 4 ≤ 90000 by omega), fun l hl => q l _ ?_⟩
    have e13 : Ex H12 (upd H12 l (.lst ([V.ref t1] ++ xs ++ [.ref t2, .ref t3, .ref t4, .ref t5]))) := Ex.new hl
    have W7 := W4.ex (e5.trans (e6.trans e7))
    have W8 := W7.ex e8
    have W9 := W8.ex e9
    have W10 := W9.ex e10
    have W12 := (W10.ex e11).ex e12
    have e413 : Ex H4 (upd H12 l (.lst ([V.ref t1] ++ xs ++ [.ref t2, .ref t3, .ref t4, .ref t5]))) := (e5.trans (e6.trans e7)).trans (e712.trans e13)
    have it2 := Item.ring it wS1 (fun z => n1 (hUL _ z)) (x := "mark") (y := "unless") (by decide +kernel) (by decide +kernel) (.inl ⟨rfl, by decide +kernel⟩) (p := []) (r := [lnum 4 0, lr "in" 5, lrr "same" 5 4]) (fun _ h => nomatch h) (fun d hd => by
      simp only [List.mem_cons, List.not_mem_nil, or_false] at hd
      rcases hd with rfl | rfl | rfl
      · exact p_num r4 ⟨by decide, by decide⟩
      · exact p_r (by decide +kernel) r5
      · exact p_rr (by decide +kernel) r5 r4)
    have eq1 : ([] ++ [ls1 "mark" s1] ++ ds ++ [lnum 4 0, lr "in" 5, lrr "same" 5 4] ++ [ls1 "unless" s1] : List PyData) = [ls1 "mark" s1] ++ ds ++ [lnum 4 0, lr "in" 5, lrr "same" 5 4, ls1 "unless" s1] := by
      rw [List.nil_append, List.append_assoc ([ls1 "mark" s1] ++ ds)]; rfl
    rw [eq1] at it2
    refine ⟨_, _, s1 :: s2 :: U, L', by rw [hL]; rfl, it2.mono fun s hs => ?_, ?_, ?_, upd_same, ?_, (e03.trans ew).trans (exW.of e413), (W12.ex e13).le (by omega)⟩
    · rcases List.mem_cons.mp hs with rfl | hs
      · exact List.mem_cons_self
      · exact List.mem_cons_of_mem _ (List.mem_cons_of_mem _ hs)
    · rw [List.length_append, List.length_append]
      show 1 + ds.length + 4 ≤ _
      omega
    · have nl := W12.newp hl
      exact ((e03.trans ew).trans (exW.of ((e5.trans (e6.trans e7)).trans e712))).back hl nl.1 nl.2
    · refine DA.app (DA.app (.cons (tupAt (W4.new ht1) ((e6.trans (e7.trans (e712.trans e13))) _ _ h5) (.cons (.str _) (.cons (.str _) .nil))) .nil) (hda.mono (hideL_e e413))) (.cons ?_ (.cons ?_ (.cons ?_ (.cons ?_ .nil))))
      · exact tupAt (W7.new ht2) ((e9.trans (e10.trans (e11.trans (e12.trans e13)))) _ _ h8) (.cons (.str _) (.cons (.int _) (.cons (.int _) .nil)))
      · exact tupAt (W8.new ht3) ((e10.trans (e11.trans (e12.trans e13))) _ _ h9) (.cons (.str _) (.cons (.int _) .nil))
      · exact tupAt (W9.new ht4) ((e11.trans (e12.trans e13)) _ _ h10) (.cons (.str _) (.cons (.int _) (.cons (.int _) .nil)))
      · exact tupAt (W10.new ht5) ((e12.trans e13) _ _ h11) (.cons (.str _) (.cons (.str _) .nil))
  -- branches
  refine rb_cons <| rs_two (i := 12) (j := 4) rfl (by exact sc_item.nd) rfl rfl (by decide) rfl rfl rfl ?_
  refine ra_cons <| re_tup <| ra_cons <| re_call c2 hr (hk := by omega) <| ra_cons <| re_var 0 rfl <| ra_cons <| re_lst <| ra_cons <| re_str <| ra_cons <| re_str <| ra_nil ⟨Nat.le_of_ble_eq_true rfl, fun p4 H4 hp4 e4 h4 => ra_nil ⟨pa, p4, _, n + 1, rfl, .inl (.inl h4), Nat.le_of_ble_eq_true rfl, Nat.le_of_ble_eq_true rfl, by omega, W3.pen.mono e4, fun v H5 hv e5 pen5 => ?_⟩⟩
  obtain ⟨tw, rfl, htw⟩ : ∃ tw : Str, v = .str tw ∧ tw ∈ (["copy", "same", "less"] : List Str) := by
    simp only [List.mem_cons, List.not_mem_nil, or_false] at hv
    rcases hv with rfl | rfl
    · exact ⟨_, rfl, by decide +kernel⟩
    · exact ⟨_, rfl, by decide +kernel⟩
  refine ra_cons <| re_call c1 hr (hk := by omega) <| ra_cons <| re_var 0 rfl <| ra_cons <| re_int <| ra_nil ⟨pa, 5, _, rfl, by decide, by decide, by omega, pen5, fun r H6 r0 r1 e6 pen6 => ra_cons <| re_call c1 hr (hk := by omega) <| ra_cons <| re_var 0 rfl <| ra_cons <| re_int <| ra_nil ⟨pa, 5, _, rfl, by decide, by decide, by omega, pen6, fun s' H7 s0 s1' e7 pen7 => ra_nil ⟨Nat.le_of_ble_eq_true rfl, fun tt H8 htt e8 h8 => ra_cons <| re_lst <| ra_nil ⟨Nat.le_of_ble_eq_true rfl, fun l0 H9 hl0 e9 h9 => ra_nil ⟨.ref tt, .ref l0, rfl, ?_⟩⟩⟩⟩⟩
  have e37 : exP pa H3 H7 := (((exP.of e4).trans e5).trans e6).trans e7
  have W7 := W3.step e37 pen7
  have W9 := (W7.ex e8).ex e9
  have ntt := W7.new htt
  have e09 : exW pa la H H9 := (e03.trans (exW.p e37)).trans (exW.of (e8.trans e9))
  have dtt : ∀ {HH : Hp}, HH tt = some (.tup [.str tw, .int r, .int s']) → D K (hideL [pa, wa, la] HH) (.ref tt) (lrr tw r s') := fun h => tupAt ntt h (.cons (.str _) (.cons (.int _) (.cons (.int _) .nil)))
  have h9t : H9 tt = some (.tup [.str tw, .int r, .int s']) := e9 _ _ h8
  have ptest : PW names [lrr tw r s'] := fun d hd => by
    rw [List.mem_singleton.mp hd]; exact p_rr htw (reg5 r0 r1) (reg5 s0 s1')
  refine rb_cons <| rs_set 4 (by exact sc_item.nd) <| re_call cI hr (hk := Nat.le_refl _) <| ra_cons <| re_var 0 rfl <| ra_cons <| re_var 1 rfl <| ra_cons <| re_int <| ra_cons <| re_sub <| re_var 2 rfl <| re_int ⟨_, 1, rfl, rfl, ra_nil ⟨pa, wa, la, na, po, names, at_, q', L2, _, 2, by rw [hd1]; rfl, by decide, ?_, W9, fun li H10 hres => ?_⟩⟩
  · omega
  obtain ⟨xs, ds, U, L', hL, it, hlen, hli, hxs, hda, ew, W10⟩ := hres
  have nli := W9.newp hli
  have hxl := hda.length
  have hUL : ∀ s ∈ U, s ∈ L2 := fun s hs => by rw [hL]; exact List.mem_append_left _ hs
  have ntp : tt ≠ pa ∧ tt ≠ la := W7.newp htt
  have h10t : H10 tt = some (.tup [.str tw, .int r, .int s']) := ew _ _ h9t ntp.1 ntp.2
  refine rb_cons <| rs_if <| rt_cmp op_eq <| re_var 3 rfl <| re_int ⟨rfl, _, rfl, ifB (fun e => ?_) fun e => rb_nil ?_⟩
  · refine rb_one <| rs_ret <| re_op op_cat <| re_op op_cat <| re_lst <| ra_cons <| re_var 12 rfl <| ra_cons <| re_tup <| ra_cons <| re_call c2 hr (hk := by omega) <| ra_cons <| re_var 0 rfl <| ra_cons <| re_lst <| ra_cons <| re_str <| ra_cons <| re_str <| ra_nil ⟨Nat.le_of_ble_eq_true rfl, fun p11 H11 hp11 e11 h11 => ra_nil ⟨pa, p11, _, _, rfl, .inl (.inl h11), Nat.le_of_ble_eq_true rfl, Nat.le_of_ble_eq_true rfl, ?_, W10.pen.mono e11, fun v H12 hv e12 pen12 => ?_⟩⟩
    · omega
    obtain ⟨iw, rfl, hiw⟩ : ∃ iw : Str, v = .str iw ∧ iw ∈ (["if", "unless"] : List Str) := by
      simp only [List.mem_cons, List.not_mem_nil, or_false] at hv
      rcases hv with rfl | rfl
      · exact ⟨_, rfl, by decide +kernel⟩
      · exact ⟨_, rfl, by decide +kernel⟩
    have e1012 : exP pa H10 H12 := (exP.of e11).trans e12
    have W12 := W10.step e1012 pen12
    refine ra_cons <| re_var 10 rfl <| ra_nil ⟨Nat.le_of_ble_eq_true rfl, fun t1 H13 ht1 e13 h13 => ra_nil ⟨Nat.le_of_ble_eq_true rfl, fun l1 H14 hl1 e14 h14 => re_var 4 rfl ⟨l1, li, _, xs, rfl, rfl, h14, e14 _ _ (e13 _ _ (e1012.but _ _ hxs nli.1)), szl (show 2 + xs.length ≤ 90000 by omega), fun l2 hl2 => ?_⟩⟩⟩
    have e15 : Ex H14 (upd H14 l2 (.lst ([V.ref tt, V.ref t1] ++ xs))) := Ex.new hl2
    have h15 : upd H14 l2 (.lst ([V.ref tt, V.ref t1] ++ xs)) l2 = some (.lst ([V.ref tt, V.ref t1] ++ xs)) := upd_same
    generalize upd H14 l2 (.lst ([V.ref tt, V.ref t1] ++ xs)) = H15 at *
    refine re_lst <| ra_cons <| re_tup <| ra_cons <| re_str <| ra_cons <| re_var 10 rfl <| ra_nil ⟨Nat.le_of_ble_eq_true rfl, fun t2 H16 ht2 e16 h16 => ra_nil ⟨Nat.le_of_ble_eq_true rfl, fun l3 H17 hl3 e17 h17 => ?_⟩⟩
    refine ⟨l2, l3, _, _, rfl, rfl, e17 _ _ (e16 _ _ h15), h17, szl (show (xs.length + 2) + 1 ≤ 90000 by omega), fun l hl => q l _ ?_⟩
    have e18 : Ex H17 (upd H17 l (.lst ([V.ref tt, V.ref t1] ++ xs ++ [.ref t2]))) := Ex.new hl
    have W15 := ((W12.ex e13).ex e14).ex e15
    have W17 := (W15.ex e16).ex e17
    have e1217 : Ex H12 H17 := e13.trans (e14.trans (e15.trans (e16.trans e17)))
    have e1218 := e1217.trans e18
    have it2 := Item.ring it wS1 (fun z => n1 (hUL _ z)) (x := iw) (y := "mark") (List.mem_cons_of_mem _ (List.mem_cons_of_mem _ hiw)) (by decide +kernel) (.inr ⟨List.mem_cons_of_mem _ hiw, rfl⟩) (p := [lrr tw r s']) (r := []) ptest (fun _ h => nomatch h)
    have eq1 : ([lrr tw r s'] ++ [ls1 iw s1] ++ ds ++ [] ++ [ls1 "mark" s1] : List PyData) = [lrr tw r s', ls1 iw s1] ++ ds ++ [ls1 "mark" s1] := by rw [List.append_nil]; rfl
    rw [eq1] at it2
    have nl := W17.newp hl
    refine ⟨_, _, s1 :: s2 :: U, L', by rw [hL]; rfl, it2.mono fun s hs => ?_, ?_, ?_, upd_same, ?_, (e09.trans (ew.trans (exW.p e1012))).trans (exW.of e1218), (W17.ex e18).le (by omega)⟩
    · rcases List.mem_cons.mp hs with rfl | hs
      · exact List.mem_cons_self
      · exact List.mem_cons_of_mem _ (List.mem_cons_of_mem _ hs)
    · rw [List.length_append, List.length_append]
      show 2 + ds.length + 1 ≤ _
      omega
    · exact ((e09.trans (ew.trans (exW.p e1012))).trans (exW.of e1217)).back hl nl.1 nl.2
    · refine DA.app (DA.app (.cons (dtt (e1218 _ _ (e1012.but _ _ h10t ntp.1))) (.cons ?_ .nil)) (hda.mono ((hideL_p hS e1012).trans (hideL_e e1218)))) (.cons ?_ .nil)
      · exact tupAt (W12.new ht1) ((e14.trans (e15.trans (e16.trans (e17.trans e18)))) _ _ h13) (.cons (.str _) (.cons (.str _) .nil))
      · exact tupAt (W15.new ht2) ((e17.trans e18) _ _ h16) (.cons (.str _) (.cons (.str _) .nil))
  -- one of two
  refine rb_cons <| rs_set 13 (by exact sc_item.nd) <| re_call cI hr (hk := Nat.le_refl _) <| ra_cons <| re_var 0 rfl <| ra_cons <| re_var 1 rfl <| ra_cons <| re_int <| ra_cons <| re_sub <| re_var 2 rfl <| re_int ⟨_, 1, rfl, rfl, ra_nil ⟨pa, wa, la, na, po, names, at_, q', L', _, 1, by rw [hd1]; rfl, by decide, ?_, W10, fun lj H11 hres => ?_⟩⟩
  · omega
  obtain ⟨ys, es, V', L'', hL'', it', hlen', hlj, hys, hdb, ew2, W11⟩ := hres
  have nlj := W10.newp hlj
  have hyl := hdb.length
  have hVL : ∀ s ∈ V', s ∈ L2 := fun s hs => by rw [hL, hL'']; exact List.mem_append_right _ (List.mem_append_left _ hs)
  have dis : ∀ s ∈ U, s ∉ V' := fun s hs hv => by
    rw [hL, hL''] at hnL2
    exact (List.nodup_append.mp hnL2).2.2 s hs s (List.mem_append_left _ hv) rfl
  have h11t : H11 tt = some (.tup [.str tw, .int r, .int s']) := ew2 _ _ h10t ntp.1 ntp.2
  have hxs11 : H11 li = some (.lst xs) := ew2 _ _ hxs nli.1 nli.2
  refine rb_one <| rs_ret <| re_op op_cat <| re_op op_cat <| re_op op_cat <| re_op op_cat <| re_lst <| ra_cons <| re_var 12 rfl <| ra_cons <| re_tup <| ra_cons <| re_str <| ra_cons <| re_var 10 rfl <| ra_nil ⟨Nat.le_of_ble_eq_true rfl, fun t1 H12 ht1 e12 h12 => ra_nil ⟨Nat.le_of_ble_eq_true rfl, fun l1 H13 hl1 e13 h13 => re_var 4 rfl ⟨l1, li, _, xs, rfl, rfl, h13, e13 _ _ (e12 _ _ hxs11), szl (show 2 + xs.length ≤ 90000 by omega), fun l2 hl2 => ?_⟩⟩⟩
  have e14 : Ex H13 (upd H13 l2 (.lst ([V.ref tt, V.ref t1] ++ xs))) := Ex.new hl2
  have h14 : upd H13 l2 (.lst ([V.ref tt, V.ref t1] ++ xs)) l2 = some (.lst ([V.ref tt, V.ref t1] ++ xs)) := upd_same
  generalize upd H13 l2 (.lst ([V.ref tt, V.ref t1] ++ xs)) = H14 at *
  refine re_lst <| ra_cons <| re_tup <| ra_cons <| re_str <| ra_cons <| re_var 11 rfl <| ra_nil ⟨Nat.le_of_ble_eq_true rfl, fun t2 H15 ht2 e15 h15 => ra_cons <| re_tup <| ra_cons <| re_str <| ra_cons <| re_var 10 rfl <| ra_nil ⟨Nat.le_of_ble_eq_true rfl, fun t3 H16 ht3 e16 h16 => ra_nil ⟨Nat.le_of_ble_eq_true rfl, fun l3 H17 hl3 e17 h17 => ?_⟩⟩⟩
  have e1417 : Ex H14 H17 := e15.trans (e16.trans e17)
  refine ⟨l2, l3, _, _, rfl, rfl, e1417 _ _ h14, h17, szl (show (xs.length + 2) + 2 ≤ 90000 by omega), fun l4 hl4 => ?_⟩
  have e18 : Ex H17 (upd H17 l4 (.lst ([V.ref tt, V.ref t1] ++ xs ++ [.ref t2, .ref t3]))) := Ex.new hl4
  have h18 : upd H17 l4 (.lst ([V.ref tt, V.ref t1] ++ xs ++ [.ref t2, .ref t3])) l4 = some (.lst ([V.ref tt, V.ref t1] ++ xs ++ [.ref t2, .ref t3])) := upd_same
  generalize upd H17 l4 (.lst ([V.ref tt, V.ref t1] ++ xs ++ [.ref t2, .ref t3])) = H18 at *
  have e1118 : Ex H11 H18 := e12.trans (e13.trans (e14.trans (e1417.trans e18)))
  refine re_var 13 rfl ⟨l4, lj, _, ys, rfl, rfl, h18, e1118 _ _ hys, szl (by rw [List.length_append, List.length_append]; show (2 + xs.length + 2) + ys.length ≤ 90000; omega), fun l5 hl5 => ?_⟩
  have e19 : Ex H18 (upd H18 l5 (.lst ([V.ref tt, V.ref t1] ++ xs ++ [.ref t2, .ref t3] ++ ys))) := Ex.new hl5
  have h19 : upd H18 l5 (.lst ([V.ref tt, V.ref t1] ++ xs ++ [.ref t2, .ref t3] ++ ys)) l5 = some (.lst ([V.ref tt, V.ref t1] ++ xs ++ [.ref t2, .ref t3] ++ ys)) := upd_same
  generalize upd H18 l5 (.lst ([V.ref tt, V.ref t1] ++ xs ++ [.ref t2, .ref t3] ++ ys)) = H19 at *
  refine re_lst <| ra_cons <| re_tup <| ra_cons <| re_str <| ra_cons <| re_var 11 rfl <| ra_nil ⟨Nat.le_of_ble_eq_true rfl, fun t4 H20 ht4 e20 h20 => ra_nil ⟨Nat.le_of_ble_eq_true rfl, fun l6 H21 hl6 e21 h21 => ?_⟩⟩
  refine ⟨l5, l6, _, _, rfl, rfl, e21 _ _ (e20 _ _ h19), h21, szl (by rw [List.length_append, List.length_append, List.length_append]; show (2 + xs.length + 2 + ys.length) + 1 ≤ 90000; omega), fun l hl => q l _ ?_⟩
  have e22 : Ex H21 (upd H21 l (.lst ([V.ref tt, V.ref t1] ++ xs ++ [.ref t2, .ref t3] ++ ys ++ [.ref t4]))) := Ex.new hl
  have W14 := ((W11.ex e12).ex e13).ex e14
  have W15 := W14.ex e15
  have W19 := (((W15.ex e16).ex e17).ex e18).ex e19
  have W21 := (W19.ex e20).ex e21
  have e1121 : Ex H11 H21 := e1118.trans (e19.trans (e20.trans e21))
  have e1122 := e1121.trans e22
  have it2 := Item.either it it' dis wS1 wS2 ne12 (fun z => n1 (hUL _ z)) (fun z => n1 (hVL _ z)) (fun z => n2 (hUL _ z)) (fun z => n2 (hVL _ z)) (p := [lrr tw r s']) ptest (x := "if") (by decide +kernel)
  have nl := W21.newp hl
  refine ⟨_, [lrr tw r s', ls1 "if" s1] ++ ds ++ [ls1 "jump" s2, ls1 "mark" s1] ++ es ++ [ls1 "mark" s2], s1 :: s2 :: (U ++ V'), L'', by rw [hL, hL'', List.cons_append, List.cons_append, List.append_assoc], it2, ?_, ?_, upd_same, ?_, (e09.trans (ew.trans ew2)).trans (exW.of e1122), (W21.ex e22).le (by omega)⟩
  · rw [List.length_append, List.length_append, List.length_append, List.length_append]
    show 2 + ds.length + 2 + es.length + 1 ≤ _
    omega
  · exact ((e09.trans (ew.trans ew2)).trans (exW.of e1121)).back hl nl.1 nl.2
  · refine DA.app (DA.app (DA.app (DA.app (.cons (dtt (e1122 _ _ h11t)) (.cons ?_ .nil)) (hda.mono (ew2.hide.trans (hideL_e e1122)))) (.cons ?_ (.cons ?_ .nil))) (hdb.mono (hideL_e e1122))) (.cons ?_ .nil)
    · exact tupAt (W11.new ht1) ((e13.trans (e14.trans (e1417.trans (e18.trans (e19.trans (e20.trans (e21.trans e22))))))) _ _ h12) (.cons (.str _) (.cons (.str _) .nil))
    · exact tupAt (W14.new ht2) ((e16.trans (e17.trans (e18.trans (e19.trans (e20.trans (e21.trans e22)))))) _ _ h15) (.cons (.str _) (.cons (.str _) .nil))
    · exact tupAt (W15.new ht3) ((e17.trans (e18.trans (e19.trans (e20.trans (e21.trans e22))))) _ _ h16) (.cons (.str _) (.cons (.str _) .nil))
    · exact tupAt (W19.new ht4) ((e21.trans e22) _ _ h20) (.cons (.str _) (.cons (.str _) .nil))
end
end Fl
end
section
set_option Elab.async false
set_option linter.all false
set_option maxRecDepth 100000
set_option maxHeartbeats 4000000
namespace Fl
open PySem PySem.Spec PyProof.Rows L2 Fx
open Evl (Ex fresh_back)
section
variable {P : Program} {w : World} {K : PySem.W.Frag} {mg : Str → Option Value} {base : Heap} {f : Addr} {fd : FuncData}
theorem ok_item {deep j : Nat} (F : Fun K "_law_item" "_law_item" s_item f fd) (G : Gb mg) (G2 : Gb2 mg) (c1 : Cl P w K mg base CX0 1 "_law_draw" (sp_draw K)) (c2 : Cl P w K mg base CX0 2 "_law_pick" (sp_pick K)) (c4 : Cl P w K mg base CX0 4 "_law_plain_line" (sp_pline K)) (c5 : Cl P w K mg base CX0 4 "_law_call" (sp_lcall K))
    (cI : ∀ d', deep = d' + 1 → Cl P w K mg base CX0 j "_law_items" (sp_items K d')) (hj : 4 ≤ j) (hd : deep ≤ 2) : FnOk P w K mg base CX0 (j + 1) f fd ["_law_pen_here", "_law_world", "_law_deep"] (sp_item K deep) := by
  refine F.ok sc_item (fun vs H Q E h => ?_) (fun cdv A outer s H vs Q E hr h => ⟨RB _ _, pss_RB, ?_⟩)
  · obtain ⟨_, _, _, _, _, _, _, _, _, _, rfl, _⟩ := h; rfl
  obtain ⟨pa, wa, la, na, po, names, at_, q', L, n, rfl, hn, W, q⟩ := h
  have hS : pa ∈ [pa, wa, la] := List.mem_cons_self
  have hcg := ci_ge deep
  have hig := il_ge deep
  refine rb_cons <| rs_set 3 (by exact sc_item.nd) <| RE.mono (Q := fun v H1 => ∃ way : Int, v = .int way ∧ 0 ≤ way ∧ way < 12 ∧ (deep = 0 → way < 6) ∧ exP pa H H1 ∧ Pen K H1 pa (n + 1)) (re_if <| rt_cmp op_gt <| re_var 2 rfl <| re_int ⟨(deep : Nat), 0, rfl, rfl, _, rfl, ifB (fun e => ?_) fun e => ?_⟩) ?_
  · exact re_call c1 hr (hk := by omega) <| ra_cons <| re_var 0 rfl <| ra_cons <| re_int <| ra_nil ⟨pa, 12, n, rfl, by decide, by decide, by omega, W.pen, fun r H1 r0 r1 e1 pen1 => ⟨r, rfl, r0, r1, fun z => by subst z; simp at e, e1, pen1⟩⟩
  · exact re_call c1 hr (hk := by omega) <| ra_cons <| re_var 0 rfl <| ra_cons <| re_int <| ra_nil ⟨pa, 6, n, rfl, by decide, by decide, by omega, W.pen, fun r H1 r0 r1 e1 pen1 => ⟨r, rfl, r0, by omega, fun z => r1, e1, pen1⟩⟩
  rintro v H1 ⟨way, rfl, y0, y1, yd, e1, pen1⟩
  have W1 := W.step e1 pen1
  -- a plain line
  refine rb_cons <| rs_if <| RT.mono (QB := fun k H2 => H2 = H1 ∧ (k = false → 4 ≤ way ∧ (way ≤ 7 ∨ 2 ≤ L.length))) (rt_w <| rw_or <| op_ltB <| re_var 3 rfl <| re_int ⟨way, 4, rfl, rfl, ifB (fun e => ⟨rfl, fun z => nomatch z⟩) fun e => rw_or1 <| rt_w <| rw_and <| rt_cmp op_gt <| re_var 3 rfl <| re_int ⟨way, 7, rfl, rfl, _, rfl, ifB (fun e2 => ?_) fun e2 => ?_⟩⟩) ?_
  · have e := of_decide_eq_false e
    refine rw_and1 <| op_ltB <| re_cb call_len G.len <| ra_cons <| re_dget (hu_of hr) <| re_var 1 rfl <| re_str ⟨wa, _, .inr "labels", .ref la, rfl, W1.wd, rfl, rfl, ra_nil ⟨_, L.length, rfl, .inl ⟨_, .inl (.inl W1.lab), (List.length_map ..).symm⟩, re_int ⟨(L.length : Nat), 2, rfl, rfl, rfl, fun z => ⟨by omega, .inr ?_⟩⟩⟩⟩
    have := of_decide_eq_false z
    omega
  · have e := of_decide_eq_false e
    have e2 := of_decide_eq_false e2
    exact ⟨rfl, fun z => ⟨by omega, .inl (by omega)⟩⟩
  rintro k H2 ⟨rfl, hk⟩
  refine ifB (fun ek => ?_) fun ek => rb_nil ?_
  · refine rb_one <| rs_ret <| re_lst <| ra_cons <| re_call c4 hr (hk := by omega) <| ra_cons <| re_var 0 rfl <| ra_cons <| re_var 1 rfl <| ra_nil ⟨pa, wa, na, names, n + 1, rfl, by omega, W1.wn, fun p d xs H3 hp hdt hda hp0 hp1 e3 pen3 => ra_nil ⟨Nat.le_of_ble_eq_true rfl, fun l H4 hl e4 h4 => q l H4 ?_⟩⟩
    have W3 := W1.step e3 pen3
    refine ResI.of0 (one_atom hp) (show 1 ≤ _ by omega) ((e1.trans e3).back hl (W3.newp hl).1) h4 (.cons ?_ .nil) ((exW.p (e1.trans e3)).trans (exW.of e4)) ((W3.ex e4).le (by omega))
    rw [hdt]
    exact tupAt (W1.new hp0) (e4 _ _ hp1) (hda _)
  obtain ⟨way4, hk⟩ := hk ek
  -- lines of the pool, calls
  refine rb_cons <| rs_if <| op_ltB <| re_var 3 rfl <| re_int ⟨way, 6, rfl, rfl, ifB (fun e6 => ?_) fun e6 => rb_nil ?_⟩
  · refine rb_one <| rs_ret <| re_if <| rt_cmp op_eq <| re_var 3 rfl <| re_int ⟨rfl, _, rfl, ifB (fun e => ?_) fun e => ?_⟩
    · obtain ⟨ps, hpo, hp0, hp3, hps⟩ := W1.pool
      refine re_ct call_list_of G.list <| ra_cons <| re_call c2 hr (hk := by omega) <| ra_cons <| re_var 0 rfl <| ra_cons <| re_dget (hu_of hr) <| re_var 1 rfl <| re_str ⟨wa, _, .inr "pool", .ref po, rfl, W1.wd, rfl, rfl, ra_nil ⟨pa, po, ps.map V.ref, n + 1, rfl, .inl (.inl hpo), by rw [List.length_map]; exact hp0, by rw [List.length_map]; omega, by omega, W1.pen, fun v H3 hv e3 pen3 => ?_⟩⟩
      obtain ⟨p, hp, rfl⟩ := List.mem_map.mp hv
      obtain ⟨ds, hD, hds, hlen⟩ := hps p hp
      have W3 := W1.step e3 pen3
      have hD3 := hD.mono (hideL_p hS e3)
      cases hD3 with
      | lst a b =>
        rename_i ys
        refine ra_nil ⟨p, _, rfl, .inl (Evl.ex_l hideL_ex0 a), fun l hl => q l _ ?_⟩
        have e4 : Ex H3 (upd H3 l (.lst ys)) := Ex.new hl
        exact ResI.of0 (Item.pln hds) (by omega) ((e1.trans e3).back hl (W3.newp hl).1) upd_same (b.mono (hideL_e e4)) ((exW.p (e1.trans e3)).trans (exW.of e4)) ((W3.ex e4).le (by omega))
    · refine re_call c5 hr (hk := by omega) <| ra_cons <| re_var 0 rfl <| ra_cons <| re_var 1 rfl <| ra_nil ⟨pa, wa, la, na, po, names, at_, q', L, n + 1, rfl, by omega, W1, fun l xs ds H3 it hlen hl h3 hda e3 pen3 => q l H3 ?_⟩
      exact ResI.of0 it (by omega) (e1.back hl (W1.newp hl).1) h3 hda (exW.p (e1.trans e3)) ((W1.step e3 pen3).le (by omega))
  have way6 : 6 ≤ way := by
    have := of_decide_eq_false e6
    omega
  obtain ⟨d', rfl⟩ : ∃ d', deep = d' + 1 := by
    cases deep with
    | zero => exact absurd (yd rfl) (by omega)
    | succ d => exact ⟨d, rfl⟩
  have cI := cI d' rfl
  refine rb_cons <| rs_if <| op_ltB <| re_var 3 rfl <| re_int ⟨way, 8, rfl, rfl, ifB (fun e8 => ?_) fun e8 => rb_nil ?_⟩
  · exact item_stack G2 c1 c2 cI hj hd hr hn e1 W1 q
  · have e8 := of_decide_eq_false e8
    exact item_marks c1 c2 cI hj hd hr hn e1 W1 q (by omega) (by omega)
end
end Fl
end
section
set_option Elab.async false
set_option linter.all false
set_option maxRecDepth 100000
set_option maxHeartbeats 1000000
namespace Fl
open PySem PySem.Spec PyProof.Rows L2 Fx
open Evl (Ex fresh_back)
/-! ### a line's parts are leaves -/
def leafD (d : PyData) : Prop := (∃ i, d = .int i) ∨ ∃ s, d = .str s
theorem fits_leaf {k : Str} {d : PyData} (h : fitsD k d = true) : leafD d := by
  cases d with
  | int i => exact .inl ⟨i, rfl⟩
  | str s => exact .inr ⟨s, rfl⟩
  | _ =>
    exfalso
    revert h
    unfold fitsD
    split
    · exact fun h => Bool.false_ne_true h
    split
    · exact fun h => Bool.false_ne_true h
    split
    · exact fun h => Bool.false_ne_true h
    split
    · rename_i h4
      exact fun _ => Bool.false_ne_true h4.2
    · exact fun h => Bool.false_ne_true h
theorem fits_leaves : ∀ {ks : List Str} {xs : List PyData}, xs.length = ks.length → ((ks.zip xs).all fun p => fitsD p.1 p.2) = true → ∀ x ∈ xs, leafD x
  | [], [], _, _, _, h => nomatch h
  | [], _ :: _, h, _, _, _ => nomatch h
  | _ :: _, [], h, _, _, _ => nomatch h
  | k :: ks, x :: xs, hl, h, y, hy => by
    rw [List.zip_cons_cons, List.all_cons, Bool.and_eq_true] at h
    rcases List.mem_cons.mp hy with rfl | hy
    · exact fits_leaf h.1
    · exact fits_leaves (Nat.succ.inj hl) h.2 y hy
theorem line_leaf {d : PyData} (h : isLineD d = true) : ∃ w xs, d = .tuple (.str w :: xs) ∧ (∀ x ∈ xs, leafD x) ∧ xs.length ≤ 3 ∧ w.length ≤ 6 := by
  cases d with
  | tuple ys =>
    cases ys with
    | nil => exact absurd (show false = true from h) Bool.false_ne_true
    | cons y xs =>
      cases y with
      | str w =>
        have h : (match forms.lookup w with | some kinds => decide (xs.length = kinds.length) && (kinds.zip xs).all fun p => fitsD p.1 p.2 | none => false) = true := h
        cases hf : forms.lookup w with
        | none => rw [hf] at h; exact absurd h Bool.false_ne_true
        | some kinds =>
          rw [hf] at h
          have h : (decide (xs.length = kinds.length) && (kinds.zip xs).all fun p => fitsD p.1 p.2) = true := h
          rw [Bool.and_eq_true, decide_eq_true_eq] at h
          have hm : (w, kinds) ∈ forms := by
            have go : ∀ {l : List (Str × List Str)}, l.lookup w = some kinds → (w, kinds) ∈ l := by
              intro l
              induction l with
              | nil => exact fun z => nomatch z
              | cons a r ih =>
                intro z
                obtain ⟨a1, a2⟩ := a
                rw [List.lookup_cons] at z
                by_cases e : w = a1
                · subst e
                  rw [beq_self_eq_true] at z
                  cases z
                  exact List.mem_cons_self
                · rw [beq_eq_false_iff_ne.mpr e] at z
                  exact List.mem_cons_of_mem _ (ih z)
            exact go hf
          have lim : ∀ e ∈ forms, e.2.length ≤ 3 ∧ e.1.length ≤ 6 := by decide +kernel
          exact ⟨w, xs, rfl, fits_leaves h.1 h.2, by rw [h.1]; exact (lim _ hm).1, (lim _ hm).2⟩
      | _ => exact absurd (show false = true from h) Bool.false_ne_true
  | _ => exact absurd (show false = true from h) Bool.false_ne_true
section
variable {K : PySem.W.Frag} {H H' : Hp}
theorem D.leaf {v : V} {d : PyData} (hl : leafD d) (h : D K H v d) : D K H' v d := by
  rcases hl with ⟨i, rfl⟩ | ⟨s, rfl⟩
  · cases h; exact .int i
  · cases h; exact .str s
theorem DA.leaf : ∀ {ds : List PyData} {vs : List V}, (∀ d ∈ ds, leafD d) → DA K H vs ds → DA K H' vs ds
  | [], _, _, h => by cases h; exact .nil
  | d :: ds, _, hl, h => by cases h with | cons a b => exact .cons (D.leaf (hl d List.mem_cons_self) a) (DA.leaf (fun x hx => hl x (List.mem_cons_of_mem _ hx)) b)
/-- a line is a tuple of leaves: it stays where its tuple stays -/
theorem D.line {v : V} {d : PyData} (hl : isLineD d = true) (h : D K H v d) (e : ∀ a xs, SqT K H a xs → SqT K H' a xs) : D K H' v d := by
  obtain ⟨w, xs, rfl, hx, _⟩ := line_leaf hl
  cases h with
  | tup a b =>
    refine .tup (e _ _ a) (DA.leaf (fun d hd => ?_) b)
    rcases List.mem_cons.mp hd with rfl | hd
    · exact .inr ⟨w, rfl⟩
    · exact hx d hd
theorem DA.lines : ∀ {ds : List PyData} {vs : List V}, (∀ d ∈ ds, isLineD d = true) → DA K H vs ds → (∀ a xs, SqT K H a xs → SqT K H' a xs) → DA K H' vs ds
  | [], _, _, h, _ => by cases h; exact .nil
  | d :: ds, _, hl, h, e => by cases h with | cons a b => exact .cons (D.line (hl d List.mem_cons_self) a e) (DA.lines (fun x hx => hl x (List.mem_cons_of_mem _ hx)) b e)
end
/-! ### the lines of drawn code -/
theorem Lay.ok {γ : Str → Option (List Str)} {q : Bool} {ns : List Str} : ∀ {ds : List PyData} {r r' : List Str} {o o' : Bool}, Lay γ q ns ds r o r' o' → ∀ d ∈ ds, isLineD d = true
  | [], _, _, _, _, _, _, h => nomatch h
  | d :: ds, _, _, _, _, ⟨h1, _, _, _, r1, _, h6⟩, x, hx => by
    rcases List.mem_cons.mp hx with rfl | hx
    · exact h1
    · exact Lay.ok h6 x hx
theorem Item.ok {q : Bool} {ns U : List Str} {ds : List PyData} (h : Item q ns U ds) : ∀ d ∈ ds, isLineD d = true := by
  obtain ⟨γ, o', _, _, l⟩ := h.lay [] true (fun _ => rfl)
  exact Lay.ok l
/-- what wants a last line alone -/
structure Pre (q : Bool) (ns : List Str) (ds : List PyData) : Prop where
  whole : ∀ l, Leave q ns l → Whole q ns (ds ++ [l])
  ok : ∀ d ∈ ds, isLineD d = true
theorem pre_item {q : Bool} {ns U : List Str} {ds : List PyData} (h : Item q ns U ds) : Pre q ns ds := ⟨fun l hl => whole_item h hl, h.ok⟩
theorem pre_early {q : Bool} {ns U V W : List Str} {a b c p : List PyData} {e : PyData} {one : Str} (ha : Item q ns U a) (hb : Item q ns V b) (hc : Item q ns W c) (d1 : ∀ s ∈ U, s ∉ V) (d2 : ∀ s ∈ U, s ∉ W) (d3 : ∀ s ∈ V, s ∉ W) (hw : isWordS one = true) (o1 : one ∉ U) (o2 : one ∉ V) (o3 : one ∉ W) (he : Leave q ns e) (hp : PW ns p) :
    Pre q ns (a ++ (p ++ [ls1 "if" one] ++ b ++ [e, ls1 "mark" one]) ++ c) := by
  refine ⟨fun l hl => whole_early ha hb hc d1 d2 d3 hw o1 o2 o3 he hl hp, fun d hd => ?_⟩
  rcases List.mem_append.mp hd with hd | hd
  · rcases List.mem_append.mp hd with hd | hd
    · exact ha.ok d hd
    · rcases List.mem_append.mp hd with hd | hd
      · rcases List.mem_append.mp hd with hd | hd
        · rcases List.mem_append.mp hd with hd | hd
          · exact (hp d hd).1.ok
          · rw [List.mem_singleton.mp hd]; exact line_lab (by decide +kernel) hw
        · exact hb.ok d hd
      · rcases List.mem_cons.mp hd with rfl | hd
        · exact he.ok
        · rw [List.mem_singleton.mp hd]; exact line_lab (by decide +kernel) hw
  · exact hc.ok d hd
end Fl
end
section
set_option Elab.async false
set_option linter.all false
set_option maxRecDepth 100000
set_option maxHeartbeats 4000000
namespace Fl
open PySem PySem.Spec PyProof.Rows L2 Fx
open Evl (Ex fresh_back)
/-- tuples stay -/
theorem sqt_ex {K : PySem.W.Frag} {H H' : Hp} (e : ∀ a o, H a = some o → (∀ xs, o = .tup xs ∨ (∃ ob, o = .frz ob (.tup xs)) → H' a = some o)) {a : Addr} {xs : List V} (h : SqT K H a xs) : SqT K H' a xs := by
  rcases h with (h | ⟨ob, h⟩) | h
  · exact .inl (.inl (e _ _ h xs (.inl rfl)))
  · exact .inl (.inr ⟨ob, e _ _ h xs (.inr ⟨ob, rfl⟩)⟩)
  · exact .inr h
/-- lines, seen from afar, do not see a list that is no tuple -/
theorem DA.dodge {K : PySem.W.Frag} {H : Hp} {S : List Addr} {lf : Addr} {zs xs : List V} {ds : List PyData} (hl : ∀ d ∈ ds, isLineD d = true) (hd : DA K (hideL S H) xs ds) (h : H lf = some (.lst zs)) : DA K (hideL (lf :: S) H) xs ds :=
  DA.lines hl hd fun a ys hs => sqt_ex (fun a o ho xs hx => by
    obtain ⟨h1, h2⟩ := hideL_of ho
    refine hideL_at (fun z => ?_) h2
    rcases List.mem_cons.mp z with z | z
    · rw [z, h] at h2
      rcases hx with rfl | ⟨ob, rfl⟩
      · cases h2
      · cases h2
    · exact h1 z) hs
def cl : Nat := 200 + 3 * ci 2 + 3 * ci 1 + 3 * ci 0
def sp_lines (K : PySem.W.Frag) : Sp := fun vs H Q _ => ∃ (pa wa la na po : Addr) (names : List Str) (at_ : Nat) (q' : Bool) (L : List Str) (n : Nat), vs = [.ref pa, .ref wa] ∧ n + cl ≤ 600000 ∧ Wd K H pa wa la na po names at_ q' L n ∧ ∀ l xs ds L' H', Whole q' names ds → ds.length ≤ 40 → H l = none → H' l = some (.lst xs) → DA K (hideL [pa, wa, la] H') xs ds → exW pa la H H' → Wd K H' pa wa la na po names at_ q' L' (n + cl) → Q (.ref l) H'
section
variable {P : Program} {w : World} {K : PySem.W.Frag} {mg : Str → Option Value} {base : Heap} {f : Addr} {fd : FuncData}
abbrev nm_lines : List Str := ["_law_pen_here", "_law_world", "_law_found", "_law_label", "_law_early", "_law_last"]
theorem sc_lines : FnScope nm_lines ["_law_pen_here", "_law_world"] (defScope s_lines) := ⟨rfl, rfl, rfl, by decide +kernel, rfl, by decide +kernel, by decide +kernel⟩
theorem ok_lines {j : Nat} (F : Fun K "_law_lines" "_law_lines" s_lines f fd) (G : Gb mg) (c1 : Cl P w K mg base CX0 1 "_law_draw" (sp_draw K)) (c2 : Cl P w K mg base CX0 2 "_law_pick" (sp_pick K)) (c3 : Cl P w K mg base CX0 3 "_law_called" (sp_called K))
    (i0 : Cl P w K mg base CX0 j "_law_items" (sp_items K 0)) (i1 : Cl P w K mg base CX0 j "_law_items" (sp_items K 1)) (i2 : Cl P w K mg base CX0 j "_law_items" (sp_items K 2)) (hj : 4 ≤ j) : FnOk P w K mg base CX0 (j + 1) f fd ["_law_pen_here", "_law_world"] (sp_lines K) := by
  refine F.ok sc_lines (fun vs H Q E h => ?_) (fun cdv A outer s H vs Q E hr h => ⟨RB _ _, pss_RB, ?_⟩)
  · obtain ⟨_, _, _, _, _, _, _, _, _, _, rfl, _⟩ := h; rfl
  obtain ⟨pa, wa, la, na, po, names, at_, q', L, n, rfl, hn, W, q⟩ := h
  have hS : pa ∈ [pa, wa, la] := List.mem_cons_self
  have hcl : cl = 200 + 3 * ci 2 + 3 * ci 1 + 3 * ci 0 := rfl
  have il0 := il_le (d := 0) (by decide)
  have il1 := il_le (d := 1) (by decide)
  have il2 := il_le (d := 2) (by decide)
  refine rb_cons <| rs_set 2 (by exact sc_lines.nd) <| re_call i2 hr (hk := Nat.le_refl _) <| ra_cons <| re_var 0 rfl <| ra_cons <| re_var 1 rfl <| ra_cons <| re_int <| ra_cons <| re_int <| ra_nil ⟨pa, wa, la, na, po, names, at_, q', L, n, 3, rfl, by decide, by omega, W, fun l1 H1 hres => ?_⟩
  obtain ⟨xs1, ds1, U1, L1, hL1, it1, hlen1, hl1, hx1, hda1, ew1, W1⟩ := hres
  have nd0 := W.labs.2.1
  have nl1 := W.newp hl1
  -- an early end
  refine rb_cons <| rs_ifJ (fun σ' H' => ∃ x3 x4 lf xs ds L', σ' = [some (.ref pa), some (.ref wa), some (.ref lf), x3, x4, none] ∧ H lf = none ∧ H' lf = some (.lst xs) ∧ DA K (hideL [pa, wa, la] H') xs ds ∧ Pre q' names ds ∧ ds.length ≤ 20000 ∧ exW pa la H H' ∧ Wd K H' pa wa la na po names at_ q' L' (n + cl - 10)) ?_ ?_
  · refine rt_w <| rw_and <| rt_neL (hu64 hr) <| re_dget (hu_of hr) <| re_var 1 rfl <| re_str ⟨wa, _, .inr "labels", .ref la, rfl, W1.wd, rfl, rfl, re_lst <| ra_nil ⟨(by decide), fun p2 H2 hp2 e2 h2 => ⟨la, p2, L1, rfl, rfl, .inl (.inl (e2 _ _ W1.lab)), .inl (.inl h2), fun u hu => word_strOk (W1.labs.1 u hu), ?_⟩⟩⟩
    have W2 := W1.ex e2
    have same : ∀ {H' : Hp} {m : Nat}, exP pa H2 H' → Pen K H' pa m → m ≤ n + cl - 10 → ∃ x3 x4 lf xs ds L', [some (V.ref pa), some (.ref wa), some (.ref l1), none, none, none] = [some (V.ref pa), some (.ref wa), some (.ref lf), x3, x4, none] ∧ H lf = none ∧ H' lf = some (.lst xs) ∧ DA K (hideL [pa, wa, la] H') xs ds ∧ Pre q' names ds ∧ ds.length ≤ 20000 ∧ exW pa la H H' ∧ Wd K H' pa wa la na po names at_ q' L' (n + cl - 10) := fun {H' m} e pe hm =>
      ⟨none, none, l1, xs1, ds1, L1, rfl, hl1, e.but _ _ (e2 _ _ hx1) nl1.1, hda1.mono ((hideL_e e2).trans (hideL_p hS e)), pre_item it1, by omega, (ew1.trans (exW.of e2)).trans (exW.p e), (W2.step e pe).le hm⟩
    refine ifB (fun hne => ?_) fun hne => ifF (rb_nil (same exP.refl W2.pen (by omega)))
    refine rw_and1 <| rt_cmp op_eq <| re_call c1 hr (hk := by omega) <| ra_cons <| re_var 0 rfl <| ra_cons <| re_int <| ra_nil ⟨pa, 4, _, rfl, by decide, by decide, by omega, W2.pen, fun r H3 r0 r1 e3 pen3 => re_int ⟨rfl, _, rfl, ifB (fun er => ?_) fun er => rb_nil (same e3 pen3 (by omega))⟩⟩
    obtain ⟨s1, L2, rfl⟩ : ∃ s1 L2, L1 = s1 :: L2 := by
      cases L1 with
      | nil => exact absurd hne Bool.false_ne_true
      | cons a r => exact ⟨a, r, rfl⟩
    have W3 := W2.step e3 pen3
    have wS1 : isWordS s1 = true := W3.labs.1 s1 List.mem_cons_self
    have hnd := W3.labs.2.1
    rw [List.nodup_cons] at hnd
    rw [hL1] at nd0
    have hl30 : L2.length + 1 ≤ 30 := W3.labs.2.2
    -- the label
    refine rb_cons <| rs_set 3 (by exact sc_lines.nd) <| re_popAt <| re_dget (hu_of hr) <| re_var 1 rfl <| re_str ⟨wa, _, .inr "labels", .ref la, rfl, W3.wd, rfl, rfl, la, rfl, ⟨_, W3.lab⟩, re_int ⟨_, 0, .str s1, rfl, W3.lab, by decide, ?_, ?_, rfl, ?_⟩⟩
    · rw [List.length_map, List.length_cons]; omega
    · rw [List.length_map, List.length_cons]; omega
    have W4 := W3.pop
    have e4 : exW pa la H3 (upd H3 la (.lst (L2.map V.str))) := exW.pop W3.lp
    show RB _ _ _ _ (upd H3 la (.lst (L2.map V.str)))
    generalize upd H3 la (.lst (L2.map V.str)) = H4 at *
    have e14 : exW pa la H1 H4 := (exW.of e2).trans ((exW.p e3).trans e4)
    have hx4 : H4 l1 = some (.lst xs1) := e14 _ _ hx1 nl1.1 nl1.2
    have hda4 := hda1.mono e14.hide
    -- the end
    refine rb_cons <| rs_set 4 (by exact sc_lines.nd) <| re_call c2 hr (hk := by omega) <| ra_cons <| re_var 0 rfl <| ra_cons <| re_lst <| ra_cons <| re_tup <| ra_cons <| re_str <| ra_nil ⟨Nat.le_of_ble_eq_true rfl, fun t1 H5 ht1 e5 h5 => ra_cons <| re_tup <| ra_cons <| re_str <| ra_cons <| re_call c3 hr (hk := by omega) <| ra_cons <| re_var 0 rfl <| ra_cons <| re_var 1 rfl <| ra_nil ⟨pa, wa, la, na, po, names, at_, q', L2, _, rfl, ?_, W4.ex e5, fun fn H6 hfn e6 pen6 => ra_nil ⟨Nat.le_of_ble_eq_true rfl, fun t2 H7 ht2 e7 h7 => ra_nil ⟨Nat.le_of_ble_eq_true rfl, fun p8 H8 hp8 e8 h8 => ra_nil ⟨pa, p8, _, _, rfl, .inl (.inl h8), Nat.le_of_ble_eq_true rfl, Nat.le_of_ble_eq_true rfl, ?_, (pen6.mono e7).mono e8, fun v H9 hv e9 pen9 => ?_⟩⟩⟩⟩⟩
    · omega
    · omega
    have W5 := W4.ex e5
    have W6 := W5.step e6 pen6
    have W9 := ((W6.ex e7).ex e8).step e9 pen9
    have e59 : exP pa H5 H9 := ((e6.trans (exP.of e7)).trans (exP.of e8)).trans e9
    have e49 : exP pa H4 H9 := (exP.of e5).trans e59
    have n1 := W4.new ht1
    have n2 := W6.new ht2
    have nn : ∀ {t : Addr}, t ∉ [pa, wa, la] → t ≠ pa := fun h z => h (by rw [z]; exact List.mem_cons_self)
    have h9a : H9 t1 = some (.tup [.str "back"]) := e59.but _ _ h5 (nn n1)
    have h9b : H9 t2 = some (.tup [.str "tail", .str fn]) := e9.but _ _ (e8 _ _ h7) (nn n2)
    refine rb_cons <| rs_set 4 (by exact sc_lines.nd) <| RE.mono (Q := fun v H' => ∃ t d, v = .ref t ∧ Ex H9 H' ∧ Leave q' names d ∧ D K (hideL [pa, wa, la] H') (.ref t) d) (re_if <| rt_val <| re_dget (hu_of hr) <| re_var 1 rfl <| re_str ⟨wa, _, .inr "lost", .bl (!q'), rfl, W9.wd, rfl, rfl, _, rfl, ifB (fun hq => ?_) fun hq => ?_⟩) ?_
    · exact re_tup <| ra_cons <| re_str <| ra_nil ⟨Nat.le_of_ble_eq_true rfl, fun t H10 ht e10 h10 => ⟨t, lend "stop", rfl, e10, leave_stop, tupAt (W9.new ht) h10 (.cons (.str _) .nil)⟩⟩
    · have hq : q' = true := by simpa using hq
      subst hq
      simp only [List.mem_cons, List.not_mem_nil, or_false] at hv
      rcases hv with rfl | rfl
      · exact re_var 4 rfl ⟨t1, lend "back", rfl, Ex.refl _, leave_back, tupAt n1 h9a (.cons (.str _) .nil)⟩
      · exact re_var 4 rfl ⟨t2, ls1 "tail" fn, rfl, Ex.refl _, leave_tail hfn (W9.ok.word fn hfn), tupAt n2 h9b (.cons (.str _) (.cons (.str _) .nil))⟩
    rintro v' H10 ⟨te, de, rfl, e10, hle, hdte⟩
    have W10 := W9.ex e10
    have e410 : exP pa H4 H10 := e49.trans (exP.of e10)
    -- the middle
    refine rb_cons <| rs_set 2 (by exact sc_lines.nd) <| re_op op_cat <| re_op op_cat <| re_op op_cat <| re_var 2 rfl <| re_lst <| ra_cons <| re_tup <| ra_cons <| re_str <| ra_cons <| re_int <| ra_cons <| re_int <| ra_nil ⟨Nat.le_of_ble_eq_true rfl, fun t3 H11 ht3 e11 h11 => ra_cons <| re_tup <| ra_cons <| re_str <| ra_cons <| re_var 3 rfl <| ra_nil ⟨Nat.le_of_ble_eq_true rfl, fun t4 H12 ht4 e12 h12 => ra_nil ⟨Nat.le_of_ble_eq_true rfl, fun p13 H13 hp13 e13 h13 => ?_⟩⟩⟩
    have hxl1 := hda1.length
    have e1013 : Ex H10 H13 := e11.trans (e12.trans e13)
    refine ⟨l1, p13, xs1, _, rfl, rfl, e1013 _ _ (e410.but _ _ hx4 nl1.1), h13, szl (show xs1.length + 2 ≤ 90000 by omega), fun l14 hl14 => ?_⟩
    have e14' : Ex H13 (upd H13 l14 (.lst (xs1 ++ [V.ref t3, .ref t4]))) := Ex.new hl14
    have h14 : upd H13 l14 (.lst (xs1 ++ [V.ref t3, .ref t4])) l14 = some (.lst (xs1 ++ [V.ref t3, .ref t4])) := upd_same
    have W13 := W10.ex e1013
    have nl14 := W13.newp hl14
    generalize upd H13 l14 (.lst (xs1 ++ [V.ref t3, .ref t4])) = H14 at *
    have W14 := W13.ex e14'
    refine re_call i0 hr (hk := Nat.le_refl _) <| ra_cons <| re_var 0 rfl <| ra_cons <| re_var 1 rfl <| ra_cons <| re_int <| ra_cons <| re_int <| ra_nil ⟨pa, wa, la, na, po, names, at_, q', L2, _, 2, rfl, by decide, ?_, W14, fun l15 H15 hres => ?_⟩
    · omega
    obtain ⟨xs2, ds2, U2, L3, hL3, it2, hlen2, hl15, hx2, hda2, ew2, W15⟩ := hres
    have nl15 := W14.newp hl15
    have hxl2 := hda2.length
    refine ⟨l14, l15, _, xs2, rfl, rfl, ew2 _ _ h14 nl14.1 nl14.2, hx2, szl (by rw [List.length_append]; show xs1.length + 2 + xs2.length ≤ 90000; omega), fun l16 hl16 => ?_⟩
    have e16 : Ex H15 (upd H15 l16 (.lst (xs1 ++ [V.ref t3, .ref t4] ++ xs2))) := Ex.new hl16
    have h16 : upd H15 l16 (.lst (xs1 ++ [V.ref t3, .ref t4] ++ xs2)) l16 = some (.lst (xs1 ++ [V.ref t3, .ref t4] ++ xs2)) := upd_same
    have nl16 := W15.newp hl16
    generalize upd H15 l16 (.lst (xs1 ++ [V.ref t3, .ref t4] ++ xs2)) = H16 at *
    have W16 := W15.ex e16
    refine re_lst <| ra_cons <| re_var 4 rfl <| ra_cons <| re_tup <| ra_cons <| re_str <| ra_cons <| re_var 3 rfl <| ra_nil ⟨Nat.le_of_ble_eq_true rfl, fun t5 H17 ht5 e17 h17 => ra_nil ⟨Nat.le_of_ble_eq_true rfl, fun p18 H18 hp18 e18 h18 => ?_⟩⟩
    refine ⟨l16, p18, _, _, rfl, rfl, e18 _ _ (e17 _ _ h16), h18, szl (by rw [List.length_append, List.length_append]; show xs1.length + 2 + xs2.length + 2 ≤ 90000; omega), fun l19 hl19 => ?_⟩
    have e19 : Ex H18 (upd H18 l19 (.lst (xs1 ++ [V.ref t3, .ref t4] ++ xs2 ++ [.ref te, .ref t5]))) := Ex.new hl19
    have h19 : upd H18 l19 (.lst (xs1 ++ [V.ref t3, .ref t4] ++ xs2 ++ [.ref te, .ref t5])) l19 = some (.lst (xs1 ++ [V.ref t3, .ref t4] ++ xs2 ++ [.ref te, .ref t5])) := upd_same
    have W18 := (W16.ex e17).ex e18
    have nl19 := W18.newp hl19
    generalize upd H18 l19 (.lst (xs1 ++ [V.ref t3, .ref t4] ++ xs2 ++ [.ref te, .ref t5])) = H19 at *
    have W19 := W18.ex e19
    have e1619 : Ex H16 H19 := e17.trans (e18.trans e19)
    -- what follows
    refine rb_one <| rs_set 2 (by exact sc_lines.nd) <| re_op op_cat <| re_var 2 rfl <| re_call i1 hr (hk := Nat.le_refl _) <| ra_cons <| re_var 0 rfl <| ra_cons <| re_var 1 rfl <| ra_cons <| re_int <| ra_cons <| re_int <| ra_nil ⟨pa, wa, la, na, po, names, at_, q', L3, _, 2, rfl, by decide, ?_, W19, fun l20 H20 hres => ?_⟩
    · omega
    obtain ⟨xs3, ds3, U3, L4, hL4, it3, hlen3, hl20, hx3, hda3, ew3, W20⟩ := hres
    have hxl3 := hda3.length
    refine ⟨l19, l20, _, xs3, rfl, rfl, ew3 _ _ h19 nl19.1 nl19.2, hx3, szl (by rw [List.length_append, List.length_append, List.length_append]; show xs1.length + 2 + xs2.length + 2 + xs3.length ≤ 90000; omega), fun l21 hl21 => ?_⟩
    have e21 : Ex H20 (upd H20 l21 (.lst (xs1 ++ [V.ref t3, .ref t4] ++ xs2 ++ [.ref te, .ref t5] ++ xs3))) := Ex.new hl21
    have nl21 := W20.newp hl21
    have eH4 : exW pa la H H4 := ew1.trans e14
    have e4_14 : exW pa la H4 H14 := (exW.p e410).trans (exW.of (e1013.trans e14'))
    have e14_20 : exW pa la H14 H20 := ew2.trans ((exW.of (e16.trans e1619)).trans ew3)
    have eH20 : exW pa la H H20 := eH4.trans (e4_14.trans e14_20)
    have subs : ∀ {a b c : Hp}, exW pa la a b → Ex b c → Ex (hideL [pa, wa, la] a) (hideL [pa, wa, la] c) := fun x y => x.hide.trans (hideL_e y)
    have hU3 : ∀ s ∈ U3, s ∈ L3 := fun s hs => by rw [hL4]; exact List.mem_append_left _ hs
    have hU2 : ∀ s ∈ U2, s ∈ L2 := fun s hs => by rw [hL3]; exact List.mem_append_left _ hs
    have hU32 : ∀ s ∈ U3, s ∈ L2 := fun s hs => by rw [hL3]; exact List.mem_append_right _ (hU3 s hs)
    have dA := (List.nodup_append.mp nd0).2.2
    have d23 : ∀ s ∈ U2, s ∉ U3 := fun s h2 h3 => by
      have := hnd.2
      rw [hL3] at this
      exact (List.nodup_append.mp this).2.2 s h2 s (hU3 s h3) rfl
    have pw : PW names [lrr "less" 0 1] := fun d hd => by
      rw [List.mem_singleton.mp hd]; exact p_rr (by decide +kernel) ⟨by decide, by decide⟩ ⟨by decide, by decide⟩
    have hpre := pre_early it1 it2 it3 (one := s1) (fun s h1 h2 => dA s h1 s (List.mem_cons_of_mem _ (hU2 s h2)) rfl) (fun s h1 h3 => dA s h1 s (List.mem_cons_of_mem _ (hU32 s h3)) rfl) d23 wS1 (fun z => dA s1 z s1 List.mem_cons_self rfl) (fun z => hnd.1 (hU2 _ z)) (fun z => hnd.1 (hU32 _ z)) hle pw
    have eqd : ds1 ++ ([lrr "less" 0 1] ++ [ls1 "if" s1] ++ ds2 ++ [de, ls1 "mark" s1]) ++ ds3 = ds1 ++ [lrr "less" 0 1, ls1 "if" s1] ++ ds2 ++ [de, ls1 "mark" s1] ++ ds3 := by
      simp only [List.append_assoc, List.cons_append, List.nil_append]
    rw [eqd] at hpre
    refine ⟨_, _, l21, _, _, L4, rfl, eH20.back hl21 nl21.1 nl21.2, upd_same, ?_, hpre, ?_, eH20.trans (exW.of e21), (W20.ex e21).le (by omega)⟩
    · refine DA.app (DA.app (DA.app (DA.app (hda4.mono (subs (e4_14.trans e14_20) e21)) (.cons ?_ (.cons ?_ .nil))) (hda2.mono (subs ((exW.of (e16.trans e1619)).trans ew3) e21))) (.cons ?_ (.cons ?_ .nil))) (hda3.mono (hideL_e e21))
      · have nt := W10.newp ht3
        exact tupAt (W10.new ht3) (e21 _ _ (e14_20 _ _ (e14' _ _ (e13 _ _ (e12 _ _ h11))) nt.1 nt.2)) (.cons (.str _) (.cons (.int _) (.cons (.int _) .nil)))
      · have W11 := W10.ex e11
        have nt := W11.newp ht4
        exact tupAt (W11.new ht4) (e21 _ _ (e14_20 _ _ (e14' _ _ (e13 _ _ h12)) nt.1 nt.2)) (.cons (.str _) (.cons (.str _) .nil))
      · exact (hdte.mono (hideL_e (e1013.trans e14'))).mono (subs e14_20 e21)
      · have nt := W16.newp ht5
        exact tupAt (W16.new ht5) (e21 _ _ (ew3 _ _ (e19 _ _ (e18 _ _ h17)) nt.1 nt.2)) (.cons (.str _) (.cons (.str _) .nil))
    · rw [List.length_append, List.length_append, List.length_append, List.length_append]
      show ds1.length + 2 + ds2.length + 2 + ds3.length ≤ 20000
      omega
  rintro σ' H1' ⟨x3, x4, lf, xs, ds, L', rfl, hlf, hxs, hda, hpre, hdl, eHW, Wb⟩
  have nlf := W.newp hlf
  have hxl := hda.length
  -- the last line
  refine rb_cons <| rs_set 5 (by exact sc_lines.nd) <| re_lst <| ra_cons <| re_tup <| ra_cons <| re_str <| ra_nil ⟨Nat.le_of_ble_eq_true rfl, fun t1 H2 ht1 e2 h2 => ra_cons <| re_tup <| ra_cons <| re_str <| ra_nil ⟨Nat.le_of_ble_eq_true rfl, fun t2 H3 ht2 e3 h3 => ra_cons <| re_tup <| ra_cons <| re_str <| ra_nil ⟨Nat.le_of_ble_eq_true rfl, fun t3 H4 ht3 e4 h4 => ra_cons <| re_tup <| ra_cons <| re_str <| ra_cons <| re_call c3 hr (hk := by omega) <| ra_cons <| re_var 0 rfl <| ra_cons <| re_var 1 rfl <| ra_nil ⟨pa, wa, la, na, po, names, at_, q', L', _, rfl, ?_, ((Wb.ex e2).ex e3).ex e4, fun fn H5 hfn e5 pen5 => ra_nil ⟨Nat.le_of_ble_eq_true rfl, fun t4 H6 ht4 e6 h6 => ra_cons <| re_tup <| ra_cons <| re_str <| ra_nil ⟨Nat.le_of_ble_eq_true rfl, fun t5 H7 ht5 e7 h7 => ra_nil ⟨Nat.le_of_ble_eq_true rfl, fun p8 H8 hp8 e8 h8 => ?_⟩⟩⟩⟩⟩⟩⟩
  · omega
  have W4 := ((Wb.ex e2).ex e3).ex e4
  have W5 := W4.step e5 pen5
  have W6 := W5.ex e6
  have W8 := (W6.ex e7).ex e8
  have m1 := Wb.new ht1
  have m2 := (Wb.ex e2).new ht2
  have m3 := ((Wb.ex e2).ex e3).new ht3
  have m4 := W5.new ht4
  have m5 := W6.new ht5
  have nn : ∀ {t : Addr}, t ∉ [pa, wa, la] → t ≠ pa := fun h z => h (by rw [z]; exact List.mem_cons_self)
  have e18 : exP pa H1' H8 := (((exP.of (e2.trans (e3.trans e4))).trans e5).trans (exP.of e6)).trans (exP.of (e7.trans e8))
  have hf8 : H8 lf = some (.lst xs) := e18.but _ _ hxs nlf.1
  refine rb_cons <| rs_expr <| re_append <| re_var 2 rfl ⟨lf, rfl, ⟨_, hf8⟩, RE.mono (Q := fun v H' => ∃ t d, v = .ref t ∧ exP pa H8 H' ∧ Pen K H' pa (n + cl) ∧ Leave q' names d ∧ H' t ≠ none ∧ D K (hideL [pa, wa, la] H') (.ref t) d) (re_if <| rt_val <| re_dget (hu_of hr) <| re_var 1 rfl <| re_str ⟨wa, _, .inr "lost", .bl (!q'), rfl, W8.wd, rfl, rfl, _, rfl, ifB (fun hq => ?_) fun hq => ?_⟩) ?_⟩
  · exact re_tup <| ra_cons <| re_str <| ra_nil ⟨Nat.le_of_ble_eq_true rfl, fun t H9 ht e9 h9 => ⟨t, lend "stop", rfl, exP.of e9, (W8.pen.mono e9).upto (by omega), leave_stop, (by rw [h9]; exact fun z => nomatch z), tupAt (W8.new ht) h9 (.cons (.str _) .nil)⟩⟩
  · have hq : q' = true := by simpa using hq
    subst hq
    refine re_call c2 hr (hk := by omega) <| ra_cons <| re_var 0 rfl <| ra_cons <| re_var 5 rfl <| ra_nil ⟨pa, p8, _, _, rfl, .inl (.inl h8), Nat.le_of_ble_eq_true rfl, Nat.le_of_ble_eq_true rfl, ?_, W8.pen, fun v H9 hv e9 pen9 => ?_⟩
    · omega
    have pen9 := pen9.upto (m := n + cl) (by omega)
    have g1 : H9 t1 = some (.tup [.str "back"]) := e9.but _ _ (e8 _ _ (e7 _ _ (e6 _ _ (e5.but _ _ (e4 _ _ (e3 _ _ h2)) (nn m1))))) (nn m1)
    have g2 : H9 t2 = some (.tup [.str "back"]) := e9.but _ _ (e8 _ _ (e7 _ _ (e6 _ _ (e5.but _ _ (e4 _ _ h3) (nn m2))))) (nn m2)
    have g3 : H9 t3 = some (.tup [.str "back"]) := e9.but _ _ (e8 _ _ (e7 _ _ (e6 _ _ (e5.but _ _ h4 (nn m3))))) (nn m3)
    have g4 : H9 t4 = some (.tup [.str "tail", .str fn]) := e9.but _ _ (e8 _ _ (e7 _ _ h6)) (nn m4)
    have g5 : H9 t5 = some (.tup [.str "stop"]) := e9.but _ _ (e8 _ _ h7) (nn m5)
    simp only [List.mem_cons, List.not_mem_nil, or_false] at hv
    rcases hv with rfl | rfl | rfl | rfl | rfl
    · exact ⟨t1, lend "back", rfl, e9, pen9, leave_back, (by rw [g1]; exact fun z => nomatch z), tupAt m1 g1 (.cons (.str _) .nil)⟩
    · exact ⟨t2, lend "back", rfl, e9, pen9, leave_back, (by rw [g2]; exact fun z => nomatch z), tupAt m2 g2 (.cons (.str _) .nil)⟩
    · exact ⟨t3, lend "back", rfl, e9, pen9, leave_back, (by rw [g3]; exact fun z => nomatch z), tupAt m3 g3 (.cons (.str _) .nil)⟩
    · exact ⟨t4, ls1 "tail" fn, rfl, e9, pen9, leave_tail hfn (W8.ok.word fn hfn), (by rw [g4]; exact fun z => nomatch z), tupAt m4 g4 (.cons (.str _) (.cons (.str _) .nil))⟩
    · exact ⟨t5, lend "stop", rfl, e9, pen9, leave_stop, (by rw [g5]; exact fun z => nomatch z), tupAt m5 g5 (.cons (.str _) .nil)⟩
  rintro v H9 ⟨t, d, rfl, e9, pen9, hle, htn, hdt⟩
  have hf9 : H9 lf = some (.lst xs) := e9.but _ _ hf8 nlf.1
  refine ⟨xs, hf9, szlt (by omega), ?_⟩
  have W9 := W8.step e9 pen9
  have e19 := e18.trans e9
  have da9 := DA.dodge hpre.ok (hda.mono (hideL_p hS e19)) hf9
  have dt9 := DA.dodge (fun x hx => by rw [List.mem_singleton.mp hx]; exact hle.ok) (.cons hdt .nil) hf9
  have eM : Ex (hideL [lf, pa, wa, la] H9) (hideL [pa, wa, la] (upd H9 lf (.lst (xs ++ [.ref t])))) := (hideL_ex (S := [lf, pa, wa, la]) fun b o hb hn => by
    rw [upd_ne fun z => hn (by rw [z]; exact List.mem_cons_self)]; exact hb).trans (hideL_sub fun x hx => List.mem_cons_of_mem _ hx)
  have daM := DA.app (da9.mono eM) (dt9.mono eM)
  have hwhole := hpre.whole d hle
  have hM : upd H9 lf (.lst (xs ++ [.ref t])) lf = some (.lst (xs ++ [.ref t])) := upd_same
  have e09 : exW pa la H H9 := eHW.trans (exW.p e19)
  have eHM : exW pa la H (upd H9 lf (.lst (xs ++ [.ref t]))) := ⟨fun b o hb n1 n2 => by
    have : b ≠ lf := fun z => by rw [z, hlf] at hb; cases hb
    rw [upd_ne this]
    exact e09 b o hb n1 n2, fun c t l h => by
    obtain ⟨t', l', h'⟩ := e09.cells c t l h
    exact ⟨t', l', by rw [upd_ne nlf.1.symm]; exact h'⟩⟩
  have WM : Wd K (upd H9 lf (.lst (xs ++ [.ref t]))) pa wa la na po names at_ q' L' (n + cl) := W.far eHM (pen9.mut ((W.pen.away hlf).stepW e09) nlf.1.symm) (by rw [upd_ne nlf.2.symm]; exact W9.lab) Wb.labs
  generalize upd H9 lf (.lst (xs ++ [.ref t])) = HM at *
  have hlM : (xs ++ [V.ref t]).length = (ds ++ [d]).length := daM.length
  -- short enough?
  refine rb_one <| rs_ret <| re_if <| rt_cmp op_le <| re_cb call_len G.len <| ra_cons <| re_var 2 rfl <| ra_nil ⟨_, (xs ++ [V.ref t]).length, rfl, .inl ⟨_, .inl (.inl hM), rfl⟩, re_int ⟨_, 40, rfl, rfl, _, rfl, ifB (fun e => ?_) fun e => ?_⟩⟩
  · have e := of_decide_eq_true e
    exact re_var 2 rfl <| q lf _ _ L' HM hwhole (by omega) hlf hM daM eHM WM
  · refine re_lst <| ra_cons <| re_tup <| ra_cons <| re_str <| ra_cons <| re_int <| ra_nil ⟨Nat.le_of_ble_eq_true rfl, fun to H10 hto e10 h10 => ra_cons <| re_ixL <| re_var 2 rfl <| re_un un_neg <| re_int ⟨1, rfl, lf, _, -1, .ref t, rfl, rfl, .inl (.inl (e10 _ _ hM)), atI_last _ _, ra_nil ⟨Nat.le_of_ble_eq_true rfl, fun l H11 hl e11 h11 => ?_⟩⟩⟩
    have W10 := WM.ex e10
    have nl := W10.newp hl
    have hout : PW names [lr "out" 0] := fun x hx => by
      rw [List.mem_singleton.mp hx]; exact p_r (by decide +kernel) ⟨by decide, by decide⟩
    refine q l _ ([lr "out" 0] ++ [d]) L' H11 (whole_item (Item.pln hout) hle) (show 2 ≤ 40 by decide) ((eHM.trans (exW.of e10)).back hl nl.1 nl.2) h11 (.cons (tupAt (WM.new hto) (e11 _ _ h10) (.cons (.str _) (.cons (.int _) .nil))) (((dt9.mono eM)).mono (hideL_e (e10.trans e11)))) (eHM.trans (exW.of (e10.trans e11))) (W10.ex e11)
end
end Fl
end
section
set_option Elab.async false
set_option linter.all false
set_option maxRecDepth 100000
set_option maxHeartbeats 2000000
namespace Fx
open PySem PySem.Spec PyProof.Rows L2
open Evl (Ex fresh_back)
section
variable {X : Cx} {e f f2 tg : Expr} {σ : L2.St} {H : Hp} {Q : VK} {R : It → Hp → Prop} {apos cpos pos p2 : Pos}
theorem ri_values (h : RE X e σ H fun x H1 => ∃ d o kvs, x = .ref d ∧ H1 d = some (.frz o (.dK kvs)) ∧ R (Itd d o kvs) H1) (base : attributeBase e "values" X.env (eval e X.env) = eval e X.env := by rfl) (line : (apos.endLine == cpos.line) = true := by rfl) :
    RI X tg (.Call (.Attribute e "values" apos) [] [] cpos) σ H R := ri_of (pi_values pe_RE base line) h
/-- xs[a:b] -/
theorem re_lmid (h : RE X e σ H fun x H1 => RE X f σ H1 fun y H2 => ∃ i, y = .int i ∧ RE X f2 σ H2 fun z H3 => ∃ j, z = .int j ∧ ∃ l xs, x = .ref l ∧ SqL X.K H3 l xs ∧ ∀ p, H3 p = none → Q (.ref p) (upd H3 p (.lst (cutV xs (some i) (some j))))) : RE X (.Subscript e (.Slice (some f) (some f2) none p2) pos) σ H Q :=
  re_of (pe_slice sl_list pe_RE (po_some pe_RE) (po_some pe_RE)) h
end
end Fx
end
section
set_option Elab.async false
set_option linter.all false
set_option maxRecDepth 100000
set_option maxHeartbeats 4000000
namespace Fl
open PySem PySem.Spec PyProof.Rows L2 Fx
open Evl (Ex fresh_back)
/-! ### drawn programs -/
abbrev PlP := List (Str × List PyData)
structure PlainD (ps : PlP) : Prop where
  word : ∀ p ∈ ps, isWordS p.1 = true
  nodup : (ps.map (·.1)).Nodup
  main : ("main" : Str) ∈ ps.map (·.1)
  len : ps.length ≤ 6
  whole : ∀ p ∈ ps, ∃ q, Whole q (ps.map (·.1)) p.2
  l40 : ∀ p ∈ ps, p.2.length ≤ 40
  all : (ps.map fun p => p.2.length).sum ≤ 240
/-- the dict of lists that stands for them -/
def bkL (ps : PlP) (ad : Str → Addr) : List Fn3 := ps.map fun p => (p.1, .ref (ad p.1), .list p.2)
theorem bkN_L (ps : PlP) (ad : Str → Addr) : bkN (bkL ps ad) = ps.map (·.1) := by
  unfold bkN bkL; rw [List.map_map]; rfl
/-- at most so much: drawn functions one behind the other -/
structure Part (names : List Str) (k : Nat) (ps : PlP) : Prop where
  nm : ps.map (·.1) = names.take k
  whole : ∀ p ∈ ps, ∃ q, Whole q names p.2
  l40 : ∀ p ∈ ps, p.2.length ≤ 40
  all : (ps.map fun p => p.2.length).sum ≤ 200 + 2 * k
def cpl : Nat := 200 + 6 * (cl + 40)
theorem cut_mid {us : List Str} {k : Nat} (h : k ≤ us.length) : cutV (us.map V.str) (some 1) (some (k : Int)) = ((us.take k).drop 1).map V.str := by
  unfold cutV
  rw [show (1 : Int) = ((1 : Nat) : Int) from rfl, HT.sIx_nat, HT.sIx_nat, List.length_map, Nat.min_eq_left h]
  rw [List.map_drop, List.map_take, List.drop_take]
  by_cases h1 : 1 ≤ us.length
  · rw [Nat.min_eq_left h1]
  · have : us = [] := List.eq_nil_of_length_eq_zero (by omega)
    subst this
    simp
theorem Away.put {H : Hp} {pa la b : Addr} {o : HO} (a : Away H pa la) (hne : pa ≠ b) : Away (upd H b o) pa la := by
  obtain ⟨c, t, l, h1, h2⟩ := a
  exact ⟨c, t, l, by rw [upd_ne hne]; exact h1, h2⟩
theorem Away.new {K : PySem.W.Frag} {H : Hp} {pa la : Addr} {n : Nat} (p : Pen K H pa n) (h : H la = none) : Away H pa la := p.away h
theorem Whole.mono {q : Bool} {ns ns' : List Str} {ds : List PyData} (h : Whole q ns ds) (hs : ∀ s ∈ ns, s ∈ ns') : Whole q ns' ds := by
  obtain ⟨γ, r, o, l⟩ := h.lay
  exact ⟨⟨γ, r, o, Lay.mono (fun _ _ z => z) hs l⟩, h.nodup, h.jumps, h.last, h.pos⟩
/-- what stands between the functions -/
structure Mid (K : PySem.W.Frag) (H0 H : Hp) (pa wa na po fo : Addr) (names : List Str) (k : Nat) (ps : PlP) (ad : Str → Addr) (n : Nat) : Prop where
  ex : exP pa H0 H
  pen : Pen K H pa n
  aw : Away H pa wa
  af : Away H pa fo
  wd : ∃ at_ q la, H wa = some (.dK (wdV na po at_ q la))
  nm : H na = some (.lst (names.map V.str))
  pool : ∃ qs : List Addr, H po = some (.lst (qs.map V.ref)) ∧ 0 < qs.length ∧ qs.length ≤ 3 ∧ ∀ p ∈ qs, ∃ ds, D K (hideL [pa, wa, fo] H) (.ref p) (.list ds) ∧ (∀ d ∈ ds, PWd names d) ∧ ds.length ≤ 10
  fod : H fo = some (.dK (bkV (bkL ps ad)))
  part : Part names k ps
  dat : ∀ p ∈ ps, D K (hideL [pa, wa, fo] H) (.ref (ad p.1)) (.list p.2)
theorem exP.w {pa la : Addr} {H0 H H' : Hp} (e : exP pa H0 H) (ew : exW pa la H H') (h0 : H0 la = none) : exP pa H0 H' := ⟨fun b o hb hn => ew _ _ (e.but b o hb hn) hn (ne_of_none hb h0), fun c t l h => by
  obtain ⟨t1, l1, h1⟩ := e.cells c t l h
  exact ew.cells c t1 l1 h1⟩
theorem bkL_app (ps : PlP) (ad : Str → Addr) (s : Str) (ds : List PyData) (l : Addr) (h : s ∉ ps.map (·.1)) : putK (bkV (bkL ps ad)) (.inr s) (.ref l) = bkV (bkL (ps ++ [(s, ds)]) (fun z => if z = s then l else ad z)) := by
  have hv : valV (bkV (bkL ps ad)) (.inr s) = none := by
    cases hv : valV (bkV (bkL ps ad)) (.inr s) with
    | none => rfl
    | some v =>
      obtain ⟨m, hm, z⟩ := List.mem_map.mp (valV_in hv)
      obtain ⟨m', hm', rfl⟩ := List.mem_map.mp hm
      obtain ⟨p, hp, rfl⟩ := List.mem_map.mp hm'
      cases z
      exact absurd (List.mem_map_of_mem hp) h
  rw [putK_new _ hv]
  unfold bkV bkL
  rw [List.map_append, List.map_append]
  congr 1
  · rw [List.map_map, List.map_map]
    refine List.map_congr_left fun p hp => ?_
    have : p.1 ≠ s := fun z => h (z ▸ List.mem_map_of_mem hp)
    simp only [Function.comp, if_neg this]
  · simp
theorem bkL_mem {ps : PlP} {ad : Str → Addr} {p : Str × List PyData} (h : p ∈ ps) : ((p.1, V.ref (ad p.1), PyData.list p.2) : Fn3) ∈ bkL ps ad := List.mem_map_of_mem (f := fun p : Str × List PyData => ((p.1, V.ref (ad p.1), PyData.list p.2) : Fn3)) h
theorem bkL_val {ps : PlP} {ad : Str → Addr} {p : Str × List PyData} (hn : (ps.map (·.1)).Nodup) (h : p ∈ ps) : valV (bkV (bkL ps ad)) (.inr p.1) = some (.ref (ad p.1)) := bk_val (e := ((p.1, V.ref (ad p.1), PyData.list p.2) : Fn3)) (by rw [bkN_L]; exact hn) (bkL_mem h)
theorem Mid.step {K : PySem.W.Frag} {H0 H H' : Hp} {pa wa na po fo : Addr} {names : List Str} {k : Nat} {ps : PlP} {ad : Str → Addr} {n m : Nat} (M : Mid K H0 H pa wa na po fo names k ps ad n) (e : exP pa H H') (p : Pen K H' pa m) (wp : wa ≠ pa) (np : na ≠ pa) (pp : po ≠ pa) (fp : fo ≠ pa) : Mid K H0 H' pa wa na po fo names k ps ad m := by
  obtain ⟨qs, g1, g2, g3, g4⟩ := M.pool
  obtain ⟨a, b, c, hw⟩ := M.wd
  refine ⟨M.ex.trans e, p, M.aw.step e, M.af.step e, ⟨a, b, c, e.but _ _ hw wp⟩, e.but _ _ M.nm np, ⟨qs, e.but _ _ g1 pp, g2, g3, fun p hp => ?_⟩, e.but _ _ M.fod fp, M.part, fun p hp => (M.dat p hp).mono (hideL_p List.mem_cons_self e)⟩
  obtain ⟨ds, y1, y2, y3⟩ := g4 p hp
  exact ⟨ds, y1.mono (hideL_p List.mem_cons_self e), y2, y3⟩
def sp_plain (K : PySem.W.Frag) : Sp := fun vs H Q _ => ∃ (pa : Addr) (many n : Nat), vs = [.ref pa, .int (many : Nat)] ∧ 1 ≤ many ∧ many ≤ 5 ∧ n + cpl ≤ 550000 ∧ Pen K H pa n ∧ ∀ fo ps ad H', PlainD ps → H fo = none → H' fo = some (.dK (bkV (bkL ps ad))) → (∀ p ∈ ps, D K (hideL [pa, fo] H') (.ref (ad p.1)) (.list p.2)) → exP pa H H' → Pen K H' pa (n + cpl) → Q (.ref fo) H'
section
variable {P : Program} {w : World} {K : PySem.W.Frag} {mg : Str → Option Value} {base : Heap} {f : Addr} {fd : FuncData}
abbrev nm_plain : List Str := ["_law_pen_here", "_law_many", "_law_names", "_law_world", "_law_k", "_law_found", "_law_lines_here", "_law_is_full", "_law_j", "_law_some"]
theorem sc_plain : FnScope nm_plain ["_law_pen_here", "_law_many"] (defScope s_plain) := ⟨rfl, rfl, rfl, by decide +kernel, rfl, by decide +kernel, by decide +kernel⟩
theorem ok_plain {j : Nat} (F : Fun K "_law_plain" "_law_plain" s_plain f fd) (G : Gb mg) (G2 : Gb2 mg) (c1 : Cl P w K mg base CX0 1 "_law_draw" (sp_draw K)) (c2 : Cl P w K mg base CX0 2 "_law_pick" (sp_pick K)) (c3 : Cl P w K mg base CX0 3 "_law_words" (sp_words K)) (c4 : Cl P w K mg base CX0 4 "_law_plain_line" (sp_pline K))
    (c5 : Cl P w K mg base CX0 j "_law_lines" (sp_lines K)) (hj : 4 ≤ j) : FnOk P w K mg base CX0 (j + 1) f fd ["_law_pen_here", "_law_many"] (sp_plain K) := by
  refine F.ok sc_plain (fun vs H Q E h => ?_) (fun cdv A outer s H vs Q E hr h => ⟨RB _ _, pss_RB, ?_⟩)
  · obtain ⟨_, _, _, rfl, _⟩ := h; rfl
  obtain ⟨pa, many, n, rfl, hm1, hm5, hn, pen, q⟩ := h
  have hcpl : cpl = 200 + 6 * (cl + 40) := rfl
  -- the names
  refine rb_cons <| rs_set 2 (by exact sc_plain.nd) <| re_call c3 hr (hk := by omega) <| ra_cons <| re_var 0 rfl <| ra_cons <| re_add <| re_int <| re_call c1 hr (hk := by omega) <| ra_cons <| re_var 0 rfl <| ra_cons <| re_var 1 rfl <| ra_nil ⟨pa, (many : Nat), n, rfl, by omega, by omega, by omega, pen, fun r H1 r0 r1 e1 pen1 => ?_⟩
  obtain ⟨rn, rfl⟩ := Int.eq_ofNat_of_zero_le r0
  refine ⟨1, (rn : Nat), rfl, rfl, ra_nil ⟨pa, 1 + rn, n + 1, by rw [show (1 : Int) + (rn : Nat) = ((1 + rn : Nat) : Int) by omega], by omega, pen1, fun l2 ws H2 hws hl2 h2 e2 pen2 => ?_⟩⟩
  have nl2 : l2 ≠ pa := (pen1.ne_new hl2).symm
  -- the world
  refine rb_cons <| rs_set 3 (by exact sc_plain.nd) <| re_disp fun wa hwa => rp_cons <| re_str <| re_op op_cat <| re_lst <| ra_cons <| re_str <| ra_nil ⟨Nat.le_of_ble_eq_true rfl, fun p3 H3 hp3 e3 h3 => re_var 2 rfl ⟨p3, l2, _, ws.map V.str, rfl, rfl, h3, ?_, szl (by rw [List.length_map]; have := hws.2.2.2; show 1 + ws.length ≤ 90000; omega), fun na hna => ?_⟩⟩
  · refine e3 _ _ ?_
    rw [upd_ne fun z => by rw [z, hwa] at h2; cases h2]; exact h2
  have hH3 : H3 = H3 := rfl
  have a2 : Ex H2 (upd H2 wa (.dK [])) := Ex.new hwa
  have a3 : Ex H2 H3 := a2.trans e3
  have w3 : H3 wa = some (.dK []) := e3 _ _ upd_same
  have a4 : Ex H3 (upd H3 na (.lst ([V.str "main"] ++ ws.map V.str))) := Ex.new hna
  have n4 : upd H3 na (.lst ([V.str "main"] ++ ws.map V.str)) na = some (.lst ((("main" : Str) :: ws).map V.str)) := upd_same
  generalize upd H3 na (.lst ([V.str "main"] ++ ws.map V.str)) = H4 at *
  refine rp_cons <| re_str <| re_lst <| ra_nil ⟨Nat.le_of_ble_eq_true rfl, fun po H5 hpo e5 h5 => rp_cons <| re_str <| re_int <| rp_cons <| re_str <| re_bl <| rp_cons <| re_str <| re_lst <| ra_nil ⟨Nat.le_of_ble_eq_true rfl, fun l6 H6 hl6 e6 h6 => rp_nil ⟨e6 _ _ (e5 _ _ (a4 _ _ w3)), wdV na po 0 true l6, rfl, Nat.le_of_ble_eq_true rfl, ?_⟩⟩⟩
  show RB _ _ _ _ (upd H6 wa (.dK (wdV na po 0 true l6)))
  have hw6 : H6 wa = some (.dK []) := e6 _ _ (e5 _ _ (a4 _ _ w3))
  have wpa : wa ≠ pa := (pen2.ne_new hwa).symm
  let names : List Str := ("main" : Str) :: ws
  have hnames : names = ("main" : Str) :: ws := rfl
  have b26 : Ex H2 H6 := a3.trans (a4.trans (e5.trans e6))
  have e06 : exP pa H H6 := ((e1.trans e2).trans (exP.of b26))
  have pen6 : Pen K H6 pa (n + 11) := pen2.mono b26
  have hw0 : H wa = none := by
    have e12 := e1.trans e2
    exact e12.back hwa wpa
  have ex6 : exP pa H (upd H6 wa (.dK (wdV na po 0 true l6))) := e06.mut hw0 wpa.symm
  have aw6 : Away H6 pa wa := (pen2.away hwa).step (exP.of b26)
  have pen7 := pen6.mut (o := .dK (wdV na po 0 true l6)) aw6 wpa.symm
  have aw7 := aw6.mut (o := .dK (wdV na po 0 true l6)) wpa.symm
  have h7w : upd H6 wa (.dK (wdV na po 0 true l6)) wa = some (.dK (wdV na po 0 true l6)) := upd_same
  have h7n : upd H6 wa (.dK (wdV na po 0 true l6)) na = some (.lst (names.map V.str)) := by
    have := e6 _ _ (e5 _ _ n4)
    rw [upd_ne (ne_kind this hw6 (fun z => nomatch z))]; exact this
  have h7p : upd H6 wa (.dK (wdV na po 0 true l6)) po = some (.lst []) := by
    have := e6 _ _ h5
    rw [upd_ne (ne_kind this hw6 (fun z => nomatch z))]; exact this
  have apo : Away (upd H6 wa (.dK (wdV na po 0 true l6))) pa po := (((pen2.mono (a3.trans a4)).away hpo).step (exP.of (e5.trans e6))).put wpa.symm
  have hpo0 : H po = none := by
    have c4 : exP pa H H4 := (e1.trans e2).trans (exP.of (a3.trans a4))
    exact c4.back hpo ((pen2.mono (a3.trans a4)).ne_new hpo).symm
  have ppo : po ≠ pa := ((pen2.mono (a3.trans a4)).ne_new hpo).symm
  have nao : na ≠ po := ne_of_none (H := H4) n4 hpo
  have okn : Nms names := ⟨fun f hf => by
    rcases List.mem_cons.mp hf with rfl | hf
    · exact isWord_main
    · exact (hws.1 f hf).1, by rw [hnames, List.length_cons]; have := hws.2.2.2; omega⟩
  have nml : names.length = ws.length + 1 := rfl
  have nm6 : names.length ≤ 6 := by have := hws.2.2.1; omega
  have nnd : names.Nodup := List.nodup_cons.mpr ⟨fun z => (hws.1 _ z).2 rfl, hws.2.1⟩
  have eqn : (("main" : Str) :: ws).map V.str = names.map V.str := rfl
  generalize upd H6 wa (.dK (wdV na po 0 true l6)) = H7 at *
  -- the pool
  refine rb_cons <| rs_for (g := gName 4) PassesOwn.never rfl (pg_name (i := 4) (by exact sc_plain.nd) rfl (Or.inl rfl)) good_name ?_
  refine ri_range (n := 0) G2.range <| ra_cons <| re_int <| ra_nil ⟨3, rfl, by decide, by decide, ?_⟩
  refine ⟨_, _, _, fun i σ' H' => ∃ (x4 : Option V) (qs : List Addr), σ' = [some (.ref pa), some (.int (many : Nat)), some (.ref l2), some (.ref wa), x4, none, none, none, none, none] ∧ exP pa H H' ∧ Pen K H' pa (n + 11 + 28 * i) ∧ Away H' pa wa ∧ Away H' pa po ∧ H' wa = some (.dK (wdV na po 0 true l6)) ∧ H' na = some (.lst (names.map V.str)) ∧ H' po = some (.lst (qs.map V.ref)) ∧ qs.length = i ∧ ∀ p ∈ qs, ∃ ds, D K (hideL [pa, wa, po] H') (.ref p) (.list ds) ∧ (∀ d ∈ ds, PWd names d) ∧ ds.length ≤ 10, walk_range, ?_, fun _ _ _ _ _ => trivial, ?_, ?_⟩
  · exact ⟨_, [], rfl, ex6, pen7, aw7, apo, h7w, h7n, h7p, rfl, fun _ h => nomatch h⟩
  · rintro i x σ' Ha Hb hi ⟨x4, qs, rfl, ex, pe, aw, ap, hw, hn', hp', hql, hqs⟩ ⟨rfl, rfl⟩
    have hi3 : i < 3 := hi
    have wn : Wn K Hb pa wa na names (n + 11 + 28 * i) := ⟨pe, ⟨_, hw, rfl⟩, wpa, hn', okn, by omega⟩
    have npa : na ≠ pa := by
      obtain ⟨kvs, hpa⟩ := pe.dict
      exact ne_kind hn' hpa (fun z => nomatch z)
    refine rb_one <| rs_expr <| re_append <| re_dget (hu_of hr) <| re_var 3 rfl <| re_str ⟨wa, _, .inr "pool", .ref po, rfl, hw, rfl, rfl, po, rfl, ⟨_, hp'⟩, ?_⟩
    refine re_lcS (own := [("_law_j", 8)]) (g := gName 8) rfl (by exact sc_plain.nd) (blkOk_by (N := nm_plain) (sc := defScope s_plain) (by decide +kernel)) (fun _ _ _ _ _ => pg_name (i := 8) (by exact sc_plain.nd) rfl (Or.inl rfl)) good_name ?_
    refine ri_range (n := 0) G2.range <| ra_cons <| re_add <| re_int <| re_call c1 hr (hk := by omega) <| ra_cons <| re_var 0 rfl <| ra_cons <| re_int <| ra_nil ⟨pa, 3, _, rfl, by decide, by decide, ?_, pe, fun r Hc r0 r1 ec penc => ⟨2, r, rfl, rfl, ra_nil ⟨2 + r, rfl, by omega, by omega, ?_⟩⟩⟩
    · omega
    have wnc := wn.step ec penc
    have hpc : Hc po = some (.lst (qs.map V.ref)) := ec.but _ _ hp' ppo
    have hwc : Hc wa = some (.dK (wdV na po 0 true l6)) := ec.but _ _ hw wpa
    obtain ⟨m, hm⟩ : ∃ m, n + 11 + 28 * i + 1 = m := ⟨_, rfl⟩
    rw [hm] at penc wnc
    have newS : ∀ {t : Addr} {H' : Hp}, exP pa Hc H' → Pen K H' pa 700000 → H' t = none → t ∉ [pa, wa, po] := fun {t H'} e pe h z => by
      obtain ⟨kvs, hpa⟩ := pe.dict
      simp only [List.mem_cons, List.not_mem_nil, or_false] at z
      rcases z with z | z | z
      · rw [z, hpa] at h; cases h
      · rw [z, e.but _ _ hwc wpa] at h; cases h
      · rw [z, e.but _ _ hpc ppo] at h; cases h
    refine ⟨_, _, _, fun Dl i H' acc => ∃ ds, DA K (hideL [Dl, pa, wa, po] H') acc ds ∧ ds.length = i ∧ (∀ d ∈ ds, PWd names d) ∧ exP pa Hc H' ∧ Pen K H' pa (m + 6 * i) ∧ Away H' pa Dl, walk_range, by omega, fun _ _ _ _ _ => trivial, fun Dl hD => ?_, ?_, ?_⟩
    · have nD : Dl ≠ pa := fun z => newS exP.refl (penc.upto (by omega)) hD (by rw [z]; exact List.mem_cons_self)
      exact ⟨[], .nil, rfl, (fun _ h => nomatch h), (exP.refl).mut hD nD.symm, penc.mut (penc.away hD) nD.symm, (penc.away hD).mut nD.symm⟩
    · rintro Dl i' x H5 H6 acc hD hi' hDl hlen5 ⟨ds, hda5, hdl, hpw, e5, pen5, aw5⟩ ⟨rfl, rfl⟩
      have hi4 : i' < 4 := by omega
      have neD : Dl ≠ pa := fun z => newS exP.refl (penc.upto (by omega)) hD (by rw [z]; exact List.mem_cons_self)
      refine ⟨rfl, fun s0 H0 C cl fp => ?_⟩
      refine re_call c4 hr (hk := by omega) <| ra_cons <| re_var 0 rfl <| ra_cons <| re_var 3 rfl <| ra_nil ⟨pa, wa, na, names, m + 6 * i', rfl, by omega, wnc.step e5 pen5, fun t d xs H7 hpd hdt hda ht0 ht1 e7 pen7 => ?_⟩
      have hD7 : H7 Dl = some (.lst acc) := e7.but _ _ hDl neD
      have tD : t ≠ Dl := fun z => by rw [z, hDl] at ht0; cases ht0
      have tS := newS e5 (pen5.upto (by omega)) ht0
      have tS' : t ∉ [Dl, pa, wa, po] := fun z => by
        rcases List.mem_cons.mp z with z | z
        · exact tD z
        · exact tS z
      refine ⟨hD7, ds ++ [d], ?_, by rw [List.length_append, hdl]; rfl, fun y hy => ?_, (e5.trans e7).mut hD neD.symm, (pen7.upto (by omega)).mut (aw5.step e7) neD.symm, (aw5.step e7).mut neD.symm⟩
      · refine DA.app (hda5.mono (hideL_ex fun b o hb hn => ?_)) (.cons ?_ .nil)
        · rw [upd_ne fun z => hn (by rw [z]; exact List.mem_cons_self)]
          exact e7.but _ _ hb fun z => hn (by rw [z]; exact List.mem_cons_of_mem _ List.mem_cons_self)
        · rw [hdt]
          exact tupAt tS' (by rw [upd_ne tD]; exact ht1) (hda _)
      · rcases List.mem_append.mp hy with hy | hy
        · exact hpw y hy
        · rw [List.mem_singleton.mp hy]; exact hpd
    rintro Dl acc H5 hD hDl hlen5 ⟨ds, hda5, hdl, hpw, e5, pen5, aw5⟩
    have nS := newS exP.refl (penc.upto (by omega)) hD
    have hp5 : H5 po = some (.lst (qs.map V.ref)) := e5.but _ _ hpc ppo
    have nDp : Dl ≠ po := fun z => nS (by rw [z]; simp)
    have r4 : (2 + r).toNat ≤ 4 := by omega
    have ec5 : exP pa Hb H5 := ec.trans e5
    refine ⟨_, hp5, szlt (by rw [List.length_map]; omega), ?_⟩
    have poH : exP pa H (upd H5 po (.lst (qs.map V.ref ++ [.ref Dl]))) := (ex.trans ec5).mut hpo0 ppo.symm
    have ap5 := ap.step ec5
    refine ⟨_, qs ++ [Dl], rfl, poH, (pen5.upto (by omega)).mut ap5 ppo.symm, (aw.step ec5).put ppo.symm, ap5.mut ppo.symm, ?_, ?_, by rw [List.map_append]; exact upd_same, by rw [List.length_append, hql]; rfl, fun p hp => ?_⟩
    · rw [upd_ne (ne_kind hw hp' (fun z => nomatch z))]; exact ec5.but _ _ hw wpa
    · rw [upd_ne nao]; exact ec5.but _ _ hn' npa
    have eU : Ex (hideL [pa, wa, po] H5) (hideL [pa, wa, po] (upd H5 po (.lst (qs.map V.ref ++ [.ref Dl])))) := hideL_ex fun b o hb hn => by
      rw [upd_ne fun z => hn (by rw [z]; simp)]; exact hb
    rcases List.mem_append.mp hp with hp | hp
    · obtain ⟨es, g1, g2, g3⟩ := hqs p hp
      exact ⟨es, (g1.mono (hideL_p List.mem_cons_self ec5)).mono eU, g2, g3⟩
    · rw [List.mem_singleton.mp hp]
      exact ⟨ds, .lst (.inl (.inl (eU _ _ (hideL_at nS hDl)))) ((hda5.mono (hideL_sub fun x hx => List.mem_cons_of_mem _ hx)).mono eU), hpw, by omega⟩
  rintro σ' H8 ⟨x4, qs, rfl, ex8, pe8, aw8, ap8, hw8, hn8, hp8, hql, hqs⟩
  -- the functions
  refine rb_cons <| rs_set 5 (by exact sc_plain.nd) <| re_dnew fun fo H9 hfo e9 h9 => ?_
  have fopa : fo ≠ pa := (pe8.ne_new hfo).symm
  have hfo0 : H fo = none := ex8.back hfo fopa
  have npa : na ≠ pa := by
    obtain ⟨kvs, hpa⟩ := pe8.dict
    exact ne_kind hn8 hpa (fun z => nomatch z)
  have w9 : H9 wa = some (.dK (wdV na po 0 true l6)) := e9 _ _ hw8
  have fowa : fo ≠ wa := (ne_of_none hw8 hfo).symm
  refine rb_cons <| rs_for (g := gName 4) PassesOwn.never rfl (pg_name (i := 4) (by exact sc_plain.nd) rfl (Or.inl rfl)) good_name ?_
  refine ri_range (n := 0) G2.range <| ra_cons <| re_cb call_len G.len <| ra_cons <| re_dget (hu_of hr) <| re_var 3 rfl <| re_str ⟨wa, _, .inr "names", .ref na, rfl, w9, rfl, rfl, ra_nil ⟨_, names.length, rfl, .inl ⟨_, .inl (.inl (e9 _ _ hn8)), (List.length_map ..).symm⟩, ra_nil ⟨(names.length : Nat), rfl, by omega, by omega, ?_⟩⟩⟩
  refine ⟨_, _, _, fun k σ' H' => ∃ (x4 x6 x7 : Option V) (ps : PlP) (ad : Str → Addr), σ' = [some (.ref pa), some (.int (many : Nat)), some (.ref l2), some (.ref wa), x4, some (.ref fo), x6, x7, none, none] ∧ Mid K H H' pa wa na po fo names k ps ad (n + 95 + k * (cl + 40)), walk_range, ?_, fun _ _ _ _ _ => trivial, ?_, ?_⟩
  · refine ⟨_, _, _, [], fun _ => 0, rfl, ex8.trans (exP.of e9), (pe8.mono e9).upto (by omega), aw8.step (exP.of e9), (pe8.away hfo).step (exP.of e9), ⟨_, _, _, w9⟩, e9 _ _ hn8, ⟨qs, e9 _ _ hp8, by omega, by omega, fun p hp => ?_⟩, h9, ⟨rfl, (fun _ h => nomatch h), (fun _ h => nomatch h), Nat.zero_le _⟩, fun _ h => nomatch h⟩
    obtain ⟨ds, g1, g2, g3⟩ := hqs p hp
    refine ⟨ds, g1.mono (fun b o hb => ?_), g2, g3⟩
    obtain ⟨hb1, hb2⟩ := hideL_of hb
    refine hideL_at (fun z => ?_) (e9 _ _ hb2)
    simp only [List.mem_cons, List.not_mem_nil, or_false, not_or] at z hb1
    rcases z with z | z | z
    · exact hb1.1 z
    · exact hb1.2.1 z
    · rw [z, hfo] at hb2; cases hb2
  · rintro k x σ' Ha Hb hk ⟨x4, x6, x7, ps, ad, rfl, M⟩ ⟨rfl, hx⟩
    have hx : x = .int (k : Nat) := by rw [hx]; show V.int (0 + (k : Int)) = _; rw [Int.zero_add]
    subst hx
    have hk : k < names.length := hk
    have hkm : (k + 1) * (cl + 40) ≤ 6 * (cl + 40) := Nat.mul_le_mul_right _ (by omega)
    have hk1 : (k + 1) * (cl + 40) = k * (cl + 40) + (cl + 40) := Nat.succ_mul _ _
    obtain ⟨m0, hm0⟩ : ∃ m, n + 95 + k * (cl + 40) = m := ⟨_, rfl⟩
    rw [hm0] at M
    obtain ⟨at0, q0, la0, hwd⟩ := M.wd
    obtain ⟨kvs0, hpa0⟩ := M.pen.dict
    -- the world
    refine rb_cons <| rs_expr <| re_update <| re_var 3 rfl ⟨wa, rfl, ⟨_, hwd⟩, re_disp fun dp hdp => rp_cons <| re_str <| re_var 4 rfl <| rp_cons <| re_str <| re_cmp op_eq <| re_call c1 hr (hk := by omega) <| ra_cons <| re_var 0 rfl <| ra_cons <| re_int <| ra_nil ⟨pa, 4, m0, rfl, by decide, by decide, by omega, M.pen.mono (Ex.new hdp), fun r Hc r0 r1 ec penc => re_int ⟨rfl, rp_cons <| re_str <| re_call c3 hr (hk := by omega) <| ra_cons <| re_var 0 rfl <| ra_cons <| re_int <| ra_nil ⟨pa, 12, m0 + 1, rfl, by omega, penc, fun la L Hd hL hla hld ed pend => ?_⟩⟩⟩⟩
    have dppa : dp ≠ pa := (M.pen.ne_new hdp).symm
    have hdc : Hc dp = some (.dK []) := ec.but _ _ upd_same dppa
    have hdd : Hd dp = some (.dK []) := ed.but _ _ hdc dppa
    obtain ⟨lost, hlost⟩ : ∃ b, decide (V.int r = V.int 0) = b := ⟨_, rfl⟩
    rw [hlost]
    refine rp_nil ⟨hdd, [(.inr "at", .int (k : Nat)), (.inr "lost", .bl lost), (.inr "labels", .ref la)], rfl, Nat.le_of_ble_eq_true rfl, ?_⟩
    have lapa : la ≠ pa := (penc.ne_new hla).symm
    have edp : exP pa (upd Hb dp (.dK [])) Hd := ec.trans ed
    have ebd : exP pa Hb Hd := (exP.of (Ex.new hdp)).trans edp
    have hwdd : Hd wa = some (.dK (wdV na po at0 q0 la0)) := ebd.but _ _ hwd wpa
    have dpwa : dp ≠ wa := (ne_of_none hwd hdp).symm
    refine ⟨dp, wdV na po at0 q0 la0, mergeK [] [(.inr "at", .int (k : Nat)), (.inr "lost", .bl lost), (.inr "labels", .ref la)], rfl, by rw [upd_ne dpwa.symm]; exact hwdd, upd_same, dpwa.symm, Nat.le_of_ble_eq_true rfl, Nat.le_of_ble_eq_true rfl, ?_⟩
    show RB _ _ _ _ (upd (upd Hd dp (.dK [(.inr "at", .int (k : Nat)), (.inr "lost", .bl lost), (.inr "labels", .ref la)])) wa (.dK [(.inr "names", .ref na), (.inr "pool", .ref po), (.inr "at", .int (k : Nat)), (.inr "lost", .bl lost), (.inr "labels", .ref la)]))
    rw [show lost = !(!lost) from (Bool.not_not lost).symm]
    generalize (!lost) = q' at *
    show RB _ _ _ _ (upd (upd Hd dp (.dK [(.inr "at", .int (k : Nat)), (.inr "lost", .bl !q'), (.inr "labels", .ref la)])) wa (.dK (wdV na po k q' la)))
    have hbn : ∀ {b : Addr} {o : HO}, Hb b = some o → b ≠ pa → b ≠ wa → upd (upd Hd dp (.dK [(.inr "at", .int (k : Nat)), (.inr "lost", .bl !q'), (.inr "labels", .ref la)])) wa (.dK (wdV na po k q' la)) b = some o := fun {b o} hb n1 n2 => by
      rw [upd_ne n2, upd_ne (ne_of_none hb hdp)]
      exact ebd.but _ _ hb n1
    have hde : upd (upd Hd dp (.dK [(.inr "at", .int (k : Nat)), (.inr "lost", .bl !q'), (.inr "labels", .ref la)])) wa (.dK (wdV na po k q' la)) wa = some (.dK (wdV na po k q' la)) := upd_same
    have lawa : la ≠ wa := fun z => by
      have := ec.but _ _ ((Ex.new hdp) _ _ hwd) wpa
      rw [z, this] at hla; cases hla
    have ladp : la ≠ dp := fun z => by rw [z, hdc] at hla; cases hla
    have hlae : upd (upd Hd dp (.dK [(.inr "at", .int (k : Nat)), (.inr "lost", .bl !q'), (.inr "labels", .ref la)])) wa (.dK (wdV na po k q' la)) la = some (.lst (L.map V.str)) := by
      rw [upd_ne lawa, upd_ne ladp]; exact hld
    have hdp0 : H dp = none := M.ex.back hdp dppa
    have exe : exP pa H (upd (upd Hd dp (.dK [(.inr "at", .int (k : Nat)), (.inr "lost", .bl !q'), (.inr "labels", .ref la)])) wa (.dK (wdV na po k q' la))) := ((M.ex.trans ebd).mut hdp0 dppa.symm).mut hw0 wpa.symm
    have awd : Away Hd pa wa := M.aw.step ebd
    have adp : Away Hd pa dp := (M.pen.away hdp).step ebd
    have pene := (pend.mut (o := .dK [(.inr "at", .int (k : Nat)), (.inr "lost", .bl !q'), (.inr "labels", .ref la)]) adp dppa.symm).mut (o := .dK (wdV na po k q' la)) (awd.put dppa.symm) wpa.symm
    have awe : Away (upd (upd Hd dp (.dK [(.inr "at", .int (k : Nat)), (.inr "lost", .bl !q'), (.inr "labels", .ref la)])) wa (.dK (wdV na po k q' la))) pa wa := (awd.put dppa.symm).put wpa.symm
    have afe : Away (upd (upd Hd dp (.dK [(.inr "at", .int (k : Nat)), (.inr "lost", .bl !q'), (.inr "labels", .ref la)])) wa (.dK (wdV na po k q' la))) pa fo := ((M.af.step ebd).put dppa.symm).put wpa.symm
    have ale : Away (upd (upd Hd dp (.dK [(.inr "at", .int (k : Nat)), (.inr "lost", .bl !q'), (.inr "labels", .ref la)])) wa (.dK (wdV na po k q' la))) pa la := (((penc.away hla).step ed).put dppa.symm).put wpa.symm
    have hlaB : ∀ {b : Addr} {o : HO}, Hb b = some o → b ≠ pa → b ≠ la := fun {b o} hb n1 z => by
      have := ec.but _ _ ((Ex.new hdp) _ _ hb) n1
      rw [z, hla] at this; cases this
    generalize upd (upd Hd dp (.dK [(.inr "at", .int (k : Nat)), (.inr "lost", .bl !q'), (.inr "labels", .ref la)])) wa (.dK (wdV na po k q' la)) = He at *
    have hla0 : H la = none := by
      cases hh : H la with
      | none => rfl
      | some o => exact absurd rfl (hlaB (M.ex.but _ _ hh lapa) lapa)
    obtain ⟨qs', hpo', hq0, hq3, hqd⟩ := M.pool
    have npo : po ≠ wa := ne_kind hpo' hwd (fun z => nomatch z)
    have nna : na ≠ wa := ne_kind M.nm hwd (fun z => nomatch z)
    have W : Wd K He pa wa la na po names k q' L (m0 + 11) := ⟨pene.upto (by omega), ale, hde, wpa, hbn M.nm npa nna, hlaB M.nm npa, hlaB hpo' ppo, ⟨qs', hbn hpo' ppo npo, hq0, hq3, fun p hp => by
      obtain ⟨ds, g1, g2, g3⟩ := hqd p hp
      refine ⟨ds, g1.mono (fun b o hb => ?_), g2, g3⟩
      obtain ⟨hb1, hb2⟩ := hideL_of hb
      simp only [List.mem_cons, List.not_mem_nil, or_false, not_or] at hb1
      exact hideL_at (by simp only [List.mem_cons, List.not_mem_nil, or_false, not_or]; exact ⟨hb1.1, hb1.2.1, hlaB hb2 hb1.1⟩) (hbn hb2 hb1.1 hb1.2.1)⟩, hlae, okn, hk, ⟨fun s hs => (hL.1 s hs).1, hL.2.1, by have := hL.2.2.2; omega⟩⟩
    -- its lines
    refine rb_cons <| rs_set 6 (by exact sc_plain.nd) <| re_call c5 hr (hk := Nat.le_refl _) <| ra_cons <| re_var 0 rfl <| ra_cons <| re_var 3 rfl <| ra_nil ⟨pa, wa, la, na, po, names, k, q', L, m0 + 11, rfl, by omega, W, fun l xs ds L' Hf hwh h40 hl hlx hda ew Wf => ?_⟩
    have nl := W.newp hl
    have lS : l ∉ [pa, wa, la] := W.new hl
    have hbf : ∀ {b : Addr} {o : HO}, Hb b = some o → b ≠ pa → b ≠ wa → Hf b = some o := fun {b o} hb n1 n2 => ew _ _ (hbn hb n1 n2) n1 (hlaB hb n1)
    have eS : Ex (hideL [pa, wa, fo] Hb) (hideL [pa, wa, fo] Hf) := hideL_ex fun b o hb hn => by
      simp only [List.mem_cons, List.not_mem_nil, or_false, not_or] at hn
      exact hbf hb hn.1 hn.2.1
    have Mf : Mid K H Hf pa wa na po fo names k ps ad (m0 + 11 + cl) := ⟨exe.w ew hla0, Wf.pen, awe.stepW ew, afe.stepW ew, ⟨_, _, _, Wf.wd⟩, Wf.nm, ⟨qs', hbf hpo' ppo npo, hq0, hq3, fun p hp => by
      obtain ⟨ds, g1, g2, g3⟩ := hqd p hp
      exact ⟨ds, g1.mono eS, g2, g3⟩⟩, hbf M.fod fopa fowa, M.part, fun p hp => (M.dat p hp).mono eS⟩
    have lfo : l ≠ fo := fun z => by
      have := hbn M.fod fopa fowa
      rw [← z, hl] at this; cases this
    have hdl : D K (hideL [pa, wa, fo] Hf) (.ref l) (.list ds) := by
      refine .lst (.inl (.inl (hideL_at ?_ hlx))) (DA.lines hwh.ok hda fun a ys hs => sqt_ex (fun a o ho zs hz => ?_) hs)
      · simp only [List.mem_cons, List.not_mem_nil, or_false, not_or] at lS ⊢
        exact ⟨lS.1, lS.2.1, lfo⟩
      · obtain ⟨h1, h2⟩ := hideL_of ho
        refine hideL_at (fun z => ?_) h2
        simp only [List.mem_cons, List.not_mem_nil, or_false, not_or] at h1 z
        rcases z with z | z | z
        · exact h1.1 z
        · exact h1.2.1 z
        · rw [z, Mf.fod] at h2
          rcases hz with rfl | ⟨ob, rfl⟩
          · cases h2
          · cases h2
    -- or those of another one
    refine rb_cons <| rs_ifJ (fun σ' H' => ∃ l ds, σ' = [some (.ref pa), some (.int (many : Nat)), some (.ref l2), some (.ref wa), some (.int (k : Nat)), some (.ref fo), some (.ref l), x7, none, none] ∧ Mid K H H' pa wa na po fo names k ps ad (m0 + 20 + cl) ∧ D K (hideL [pa, wa, fo] H') (.ref l) (.list ds) ∧ (∃ q, Whole q names ds) ∧ ds.length ≤ 40) ?_ ?_
    · have keep : ∀ {H' : Hp} {m : Nat}, exP pa Hf H' → Pen K H' pa m → m ≤ m0 + 20 + cl → Mid K H H' pa wa na po fo names k ps ad (m0 + 20 + cl) := fun {H' m} e pe hm => Mf.step e (pe.upto hm) wpa npa ppo fopa
      have same : ∀ {H' : Hp} {m : Nat}, exP pa Hf H' → Pen K H' pa m → m ≤ m0 + 20 + cl → ∃ l' ds', [some (V.ref pa), some (.int (many : Nat)), some (.ref l2), some (.ref wa), some (.int (k : Nat)), some (.ref fo), some (.ref l), x7, none, none] = [some (V.ref pa), some (.int (many : Nat)), some (.ref l2), some (.ref wa), some (.int (k : Nat)), some (.ref fo), some (.ref l'), x7, none, none] ∧ Mid K H H' pa wa na po fo names k ps ad (m0 + 20 + cl) ∧ D K (hideL [pa, wa, fo] H') (.ref l') (.list ds') ∧ (∃ q, Whole q names ds') ∧ ds'.length ≤ 40 := fun {H' m} e pe hm =>
        ⟨l, ds, rfl, keep e pe hm, hdl.mono (hideL_p List.mem_cons_self e), ⟨q', hwh⟩, h40⟩
      refine rt_w <| rw_and <| rt_cmp op_gt <| re_var 4 rfl <| re_int ⟨(k : Nat), 1, rfl, rfl, _, rfl, ifB (fun e => ?_) fun e => ifF (rb_nil (same exP.refl Mf.pen (by omega)))⟩
      have hk1' : 1 < k := by
        have := of_decide_eq_true e
        omega
      refine rw_and1 <| rt_cmp op_eq <| re_call c1 hr (hk := by omega) <| ra_cons <| re_var 0 rfl <| ra_cons <| re_int <| ra_nil ⟨pa, 4, _, rfl, by decide, by decide, ?_, Mf.pen, fun r2 Hg r20 r21 eg peng => re_int ⟨rfl, _, rfl, ifB (fun er => ?_) fun er => rb_nil (same eg peng (by omega))⟩⟩
      · omega
      have Mg := keep eg peng (by omega)
      obtain ⟨at1, q1, la1, hwg⟩ := Mg.wd
      refine rb_one <| rs_set 6 (by exact sc_plain.nd) <| re_ct call_list_of G.list <| ra_cons <| re_dget (hu_of hr) <| re_var 5 rfl <| re_call c2 hr (hk := by omega) <| ra_cons <| re_var 0 rfl <| ra_cons <| re_lmid <| re_dget (hu_of hr) <| re_var 3 rfl <| re_str ⟨wa, _, .inr "names", .ref na, rfl, hwg, rfl, rfl, re_int ⟨1, rfl, re_var 4 rfl ⟨(k : Nat), rfl, na, _, rfl, .inl (.inl Mg.nm), fun p hp => ra_nil ⟨pa, p, cutV (names.map V.str) (some 1) (some (k : Int)), _, rfl, .inl (.inl upd_same), ?_, ?_, ?_, peng.mono (Ex.new hp), fun v Hh hv eh penh => ?_⟩⟩⟩⟩
      · rw [cut_mid (by omega), List.length_map, List.length_drop, List.length_take]; omega
      · rw [cut_mid (by omega), List.length_map, List.length_drop, List.length_take]; omega
      · omega
      rw [cut_mid (by omega)] at hv
      obtain ⟨nm, hnm, rfl⟩ := List.mem_map.mp hv
      have hnm2 : nm ∈ ps.map (·.1) := by rw [M.part.nm]; exact List.mem_of_mem_drop hnm
      obtain ⟨p2, hp2, rfl⟩ := List.mem_map.mp hnm2
      have egh : exP pa Hf Hh := eg.trans ((exP.of (Ex.new hp)).trans eh)
      have Mh := keep egh (penh.upto (Nat.le_refl _)) (by omega)
      have hnd : (ps.map (·.1)).Nodup := by rw [M.part.nm]; exact nnd.sublist (List.take_sublist _ _)
      have hdh := Mh.dat p2 hp2
      refine ⟨fo, _, .inr p2.1, .ref (ad p2.1), rfl, Mh.fod, rfl, bkL_val hnd hp2, ?_⟩
      cases hdh with
      | lst a b =>
        rename_i ys
        refine ra_nil ⟨ad p2.1, ys, rfl, .inl (Evl.ex_l hideL_ex0 a), fun l' hl' => ?_⟩
        have en : Ex Hh (upd Hh l' (.lst ys)) := Ex.new hl'
        have l'S : l' ∉ [pa, wa, fo] := fun z => by
          simp only [List.mem_cons, List.not_mem_nil, or_false] at z
          rcases z with z | z | z
          · exact (Mh.pen.ne_new hl').symm z
          · obtain ⟨_, _, _, hh⟩ := Mh.wd; rw [z, hh] at hl'; cases hl'
          · rw [z, Mh.fod] at hl'; cases hl'
        exact ⟨l', p2.2, rfl, Mh.step (exP.of en) (Mh.pen.mono en) wpa npa ppo fopa, .lst (.inl (.inl (hideL_at l'S upd_same))) (b.mono (hideL_e en)), M.part.whole p2 hp2, M.part.l40 p2 hp2⟩
    rintro σ' Hg ⟨l, ds, rfl, Mg, hdg, hwg, hlg⟩
    clear hdl lfo eS hbf lS nl hda hlx ew Wf Mf hwh h40 hl
    -- full?
    refine rb_cons <| rs_set 7 (by exact sc_plain.nd) <| re_cmp op_ge <| re_cb (cr_sum rfl) G.sum <| ra_cons <| re_lock Mg.fod trivial fun od => ?_
    have hz := Ez.lock (od := od) Mg.fod (fun o u' z => by cases z)
    have hplen : ps.length ≤ 6 := by
      have := congrArg List.length M.part.nm
      rw [List.length_map, List.length_take] at this
      omega
    have hbl : (bkV (bkL ps ad)).length = ps.length := by unfold bkV bkL; rw [List.length_map, List.length_map]
    refine re_lc (own := [("_law_some", 9)]) (g := gName 9) rfl (by exact sc_plain.nd) (blkOk_by (N := nm_plain) (sc := defScope s_plain) (by decide +kernel)) (fun _ _ _ _ _ => pg_name (i := 9) (by exact sc_plain.nd) rfl (Or.inl rfl)) good_name ?_
    refine ri_values <| re_var 5 rfl ⟨fo, od, _, rfl, upd_same, _, _, _, fun i ys => ys = ((ps.map fun p => (p.2.length : Int)).take i).map V.int, walk_values, by rw [hbl]; omega, fun H' e => e _ _ upd_same, rfl, ?_, ?_⟩
    · rintro i v Hi Hj hi' ei ⟨rfl, key, hkey⟩
      have hi6 : i < ps.length := by rw [hbl] at hi'; exact hi'
      have hget : (bkV (bkL ps ad))[i]? = some ((Sum.inr (ps[i]'hi6).1 : Key), V.ref (ad (ps[i]'hi6).1)) := by
        unfold bkV bkL
        rw [List.getElem?_map, List.getElem?_map, List.getElem?_eq_getElem hi6]; rfl
      rw [hget] at hkey
      obtain ⟨rfl, rfl⟩ := Prod.mk.inj (Option.some.inj hkey)
      have hdi : D K Hj (.ref (ad (ps[i]'hi6).1)) (.list (ps[i]'hi6).2) := (((Mg.dat _ (List.getElem_mem hi6)).mono hideL_ex0).monoZ hz).mono ei
      refine ⟨Ex.refl _, rfl, Ex.refl _, fun s0 H0 C cl fp => re_cb call_len G.len <| ra_cons <| re_var 9 rfl <| ra_nil ⟨_, (ps[i]'hi6).2.length, rfl, hdi.lenV rfl, Ex.refl _, fun acc hacc => ?_⟩⟩
      subst hacc
      have : (ps.map fun p => (p.2.length : Int))[i]? = some ((ps[i]'hi6).2.length : Int) := by rw [List.getElem?_map, List.getElem?_eq_getElem hi6]; rfl
      rw [take_snoc this, List.map_append]; rfl
    rintro lp ys Hi hlp ei hli hlen rfl
    have nlf : lp ≠ fo := fun z => by rw [z, upd_same] at hlp; cases hlp
    refine ⟨ei _ _ upd_same, ra_nil ⟨lp, ps.map fun p => (p.2.length : Int), rfl, .inl (.inl ?_), ?_⟩⟩
    · rw [upd_ne nlf, hli, hbl, List.take_of_length_le (by rw [List.length_map]; exact Nat.le_refl _)]
    have eu := ex_unlock Mg.fod ei
    have Mi := Mg.step (exP.of eu) (Mg.pen.mono eu) wpa npa ppo fopa
    have hdi := hdg.mono (hideL_e (S := [pa, wa, fo]) eu)
    generalize upd Hi fo (.dK (bkV (bkL ps ad))) = Hj at *
    have hsum : (ps.map fun p => (p.2.length : Int)).sum = ((ps.map fun p => p.2.length).sum : Nat) := by
      have go : ∀ zs : PlP, (zs.map fun p => (p.2.length : Int)).sum = ((zs.map fun p => p.2.length).sum : Nat) := by
        intro zs
        induction zs with
        | nil => rfl
        | cons z r ih => rw [List.map_cons, List.map_cons, List.sum_cons, List.sum_cons, ih]; omega
      exact go ps
    refine re_int ⟨_, 160, rfl, rfl, ?_⟩
    -- it is kept
    have hnk : names[k]? = some (names[k]'hk) := List.getElem?_eq_getElem hk
    obtain ⟨at2, q2, la2, hw2⟩ := Mi.wd
    refine rb_one <| rs_dput (hu_of hr) <| RE.mono (Q := fun v H' => ∃ l ds, v = .ref l ∧ Ex Hj H' ∧ D K (hideL [pa, wa, fo] H') (.ref l) (.list ds) ∧ (∃ q, Whole q names ds) ∧ ds.length ≤ 40 ∧ (ds.length ≤ 2 ∨ (ps.map fun p => p.2.length).sum < 160)) (re_if <| rt_val <| re_var 7 rfl ⟨_, rfl, ifB (fun e => ?_) fun e => ?_⟩) ?_
    · refine re_lst <| ra_cons <| re_tup <| ra_cons <| re_str <| ra_cons <| re_int <| ra_nil ⟨Nat.le_of_ble_eq_true rfl, fun t1 H10 ht1 e10 h10 => ra_cons <| re_tup <| ra_cons <| re_str <| ra_nil ⟨Nat.le_of_ble_eq_true rfl, fun t2 H11 ht2 e11 h11 => ra_nil ⟨Nat.le_of_ble_eq_true rfl, fun l3 H12 hl3 e12 h12 => ?_⟩⟩⟩
      have nS : ∀ {t : Addr} {H' : Hp}, Ex Hj H' → H' t = none → t ∉ [pa, wa, fo] := fun {t H'} e h z => by
        simp only [List.mem_cons, List.not_mem_nil, or_false] at z
        rcases z with z | z | z
        · obtain ⟨kvs, hh⟩ := Mi.pen.dict; rw [z, e _ _ hh] at h; cases h
        · rw [z, e _ _ hw2] at h; cases h
        · rw [z, e _ _ Mi.fod] at h; cases h
      have hout : PW names [lr "out" 1] := fun x hx => by
        rw [List.mem_singleton.mp hx]; exact p_r (by decide +kernel) ⟨by decide, by decide⟩
      exact ⟨l3, [lr "out" 1] ++ [lend "back"], rfl, e10.trans (e11.trans e12), .lst (.inl (.inl (hideL_at (nS (e10.trans e11) hl3) h12))) (.cons (tupAt (nS (Ex.refl _) ht1) (e12 _ _ (e11 _ _ h10)) (.cons (.str _) (.cons (.int _) .nil))) (.cons (tupAt (nS e10 ht2) (e12 _ _ h11) (.cons (.str _) .nil)) .nil)), ⟨true, whole_item (Item.pln hout) leave_back⟩, (by decide), .inl (by decide)⟩
    · refine re_var 6 rfl ⟨l, ds, rfl, Ex.refl _, hdi, hwg, hlg, .inr ?_⟩
      have := of_decide_eq_false e
      rw [hsum] at this
      omega
    rintro v Hk ⟨l', ds', rfl, ek, hdk, hwk, h40, hor⟩
    have Mk := Mi.step (exP.of ek) (Mi.pen.mono ek) wpa npa ppo fopa
    obtain ⟨at3, q3, la3, hw3⟩ := Mk.wd
    refine re_var 5 rfl <| re_ixL <| re_dget (hu_of hr) <| re_var 3 rfl <| re_str ⟨wa, _, .inr "names", .ref na, rfl, hw3, rfl, rfl, re_var 4 rfl ⟨na, _, (k : Nat), .str (names[k]'hk), rfl, rfl, .inl (.inl Mk.nm), atI_nat (by rw [List.getElem?_map, hnk]; rfl), fo, _, .inr (names[k]'hk), rfl, Mk.fod, rfl, szlt (by rw [hbl]; omega), ?_⟩⟩
    have tk : names.take (k + 1) = names.take k ++ [names[k]'hk] := take_snoc hnk
    have fresh : names[k]'hk ∉ ps.map (·.1) := fun z => by
      rw [M.part.nm] at z
      have hn := nnd
      rw [← List.take_append_drop k names, drop_at hnk] at hn
      exact (List.nodup_append.mp hn).2.2 _ z _ List.mem_cons_self rfl
    rw [bkL_app ps ad _ ds' l' fresh]
    have eM : Ex (hideL [pa, wa, fo] Hk) (hideL [pa, wa, fo] (upd Hk fo (.dK (bkV (bkL (ps ++ [(names[k]'hk, ds')]) (fun z => if z = names[k]'hk then l' else ad z)))))) := hideL_ex fun b o hb hn => by
      rw [upd_ne fun z => hn (by rw [z]; simp)]; exact hb
    have fona : fo ≠ na := (ne_kind M.nm M.fod (fun z => nomatch z)).symm
    refine ⟨_, _, _, ps ++ [(names[k]'hk, ds')], _, rfl, ⟨Mk.ex.mut hfo0 fopa.symm, ?_, Mk.aw.put fopa.symm, Mk.af.mut fopa.symm, ⟨_, _, _, by rw [upd_ne fowa.symm]; exact hw3⟩, by rw [upd_ne fona.symm]; exact Mk.nm, ?_, upd_same, ⟨?_, ?_, ?_, ?_⟩, ?_⟩⟩
    · exact (Mk.pen.mut Mk.af fopa.symm).upto (by omega)
    · obtain ⟨qs3, g1, g2, g3, g4⟩ := Mk.pool
      refine ⟨qs3, by rw [upd_ne (ne_kind g1 Mk.fod (fun z => nomatch z))]; exact g1, g2, g3, fun p hp => ?_⟩
      obtain ⟨es, y1, y2, y3⟩ := g4 p hp
      exact ⟨es, y1.mono eM, y2, y3⟩
    · rw [List.map_append, M.part.nm, tk]; rfl
    · intro p hp
      rcases List.mem_append.mp hp with hp | hp
      · exact M.part.whole p hp
      · rw [List.mem_singleton.mp hp]; exact hwk
    · intro p hp
      rcases List.mem_append.mp hp with hp | hp
      · exact M.part.l40 p hp
      · rw [List.mem_singleton.mp hp]; exact h40
    · rw [List.map_append, List.sum_append]
      show _ + (ds'.length + 0) ≤ _
      have := M.part.all
      omega
    · intro p hp
      rcases List.mem_append.mp hp with hp | hp
      · have : p.1 ≠ names[k]'hk := fun z => fresh (z ▸ List.mem_map_of_mem hp)
        simp only [if_neg this]
        exact (Mk.dat p hp).mono eM
      · rw [List.mem_singleton.mp hp]
        simp only [if_pos]
        exact hdk.mono eM
  rintro σ' H' ⟨x4, x6, x7, ps, ad, rfl, M⟩
  have hk : ((names.length : Nat) : Int).toNat = names.length := rfl
  have hnm : ps.map (·.1) = names := by
    rw [M.part.nm, hk, List.take_length]
  have hlp : ps.length = names.length := by rw [← hnm, List.length_map]
  refine rb_one <| rs_ret <| re_var 5 rfl <| q fo ps ad H' ⟨fun p hp => okn.word p.1 (by rw [← hnm]; exact List.mem_map_of_mem hp), by rw [hnm]; exact nnd, by rw [hnm]; exact List.mem_cons_self, by omega, by rw [hnm]; exact M.part.whole, M.part.l40, ?_⟩ hfo0 M.fod (fun p hp => (M.dat p hp).mono (hideL_sub fun x hx => ?_)) M.ex (M.pen.upto ?_)
  · have := M.part.all
    rw [hk] at this
    omega
  · simp only [List.mem_cons, List.not_mem_nil, or_false] at hx ⊢
    rcases hx with rfl | rfl
    · exact .inl rfl
    · exact .inr (.inr rfl)
  · rw [hk, hcpl]
    have : names.length * (cl + 40) ≤ 6 * (cl + 40) := Nat.mul_le_mul_right _ nm6
    omega
end
end Fl
end
section
set_option Elab.async false
set_option linter.all false
set_option maxRecDepth 100000
set_option maxHeartbeats 2000000
/-! Attributes: as targets, with op=, constants of a class; items by a negative index; calls of a def that a local holds. -/
namespace Fx
open PySem PySem.Spec PyProof.Rows L2
open Evl (Ex fresh_back)
section
variable {X : Cx} {o e i a b value : Expr} {es : List Expr} {σ : L2.St} {H : Hp} {Q : VK} {D : Ends} {f x : Str} {pos pos' p p2 tpos : Pos}
def gFld (K : PySem.W.Frag) (to : TE) (f : Str) : TG := fun v σ H Q => to σ H fun x H1 => ∃ a C dx fs, x = .ref a ∧ H1 a = some (.ins C dx fs) ∧ Cls K C ∧ NoAttr K C f ∧ fs.length < 1000 ∧ Q σ (upd H1 a (.ins C dx (putF f v fs)))
theorem pg_fld : PG X (.Attribute o f pos) (gFld X.K (RE X o) f) := by
  refine ⟨fun pins s σ H v u Q I r h => ?_⟩
  show wpAny (model X.prog X.w) X.A (do
    let ov ← holding [u] (eval o X.env)
    standAt pos.atName
    holding [u, ov] (setAttr ov f u)
    release [u, ov] []) _ _ _
  have h : RE X o σ H fun x H1 => ∃ a C dx fs, x = .ref a ∧ H1 a = some (.ins C dx fs) ∧ Cls X.K C ∧ NoAttr X.K C f ∧ fs.length < 1000 ∧ Q σ (upd H1 a (.ins C dx (putF f v fs))) := h
  refine wpAny_bind (wpAny_holding (thn (h.run pins s I) fun ov s1 ⟨x, H1, I1, r1, a, C, dx, fs, ex, ha, c, n, l, q⟩ => ?_))
  subst ex
  obtain rfl : ov = Value.ref a := r1
  refine wpAny_bind (wpAny_standAt (wpAny_bind (wpAny_holding (setattr_ok I1 ha c n l r fun s2 I2 => ?_))))
  exact wpAny_release ⟨σ, _, I2, q⟩
/-- o.f += value -/
theorem rs_fldadd (h : RE X o σ H fun x H1 => ∃ a C dx fs i, x = .ref a ∧ H1 a = some (.ins C dx fs) ∧ Cls X.K C ∧ NoAttr X.K C f ∧ fs.lookup f = some (.int i) ∧
    RE X value σ H1 fun y H2 => ∃ j dx' fs', y = .int j ∧ H2 a = some (.ins C dx' fs') ∧ fs'.length < 1000 ∧ D.nx σ (upd H2 a (.ins C dx' (putF f (.int (i + j)) fs')))) : RS X (.AugAssign (.Attribute o f tpos) .Add value pos) D σ H :=
  rs_of (ps_fldaug pe_RE pe_RE in_add) (h.mono fun x H1 ⟨a, C, dx, fs, i, ex, ha, c, n, l, q⟩ => ⟨a, C, dx, fs, .int i, ex, ha, c, n, l, q.mono fun y H2 ⟨j, dx', fs', ey, h2, l2, q⟩ => ⟨i, j, rfl, ey, dx', fs', h2, l2, q⟩⟩)
theorem rs_setItemN (h : RE X value σ H fun v H1 => RE X o σ H1 fun x H2 => RE X i σ H2 fun y H3 => ∃ p xs k j, x = .ref p ∧ y = .int k ∧ H3 p = some (.lst xs) ∧ ixN xs.length k = some j ∧ D.nx σ (upd H3 p (.lst (xs.set j v))))
    (hs : swapsWithSole [.Subscript o i pos'] value pos.line X.env = pure false := by rfl) (ha : swappedStores [.Subscript o i pos'] value X.env = pure none := by rfl) (hb : (assignEach [.Subscript o i pos'] X.env).map (·.2) = [assign (.Subscript o i pos') X.env] := by rfl)
    (hp : PG X (.Subscript o i pos') (gSub (RE X o) (RE X i) rSetL) := by exact pg_sub pe_RE pe_RE set_list) : RS X (.Assign [.Subscript o i pos'] value pos) D σ H :=
  rs_of (ps_asg pe_RE hp hs ha hb) (h.mono fun v H1 q => q.mono fun x H2 q => q.mono fun y H3 ⟨p, xs, k, j, ex, ey, hp, hk, q⟩ => ⟨p, xs, k, j, ex, ey, hp, hk, q⟩)
/-- C.f, a constant of a class -/
theorem re_cval (h : RE X e σ H fun x H1 => ∃ C mc v u, x = .ref C ∧ ClX.CRead X.K C mc ∧ ClX.CVal X.K C mc f v u ∧ Q v H1) (hb : attributeBase e f X.env (eval e X.env) = eval e X.env := by rfl) : RE X (.Attribute e f pos) σ H Q := re_of (ClX.pe_cval pe_RE hb) h
/-- x(e, ..), x a local that holds a def -/
theorem re_callL {k j : Nat} {f : Addr} {sp : Sp} (i : Nat) (F : Held X.prog X.w X.K X.mg X.base k f sp) (hr : Room j X.A) (hs : σ[i]? = some (some (.ref f))) (h : RA X (e :: es) σ H fun vs H1 => sp vs H1 Q E0) (hk : k ≤ j := by decide) (hN : X.N[i]? = some x := by rfl)
    (hv : Vis X.env.scope x := by first | exact Or.inl rfl | exact Or.inr (Or.inl rfl) | exact Or.inr (Or.inr rfl)) (hdb : (x == ("__debug__" : Str)) = false := by decide) (hcd : (x == ("__classdict__" : Str)) = false := by decide)
    (he : starEach (e :: es) X.env = (false, eval e X.env) :: starEach es X.env := by rfl) (hpl : (backTo pos (starEach es X.env)).any (·.1) = false := by rfl) : RE X (.Call (.Name x p) (e :: es) [] pos) σ H Q :=
  re_of (pe_callA (i := i) (S := fun g => if g = f then some sp else none) (fun g sp' hg => by
    by_cases z : g = f
    · subst z
      rw [if_pos rfl] at hg
      obtain rfl := Option.some.inj hg
      exact F
    · rw [if_neg z] at hg; cases hg) (hr.mono hk) hN hv pa_RA hdb hcd he hpl) ⟨f, sp, hs, if_pos rfl, h⟩
end
end Fx
end
section
set_option Elab.async false
set_option linter.all false
set_option maxRecDepth 100000
set_option maxHeartbeats 2000000
namespace Fl
open PySem PySem.Spec PyProof.Rows L2 Fx
open Evl (Ex fresh_back)
/-! ### the machine -/
structure MA where
  (m dx cd mks ip wr rg sk : Addr) (bare : Bool)
structure MSt where
  (reg : List V) (flag : Bool) (stk : List V) (link ended : V) (name : Str) (at_ : Nat) (taken : Nat) (out : List V)
def flds (A : MA) (s : MSt) : List (Str × V) := [("code", .ref A.cd), ("marks", .ref A.mks), ("is_bare", .bl A.bare), ("inputs", .ref A.ip), ("taken", .int (s.taken : Nat)), ("written", .ref A.wr), ("registers", .ref A.rg), ("flag", .bl s.flag), ("stack", .ref A.sk), ("link", s.link), ("ended", s.ended), ("name", .str s.name), ("at", .int (s.at_ : Nat))]
structure MC (K : PySem.W.Frag) (C : Addr) : Prop where
  cls : Cls K C
  code : NoAttr K C "code"
  marks : NoAttr K C "marks"
  bare : NoAttr K C "is_bare"
  inputs : NoAttr K C "inputs"
  taken : NoAttr K C "taken"
  written : NoAttr K C "written"
  registers : NoAttr K C "registers"
  flag : NoAttr K C "flag"
  stack : NoAttr K C "stack"
  link : NoAttr K C "link"
  ended : NoAttr K C "ended"
  name : NoAttr K C "name"
  at_ : NoAttr K C "at"
/-- a value of a register -/
def okV (ys : List Str) (v : V) : Prop := (∃ i, v = .int i ∧ -2147483648 ≤ i ∧ i ≤ 2147483647) ∨ ∃ x ∈ ys, v = .str x
structure Mach (K : PySem.W.Frag) (C : Addr) (ys : List Str) (H : Hp) (A : MA) (s : MSt) (cap : Nat) : Prop where
  ins : H A.m = some (.ins C A.dx (flds A s))
  rg : H A.rg = some (.lst s.reg)
  sk : H A.sk = some (.lst s.stk)
  wr : H A.wr = some (.lst s.out)
  ne1 : A.rg ≠ A.sk
  ne2 : A.rg ≠ A.wr
  ne3 : A.sk ≠ A.wr
  len6 : s.reg.length = 6
  vals : ∀ v ∈ s.reg, okV ys v
  szs : s.stk.length ≤ cap
  szo : s.out.length ≤ cap
def exM (A : MA) (H H' : Hp) : Prop := ∀ b o, H b = some o → b ≠ A.m → b ≠ A.rg → b ≠ A.sk → b ≠ A.wr → H' b = some o
section
variable {K : PySem.W.Frag} {C : Addr} {ys : List Str} {H H' H'' : Hp} {A : MA} {s : MSt} {cap : Nat}
theorem exM.refl : exM A H H := fun _ _ h _ _ _ _ => h
theorem exM.of (e : Ex H H') : exM A H H' := fun b o h _ _ _ _ => e b o h
theorem exM.trans (e : exM A H H') (e' : exM A H' H'') : exM A H H'' := fun b o h n1 n2 n3 n4 => e' b o (e b o h n1 n2 n3 n4) n1 n2 n3 n4
theorem exM.om {o : HO} : exM A H (upd H A.m o) := fun b u h n _ _ _ => by rw [upd_ne n]; exact h
theorem exM.org {o : HO} : exM A H (upd H A.rg o) := fun b u h _ n _ _ => by rw [upd_ne n]; exact h
theorem exM.osk {o : HO} : exM A H (upd H A.sk o) := fun b u h _ _ n _ => by rw [upd_ne n]; exact h
theorem exM.owr {o : HO} : exM A H (upd H A.wr o) := fun b u h _ _ _ n => by rw [upd_ne n]; exact h
namespace Mach
theorem le (M : Mach K C ys H A s cap) {c : Nat} (h : cap ≤ c) : Mach K C ys H A s c := ⟨M.ins, M.rg, M.sk, M.wr, M.ne1, M.ne2, M.ne3, M.len6, M.vals, Nat.le_trans M.szs h, Nat.le_trans M.szo h⟩
theorem ex (M : Mach K C ys H A s cap) (e : Ex H H') : Mach K C ys H' A s cap := ⟨e _ _ M.ins, e _ _ M.rg, e _ _ M.sk, e _ _ M.wr, M.ne1, M.ne2, M.ne3, M.len6, M.vals, M.szs, M.szo⟩
theorem mr (M : Mach K C ys H A s cap) : A.m ≠ A.rg := ne_kind M.ins M.rg (fun z => nomatch z)
theorem ms (M : Mach K C ys H A s cap) : A.m ≠ A.sk := ne_kind M.ins M.sk (fun z => nomatch z)
theorem mw (M : Mach K C ys H A s cap) : A.m ≠ A.wr := ne_kind M.ins M.wr (fun z => nomatch z)
/-- a field is set -/
theorem setF (M : Mach K C ys H A s cap) {s' : MSt} (h1 : s'.reg = s.reg) (h2 : s'.stk = s.stk) (h3 : s'.out = s.out) : Mach K C ys (upd H A.m (.ins C A.dx (flds A s'))) A s' cap := ⟨upd_same, by rw [upd_ne M.mr.symm, h1]; exact M.rg, by rw [upd_ne M.ms.symm, h2]; exact M.sk, by rw [upd_ne M.mw.symm, h3]; exact M.wr, M.ne1, M.ne2, M.ne3, by rw [h1]; exact M.len6, by rw [h1]; exact M.vals, by rw [h2]; exact M.szs, by rw [h3]; exact M.szo⟩
theorem setR (M : Mach K C ys H A s cap) {j : Nat} {v : V} (hv : okV ys v) : Mach K C ys (upd H A.rg (.lst (s.reg.set j v))) A { s with reg := s.reg.set j v } cap := ⟨by rw [upd_ne M.mr]; exact M.ins, upd_same, by rw [upd_ne M.ne1.symm]; exact M.sk, by rw [upd_ne M.ne2.symm]; exact M.wr, M.ne1, M.ne2, M.ne3, by rw [List.length_set]; exact M.len6, fun x hx => by
  rcases List.mem_or_eq_of_mem_set hx with h | h
  · exact M.vals x h
  · rw [h]; exact hv, M.szs, M.szo⟩
theorem setS (M : Mach K C ys H A s cap) {xs : List V} {c : Nat} (h : xs.length ≤ c) (hc : cap ≤ c) : Mach K C ys (upd H A.sk (.lst xs)) A { s with stk := xs } c := ⟨by rw [upd_ne M.ms]; exact M.ins, by rw [upd_ne M.ne1]; exact M.rg, upd_same, by rw [upd_ne M.ne3.symm]; exact M.wr, M.ne1, M.ne2, M.ne3, M.len6, M.vals, h, Nat.le_trans M.szo hc⟩
theorem setO (M : Mach K C ys H A s cap) {xs : List V} {c : Nat} (h : xs.length ≤ c) (hc : cap ≤ c) : Mach K C ys (upd H A.wr (.lst xs)) A { s with out := xs } c := ⟨by rw [upd_ne M.mw]; exact M.ins, by rw [upd_ne M.ne2]; exact M.rg, by rw [upd_ne M.ne3]; exact M.sk, upd_same, M.ne1, M.ne2, M.ne3, M.len6, M.vals, Nat.le_trans M.szs hc, h⟩
end Mach
def MSt.get (s : MSt) (r : Int) : V := (s.reg[r.toNat]?).getD .non
theorem get_at (h : s.reg.length = 6) {r : Int} (hr : isReg r) : atI s.reg r = some (s.get r) ∧ s.get r ∈ s.reg ∧ r.toNat < s.reg.length := by
  obtain ⟨n, rfl⟩ := Int.eq_ofNat_of_zero_le hr.1
  have hn : n < s.reg.length := by have := hr.2; omega
  have e : s.get (n : Int) = s.reg[n]'hn := by
    show (s.reg[n]?).getD .non = _
    rw [List.getElem?_eq_getElem hn]; rfl
  rw [e]
  exact ⟨atI_nat (List.getElem?_eq_getElem hn), List.getElem_mem hn, hn⟩
theorem okV.d {v : V} (h : okV ys v) : ∃ d, D K H v d ∧ (d = .int ((match v with | .int i => i | _ => 0)) ∨ ∃ x, d = .str x) ∧ isS d = (match v with | .str _ => true | _ => false) := by
  rcases h with ⟨i, rfl, _⟩ | ⟨x, _, rfl⟩
  · exact ⟨.int i, .int i, .inl rfl, rfl⟩
  · exact ⟨.str x, .str x, .inr ⟨x, rfl⟩, rfl⟩
theorem okV.scal {v u : V} (h : okV ys v) (h' : okV ys u) : L2.scal v u = true := by
  rcases h with ⟨i, rfl, _⟩ | ⟨x, _, rfl⟩
  · rcases h' with ⟨j, rfl, _⟩ | ⟨y, _, rfl⟩
    · rfl
    · rfl
  · rcases h' with ⟨j, rfl, _⟩ | ⟨y, _, rfl⟩
    · rfl
    · rfl
end
section
variable {X : Cx} {e : Expr} {σ : L2.St} {H : Hp} {Q : VK} {D : Ends} {f x : Str} {v : V} {pos p tpos : Pos} {C : Addr} {ys : List Str} {A : MA} {s : MSt} {cap i : Nat}
/-- machine.f -/
theorem re_mget (i : Nat) (T : MC X.K C) (na : NoAttr X.K C f) (M : Mach X.K C ys H A s cap) (hf : (flds A s).lookup f = some v) (hs : σ[i]? = some (some (.ref A.m))) (h : Q v H) (hN : X.N[i]? = some x := by rfl) (hv : Vis X.env.scope x := by first | exact Or.inl rfl | exact Or.inr (Or.inl rfl) | exact Or.inr (Or.inr rfl))
    (hd : (x == ("__debug__" : Str)) = false := by decide) (hcd : (x == ("__classdict__" : Str)) = false := by decide) (hb : attributeBase (.Name x p) f X.env (eval (.Name x p) X.env) = eval (.Name x p) X.env := by rfl) : RE X (.Attribute (.Name x p) f pos) σ H Q :=
  re_fld (re_var i hs ⟨A.m, C, A.dx, _, v, rfl, M.ins, T.cls, na, hf, h⟩ hN hv hd hcd) hb
/-- machine.f = value -/
theorem rs_mset (i : Nat) (T : MC X.K C) (na : NoAttr X.K C f) (hs : σ[i]? = some (some (.ref A.m))) (h : RE X e σ H fun y H1 => ∃ s s' cap, Mach X.K C ys H1 A s cap ∧ putF f y (flds A s) = flds A s' ∧ s'.reg = s.reg ∧ s'.stk = s.stk ∧ s'.out = s.out ∧ ∀ H', exM A H1 H' → Mach X.K C ys H' A s' cap → D.nx σ H')
    (hsw : swapsWith e (some (.Attribute (.Name x p) f tpos)) pos.line X.env = pure false := by rfl) (hN : X.N[i]? = some x := by rfl) (hv : Vis X.env.scope x := by first | exact Or.inl rfl | exact Or.inr (Or.inl rfl) | exact Or.inr (Or.inr rfl))
    (hd : (x == ("__debug__" : Str)) = false := by decide) (hcd : (x == ("__classdict__" : Str)) = false := by decide) : RS X (.Assign [.Attribute (.Name x p) f tpos] e pos) D σ H :=
  rs_fld (h.mono fun y H1 ⟨s, s', cap, M, hp, h1, h2, h3, q⟩ => re_var i hs ⟨A.m, C, A.dx, _, rfl, M.ins, T.cls, na, (by show 13 < 1000; decide), by rw [hp]; exact q _ exM.om (M.setF h1 h2 h3)⟩ hN hv hd hcd) hsw
end
end Fl
end
section
set_option Elab.async false
set_option linter.all false
set_option maxRecDepth 100000
set_option maxHeartbeats 4000000
namespace Fl
open PySem PySem.Spec PyProof.Rows L2 Fx
open Evl (Ex fresh_back)
/-! ### what the lines do, one def each -/
def wrapI (i : Int) : Int := (i - -2147483648) % 4294967296 + -2147483648
theorem wrap_ok {ys : List Str} (i : Int) : okV ys (.int (wrapI i)) := by
  have h0 := Int.emod_nonneg (i - -2147483648) (by decide : (4294967296 : Int) ≠ 0)
  have h1 := Int.emod_lt_of_pos (i - -2147483648) (by decide : (0 : Int) < 4294967296)
  exact .inl ⟨_, rfl, by unfold wrapI; omega, by unfold wrapI; omega⟩
section
variable {P : Program} {w : World} {K : PySem.W.Frag} {mg : Str → Option Value} {base : Heap} {f : Addr} {fd : FuncData}
theorem sc_wrapped : FnScope ["number"] ["number"] (defScope s_wrapped) := ⟨rfl, rfl, rfl, by decide +kernel, rfl, by decide +kernel, by decide +kernel⟩
def sp_wrapped : Sp := fun vs H Q _ => ∃ i : Int, vs = [.int i] ∧ Q (.int (wrapI i)) H
theorem ok_wrapped (F : Fun K "wrapped" "wrapped" s_wrapped f fd) (G : Gb mg) : FnOk P w K mg base CX0 1 f fd ["number"] sp_wrapped := by
  refine F.ok sc_wrapped (fun vs H Q E h => ?_) (fun cdv A outer s H vs Q E hr h => ⟨RB _ _, pss_RB, ?_⟩)
  · obtain ⟨_, rfl, _⟩ := h; rfl
  obtain ⟨i, rfl, q⟩ := h
  refine rb_one <| rs_ret <| re_add <| re_mod <| re_sub <| re_var 0 rfl <| re_gint G.leastN ⟨i, _, rfl, rfl, re_op op_pow <| re_int <| re_int ⟨2, 32, rfl, rfl, ⟨by decide, by decide, by decide⟩, _, _, rfl, rfl, by decide, re_gint G.leastN ⟨_, _, rfl, rfl, q⟩⟩⟩
/-! pieces that all of them share -/
/-- a line that the machine does: its tuple -/
structure Ln (K : PySem.W.Frag) (H : Hp) (a : Addr) (d : PyData) (xs : List V) : Prop where
  seq : SqT K H a xs
abbrev nm_ml : List Str := ["machine", "line"]
/-- what a line needs and gives: the values of the parts behind its word, the heap, what is wanted of the machine behind it and of the heap there -/
abbrev PreM := List Str → MA → MSt → List V → Hp → (MSt → (Hp → Prop) → Prop) → Prop
abbrev Tr : Hp → Prop := fun _ => True
def sp_am (K : PySem.W.Frag) (C : Addr) (w : Str) (Pre : PreM) : Sp := fun vs H Q _ => ∃ (ys : List Str) (A : MA) (s : MSt) (cap : Nat) (a : Addr) (xs : List V), vs = [.ref A.m, .ref a] ∧ SqT K H a (.str w :: xs) ∧ cap ≤ 50000 ∧ Mach K C ys H A s cap ∧ Pre ys A s xs H (fun s' φ => ∀ H', exM A H H' → φ H' → Mach K C ys H' A s' (cap + 1) → Q .non H')
theorem am_len {C : Addr} {w' : Str} {Pre vs H Q E} (h : sp_am K C w' Pre vs H Q E) : vs.length = nm_ml.length := by
  obtain ⟨_, _, _, _, _, _, rfl, _⟩ := h; rfl
/-- num, addr -/
def pNum : PreM := fun ys A s xs H q => ∃ r v, xs = [.int r, v] ∧ isReg r ∧ okV ys v ∧ q { s with reg := s.reg.set r.toNat v } Tr
theorem sc_m_num : FnScope nm_ml nm_ml (defScope s_m_num) := ⟨rfl, rfl, rfl, by decide +kernel, rfl, by decide +kernel, by decide +kernel⟩
theorem regNat {r : Int} (h : isReg r) : ∃ n : Nat, r = (n : Nat) ∧ n < 6 := by
  obtain ⟨n, rfl⟩ := Int.eq_ofNat_of_zero_le h.1
  exact ⟨n, rfl, by have := h.2; omega⟩
section
variable {X : Cx} {a b c : Expr} {σ : L2.St} {H : Hp} {Q : VK} {D : Ends} {v : V} {pos p p2 p3 pos' : Pos} {C la : Addr} {ys : List Str} {A : MA} {s : MSt} {cap : Nat} {xs : List V} {x y : Str}
/-- line[k] -/
theorem re_lat {j} {k : Int} (i : Nat) (hq : SqT X.K H la xs) (hk : atI xs k = some v) (hs : σ[i]? = some (some (.ref la))) (h : Q v H) (hN : X.N[i]? = some x := by rfl) (hv : Vis X.env.scope x := by first | exact Or.inl rfl | exact Or.inr (Or.inl rfl) | exact Or.inr (Or.inr rfl))
    (hd : (x == ("__debug__" : Str)) = false := by decide) (hcd : (x == ("__classdict__" : Str)) = false := by decide) : RE X (.Subscript (.Name x p) (.Constant (.int k) j p2) pos) σ H Q :=
  re_ixT <| re_var i hs (re_int ⟨la, xs, k, v, rfl, rfl, hq, hk, h⟩) hN hv hd hcd
/-- machine.registers[..] -/
theorem re_mreg {r : Int} (T : MC X.K C) (M : Mach X.K C ys H A s cap) (hs : σ[0]? = some (some (.ref A.m))) (hr : isReg r) (h : RE X b σ H fun y H1 => H1 = H ∧ y = .int r ∧ Q (s.get r) H) (hN : X.N[0]? = some ("machine" : Str) := by rfl) (hv : Vis X.env.scope "machine" := by first | exact Or.inl rfl | exact Or.inr (Or.inl rfl) | exact Or.inr (Or.inr rfl))
    (hb : attributeBase (.Name "machine" p) "registers" X.env (eval (.Name "machine" p) X.env) = eval (.Name "machine" p) X.env := by rfl) (hix : PlainIx b := by exact fun _ _ => rfl) : RE X (.Subscript (.Attribute (.Name "machine" p) "registers" p2) b pos) σ H Q :=
  re_ixL (re_mget 0 T T.registers M (v := .ref A.rg) rfl hs (h.mono fun y H1 ⟨e1, e2, q⟩ => by
    subst e1
    exact ⟨A.rg, s.reg, r, s.get r, rfl, e2, .inl (.inl M.rg), (get_at M.len6 hr).1, q⟩) hN hv (hb := hb)) hix
/-- machine.registers[..] = value -/
theorem rs_mreg {r : Int} (T : MC X.K C) (hs : σ[0]? = some (some (.ref A.m))) (hr : isReg r) (h : RE X a σ H fun v H1 => ∃ s cap, Mach X.K C ys H1 A s cap ∧ okV ys v ∧ RE X b σ H1 fun y H2 => H2 = H1 ∧ y = .int r ∧ ∀ H', exM A H1 H' → Mach X.K C ys H' A { s with reg := s.reg.set r.toNat v } cap → D.nx σ H')
    (hsw : swapsWithSole [.Subscript (.Attribute (.Name "machine" p) "registers" p2) b pos'] a pos.line X.env = pure false := by rfl) (ha : swappedStores [.Subscript (.Attribute (.Name "machine" p) "registers" p2) b pos'] a X.env = pure none := by rfl) (hb : (assignEach [.Subscript (.Attribute (.Name "machine" p) "registers" p2) b pos'] X.env).map (·.2) = [assign (.Subscript (.Attribute (.Name "machine" p) "registers" p2) b pos') X.env] := by rfl)
    (hN : X.N[0]? = some ("machine" : Str) := by rfl) (hv : Vis X.env.scope "machine" := by first | exact Or.inl rfl | exact Or.inr (Or.inl rfl) | exact Or.inr (Or.inr rfl)) (hab : attributeBase (.Name "machine" p) "registers" X.env (eval (.Name "machine" p) X.env) = eval (.Name "machine" p) X.env := by rfl)
    (hp : PG X (.Subscript (.Attribute (.Name "machine" p) "registers" p2) b pos') (gSub (RE X (.Attribute (.Name "machine" p) "registers" p2)) (RE X b) rSetL) := by exact pg_sub pe_RE pe_RE set_list) : RS X (.Assign [.Subscript (.Attribute (.Name "machine" p) "registers" p2) b pos'] a pos) D σ H :=
  rs_setItem (h.mono fun v H1 ⟨s, cap, M, ov, q⟩ => re_mget 0 T T.registers M (v := .ref A.rg) rfl hs (q.mono fun y H2 ⟨e1, e2, q⟩ => by
    subst e1
    have g := get_at M.len6 hr
    exact ⟨A.rg, s.reg, r, rfl, e2, M.rg, hr.1, by have := g.2.2; have := hr.1; omega, q _ exM.org (M.setR ov)⟩) hN hv (hb := hab)) hsw ha hb hp
end
theorem ok_m_num {C : Addr} (F : Fun K "_num" "_num" s_m_num f fd) (T : MC K C) {w' : Str} : FnOk P w K mg base CX0 1 f fd nm_ml (sp_am K C w' pNum) := by
  refine F.ok sc_m_num (fun vs H Q E h => am_len h) (fun cdv Ar outer sh H vs Q E hr h => ⟨RB _ _, pss_RB, ?_⟩)
  obtain ⟨ys, A, s, cap, a, xs, rfl, hq, hc, M, r, v, rfl, hreg, hov, q⟩ := h
  exact rb_one <| rs_mreg T rfl hreg <| re_lat 1 hq rfl rfl ⟨s, cap, M, hov, re_lat 1 hq rfl rfl ⟨rfl, rfl, fun H' e M' => q H' e trivial (M'.le (Nat.le_succ _))⟩⟩
def pCopy : PreM := fun ys A s xs H q => ∃ r r2, xs = [.int r, .int r2] ∧ isReg r ∧ isReg r2 ∧ q { s with reg := s.reg.set r.toNat (s.get r2) } Tr
theorem sc_m_copy : FnScope nm_ml nm_ml (defScope s_m_copy) := ⟨rfl, rfl, rfl, by decide +kernel, rfl, by decide +kernel, by decide +kernel⟩
theorem ok_m_copy {C : Addr} (F : Fun K "_copy" "_copy" s_m_copy f fd) (T : MC K C) {w' : Str} : FnOk P w K mg base CX0 1 f fd nm_ml (sp_am K C w' pCopy) := by
  refine F.ok sc_m_copy (fun vs H Q E h => am_len h) (fun cdv Ar outer sh H vs Q E hr h => ⟨RB _ _, pss_RB, ?_⟩)
  obtain ⟨ys, A, s, cap, a, xs, rfl, hq, hc, M, r, r2, rfl, hreg, hreg2, q⟩ := h
  exact rb_one <| rs_mreg T rfl hreg <| re_mreg T M rfl hreg2 <| re_lat 1 hq rfl rfl ⟨rfl, rfl, s, cap, M, M.vals _ (get_at M.len6 hreg2).2.1, re_lat 1 hq rfl rfl ⟨rfl, rfl, fun H' e M' => q H' e trivial (M'.le (Nat.le_succ _))⟩⟩
/-- built-in names of the machine -/
structure Gm (mg : Str → Option Value) : Prop where
  any : mg "any" = none
def isStrV : V → Bool
  | .str _ => true
  | _ => false
abbrev nm_an : List Str := ["machine", "registers", "r"]
theorem sc_m_an : FnScope nm_an ["machine", "registers"] (defScope s_m_are_numbers) := ⟨rfl, rfl, rfl, by decide +kernel, rfl, by decide +kernel, by decide +kernel⟩
def sp_an (K : PySem.W.Frag) (C : Addr) : Sp := fun vs H Q _ => ∃ (ys : List Str) (A : MA) (s : MSt) (cap : Nat) (t : Addr) (rs : List Int), vs = [.ref A.m, .ref t] ∧ SqT K H t (rs.map V.int) ∧ rs.length ≤ 3 ∧ (∀ r ∈ rs, isReg r) ∧ Mach K C ys H A s cap ∧
  ((rs.any fun r => isStrV (s.get r)) = false → ∀ H', Ex H H' → Q (.bl true) H') ∧ ((rs.any fun r => isStrV (s.get r)) = true → ∀ H', exM A H H' → Mach K C ys H' A { s with ended := .str "kind" } cap → Q (.bl false) H')
theorem ok_m_an {C : Addr} (F : Fun K "_are_numbers" "_are_numbers" s_m_are_numbers f fd) (G : Gb mg) (GM : Gm mg) (T : MC K C) : FnOk P w K mg base CX0 1 f fd ["machine", "registers"] (sp_an K C) := by
  refine F.ok sc_m_an (fun vs H Q E h => ?_) (fun cdv Ar outer sh H vs Q E hr h => ⟨RB _ _, pss_RB, ?_⟩)
  · obtain ⟨_, _, _, _, _, _, rfl, _⟩ := h; rfl
  obtain ⟨ys, A, s, cap, t, rs, rfl, hq, hl, hrs, M, qT, qF⟩ := h
  refine rb_cons <| rs_if <| rt_val <| re_cb (cr_any rfl) GM.any <| ra_cons <| re_lc (own := [("r", 2)]) (g := gName 2) rfl (by exact sc_m_an.nd) (blkOk_by (N := nm_an) (sc := defScope s_m_are_numbers) (by decide +kernel)) (fun _ _ _ _ _ => pg_name (i := 2) (by exact sc_m_an.nd) rfl (Or.inl rfl)) good_name ?_
  refine ri_tup <| re_var 1 rfl ⟨t, rs.map V.int, rfl, hq, _, _, _, fun i zs => zs = (rs.take i).map fun r => V.bl (isStrV (s.get r)), walk_tup, by rw [List.length_map]; omega, fun H' e => Evl.ex_t e hq, rfl, ?_, ?_⟩
  · rintro i x Ha Hb hi ea ⟨rfl, hx⟩
    rw [List.getElem?_map] at hx
    cases hy : rs[i]? with
    | none => rw [hy] at hx; cases hx
    | some r =>
      rw [hy] at hx
      obtain rfl := Option.some.inj hx
      have hreg := hrs r (List.mem_of_getElem? hy)
      have Mb := M.ex ea
      refine ⟨Ex.refl _, rfl, Ex.refl _, fun s0 H0 C' cl fp => re_isi kit_S G.isinstance G.str (re_mreg T Mb rfl hreg (re_var 2 rfl ⟨rfl, rfl, ?_⟩))⟩
      have fin : ∀ b : Bool, b = isStrV (s.get r) → Ex Hb Hb ∧ ∀ acc, acc = (rs.take i).map (fun r => V.bl (isStrV (s.get r))) → acc ++ [V.bl b] = (rs.take (i + 1)).map (fun r => V.bl (isStrV (s.get r))) := fun b hb => ⟨Ex.refl _, fun acc hacc => by
        rw [hacc, take_snoc hy, List.map_append, hb]; rfl⟩
      rcases M.vals _ (get_at M.len6 hreg).2.1 with ⟨z, hz, _⟩ | ⟨z, _, hz⟩
      · refine ⟨.int z, by rw [hz]; exact .int z, fin _ ?_⟩
        rw [hz]; rfl
      · refine ⟨.str z, by rw [hz]; exact .str z, fin _ ?_⟩
        rw [hz]; rfl
  rintro p zs H2 hp e2 h2 hlen rfl
  have hz : (rs.take (rs.map V.int).length).map (fun r => V.bl (isStrV (s.get r))) = (rs.map fun r => isStrV (s.get r)).map V.bl := by
    rw [List.length_map, List.take_length, List.map_map]; rfl
  have hany : (rs.map fun r => isStrV (s.get r)).any id = rs.any fun r => isStrV (s.get r) := by
    rw [List.any_map]; rfl
  refine ra_nil ⟨p, rs.map fun r => isStrV (s.get r), rfl, .inl (.inl (by rw [h2, hz])), _, rfl, ?_⟩
  rw [hany]
  refine ifB (fun e => ?_) fun e => rb_nil ?_
  · exact rb_cons <| rs_mset 0 T T.ended rfl <| re_str ⟨s, { s with ended := .str "kind" }, cap, M.ex e2, rfl, rfl, rfl, rfl, fun H' e' M' => rb_one <| rs_ret <| re_bl <| qF e H' ((exM.of e2).trans e') M'⟩
  · exact rb_one <| rs_ret <| re_bl <| qT e _ e2
theorem ok_int {ys : List Str} {v : V} (h : okV ys v) (hs : isStrV v = false) : ∃ i, v = .int i ∧ -2147483648 ≤ i ∧ i ≤ 2147483647 := by
  rcases h with h | ⟨x, _, rfl⟩
  · exact h
  · cases hs
abbrev nm_lr : List Str := ["machine", "line", "left", "right"]
def pArith (g : Int → Int → Int) : PreM := fun ys A s xs H q => ∃ r r2 r3, xs = [.int r, .int r2, .int r3] ∧ isReg r ∧ isReg r2 ∧ isReg r3 ∧ ((isStrV (s.get r2) || isStrV (s.get r3)) = false → ∀ x y, s.get r2 = .int x → s.get r3 = .int y → q { s with reg := s.reg.set r.toNat (.int (wrapI (g x y))) } Tr) ∧ ((isStrV (s.get r2) || isStrV (s.get r3)) = true → q { s with ended := .str "kind" } Tr)
theorem any2 (b c : Bool) : ([b, c].any id) = (b || c) := by cases b <;> cases c <;> rfl
section
variable {C : Addr} {g : Int → Int → Int} {X : Cx}
theorem an2 {rs : List Int} {r2 r3 : Int} (s : MSt) (h : rs = [r2, r3]) : (rs.any fun r => isStrV (s.get r)) = (isStrV (s.get r2) || isStrV (s.get r3)) := by
  subst h
  show (isStrV (s.get r2) || (isStrV (s.get r3) || false)) = _
  rw [Bool.or_false]
end
theorem sc_m_add : FnScope nm_lr nm_ml (defScope s_m_add) := ⟨rfl, rfl, rfl, by decide +kernel, rfl, by decide +kernel, by decide +kernel⟩
theorem sc_m_sub : FnScope nm_lr nm_ml (defScope s_m_sub) := ⟨rfl, rfl, rfl, by decide +kernel, rfl, by decide +kernel, by decide +kernel⟩
theorem sc_m_mul : FnScope nm_lr nm_ml (defScope s_m_mul) := ⟨rfl, rfl, rfl, by decide +kernel, rfl, by decide +kernel, by decide +kernel⟩
theorem ok_m_add {C : Addr} (F : Fun K "_add" "_add" s_m_add f fd) (T : MC K C) (c1 : Cl P w K mg base CX0 1 "_are_numbers" (sp_an K C)) (c2 : Cl P w K mg base CX0 1 "wrapped" sp_wrapped) {w' : Str} : FnOk P w K mg base CX0 2 f fd nm_ml (sp_am K C w' (pArith fun x y => x + y)) := by
  refine F.ok sc_m_add (fun vs H Q E h => am_len h) (fun cdv Ar outer sh H vs Q E hr h => ⟨RB _ _, pss_RB, ?_⟩)
  obtain ⟨ys, A, s, cap, a, xs, rfl, hq, hc, M, r, r2, r3, rfl, g1, g2, g3, qT, qF⟩ := h
  refine rb_one <| rs_if <| rt_val <| re_call c1 hr <| ra_cons <| re_var 0 rfl <| ra_cons <| re_from <| re_var 1 rfl <| re_int ⟨2, rfl, a, _, rfl, hq, fun t H1 e1 ht => ra_nil ⟨ys, A, s, cap, t, [r2, r3], rfl, ht, Nat.le_of_ble_eq_true rfl, (fun x hx => by
    simp only [List.mem_cons, List.not_mem_nil, or_false] at hx
    rcases hx with rfl | rfl
    · exact g2
    · exact g3), M.ex e1, fun ha H2 e2 => ?_, fun ha H2 e2 M2 => ?_⟩⟩
  · have M2 := (M.ex e1).ex e2
    have hq2 := Evl.ex_t e2 (Evl.ex_t e1 hq)
    have hs := ha
    rw [an2 s rfl, Bool.or_eq_false_iff] at hs
    obtain ⟨x, hx, x0, x1⟩ := ok_int (M.vals _ (get_at M.len6 g2).2.1) hs.1
    obtain ⟨y, hy, y0, y1⟩ := ok_int (M.vals _ (get_at M.len6 g3).2.1) hs.2
    refine ⟨_, rfl, ifT <| rb_cons <| rs_two (i := 2) (j := 3) rfl (by exact sc_m_add.nd) rfl rfl (by decide) rfl rfl rfl <| ra_cons <| re_mreg T M2 rfl g2 <| re_lat 1 hq2 rfl rfl ⟨rfl, rfl, ra_cons <| re_mreg T M2 rfl g3 <| re_lat 1 hq2 rfl rfl ⟨rfl, rfl, ra_nil ⟨_, _, rfl, ?_⟩⟩⟩⟩
    rw [hx, hy]
    refine rb_one <| rs_mreg T rfl g1 <| re_call c2 hr <| ra_cons <| re_add <| re_var 2 rfl <| re_var 3 rfl ⟨x, y, rfl, rfl, ra_nil ⟨_, rfl, s, cap, M2, wrap_ok _, re_lat 1 hq2 rfl rfl ⟨rfl, rfl, fun H' e M' => qT (by rw [hs.1, hs.2]; rfl) x y hx hy H' ((exM.of (e1.trans e2)).trans e) trivial (M'.le (Nat.le_succ _))⟩⟩⟩
  · exact ⟨_, rfl, ifF <| rb_nil <| qF (by rw [← an2 s (r2 := r2) (r3 := r3) rfl]; exact ha) H2 ((exM.of e1).trans e2) trivial (M2.le (Nat.le_succ _))⟩
theorem ok_m_sub {C : Addr} (F : Fun K "_sub" "_sub" s_m_sub f fd) (T : MC K C) (c1 : Cl P w K mg base CX0 1 "_are_numbers" (sp_an K C)) (c2 : Cl P w K mg base CX0 1 "wrapped" sp_wrapped) {w' : Str} : FnOk P w K mg base CX0 2 f fd nm_ml (sp_am K C w' (pArith fun x y => x - y)) := by
  refine F.ok sc_m_sub (fun vs H Q E h => am_len h) (fun cdv Ar outer sh H vs Q E hr h => ⟨RB _ _, pss_RB, ?_⟩)
  obtain ⟨ys, A, s, cap, a, xs, rfl, hq, hc, M, r, r2, r3, rfl, g1, g2, g3, qT, qF⟩ := h
  refine rb_one <| rs_if <| rt_val <| re_call c1 hr <| ra_cons <| re_var 0 rfl <| ra_cons <| re_from <| re_var 1 rfl <| re_int ⟨2, rfl, a, _, rfl, hq, fun t H1 e1 ht => ra_nil ⟨ys, A, s, cap, t, [r2, r3], rfl, ht, Nat.le_of_ble_eq_true rfl, (fun x hx => by
    simp only [List.mem_cons, List.not_mem_nil, or_false] at hx
    rcases hx with rfl | rfl
    · exact g2
    · exact g3), M.ex e1, fun ha H2 e2 => ?_, fun ha H2 e2 M2 => ?_⟩⟩
  · have M2 := (M.ex e1).ex e2
    have hq2 := Evl.ex_t e2 (Evl.ex_t e1 hq)
    have hs := ha
    rw [an2 s rfl, Bool.or_eq_false_iff] at hs
    obtain ⟨x, hx, x0, x1⟩ := ok_int (M.vals _ (get_at M.len6 g2).2.1) hs.1
    obtain ⟨y, hy, y0, y1⟩ := ok_int (M.vals _ (get_at M.len6 g3).2.1) hs.2
    refine ⟨_, rfl, ifT <| rb_cons <| rs_two (i := 2) (j := 3) rfl (by exact sc_m_sub.nd) rfl rfl (by decide) rfl rfl rfl <| ra_cons <| re_mreg T M2 rfl g2 <| re_lat 1 hq2 rfl rfl ⟨rfl, rfl, ra_cons <| re_mreg T M2 rfl g3 <| re_lat 1 hq2 rfl rfl ⟨rfl, rfl, ra_nil ⟨_, _, rfl, ?_⟩⟩⟩⟩
    rw [hx, hy]
    refine rb_one <| rs_mreg T rfl g1 <| re_call c2 hr <| ra_cons <| re_sub <| re_var 2 rfl <| re_var 3 rfl ⟨x, y, rfl, rfl, ra_nil ⟨_, rfl, s, cap, M2, wrap_ok _, re_lat 1 hq2 rfl rfl ⟨rfl, rfl, fun H' e M' => qT (by rw [hs.1, hs.2]; rfl) x y hx hy H' ((exM.of (e1.trans e2)).trans e) trivial (M'.le (Nat.le_succ _))⟩⟩⟩
  · exact ⟨_, rfl, ifF <| rb_nil <| qF (by rw [← an2 s (r2 := r2) (r3 := r3) rfl]; exact ha) H2 ((exM.of e1).trans e2) trivial (M2.le (Nat.le_succ _))⟩
theorem ok_m_mul {C : Addr} (F : Fun K "_mul" "_mul" s_m_mul f fd) (T : MC K C) (c1 : Cl P w K mg base CX0 1 "_are_numbers" (sp_an K C)) (c2 : Cl P w K mg base CX0 1 "wrapped" sp_wrapped) {w' : Str} : FnOk P w K mg base CX0 2 f fd nm_ml (sp_am K C w' (pArith fun x y => x * y)) := by
  refine F.ok sc_m_mul (fun vs H Q E h => am_len h) (fun cdv Ar outer sh H vs Q E hr h => ⟨RB _ _, pss_RB, ?_⟩)
  obtain ⟨ys, A, s, cap, a, xs, rfl, hq, hc, M, r, r2, r3, rfl, g1, g2, g3, qT, qF⟩ := h
  refine rb_one <| rs_if <| rt_val <| re_call c1 hr <| ra_cons <| re_var 0 rfl <| ra_cons <| re_from <| re_var 1 rfl <| re_int ⟨2, rfl, a, _, rfl, hq, fun t H1 e1 ht => ra_nil ⟨ys, A, s, cap, t, [r2, r3], rfl, ht, Nat.le_of_ble_eq_true rfl, (fun x hx => by
    simp only [List.mem_cons, List.not_mem_nil, or_false] at hx
    rcases hx with rfl | rfl
    · exact g2
    · exact g3), M.ex e1, fun ha H2 e2 => ?_, fun ha H2 e2 M2 => ?_⟩⟩
  · have M2 := (M.ex e1).ex e2
    have hq2 := Evl.ex_t e2 (Evl.ex_t e1 hq)
    have hs := ha
    rw [an2 s rfl, Bool.or_eq_false_iff] at hs
    obtain ⟨x, hx, x0, x1⟩ := ok_int (M.vals _ (get_at M.len6 g2).2.1) hs.1
    obtain ⟨y, hy, y0, y1⟩ := ok_int (M.vals _ (get_at M.len6 g3).2.1) hs.2
    refine ⟨_, rfl, ifT <| rb_cons <| rs_two (i := 2) (j := 3) rfl (by exact sc_m_mul.nd) rfl rfl (by decide) rfl rfl rfl <| ra_cons <| re_mreg T M2 rfl g2 <| re_lat 1 hq2 rfl rfl ⟨rfl, rfl, ra_cons <| re_mreg T M2 rfl g3 <| re_lat 1 hq2 rfl rfl ⟨rfl, rfl, ra_nil ⟨_, _, rfl, ?_⟩⟩⟩⟩
    rw [hx, hy]
    refine rb_one <| rs_mreg T rfl g1 <| re_call c2 hr <| ra_cons <| re_mul <| re_var 2 rfl <| re_var 3 rfl ⟨x, y, rfl, rfl, .inl ⟨by omega, by omega⟩, ra_nil ⟨_, rfl, s, cap, M2, wrap_ok _, re_lat 1 hq2 rfl rfl ⟨rfl, rfl, fun H' e M' => qT (by rw [hs.1, hs.2]; rfl) x y hx hy H' ((exM.of (e1.trans e2)).trans e) trivial (M'.le (Nat.le_succ _))⟩⟩⟩
  · exact ⟨_, rfl, ifF <| rb_nil <| qF (by rw [← an2 s (r2 := r2) (r3 := r3) rfl]; exact ha) H2 ((exM.of e1).trans e2) trivial (M2.le (Nat.le_succ _))⟩
end
end Fl
end
section
set_option Elab.async false
set_option linter.all false
set_option maxRecDepth 100000
set_option maxHeartbeats 4000000
namespace Fl
open PySem PySem.Spec PyProof.Rows L2 Fx
open Evl (Ex fresh_back)
theorem atI_neg {α : Type} {xs : List α} {k : Nat} {v : α} (hk : k < xs.length) (h : xs[xs.length - 1 - k]? = some v) : ixN xs.length (-1 - (k : Int)) = some (xs.length - 1 - k) ∧ atI xs (-1 - (k : Int)) = some v := by
  have e : ixN xs.length (-1 - (k : Int)) = some (xs.length - 1 - k) := by
    unfold ixN
    rw [if_neg (by omega), if_pos (by omega)]
    congr 1
    omega
  refine ⟨e, ?_⟩
  unfold atI
  rw [e]
  exact h
section
variable {P : Program} {w : World} {K : PySem.W.Frag} {mg : Str → Option Value} {base : Heap} {f : Addr} {fd : FuncData} {C : Addr}
def pSame : PreM := fun ys A s xs H q => ∃ r r2, xs = [.int r, .int r2] ∧ isReg r ∧ isReg r2 ∧ q { s with flag := decide (s.get r = s.get r2) } Tr
theorem sc_m_same : FnScope nm_ml nm_ml (defScope s_m_same) := ⟨rfl, rfl, rfl, by decide +kernel, rfl, by decide +kernel, by decide +kernel⟩
theorem ok_m_same (F : Fun K "_same" "_same" s_m_same f fd) (T : MC K C) {w' : Str} : FnOk P w K mg base CX0 1 f fd nm_ml (sp_am K C w' pSame) := by
  refine F.ok sc_m_same (fun vs H Q E h => am_len h) (fun cdv Ar outer sh H vs Q E hr h => ⟨RB _ _, pss_RB, ?_⟩)
  obtain ⟨ys, A, s, cap, a, xs, rfl, hq, hc, M, r, r2, rfl, g1, g2, q⟩ := h
  exact rb_one <| rs_mset 0 T T.flag rfl <| re_cmp op_eq <| re_mreg T M rfl g1 <| re_lat 1 hq rfl rfl ⟨rfl, rfl, re_mreg T M rfl g2 <| re_lat 1 hq rfl rfl ⟨rfl, rfl, (M.vals _ (get_at M.len6 g1).2.1).scal (M.vals _ (get_at M.len6 g2).2.1), s, { s with flag := decide (s.get r = s.get r2) }, cap, M, rfl, rfl, rfl, rfl, fun H' e M' => q H' e trivial (M'.le (Nat.le_succ _))⟩⟩
def pLess : PreM := fun ys A s xs H q => ∃ r r2, xs = [.int r, .int r2] ∧ isReg r ∧ isReg r2 ∧ ((isStrV (s.get r) || isStrV (s.get r2)) = false → ∀ x y, s.get r = .int x → s.get r2 = .int y → q { s with flag := decide (x < y) } Tr) ∧ ((isStrV (s.get r) || isStrV (s.get r2)) = true → q { s with ended := .str "kind" } Tr)
theorem sc_m_less : FnScope nm_ml nm_ml (defScope s_m_less) := ⟨rfl, rfl, rfl, by decide +kernel, rfl, by decide +kernel, by decide +kernel⟩
theorem ok_m_less (F : Fun K "_less" "_less" s_m_less f fd) (T : MC K C) (c1 : Cl P w K mg base CX0 1 "_are_numbers" (sp_an K C)) {w' : Str} : FnOk P w K mg base CX0 2 f fd nm_ml (sp_am K C w' pLess) := by
  refine F.ok sc_m_less (fun vs H Q E h => am_len h) (fun cdv Ar outer sh H vs Q E hr h => ⟨RB _ _, pss_RB, ?_⟩)
  obtain ⟨ys, A, s, cap, a, xs, rfl, hq, hc, M, r, r2, rfl, g1, g2, qT, qF⟩ := h
  refine rb_one <| rs_if <| rt_val <| re_call c1 hr <| ra_cons <| re_var 0 rfl <| ra_cons <| re_from <| re_var 1 rfl <| re_int ⟨1, rfl, a, _, rfl, hq, fun t H1 e1 ht => ra_nil ⟨ys, A, s, cap, t, [r, r2], rfl, ht, Nat.le_of_ble_eq_true rfl, (fun x hx => by
    simp only [List.mem_cons, List.not_mem_nil, or_false] at hx
    rcases hx with rfl | rfl
    · exact g1
    · exact g2), M.ex e1, fun ha H2 e2 => ?_, fun ha H2 e2 M2 => ?_⟩⟩
  · have M2 := (M.ex e1).ex e2
    have hq2 := Evl.ex_t e2 (Evl.ex_t e1 hq)
    have hs := ha
    rw [an2 s rfl, Bool.or_eq_false_iff] at hs
    obtain ⟨x, hx, x0, x1⟩ := ok_int (M.vals _ (get_at M.len6 g1).2.1) hs.1
    obtain ⟨y, hy, y0, y1⟩ := ok_int (M.vals _ (get_at M.len6 g2).2.1) hs.2
    refine ⟨_, rfl, ifT <| rb_one <| rs_mset 0 T T.flag rfl <| re_cmp op_lt <| re_mreg T M2 rfl g1 <| re_lat 1 hq2 rfl rfl ⟨rfl, rfl, re_mreg T M2 rfl g2 <| re_lat 1 hq2 rfl rfl ⟨rfl, rfl, x, y, hx, hy, s, { s with flag := decide (x < y) }, cap, M2, rfl, rfl, rfl, rfl, fun H' e M' => qT (by rw [hs.1, hs.2]; rfl) x y hx hy H' ((exM.of (e1.trans e2)).trans e) trivial (M'.le (Nat.le_succ _))⟩⟩⟩
  · exact ⟨_, rfl, ifF <| rb_nil <| qF (by rw [← an2 s (r2 := r) (r3 := r2) rfl]; exact ha) H2 ((exM.of e1).trans e2) trivial (M2.le (Nat.le_succ _))⟩
theorem an1 (s : MSt) (r : Int) : (([r] : List Int).any fun r => isStrV (s.get r)) = isStrV (s.get r) := by
  show (isStrV (s.get r) || false) = _
  rw [Bool.or_false]
def pIn (K : PySem.W.Frag) : PreM := fun ys A s xs H q => ∃ (r : Int) (ns : List Int), xs = [.int r] ∧ isReg r ∧ SqT K H A.ip (ns.map V.int) ∧ (∀ n ∈ ns, isNum n) ∧ q { s with reg := s.reg.set r.toNat (.int (ns.getD s.taken 0)), taken := s.taken + 1 } Tr
abbrev nm_in : List Str := ["machine", "line", "has_more"]
theorem sc_m_in : FnScope nm_in nm_ml (defScope s_m_take_in) := ⟨rfl, rfl, rfl, by decide +kernel, rfl, by decide +kernel, by decide +kernel⟩
theorem ok_m_in (F : Fun K "_take_in" "_take_in" s_m_take_in f fd) (G : Gb mg) (T : MC K C) {w' : Str} : FnOk P w K mg base CX0 1 f fd nm_ml (sp_am K C w' (pIn K)) := by
  refine F.ok sc_m_in (fun vs H Q E h => am_len h) (fun cdv Ar outer sh H vs Q E hr h => ⟨RB _ _, pss_RB, ?_⟩)
  obtain ⟨ys, A, s, cap, a, xs, rfl, hq, hc, M, r, ns, rfl, g1, hip, hns, q⟩ := h
  refine rb_cons <| rs_set 2 (by exact sc_m_in.nd) <| re_cmp op_lt <| re_mget 0 T T.taken M rfl rfl <| re_cb call_len G.len <| ra_cons <| re_mget 0 T T.inputs M rfl rfl <| ra_nil ⟨_, ns.length, rfl, .inr ⟨_, hip, (List.length_map ..).symm⟩, (s.taken : Nat), (ns.length : Nat), rfl, rfl, ?_⟩
  refine rb_cons <| rs_mreg (ys := ys) T rfl g1 <| RE.mono (Q := fun v H' => H' = H ∧ v = .int (ns.getD s.taken 0)) (re_if <| rt_val <| re_var 2 rfl ⟨_, rfl, ifB (fun e => ?_) fun e => ?_⟩) ?_
  · have e : s.taken < ns.length := by have := of_decide_eq_true e; omega
    refine re_ixT <| re_mget 0 T T.inputs M rfl rfl <| re_mget 0 T T.taken M rfl rfl ⟨A.ip, _, (s.taken : Nat), .int (ns.getD s.taken 0), rfl, rfl, hip, atI_nat ?_, rfl, rfl⟩
    rw [List.getElem?_map, List.getD_eq_getElem?_getD, List.getElem?_eq_getElem e]; rfl
  · have e : ¬ s.taken < ns.length := by have := of_decide_eq_false e; omega
    refine re_int ⟨rfl, ?_⟩
    rw [List.getD_eq_getElem?_getD, List.getElem?_eq_none (by omega)]; rfl
  rintro v H1 ⟨rfl, rfl⟩
  have ov : okV ys (.int (ns.getD s.taken 0)) := by
    rw [List.getD_eq_getElem?_getD]
    cases hn : ns[s.taken]? with
    | none => exact .inl ⟨0, rfl, by decide, by decide⟩
    | some n =>
      have := hns n (List.mem_of_getElem? hn)
      exact .inl ⟨n, rfl, this.1, this.2⟩
  refine ⟨s, cap, M, ov, re_lat 1 hq rfl rfl ⟨rfl, rfl, fun H' e M' => ?_⟩⟩
  refine rb_one <| rs_fldadd <| re_var 0 rfl ⟨A.m, C, A.dx, _, (s.taken : Nat), rfl, M'.ins, T.cls, T.taken, rfl, re_int ⟨1, A.dx, _, rfl, M'.ins, (by show 13 < 1000; decide), ?_⟩⟩
  exact q _ (e.trans exM.om) trivial ((M'.setF (s' := { s with reg := s.reg.set r.toNat (.int (ns.getD s.taken 0)), taken := s.taken + 1 }) rfl rfl rfl).le (Nat.le_succ _))
def pOut : PreM := fun ys A s xs H q => ∃ r, xs = [.int r] ∧ isReg r ∧ (isStrV (s.get r) = false → q { s with out := s.out ++ [s.get r] } Tr) ∧ (isStrV (s.get r) = true → q { s with ended := .str "kind" } Tr)
theorem sc_m_out : FnScope nm_ml nm_ml (defScope s_m_put_out) := ⟨rfl, rfl, rfl, by decide +kernel, rfl, by decide +kernel, by decide +kernel⟩
theorem ok_m_out (F : Fun K "_put_out" "_put_out" s_m_put_out f fd) (T : MC K C) (c1 : Cl P w K mg base CX0 1 "_are_numbers" (sp_an K C)) {w' : Str} : FnOk P w K mg base CX0 2 f fd nm_ml (sp_am K C w' pOut) := by
  refine F.ok sc_m_out (fun vs H Q E h => am_len h) (fun cdv Ar outer sh H vs Q E hr h => ⟨RB _ _, pss_RB, ?_⟩)
  obtain ⟨ys, A, s, cap, a, xs, rfl, hq, hc, M, r, rfl, g1, qT, qF⟩ := h
  refine rb_one <| rs_if <| rt_val <| re_call c1 hr <| ra_cons <| re_var 0 rfl <| ra_cons <| re_from <| re_var 1 rfl <| re_int ⟨1, rfl, a, _, rfl, hq, fun t H1 e1 ht => ra_nil ⟨ys, A, s, cap, t, [r], rfl, ht, Nat.le_of_ble_eq_true rfl, (fun x hx => by
    rw [List.mem_singleton.mp hx]; exact g1), M.ex e1, fun ha H2 e2 => ?_, fun ha H2 e2 M2 => ?_⟩⟩
  · have M2 := (M.ex e1).ex e2
    have hq2 := Evl.ex_t e2 (Evl.ex_t e1 hq)
    rw [an1] at ha
    have hzo := M2.szo
    refine ⟨_, rfl, ifT <| rb_one <| rs_expr <| re_append <| re_mget 0 T T.written M2 rfl rfl ⟨A.wr, rfl, ⟨_, M2.wr⟩, re_mreg T M2 rfl g1 <| re_lat 1 hq2 rfl rfl ⟨rfl, rfl, s.out, M2.wr, szlt (by omega), ?_⟩⟩⟩
    exact qT ha _ ((exM.of (e1.trans e2)).trans exM.owr) trivial (M2.setO (by rw [List.length_append]; show _ + 1 ≤ _; omega) (Nat.le_succ _))
  · rw [an1] at ha
    exact ⟨_, rfl, ifF <| rb_nil <| qF ha H2 ((exM.of e1).trans e2) trivial (M2.le (Nat.le_succ _))⟩
def pPush : PreM := fun ys A s xs H q => (xs = [.str "link"] ∧ q { s with stk := s.stk ++ [s.link] } Tr) ∨ ∃ r, xs = [.int r] ∧ isReg r ∧ q { s with stk := s.stk ++ [s.get r] } Tr
theorem sc_m_push : FnScope nm_ml nm_ml (defScope s_m_push) := ⟨rfl, rfl, rfl, by decide +kernel, rfl, by decide +kernel, by decide +kernel⟩
theorem ok_m_push (F : Fun K "_push" "_push" s_m_push f fd) (T : MC K C) {w' : Str} : FnOk P w K mg base CX0 1 f fd nm_ml (sp_am K C w' pPush) := by
  refine F.ok sc_m_push (fun vs H Q E h => am_len h) (fun cdv Ar outer sh H vs Q E hr h => ⟨RB _ _, pss_RB, ?_⟩)
  obtain ⟨ys, A, s, cap, a, xs, rfl, hq, hc, M, hx⟩ := h
  have hzs := M.szs
  rcases hx with ⟨rfl, q⟩ | ⟨r, rfl, g1, q⟩
  · refine rb_one <| rs_expr <| re_append <| re_mget 0 T T.stack M rfl rfl ⟨A.sk, rfl, ⟨_, M.sk⟩, re_if <| rt_cmp op_eq <| re_lat 1 hq rfl rfl <| re_str ⟨rfl, _, rfl, ?_⟩⟩
    rw [decide_eq_true rfl]
    refine ifT <| re_mget 0 T T.link M rfl rfl ⟨s.stk, M.sk, szlt (by omega), ?_⟩
    exact q _ exM.osk trivial (M.setS (by rw [List.length_append]; show _ + 1 ≤ _; omega) (Nat.le_succ _))
  · refine rb_one <| rs_expr <| re_append <| re_mget 0 T T.stack M rfl rfl ⟨A.sk, rfl, ⟨_, M.sk⟩, re_if <| rt_cmp op_eq <| re_lat 1 hq rfl rfl <| re_str ⟨rfl, _, rfl, ?_⟩⟩
    rw [decide_eq_false (fun z => nomatch z)]
    refine ifF <| re_mreg T M rfl g1 <| re_lat 1 hq rfl rfl ⟨rfl, rfl, s.stk, M.sk, szlt (by omega), ?_⟩
    exact q _ exM.osk trivial (M.setS (by rw [List.length_append]; show _ + 1 ≤ _; omega) (Nat.le_succ _))
def pPop : PreM := fun ys A s xs H q => ∃ st v, s.stk = st ++ [v] ∧ ((xs = [.str "link"] ∧ q { s with stk := st, link := v } Tr) ∨ ∃ r, xs = [.int r] ∧ isReg r ∧ okV ys v ∧ q { s with stk := st, reg := s.reg.set r.toNat v } Tr)
abbrev nm_top : List Str := ["machine", "line", "top"]
theorem sc_m_pop : FnScope nm_top nm_ml (defScope s_m_pop) := ⟨rfl, rfl, rfl, by decide +kernel, rfl, by decide +kernel, by decide +kernel⟩
theorem sqt_sk {ys : List Str} {H : Hp} {A : MA} {s : MSt} {cap : Nat} {a : Addr} {xs zs : List V} (M : Mach K C ys H A s cap) (h : SqT K H a xs) : SqT K (upd H A.sk (.lst zs)) a xs := sqt_ex (fun b o ho ts ht => by
  rw [upd_ne fun z => ?_]
  · exact ho
  · rw [z, M.sk] at ho
    rcases ht with rfl | ⟨ob, rfl⟩
    · cases ho
    · cases ho) h
theorem ok_m_pop (F : Fun K "_pop" "_pop" s_m_pop f fd) (T : MC K C) {w' : Str} : FnOk P w K mg base CX0 1 f fd nm_ml (sp_am K C w' pPop) := by
  refine F.ok sc_m_pop (fun vs H Q E h => am_len h) (fun cdv Ar outer sh H vs Q E hr h => ⟨RB _ _, pss_RB, ?_⟩)
  obtain ⟨ys, A, s, cap, a, xs, rfl, hq, hc, M, st, v, hst, hx⟩ := h
  have hzs := M.szs
  have hsk := M.sk
  rw [hst] at hsk hzs
  rw [List.length_append] at hzs
  have M1 := M.setS (xs := st) (c := cap) (by omega) (Nat.le_refl _)
  have hq1 := sqt_sk (zs := st) M hq
  refine rb_cons <| rs_set 2 (by exact sc_m_pop.nd) <| re_pop <| re_mget 0 T T.stack M rfl rfl ⟨A.sk, st, v, rfl, hsk, ?_⟩
  have e1 : exM A H (upd H A.sk (.lst st)) := exM.osk
  generalize upd H A.sk (.lst st) = H1 at *
  rcases hx with ⟨rfl, q⟩ | ⟨r, rfl, g1, ov, q⟩
  · refine rb_one <| rs_if <| rt_cmp op_eq <| re_lat 1 hq1 rfl rfl <| re_str ⟨rfl, _, rfl, ?_⟩
    rw [decide_eq_true rfl]
    exact ifT <| rb_one <| rs_mset 0 T T.link rfl <| re_var 2 rfl ⟨{ s with stk := st }, { s with stk := st, link := v }, cap, M1, rfl, rfl, rfl, rfl, fun H' e M' => q H' (e1.trans e) trivial (M'.le (Nat.le_succ _))⟩
  · refine rb_one <| rs_if <| rt_cmp op_eq <| re_lat 1 hq1 rfl rfl <| re_str ⟨rfl, _, rfl, ?_⟩
    rw [decide_eq_false (fun z => nomatch z)]
    exact ifF <| rb_one <| rs_mreg (ys := ys) T rfl g1 <| re_var 2 rfl ⟨{ s with stk := st }, cap, M1, ov, re_lat 1 hq1 rfl rfl ⟨rfl, rfl, fun H' e M' => q H' (e1.trans e) trivial (M'.le (Nat.le_succ _))⟩⟩
def pRead : PreM := fun ys A s xs H q => ∃ (r : Int) (k : Nat) (v : V), xs = [.int r, .int (k : Nat)] ∧ isReg r ∧ k < s.stk.length ∧ s.stk[s.stk.length - 1 - k]? = some v ∧ okV ys v ∧ q { s with reg := s.reg.set r.toNat v } Tr
theorem sc_m_read : FnScope nm_ml nm_ml (defScope s_m_read) := ⟨rfl, rfl, rfl, by decide +kernel, rfl, by decide +kernel, by decide +kernel⟩
theorem ok_m_read (F : Fun K "_read" "_read" s_m_read f fd) (T : MC K C) {w' : Str} : FnOk P w K mg base CX0 1 f fd nm_ml (sp_am K C w' pRead) := by
  refine F.ok sc_m_read (fun vs H Q E h => am_len h) (fun cdv Ar outer sh H vs Q E hr h => ⟨RB _ _, pss_RB, ?_⟩)
  obtain ⟨ys, A, s, cap, a, xs, rfl, hq, hc, M, r, k, v, rfl, g1, hk, hv, ov, q⟩ := h
  have hn := atI_neg hk hv
  exact rb_one <| rs_mreg (ys := ys) T rfl g1 <| re_ixL <| re_mget 0 T T.stack M rfl rfl <| re_sub <| re_un un_neg <| re_int ⟨1, rfl, re_lat 1 hq rfl rfl ⟨-1, (k : Nat), rfl, rfl, A.sk, s.stk, _, v, rfl, rfl, .inl (.inl M.sk), hn.2, s, cap, M, ov, re_lat 1 hq rfl rfl ⟨rfl, rfl, fun H' e M' => q H' e trivial (M'.le (Nat.le_succ _))⟩⟩⟩
def pWrite : PreM := fun ys A s xs H q => ∃ (r : Int) (k : Nat), xs = [.int (k : Nat), .int r] ∧ isReg r ∧ k < s.stk.length ∧ q { s with stk := s.stk.set (s.stk.length - 1 - k) (s.get r) } Tr
theorem sc_m_write : FnScope nm_ml nm_ml (defScope s_m_write) := ⟨rfl, rfl, rfl, by decide +kernel, rfl, by decide +kernel, by decide +kernel⟩
theorem ok_m_write (F : Fun K "_write" "_write" s_m_write f fd) (T : MC K C) {w' : Str} : FnOk P w K mg base CX0 1 f fd nm_ml (sp_am K C w' pWrite) := by
  refine F.ok sc_m_write (fun vs H Q E h => am_len h) (fun cdv Ar outer sh H vs Q E hr h => ⟨RB _ _, pss_RB, ?_⟩)
  obtain ⟨ys, A, s, cap, a, xs, rfl, hq, hc, M, r, k, rfl, g1, hk, q⟩ := h
  have hn := atI_neg hk (List.getElem?_eq_getElem (show s.stk.length - 1 - k < s.stk.length by omega))
  exact rb_one <| rs_setItemN <| re_mreg T M rfl g1 <| re_lat 1 hq rfl rfl ⟨rfl, rfl, re_mget 0 T T.stack M rfl rfl <| re_sub <| re_un un_neg <| re_int ⟨1, rfl, re_lat 1 hq rfl rfl ⟨-1, (k : Nat), rfl, rfl, A.sk, s.stk, _, _, rfl, rfl, M.sk, hn.1, q _ exM.osk trivial (M.setS (by rw [List.length_set]; exact Nat.le_trans M.szs (Nat.le_succ _)) (Nat.le_succ _))⟩⟩⟩
def pJump : PreM := fun ys A s xs H q => ∃ (lab : Str) (zs : List (Key × V)) (mk : Addr) (kvs : List (Key × V)) (j : Nat), xs = [.str lab] ∧ H A.mks = some (.dK zs) ∧ valV zs (.inr s.name) = some (.ref mk) ∧ H mk = some (.dK kvs) ∧ valV kvs (.inr lab) = some (.int (j : Nat)) ∧ q { s with at_ := j } Tr
theorem sc_m_jump : FnScope nm_ml nm_ml (defScope s_m_jump) := ⟨rfl, rfl, rfl, by decide +kernel, rfl, by decide +kernel, by decide +kernel⟩
theorem ok_m_jump (F : Fun K "_jump" "_jump" s_m_jump f fd) (T : MC K C) {w' : Str} : FnOk P w K mg base CX0 1 f fd nm_ml (sp_am K C w' pJump) := by
  refine F.ok sc_m_jump (fun vs H Q E h => am_len h) (fun cdv Ar outer sh H vs Q E hr h => ⟨RB _ _, pss_RB, ?_⟩)
  obtain ⟨ys, A, s, cap, a, xs, rfl, hq, hc, M, lab, zs, mk, kvs, j, rfl, h1, h2, h3, h4, q⟩ := h
  exact rb_one <| rs_mset 0 T T.at_ rfl <| re_dget (hu_of hr) <| re_dget (hu_of hr) <| re_mget 0 T T.marks M rfl rfl <| re_mget 0 T T.name M rfl rfl ⟨A.mks, zs, .inr s.name, .ref mk, rfl, h1, rfl, h2, re_lat 1 hq rfl rfl ⟨mk, kvs, .inr lab, .int (j : Nat), rfl, h3, rfl, h4, s, { s with at_ := j }, cap, M, rfl, rfl, rfl, rfl, fun H' e M' => q H' e trivial (M'.le (Nat.le_succ _))⟩⟩
def pIf (b : Bool) : PreM := fun ys A s xs H q => (s.flag = b → pJump ys A s xs H q) ∧ (s.flag = (!b) → q s Tr)
theorem sc_m_if : FnScope nm_ml nm_ml (defScope s_m_if) := ⟨rfl, rfl, rfl, by decide +kernel, rfl, by decide +kernel, by decide +kernel⟩
theorem sc_m_unless : FnScope nm_ml nm_ml (defScope s_m_unless) := ⟨rfl, rfl, rfl, by decide +kernel, rfl, by decide +kernel, by decide +kernel⟩
theorem ok_m_if (F : Fun K "_if" "_if" s_m_if f fd) (T : MC K C) {w' : Str} (cJ : Cl P w K mg base CX0 1 "_jump" (sp_am K C w' pJump)) : FnOk P w K mg base CX0 2 f fd nm_ml (sp_am K C w' (pIf true)) := by
  refine F.ok sc_m_if (fun vs H Q E h => am_len h) (fun cdv Ar outer sh H vs Q E hr h => ⟨RB _ _, pss_RB, ?_⟩)
  obtain ⟨ys, A, s, cap, a, xs, rfl, hq, hc, M, qT, qF⟩ := h
  exact rb_one <| rs_if <| rt_val <| re_mget 0 T T.flag M rfl rfl ⟨s.flag, rfl, ifB (fun e => rb_one <| rs_expr <| re_call cJ hr <| ra_cons <| re_var 0 rfl <| ra_cons <| re_var 1 rfl <| ra_nil ⟨ys, A, s, cap, a, xs, rfl, hq, hc, M, qT e⟩) fun e => rb_nil <| qF e H exM.refl trivial (M.le (Nat.le_succ _))⟩
theorem ok_m_unless (F : Fun K "_unless" "_unless" s_m_unless f fd) (T : MC K C) {w' : Str} (cJ : Cl P w K mg base CX0 1 "_jump" (sp_am K C w' pJump)) : FnOk P w K mg base CX0 2 f fd nm_ml (sp_am K C w' (pIf false)) := by
  refine F.ok sc_m_unless (fun vs H Q E h => am_len h) (fun cdv Ar outer sh H vs Q E hr h => ⟨RB _ _, pss_RB, ?_⟩)
  obtain ⟨ys, A, s, cap, a, xs, rfl, hq, hc, M, qT, qF⟩ := h
  refine rb_one <| rs_if <| rt_not <| rt_val <| re_mget 0 T T.flag M rfl rfl ⟨s.flag, rfl, ?_⟩
  cases hf : s.flag with
  | false => exact ifT <| rb_one <| rs_expr <| re_call cJ hr <| ra_cons <| re_var 0 rfl <| ra_cons <| re_var 1 rfl <| ra_nil ⟨ys, A, s, cap, a, xs, rfl, hq, hc, M, qT hf⟩
  | true => exact ifF <| rb_nil <| qF hf H exM.refl trivial (M.le (Nat.le_succ _))
end
end Fl
end
section
set_option Elab.async false
set_option linter.all false
set_option maxRecDepth 100000
set_option maxHeartbeats 4000000
namespace Fl
open PySem PySem.Spec PyProof.Rows L2 Fx
open Evl (Ex fresh_back)
section
variable {P : Program} {w : World} {K : PySem.W.Frag} {mg : Str → Option Value} {base : Heap} {f : Addr} {fd : FuncData} {C : Addr}
/-! ### calls and their ends -/
theorem sqt_exM {ys : List Str} {H H' : Hp} {A : MA} {s : MSt} {cap : Nat} {a : Addr} {xs : List V} (M : Mach K C ys H A s cap) (e : exM A H H') (h : SqT K H a xs) : SqT K H' a xs := sqt_ex (fun b o ho ts ht => by
  have ne : ∀ {u : HO} {x : Addr}, H x = some u → (∀ ts, u ≠ .tup ts) → (∀ ob ts, u ≠ .frz ob (.tup ts)) → b ≠ x := fun hx n1 n2 z => by
    rw [z, hx] at ho
    have := Option.some.inj ho
    rcases ht with ht | ⟨ob, ht⟩
    · exact n1 _ (this.trans ht)
    · exact n2 _ _ (this.trans ht)
  exact e b o ho (ne M.ins (fun _ z => nomatch z) (fun _ _ z => nomatch z)) (ne M.rg (fun _ z => nomatch z) (fun _ _ z => nomatch z)) (ne M.sk (fun _ z => nomatch z) (fun _ _ z => nomatch z)) (ne M.wr (fun _ z => nomatch z) (fun _ _ z => nomatch z))) h
def behSt (A : MA) (s : MSt) (t : Addr) : MSt := if A.bare = true then { s with stk := s.stk ++ [.ref t] } else { s with link := .ref t }
def sp_keepb (K : PySem.W.Frag) (C : Addr) : Sp := fun vs H Q _ => ∃ (ys : List Str) (A : MA) (s : MSt) (cap : Nat), vs = [.ref A.m] ∧ cap ≤ 50000 ∧ Mach K C ys H A s cap ∧ ∀ t H', H t = none → exM A H H' → H' t = some (.tup [.str s.name, .int (s.at_ : Nat)]) → Mach K C ys H' A (behSt A s t) (cap + 1) → Q .non H'
abbrev nm_kb : List Str := ["machine", "behind"]
theorem sc_m_kb : FnScope nm_kb ["machine"] (defScope s_m_keep_behind) := ⟨rfl, rfl, rfl, by decide +kernel, rfl, by decide +kernel, by decide +kernel⟩
theorem ok_m_kb (F : Fun K "_keep_behind" "_keep_behind" s_m_keep_behind f fd) (T : MC K C) : FnOk P w K mg base CX0 1 f fd ["machine"] (sp_keepb K C) := by
  refine F.ok sc_m_kb (fun vs H Q E h => ?_) (fun cdv Ar outer sh H vs Q E hr h => ⟨RB _ _, pss_RB, ?_⟩)
  · obtain ⟨_, _, _, _, rfl, _⟩ := h; rfl
  obtain ⟨ys, A, s, cap, rfl, hc, M, q⟩ := h
  refine rb_cons <| rs_set 1 (by exact sc_m_kb.nd) <| re_tup <| ra_cons <| re_mget 0 T T.name M rfl rfl <| ra_cons <| re_mget 0 T T.at_ M rfl rfl <| ra_nil ⟨Nat.le_of_ble_eq_true rfl, fun t H1 ht e1 h1 => ?_⟩
  have M1 := M.ex e1
  have hzs := M.szs
  refine rb_one <| rs_if <| rt_val <| re_mget 0 T T.bare M1 rfl rfl ⟨A.bare, rfl, ifB (fun e => ?_) fun e => ?_⟩
  · refine rb_one <| rs_expr <| re_append <| re_mget 0 T T.stack M1 rfl rfl ⟨A.sk, rfl, ⟨_, M1.sk⟩, re_var 1 rfl ⟨s.stk, M1.sk, szlt (by omega), ?_⟩⟩
    have tsk : t ≠ A.sk := fun z => by rw [z, M.sk] at ht; cases ht
    refine q t _ ht ((exM.of e1).trans exM.osk) (by rw [upd_ne tsk]; exact h1) ?_
    unfold behSt
    rw [if_pos e]
    exact M1.setS (by rw [List.length_append]; show _ + 1 ≤ _; omega) (Nat.le_succ _)
  · refine rb_one <| rs_mset 0 T T.link rfl <| re_var 1 rfl ⟨s, { s with link := .ref t }, cap, M1, rfl, rfl, rfl, rfl, fun H' e' M' => ?_⟩
    have tm : ∀ {b : Addr} {o : HO}, H b = some o → t ≠ b := fun hb z => by rw [z, hb] at ht; cases ht
    refine q t H' ht ((exM.of e1).trans e') (e' _ _ h1 (tm M.ins) (tm M.rg) (tm M.sk) (tm M.wr)) ?_
    unfold behSt
    rw [if_neg (by rw [e]; exact Bool.false_ne_true)]
    exact M'.le (Nat.le_succ _)
def sp_enter (K : PySem.W.Frag) (C : Addr) : Sp := fun vs H Q _ => ∃ (ys : List Str) (A : MA) (s : MSt) (cap : Nat) (n : Str), vs = [.ref A.m, .str n] ∧ Mach K C ys H A s cap ∧ ∀ H', exM A H H' → Mach K C ys H' A { s with name := n, at_ := 0 } cap → Q .non H'
theorem sc_m_enter : FnScope ["machine", "name"] ["machine", "name"] (defScope s_m_enter) := ⟨rfl, rfl, rfl, by decide +kernel, rfl, by decide +kernel, by decide +kernel⟩
theorem ok_m_enter (F : Fun K "_enter" "_enter" s_m_enter f fd) (T : MC K C) : FnOk P w K mg base CX0 1 f fd ["machine", "name"] (sp_enter K C) := by
  refine F.ok sc_m_enter (fun vs H Q E h => ?_) (fun cdv Ar outer sh H vs Q E hr h => ⟨RB _ _, pss_RB, ?_⟩)
  · obtain ⟨_, _, _, _, _, rfl, _⟩ := h; rfl
  obtain ⟨ys, A, s, cap, n, rfl, M, q⟩ := h
  exact rb_cons <| rs_mset 0 T T.name rfl <| re_var 1 rfl ⟨s, { s with name := n }, cap, M, rfl, rfl, rfl, rfl, fun H1 e1 M1 => rb_one <| rs_mset 0 T T.at_ rfl <| re_int ⟨{ s with name := n }, { s with name := n, at_ := 0 }, cap, M1, rfl, rfl, rfl, rfl, fun H2 e2 M2 => q H2 (e1.trans e2) M2⟩⟩
def callSt (A : MA) (s : MSt) (t : Addr) (n : Str) : MSt := { behSt A s t with name := n, at_ := 0 }
def pCall : PreM := fun ys A s xs H q => ∃ n, xs = [.str n] ∧ ∀ t, H t = none → q (callSt A s t n) (fun H' => H' t = some (.tup [.str s.name, .int (s.at_ : Nat)]))
theorem sc_m_call : FnScope nm_ml nm_ml (defScope s_m_call) := ⟨rfl, rfl, rfl, by decide +kernel, rfl, by decide +kernel, by decide +kernel⟩
theorem ok_m_call (F : Fun K "_call" "_call" s_m_call f fd) (c1 : Cl P w K mg base CX0 1 "_keep_behind" (sp_keepb K C)) (c2 : Cl P w K mg base CX0 1 "_enter" (sp_enter K C)) {w' : Str} : FnOk P w K mg base CX0 2 f fd nm_ml (sp_am K C w' pCall) := by
  refine F.ok sc_m_call (fun vs H Q E h => am_len h) (fun cdv Ar outer sh H vs Q E hr h => ⟨RB _ _, pss_RB, ?_⟩)
  obtain ⟨ys, A, s, cap, a, xs, rfl, hq, hc, M, n, rfl, q⟩ := h
  refine rb_cons <| rs_expr <| re_call c1 hr <| ra_cons <| re_var 0 rfl <| ra_nil ⟨ys, A, s, cap, rfl, hc, M, fun t H1 ht e1 h1 M1 => ?_⟩
  have hq1 : SqT K H1 a _ := sqt_exM M e1 hq
  have tm : ∀ {b : Addr} {o : HO}, H b = some o → t ≠ b := fun hb z => by rw [z, hb] at ht; cases ht
  exact rb_one <| rs_expr <| re_call c2 hr <| ra_cons <| re_var 0 rfl <| ra_cons <| re_lat 1 hq1 rfl rfl <| ra_nil ⟨ys, A, behSt A s t, cap + 1, n, rfl, M1, fun H2 e2 M2 => q t ht H2 (e1.trans e2) (e2 _ _ h1 (tm M.ins) (tm M.rg) (tm M.sk) (tm M.wr)) M2⟩
def pCallr : PreM := fun ys A s xs H q => ∃ r, xs = [.int r] ∧ isReg r ∧ (∀ n, s.get r = .str n → ∀ t, H t = none → q (callSt A s t n) (fun H' => H' t = some (.tup [.str s.name, .int (s.at_ : Nat)]))) ∧ (isStrV (s.get r) = false → q { s with ended := .str "kind" } Tr)
abbrev nm_cr : List Str := ["machine", "line", "name"]
theorem sc_m_callr : FnScope nm_cr nm_ml (defScope s_m_callr) := ⟨rfl, rfl, rfl, by decide +kernel, rfl, by decide +kernel, by decide +kernel⟩
theorem ok_m_callr (F : Fun K "_callr" "_callr" s_m_callr f fd) (G : Gb mg) (T : MC K C) (c1 : Cl P w K mg base CX0 1 "_keep_behind" (sp_keepb K C)) (c2 : Cl P w K mg base CX0 1 "_enter" (sp_enter K C)) {w' : Str} : FnOk P w K mg base CX0 2 f fd nm_ml (sp_am K C w' pCallr) := by
  refine F.ok sc_m_callr (fun vs H Q E h => am_len h) (fun cdv Ar outer sh H vs Q E hr h => ⟨RB _ _, pss_RB, ?_⟩)
  obtain ⟨ys, A, s, cap, a, xs, rfl, hq, hc, M, r, rfl, g1, qT, qF⟩ := h
  have tm : ∀ {t b : Addr} {o : HO}, H t = none → H b = some o → t ≠ b := fun ht hb z => by rw [z, hb] at ht; cases ht
  refine rb_cons <| rs_set 2 (by exact sc_m_callr.nd) <| re_mreg T M rfl g1 <| re_lat 1 hq rfl rfl ⟨rfl, rfl, ?_⟩
  rcases M.vals _ (get_at M.len6 g1).2.1 with ⟨i, hi, _⟩ | ⟨n, _, hn⟩
  · rw [hi]
    refine rb_one <| rs_if <| rt_val <| re_isi kit_S G.isinstance G.str <| re_var 2 rfl ⟨.int i, .int i, _, rfl, ifF <| ?_⟩
    exact rb_one <| rs_mset 0 T T.ended rfl <| re_str ⟨s, { s with ended := .str "kind" }, cap, M, rfl, rfl, rfl, rfl, fun H' e M' => qF (by rw [hi]; rfl) H' e trivial (M'.le (Nat.le_succ _))⟩
  · rw [hn]
    refine rb_one <| rs_if <| rt_val <| re_isi kit_S G.isinstance G.str <| re_var 2 rfl ⟨.str n, .str n, _, rfl, ifT <| ?_⟩
    refine rb_cons <| rs_expr <| re_call c1 hr <| ra_cons <| re_var 0 rfl <| ra_nil ⟨ys, A, s, cap, rfl, hc, M, fun t H1 ht e1 h1 M1 => ?_⟩
    exact rb_one <| rs_expr <| re_call c2 hr <| ra_cons <| re_var 0 rfl <| ra_cons <| re_var 2 rfl <| ra_nil ⟨ys, A, behSt A s t, cap + 1, n, rfl, M1, fun H2 e2 M2 => qT n hn t ht H2 (e1.trans e2) (e2 _ _ h1 (tm ht M.ins) (tm ht M.rg) (tm ht M.sk) (tm ht M.wr)) M2⟩
def pTail : PreM := fun ys A s xs H q => ∃ n, xs = [.str n] ∧ q { s with name := n, at_ := 0 } Tr
theorem sc_m_tail : FnScope nm_ml nm_ml (defScope s_m_tail) := ⟨rfl, rfl, rfl, by decide +kernel, rfl, by decide +kernel, by decide +kernel⟩
theorem ok_m_tail (F : Fun K "_tail" "_tail" s_m_tail f fd) (c2 : Cl P w K mg base CX0 1 "_enter" (sp_enter K C)) {w' : Str} : FnOk P w K mg base CX0 2 f fd nm_ml (sp_am K C w' pTail) := by
  refine F.ok sc_m_tail (fun vs H Q E h => am_len h) (fun cdv Ar outer sh H vs Q E hr h => ⟨RB _ _, pss_RB, ?_⟩)
  obtain ⟨ys, A, s, cap, a, xs, rfl, hq, hc, M, n, rfl, q⟩ := h
  exact rb_one <| rs_expr <| re_call c2 hr <| ra_cons <| re_var 0 rfl <| ra_cons <| re_lat 1 hq rfl rfl <| ra_nil ⟨ys, A, s, cap, n, rfl, M, fun H2 e2 M2 => q H2 e2 trivial (M2.le (Nat.le_succ _))⟩
def pStop : PreM := fun ys A s xs H q => q { s with ended := .str "stop" } Tr
theorem sc_m_stop : FnScope ["machine", "_"] ["machine", "_"] (defScope s_m_stop) := ⟨rfl, rfl, rfl, by decide +kernel, rfl, by decide +kernel, by decide +kernel⟩
theorem ok_m_stop (F : Fun K "_stop" "_stop" s_m_stop f fd) (T : MC K C) {w' : Str} : FnOk P w K mg base CX0 1 f fd ["machine", "_"] (sp_am K C w' pStop) := by
  refine F.ok sc_m_stop (fun vs H Q E h => am_len h) (fun cdv Ar outer sh H vs Q E hr h => ⟨RB _ _, pss_RB, ?_⟩)
  obtain ⟨ys, A, s, cap, a, xs, rfl, hq, hc, M, q⟩ := h
  exact rb_one <| rs_mset 0 T T.ended rfl <| re_str ⟨s, { s with ended := .str "stop" }, cap, M, rfl, rfl, rfl, rfl, fun H' e M' => q H' e trivial (M'.le (Nat.le_succ _))⟩
/-- the class Program and its END -/
structure PEnd (K : PySem.W.Frag) (mg : Str → Option Value) (CP : Addr) : Prop where
  gm : mg "Program" = some (.ref CP)
  rd : ∃ mc u, ClX.CRead K CP mc ∧ ClX.CVal K CP mc "END" (.str "end") u
  rg : ∃ mc u, ClX.CRead K CP mc ∧ ClX.CVal K CP mc "REGISTERS" (.int 6) u
def pBack : PreM := fun ys A s xs H q => A.bare = false ∧ ((s.link = .str "end" ∧ q { s with ended := .str "back" } Tr) ∨ ∃ t n j, s.link = .ref t ∧ H t = some (.tup [.str n, .int (j : Nat)]) ∧ q { s with name := n, at_ := j } Tr)
abbrev nm_bk : List Str := ["machine", "_", "goal"]
theorem sc_m_back : FnScope nm_bk ["machine", "_"] (defScope s_m_back) := ⟨rfl, rfl, rfl, by decide +kernel, rfl, by decide +kernel, by decide +kernel⟩
theorem ok_m_back {CP : Addr} (F : Fun K "_back" "_back" s_m_back f fd) (T : MC K C) (PE' : PEnd K mg CP) {w' : Str} : FnOk P w K mg base CX0 1 f fd ["machine", "_"] (sp_am K C w' pBack) := by
  refine F.ok sc_m_back (fun vs H Q E h => am_len h) (fun cdv Ar outer sh H vs Q E hr h => ⟨RB _ _, pss_RB, ?_⟩)
  obtain ⟨ys, A, s, cap, a, xs, rfl, hq, hc, M, hb, hx⟩ := h
  obtain ⟨mc, u, hrd, hcv⟩ := PE'.rd
  refine rb_cons <| rs_set 2 (by exact sc_m_back.nd) <| re_mget 0 T T.link M rfl rfl ?_
  refine rb_cons <| rs_if <| rt_w <| rw_and <| rt_val <| re_mget 0 T T.bare M rfl rfl ⟨A.bare, rfl, ?_⟩
  rw [hb]
  refine ifF <| ifF <| rb_nil ?_
  rcases hx with ⟨hl, q⟩ | ⟨t, n, j, hl, ht, q⟩
  · rw [hl]
    refine rb_one <| rs_if <| rt_cmp op_eq <| re_var 2 rfl <| re_cval <| re_glob (v := .ref CP) PE'.gm rfl ⟨CP, mc, .str "end", u, rfl, hrd, hcv, rfl, _, rfl, ?_⟩
    rw [decide_eq_true rfl]
    exact ifT <| rb_one <| rs_mset 0 T T.ended rfl <| re_str ⟨s, { s with ended := .str "back" }, cap, M, rfl, rfl, rfl, rfl, fun H' e M' => q H' e trivial (M'.le (Nat.le_succ _))⟩
  · rw [hl]
    refine rb_one <| rs_if <| rt_cmp (op_eqS hr.units0) <| re_var 2 rfl <| re_cval <| re_glob (v := .ref CP) PE'.gm rfl ⟨CP, mc, .str "end", u, rfl, hrd, hcv, .tuple [.str n, .int (j : Nat)], "end", .tup (.inl (.inl ht)) (.cons (.str _) (.cons (.int _) .nil)), rfl, _, rfl, ?_⟩
    refine ifF <| rb_one <| rs_asg (g := gTup K 2 (gCons (gFld K _ _) (gCons (gFld K _ _) gNil))) (pg_tup rfl (pgs_cons pg_fld (pgs_cons pg_fld pgs_nil))) <| re_var 2 rfl ⟨t, _, rfl, .inl (.inl ht), rfl, _, _, rfl, ?_⟩
    refine re_var 0 rfl ⟨A.m, C, A.dx, _, rfl, M.ins, T.cls, T.name, (by show 13 < 1000; decide), _, _, rfl, ?_⟩
    have M1 := M.setF (s' := { s with name := n }) rfl rfl rfl
    refine re_var 0 rfl ⟨A.m, C, A.dx, _, rfl, M1.ins, T.cls, T.at_, (by show 13 < 1000; decide), rfl, ?_⟩
    exact q _ (exM.om.trans exM.om) trivial ((M1.setF (s' := { s with name := n, at_ := j }) rfl rfl rfl).le (Nat.le_succ _))
end
end Fl
end
section
set_option Elab.async false
set_option linter.all false
set_option maxRecDepth 100000
set_option maxHeartbeats 4000000
namespace Fl
open PySem PySem.Spec PyProof.Rows L2 Fx
open Evl (Ex fresh_back)
/-! ### marks that are passed; one line -/
structure IsPast (ds : List PyData) (i j : Nat) : Prop where
  le : i ≤ j
  mark : ∀ k, i ≤ k → k < j → ∃ d, ds[k]? = some d ∧ wordD d = "mark"
  here : ∃ d, ds[j]? = some d ∧ wordD d ≠ "mark"
theorem IsPast.uniq {ds : List PyData} {i j k : Nat} (h : IsPast ds i j) (h' : IsPast ds i k) : j = k := by
  rcases Nat.lt_trichotomy j k with z | z | z
  · obtain ⟨d, h1, h2⟩ := h.here
    obtain ⟨d', g1, g2⟩ := h'.mark j h.le z
    rw [h1] at g1; cases g1; exact absurd g2 h2
  · exact z
  · obtain ⟨d, h1, h2⟩ := h'.here
    obtain ⟨d', g1, g2⟩ := h.mark k h'.le z
    rw [h1] at g1; cases g1; exact absurd g2 h2
/-- there is a line that is no mark behind: the next one -/
theorem past_ex {ds : List PyData} : ∀ (m i : Nat), (∃ j d, i ≤ j ∧ j < i + m ∧ ds[j]? = some d ∧ wordD d ≠ "mark") → (∀ k, k < ds.length → True) → ∃ j, IsPast ds i j
  | 0, i, ⟨j, d, h1, h2, _⟩, _ => absurd h2 (by omega)
  | m + 1, i, ⟨j, d, h1, h2, h3, h4⟩, h => by
    cases hd : ds[i]? with
    | none =>
      have := (List.getElem?_eq_some_iff.mp h3).1
      have := List.getElem?_eq_none_iff.mp hd
      omega
    | some x =>
      by_cases hx : wordD x = "mark"
      · have hj : i ≠ j := fun z => by rw [← z, hd] at h3; cases h3; exact h4 hx
        obtain ⟨k, hk⟩ := past_ex m (i + 1) ⟨j, d, by omega, by omega, h3, h4⟩ h
        refine ⟨k, by have := hk.le; omega, fun l h1 h2 => ?_, hk.here⟩
        by_cases e : l = i
        · rw [e]; exact ⟨x, hd, hx⟩
        · exact hk.mark l (by omega) h2
      · exact ⟨i, Nat.le_refl _, fun k h1 h2 => absurd h2 (by omega), x, hd, hx⟩
structure CodeM (K : PySem.W.Frag) (H : Hp) (A : MA) (ys : List Str) (t : Str → Addr) (xs : Str → List V) (mk : Str → Addr) (ls : Str → List PyData) (ns : List Int) : Prop where
  cd : H A.cd = some (.dK (dN ys t))
  mks : H A.mks = some (.dK (dN ys mk))
  seq : ∀ n ∈ ys, SqT K H (t n) (xs n)
  dat : ∀ n ∈ ys, DA K H (xs n) (ls n)
  ok : ∀ n ∈ ys, ∀ d ∈ ls n, isLineD d = true
  mkd : ∀ n ∈ ys, H (mk n) = some (.dK (marksV (ls n)))
  ip : SqT K H A.ip (ns.map V.int)
  num : ∀ n ∈ ns, isNum n
section
variable {K : PySem.W.Frag} {C : Addr} {ys : List Str} {H H' : Hp} {A : MA} {s : MSt} {cap : Nat} {t : Str → Addr} {xs : Str → List V} {mk : Str → Addr} {ls : Str → List PyData} {ns : List Int}
theorem exM.dict {b : Addr} {kvs : List (Key × V)} (M : Mach K C ys H A s cap) (e : exM A H H') (h : H b = some (.dK kvs)) : H' b = some (.dK kvs) :=
  e _ _ h (ne_kind h M.ins (fun z => nomatch z)) (ne_kind h M.rg (fun z => nomatch z)) (ne_kind h M.sk (fun z => nomatch z)) (ne_kind h M.wr (fun z => nomatch z))
theorem exM.tup {b : Addr} {zs : List V} (M : Mach K C ys H A s cap) (e : exM A H H') (h : H b = some (.tup zs)) : H' b = some (.tup zs) :=
  e _ _ h (ne_kind h M.ins (fun z => nomatch z)) (ne_kind h M.rg (fun z => nomatch z)) (ne_kind h M.sk (fun z => nomatch z)) (ne_kind h M.wr (fun z => nomatch z))
theorem CodeM.exM (D : CodeM K H A ys t xs mk ls ns) (M : Mach K C ys H A s cap) (e : exM A H H') : CodeM K H' A ys t xs mk ls ns :=
  ⟨e.dict M D.cd, e.dict M D.mks, fun n hn => sqt_exM M e (D.seq n hn), fun n hn => DA.lines (D.ok n hn) (D.dat n hn) fun a zs h => sqt_exM M e h, D.ok, fun n hn => e.dict M (D.mkd n hn), sqt_exM M e D.ip, D.num⟩
theorem CodeM.ex (D : CodeM K H A ys t xs mk ls ns) (e : Ex H H') : CodeM K H' A ys t xs mk ls ns :=
  ⟨e _ _ D.cd, e _ _ D.mks, fun n hn => Evl.ex_t e (D.seq n hn), fun n hn => (D.dat n hn).mono e, D.ok, fun n hn => e _ _ (D.mkd n hn), Evl.ex_t e D.ip, D.num⟩
/-- the parts behind a line's word, as values -/
def leafV : PyData → V
  | .int i => .int i
  | .str x => .str x
  | _ => .non
def valsD : PyData → List V
  | .tuple (_ :: ds) => ds.map leafV
  | _ => []
theorem leaf_vals : ∀ {ds : List PyData} {vs : List V}, (∀ d ∈ ds, leafD d) → DA K H vs ds → vs = ds.map leafV
  | [], _, _, h => by cases h; rfl
  | d :: ds, _, hl, h => by
    cases h with
    | cons a b =>
      rw [List.map_cons, ← leaf_vals (fun x hx => hl x (List.mem_cons_of_mem _ hx)) b]
      rcases hl d List.mem_cons_self with ⟨i, rfl⟩ | ⟨x, rfl⟩
      · cases a; rfl
      · cases a; rfl
/-- the line where the machine stands -/
theorem CodeM.line (D : CodeM K H A ys t xs mk ls ns) {n : Str} (hn : n ∈ ys) {i : Nat} {d : PyData} (hd : (ls n)[i]? = some d) : ∃ a, (xs n)[i]? = some (.ref a) ∧ SqT K H a (.str (wordD d) :: valsD d) ∧ isLineD d = true := by
  obtain ⟨u, hu, hdu⟩ := (D.dat n hn).get hd
  have hok := D.ok n hn d (List.mem_of_getElem? hd)
  obtain ⟨w, zs, rfl, hl, _⟩ := line_leaf hok
  cases hdu with
  | tup sq ha =>
    cases ha with
    | cons h0 ht =>
      cases h0
      rw [leaf_vals hl ht] at sq
      exact ⟨_, hu, sq, hok⟩
end
section
variable {P : Program} {w : World} {K : PySem.W.Frag} {mg : Str → Option Value} {base : Heap} {f : Addr} {fd : FuncData} {C : Addr}
def sp_pass (K : PySem.W.Frag) (C : Addr) : Sp := fun vs H Q _ => ∃ ys A s cap t xs mk ls ns j, vs = [.ref A.m] ∧ Mach K C ys H A s cap ∧ CodeM K H A ys t xs mk ls ns ∧ s.name ∈ ys ∧ IsPast (ls s.name) s.at_ j ∧ ∀ H', exM A H H' → Mach K C ys H' A { s with at_ := j } cap → Q .non H'
abbrev nm_pm : List Str := ["machine", "lines"]
theorem sc_pm : FnScope nm_pm ["machine"] (defScope s_pass_marks) := ⟨rfl, rfl, rfl, by decide +kernel, rfl, by decide +kernel, by decide +kernel⟩
theorem ok_pass (F : Fun K "pass_marks" "pass_marks" s_pass_marks f fd) (T : MC K C) : FnOk P w K mg base CX0 1 f fd ["machine"] (sp_pass K C) := by
  refine F.ok sc_pm (fun vs H Q E h => ?_) (fun cdv Ar outer sh H vs Q E hr h => ⟨RB _ _, pss_RB, ?_⟩)
  · obtain ⟨_, _, _, _, _, _, _, _, _, _, rfl, _⟩ := h; rfl
  obtain ⟨ys, A, s, cap, t, xs, mk, ls, ns, j, rfl, M, D, hn, hp, q⟩ := h
  refine rb_cons <| rs_set 1 (by exact sc_pm.nd) <| re_dget (hu_of hr) <| re_mget 0 T T.code M rfl rfl <| re_mget 0 T T.name M rfl rfl ⟨A.cd, _, .inr s.name, .ref (t s.name), rfl, D.cd, rfl, dN_get hn, ?_⟩
  refine rb_one <| rs_while (m0 := j - s.at_) PassesOwn.never (fun m σ' H' => ∃ i, m = j - i ∧ s.at_ ≤ i ∧ i ≤ j ∧ σ' = [some (.ref A.m), some (.ref (t s.name))] ∧ exM A H H' ∧ Mach K C ys H' A { s with at_ := i } cap) ⟨s.at_, rfl, Nat.le_refl _, hp.le, rfl, exM.refl, M⟩ ?_
  rintro m σ' H1 ⟨i, rfl, hi, hij, rfl, e1, M1⟩
  have D1 := D.exM M e1
  have hdi : ∃ d, (ls s.name)[i]? = some d ∧ (wordD d = "mark" ↔ i < j) := by
    by_cases z : i < j
    · obtain ⟨d, h1, h2⟩ := hp.mark i hi z
      exact ⟨d, h1, ⟨fun _ => z, fun _ => h2⟩⟩
    · obtain ⟨d, h1, h2⟩ := hp.here
      have : i = j := by omega
      rw [this]
      exact ⟨d, h1, ⟨fun x => absurd x h2, fun x => absurd x (Nat.lt_irrefl _)⟩⟩
  obtain ⟨d, hd, hw⟩ := hdi
  obtain ⟨a, hxa, hqa, hok⟩ := D1.line hn hd
  refine rt_cmp op_eq <| re_ixT <| re_ixT <| re_var 1 rfl <| re_mget 0 T T.at_ M1 rfl rfl ⟨t s.name, xs s.name, (i : Nat), .ref a, rfl, rfl, D1.seq _ hn, atI_nat hxa, re_int ⟨a, _, 0, .str (wordD d), rfl, rfl, hqa, atI_nat (j := 0) rfl, re_str ⟨rfl, _, rfl, ?_⟩⟩⟩
  rw [eqK]
  by_cases z : i < j
  · rw [decide_eq_true (hw.mpr z)]
    refine ifT ⟨fun σ' H' => ∃ m', m' < j - i ∧ ∃ i', m' = j - i' ∧ s.at_ ≤ i' ∧ i' ≤ j ∧ σ' = [some (.ref A.m), some (.ref (t s.name))] ∧ exM A H H' ∧ Mach K C ys H' A { s with at_ := i' } cap, fun σ' H' h => h, ?_⟩
    refine rb_one <| rs_fldadd <| re_var 0 rfl ⟨A.m, C, A.dx, _, (i : Nat), rfl, M1.ins, T.cls, T.at_, rfl, re_int ⟨1, A.dx, _, rfl, M1.ins, (by show 13 < 1000; decide), ?_⟩⟩
    exact ⟨j - (i + 1), by omega, i + 1, rfl, by omega, z, rfl, e1.trans exM.om, M1.setF (s' := { s with at_ := i + 1 }) rfl rfl rfl⟩
  · rw [decide_eq_false (fun x => z (hw.mp x))]
    have : i = j := by omega
    subst this
    exact ifF (q H1 e1 M1)
/-- for each word what its def asks and does -/
def preL (K : PySem.W.Frag) : List (Str × PreM) := [("num", pNum), ("copy", pCopy), ("add", pArith fun x y => x + y), ("sub", pArith fun x y => x - y), ("mul", pArith fun x y => x * y), ("addr", pNum), ("same", pSame), ("less", pLess), ("in", pIn K), ("out", pOut), ("push", pPush), ("pop", pPop), ("read", pRead), ("write", pWrite), ("jump", pJump), ("if", pIf true), ("unless", pIf false), ("call", pCall), ("callr", pCallr), ("tail", pTail), ("back", pBack), ("stop", pStop)]
structure Acts (P : Program) (w : World) (K : PySem.W.Frag) (mg : Str → Option Value) (base : Heap) (C : Addr) : Prop where
  ex : ∃ a es n, mg "ACTIONS" = some (.ref a) ∧ KDict K w a es n ∧ ∀ z p, (z, p) ∈ preL K → ∃ g, PySem.W.nsIn K a z = some (some (.ref g)) ∧ Held P w K mg base 2 g (sp_am K C z p)
/-- behind a line: the end, or the next line that is no mark -/
def Cont (K : PySem.W.Frag) (C : Addr) (ys : List Str) (A : MA) (ls : Str → List PyData) (cap : Nat) (H : Hp) (Q : VK) (s' : MSt) (φ : Hp → Prop) : Prop :=
  ((∃ x, s'.ended = .str x) ∧ ∀ H2, exM A H H2 → φ H2 → Mach K C ys H2 A s' (cap + 1) → Q .non H2) ∨
  (s'.ended = .non ∧ s'.name ∈ ys ∧ ∃ j, IsPast (ls s'.name) s'.at_ j ∧ ∀ H2 H3, exM A H H2 → φ H2 → Mach K C ys H2 A s' (cap + 1) → exM A H2 H3 → Mach K C ys H3 A { s' with at_ := j } (cap + 1) → Q .non H3)
def sp_do_line (K : PySem.W.Frag) (C : Addr) : Sp := fun vs H Q _ => ∃ ys A s cap t xs mk ls ns d p, vs = [.ref A.m] ∧ cap ≤ 50000 ∧ Mach K C ys H A s cap ∧ CodeM K H A ys t xs mk ls ns ∧ s.name ∈ ys ∧ (ls s.name)[s.at_]? = some d ∧ (wordD d, p) ∈ preL K ∧
  ∀ H1, exM A H H1 → Mach K C ys H1 A { s with at_ := s.at_ + 1 } cap → CodeM K H1 A ys t xs mk ls ns → ∀ q : MSt → (Hp → Prop) → Prop, (∀ s' φ, Cont K C ys A ls cap H Q s' φ → q s' φ) → p ys A { s with at_ := s.at_ + 1 } (valsD d) H1 q
abbrev nm_dl : List Str := ["machine", "line", "action"]
theorem sc_dl : FnScope nm_dl ["machine"] (defScope s_do_line) := ⟨rfl, rfl, rfl, by decide +kernel, rfl, by decide +kernel, by decide +kernel⟩
theorem ok_do_line (F : Fun K "do_line" "do_line" s_do_line f fd) (T : MC K C) (AC : Acts P w K mg base C) (c1 : Cl P w K mg base CX0 1 "pass_marks" (sp_pass K C)) : FnOk P w K mg base CX0 3 f fd ["machine"] (sp_do_line K C) := by
  refine F.ok sc_dl (fun vs H Q E h => ?_) (fun cdv Ar outer sh H vs Q E hr h => ⟨RB _ _, pss_RB, ?_⟩)
  · obtain ⟨_, _, _, _, _, _, _, _, _, _, _, rfl, _⟩ := h; rfl
  obtain ⟨ys, A, s, cap, t, xs, mk, ls, ns, d, p, rfl, hc, M, D, hn, hd, hp, q⟩ := h
  obtain ⟨a, hxa, hqa, hok⟩ := D.line hn hd
  obtain ⟨ta, es, n, mA, KD, hact⟩ := AC.ex
  obtain ⟨g, hg, held⟩ := hact _ _ hp
  refine rb_cons <| rs_set 1 (by exact sc_dl.nd) <| re_ixT <| re_dget (hu_of hr) <| re_mget 0 T T.code M rfl rfl <| re_mget 0 T T.name M rfl rfl ⟨A.cd, _, .inr s.name, .ref (t s.name), rfl, D.cd, rfl, dN_get hn, re_mget 0 T T.at_ M rfl rfl ⟨t s.name, xs s.name, (s.at_ : Nat), .ref a, rfl, rfl, D.seq _ hn, atI_nat hxa, ?_⟩⟩
  refine rb_cons <| rs_fldadd <| re_var 0 rfl ⟨A.m, C, A.dx, _, (s.at_ : Nat), rfl, M.ins, T.cls, T.at_, rfl, re_int ⟨1, A.dx, _, rfl, M.ins, (by show 13 < 1000; decide), ?_⟩⟩
  have e1 : exM A H (upd H A.m (.ins C A.dx (flds A { s with at_ := s.at_ + 1 }))) := exM.om
  have M1 := M.setF (s' := { s with at_ := s.at_ + 1 }) rfl rfl rfl
  show RB _ _ _ _ (upd H A.m (.ins C A.dx (flds A { s with at_ := s.at_ + 1 })))
  generalize upd H A.m (.ins C A.dx (flds A { s with at_ := s.at_ + 1 })) = H1 at *
  have D1 := D.exM M e1
  have hq1 := sqt_exM M e1 hqa
  refine rb_cons <| rs_set 2 (by exact sc_dl.nd) <| re_of (pe_ix ix_kdict pe_RE pe_RE (fun _ _ => rfl)) ?_
  refine re_glob (v := .ref ta) mA rfl <| re_lat 1 hq1 (atI_nat (j := 0) rfl) rfl ⟨ta, wordD d, .ref g, rfl, rfl, ⟨es, n, _, KD.at_, KD.lit, hg, rfl⟩, ?_⟩
  refine rb_cons <| rs_expr <| re_callL 2 held hr rfl <| ra_cons <| re_var 0 rfl <| ra_cons <| re_var 1 rfl <| ra_nil ⟨ys, A, { s with at_ := s.at_ + 1 }, cap, a, valsD d, rfl, hq1, hc, M1, q H1 e1 M1 D1 _ fun s' φ hcont H2 e2 hφ M2 => ?_⟩
  rcases hcont with ⟨⟨x, hx⟩, q⟩ | ⟨hx, hn', j, hj, q⟩
  · refine rb_one <| rs_if <| rt_cmp op_isN <| re_mget 0 T T.ended M2 rfl rfl <| re_non ⟨rfl, _, rfl, ?_⟩
    rw [hx]
    exact ifF <| rb_nil <| q H2 (e1.trans e2) hφ M2
  · refine rb_one <| rs_if <| rt_cmp op_isN <| re_mget 0 T T.ended M2 rfl rfl <| re_non ⟨rfl, _, rfl, ?_⟩
    rw [hx]
    exact ifT <| rb_one <| rs_expr <| re_call c1 hr <| ra_cons <| re_var 0 rfl <| ra_nil ⟨ys, A, s', cap + 1, t, xs, mk, ls, ns, j, rfl, M2, D1.exM M1 e2, hn', hj, fun H3 e3 M3 => q H2 H3 (e1.trans e2) hφ M2 e3 M3⟩
end
end Fl
end
section
set_option Elab.async false
set_option linter.all false
set_option maxRecDepth 100000
set_option maxHeartbeats 4000000
namespace Fx
open PySem PySem.Spec PyProof.Rows L2
open Evl (Ex fresh_back)
section
variable {X : Cx} {kx vx c tg iter e : Expr} {σ : L2.St} {H : Hp} {Q : VK} {pos : Pos} {scope : Scope} {own : List (Str × Nat)} {g : TG}
/-- {kx: vx for target in iter} whose turns change what stands in the heap -/
theorem re_dcS (hc : X.calm = true) (hN : X.N.Nodup) (ok : BlkOk X.N X.env.scope scope own) (hg : ∀ s H C cl fp, PG (Blk X scope s H C cl fp) tg g) (gm : GoodG g)
    (h : RI X tg iter σ H fun J H1 => ∃ (n : Nat) (G : Hp → Prop) (Y : Nat → Hp → V → Hp → Prop) (S : Addr → Nat → Hp → List (Key × V) → Prop), Walk J n G Y ∧ n ≤ 40000 ∧ (∀ Dl i H' acc, S Dl i H' acc → G H') ∧ (∀ Dl, H1 Dl = none → S Dl 0 (upd H1 Dl (.dK [])) []) ∧
      (∀ Dl i x H2 H3 acc, H1 Dl = none → i < n → H2 Dl = some (.dK acc) → acc.length ≤ i → S Dl i H2 acc → Y i H2 x H3 → g x (wipe σ (own.map (·.2))) H3 fun σ2 H4 => wipe σ2 (own.map (·.2)) = wipe σ (own.map (·.2)) ∧ ∀ s0 H0 C cl fp,
        RE (Blk X scope s0 H0 C cl fp) kx σ2 H4 fun y H5 => ∃ k, y = kV k ∧ ∀ s0 H0 C cl fp, RE (Blk X scope s0 H0 C cl fp) vx σ2 H5 fun z H6 => H6 Dl = some (.dK acc) ∧ S Dl (i + 1) (upd H6 Dl (.dK (putK acc k z))) (putK acc k z)) ∧
      ∀ Dl acc H2, H1 Dl = none → H2 Dl = some (.dK acc) → acc.length ≤ n → S Dl n H2 acc → Q (.ref Dl) H2)
    (hs : ∀ x, foldedSetIterable iter X.env x = pure x := by intro _; rfl) : RE X (.DictComp kx vx [⟨tg, iter, [], 0⟩] scope pos) σ H Q := by
  refine re_of (pe_dc (own := own) (g := g) (tt := tYes) (tk := fun σ H Q => ∀ s0 H0 C cl fp, RE (Blk X scope s0 H0 C cl fp) kx σ H Q) (tv := fun σ H Q => ∀ s0 H0 C cl fp, RE (Blk X scope s0 H0 C cl fp) vx σ H Q) hc hN pi_RI ok hg
    (fun _ _ _ _ _ => pts_nil) (fun s H C cl fp => ⟨fun pins s' σ H' Q I q => (q s H C cl fp).run pins s' I⟩) (fun s H C cl fp => ⟨fun pins s' σ H' Q I q => (q s H C cl fp).run pins s' I⟩) hs) ?_
  refine h.mono fun J H1 ⟨n, G, Y, S, w, hn, hG, h0, turn, fin⟩ Dl hD => ?_
  refine dc_walk w (g := g) (tt := tYes) (tk := fun σ H Q => ∀ s0 H0 C cl fp, RE (Blk X scope s0 H0 C cl fp) kx σ H Q) (tv := fun σ H Q => ∀ s0 H0 C cl fp, RE (Blk X scope s0 H0 C cl fp) vx σ H Q) (fun i H' => ∃ acc, H' Dl = some (.dK acc) ∧ acc.length ≤ i ∧ S Dl i H' acc)
    ⟨[], upd_same, Nat.le_refl _, h0 Dl hD⟩ (fun i H' _ ⟨acc, _, _, p⟩ => hG Dl i H' acc p) (fun i x H2 H3 hi p y => ?_) fun H' ⟨acc, a1, a2, a3⟩ => fin Dl acc H' hD a1 a2 a3
  obtain ⟨acc, a1, a2, a3⟩ := p
  refine gm _ _ _ _ _ (fun σ2 H4 ⟨hw, t⟩ => ⟨hw, ?_⟩) (turn Dl i x H2 H3 acc hD hi a1 a2 a3 y)
  simp only [tYes, if_true]
  intro s0 H0 C cl fp
  refine (t s0 H0 C cl fp).mono fun y' H5 ⟨k, ek, t2⟩ => ?_
  intro s1 H1' C1 cl1 fp1
  refine (t2 s1 H1' C1 cl1 fp1).mono fun z' H6 ⟨h6, k2⟩ => ?_
  exact ⟨acc, k, ek, h6, Nat.lt_of_lt_of_le (show acc.length < 100000 by omega) (by decide), putK acc k z', upd_same, Nat.le_trans (length_putK _ _ _) (by omega), k2⟩
/-- what e gives is changed no more -/
theorem re_frz (h : RE X e σ H fun v H1 => ∃ d u, H1 d = some u ∧ Mut (some u) ∧ ∀ od, Q v (upd H1 d (.frz od u))) : RE X e σ H Q :=
  RE.made fun pins s I => thn (h.run pins s I) fun v s1 ⟨x, H1, I1, r, d, u, hd, mu, q⟩ => by
    obtain ⟨od, I2⟩ := I1.lock hd mu
    exact ⟨x, _, I2, r, q od⟩
end
end Fx
namespace Fl
open PySem PySem.Spec PyProof.Rows L2 Fx
open Evl (Ex fresh_back)
section
variable {a : Addr} {H H' H'' : Hp}
theorem exBut.ei {C dx : Addr} {fs : List (Str × V)} (e : exBut a H H') (h : H a = some (.ins C dx fs)) : Ei H H' := fun b u n hb => by
  rcases hb with hb | ⟨o, hb⟩
  · exact .inl (e b _ hb fun z => by rw [z, h] at hb; exact n _ _ _ (Option.some.inj hb).symm)
  · exact .inr ⟨o, e b _ hb fun z => by rw [z, h] at hb; cases hb⟩
theorem ProgN.ei {K : PySem.W.Frag} {C CP pa pdx g dx : Addr} {ys : List Str} {t : Str → Addr} {xs : Str → List V} {ls : Str → List PyData} {fs : List (Str × V)} (p : ProgN K CP H pa pdx g ys t xs ls) (e : exBut a H H') (h : H a = some (.ins C dx fs)) (n : pa ≠ a) : ProgN K CP H' pa pdx g ys t xs ls :=
  ⟨e _ _ p.ins n, e _ _ p.dict (fun z => by have hd := p.dict; rw [z, h] at hd; cases hd), fun n hn => ei_t (e.ei h) (p.seq n hn), fun n hn => (p.dat n hn).monoI (e.ei h)⟩
theorem ProgN.ex {K : PySem.W.Frag} {CP pa pdx g : Addr} {ys : List Str} {t : Str → Addr} {xs : Str → List V} {ls : Str → List PyData} (p : ProgN K CP H pa pdx g ys t xs ls) (e : Ex H H') : ProgN K CP H' pa pdx g ys t xs ls :=
  ⟨e _ _ p.ins, e _ _ p.dict, fun n hn => Evl.ex_t e (p.seq n hn), fun n hn => (p.dat n hn).mono e⟩
end
section
variable {X : Cx} {e : Expr} {σ : L2.St} {H : Hp} {D : Ends} {f x : Str} {pos p tpos : Pos} {C a : Addr}
/-- self.f = value, while self is made -/
theorem rs_ini (c : Cls X.K C) (na : NoAttr X.K C f) (hs : σ[0]? = some (some (.ref a))) (h : RE X e σ H fun y H1 => ∃ dx fs fs', H1 a = some (.ins C dx fs) ∧ fs.length < 1000 ∧ putF f y fs = fs' ∧ ∀ H', exBut a H1 H' → H' a = some (.ins C dx fs') → D.nx σ H')
    (hsw : swapsWith e (some (.Attribute (.Name x p) f tpos)) pos.line X.env = pure false := by rfl) (hN : X.N[0]? = some x := by rfl) (hv : Vis X.env.scope x := by first | exact Or.inl rfl | exact Or.inr (Or.inl rfl) | exact Or.inr (Or.inr rfl))
    (hd : (x == ("__debug__" : Str)) = false := by decide) (hcd : (x == ("__classdict__" : Str)) = false := by decide) : RS X (.Assign [.Attribute (.Name x p) f tpos] e pos) D σ H :=
  rs_fld (h.mono fun y H1 ⟨dx, fs, fs', ha, hl, hp, q⟩ => re_var 0 hs ⟨a, C, dx, fs, rfl, ha, c, na, hl, by rw [hp]; exact q _ exBut.put upd_same⟩ hN hv hd hcd) hsw
end
section
variable {P : Program} {w : World} {K : PySem.W.Frag} {mg : Str → Option Value} {base : Heap} {f : Addr} {fd : FuncData}
theorem da_ints {H : Hp} : ∀ ns : List Int, DA K H (ns.map V.int) (ns.map PyData.int)
  | [] => .nil
  | i :: r => .cons (.int i) (da_ints r)
theorem isNumD_of {i : Int} (h : isNum i) : isNumD (.int i) = true := by
  show (decide _ && decide _) = true
  rw [decide_eq_true h.1, decide_eq_true h.2]; rfl
def sp_ans (K : PySem.W.Frag) : Sp := fun vs H Q _ => ∃ (la : Addr) (ns : List Int), vs = [.ref la] ∧ SqL K H la (ns.map V.int) ∧ (∀ n ∈ ns, isNum n) ∧ ns.length ≤ 40000 ∧ ∀ H', Ex H H' → Q (.bl true) H'
abbrev nm_ans : List Str := ["value", "part"]
theorem sc_ans : FnScope nm_ans ["value"] (defScope s_are_numbers) := ⟨rfl, rfl, rfl, by decide +kernel, rfl, by decide +kernel, by decide +kernel⟩
theorem ok_ans (F : Fun K "are_numbers" "are_numbers" s_are_numbers f fd) (G : Gb mg) (c1 : Cl P w K mg base CX0 1 "is_list" (sp_is_list K)) (c2 : Cl P w K mg base CX0 2 "is_number" (sp_is_number K)) : FnOk P w K mg base CX0 3 f fd ["value"] (sp_ans K) := by
  refine F.ok sc_ans (fun vs H Q E h => ?_) (fun cdv A outer s H vs Q E hr h => ⟨RB _ _, pss_RB, ?_⟩)
  · obtain ⟨_, _, rfl, _⟩ := h; rfl
  obtain ⟨la, ns, rfl, hq, hns, hlen, q⟩ := h
  refine rb_one <| rs_ret <| re_and <| re_call c1 hr <| ra_cons <| re_var 0 rfl <| ra_nil ⟨.ref la, .list (ns.map PyData.int), rfl, .lst hq (da_ints ns), trivial, fun r H1 e1 hr1 => ?_⟩
  subst hr1
  have hq1 := Evl.ex_l e1 hq
  refine ⟨true, rfl, ifT <| re_one <| re_cb (cr_all rfl) G.all <| ra_cons <| re_lc (own := [("part", 1)]) (g := gName 1) rfl (by exact sc_ans.nd) (blkOk_by (N := nm_ans) (sc := defScope s_are_numbers) (by decide +kernel)) (fun _ _ _ _ _ => pg_name (i := 1) (by exact sc_ans.nd) rfl (Or.inl rfl)) good_name ?_⟩
  refine ri_list <| re_var 0 rfl ⟨la, ns.map V.int, rfl, hq1, _, _, _, fun i zs => zs = (ns.take i).map fun _ => V.bl true, walk_list, by rw [List.length_map]; exact hlen, fun H' e => Evl.ex_l e hq1, rfl, ?_, ?_⟩
  · rintro i x Ha Hb hi ea ⟨rfl, hx⟩
    rw [List.getElem?_map] at hx
    cases hy : ns[i]? with
    | none => rw [hy] at hx; cases hx
    | some n =>
      rw [hy] at hx
      obtain rfl := Option.some.inj hx
      refine ⟨Ex.refl _, rfl, Ex.refl _, fun s0 H0 C' cl fp => re_call c2 hr <| ra_cons <| re_var 1 rfl <| ra_nil ⟨.int n, .int n, rfl, .int n, trivial, fun r H5 e5 h5 => ⟨e5, fun acc hacc => ?_⟩⟩⟩
      show acc ++ [r] = (ns.take (i + 1)).map fun _ => V.bl true
      rw [hacc, take_snoc hy, List.map_append, h5, isNumD_of (hns n (List.mem_of_getElem? hy))]; rfl
  rintro p zs H2 hp e2 h2 hl2 rfl
  have hz : (ns.take (ns.map V.int).length).map (fun _ => V.bl true) = (ns.map fun _ => true).map V.bl := by
    rw [List.length_map, List.take_length, List.map_map]; rfl
  refine ra_nil ⟨p, ns.map fun _ => true, rfl, .inl (.inl (by rw [h2, hz])), ?_⟩
  have ha : (ns.map fun _ => true).all id = true := by
    rw [List.all_eq_true]
    intro x hx
    obtain ⟨_, _, rfl⟩ := List.mem_map.mp hx
    rfl
  rw [ha]
  exact q _ (e1.trans e2)
/-- the functions of a program -/
def sp_functionsN (K : PySem.W.Frag) (C : Addr) : Sp := fun vs H Q _ => ∃ a dx g ys t xs ls, vs = [.ref a] ∧ ProgN K C H a dx g ys t xs ls ∧ ∀ p, H p = none → Q (.ref p) (upd H p (.dK (dN ys t)))
theorem ok_functionsN {C : Addr} {b : Bool} (F : Fun K "functions" "Program.functions" s_functions f fd) (G : Gb mg) (T : PCb K C b) : FnOk P w K mg base CX0 1 f fd ["self"] (sp_functionsN K C) := by
  refine F.ok sc_functions (fun vs H Q E h => ?_) (fun cdv A outer s H vs Q E hr h => ⟨RB _ _, pss_RB, ?_⟩)
  · obtain ⟨_, _, _, _, _, _, _, rfl, _⟩ := h; rfl
  obtain ⟨a, dx, g, ys, t, xs, ls, rfl, pr, q⟩ := h
  exact rb_one (rs_ret (re_ct call_dictD G.dict (ra_cons (re_fld (re_var 0 rfl ⟨a, C, dx, _, _, rfl, pr.ins, T.cls, T.nF, rfl, ra_nil ⟨g, _, rfl, .inl pr.dict, fun p hp => q p hp⟩⟩)))))
/-- the marks, in a new dict -/
def sp_marks_new (K : PySem.W.Frag) : Sp := fun vs H Q _ => ∃ v d, vs = [v] ∧ D K H v d ∧ Lines d ∧ ∀ p H', H p = none → Ex H H' → H' p = some (.dK (marksV (itemsD d))) → Q (.ref p) H'
theorem ok_marks_new (F : Fun K "marks_of" "marks_of" s_marks_of f fd) (G : Gb mg) : FnOk P w K mg base CX0 1 f fd ["lines"] (sp_marks_new K) := by
  refine F.ok sc_marks_of (fun vs H Q E h => ?_) (fun cdv A outer s H vs Q E hr h => ⟨RB _ _, pss_RB, ?_⟩)
  · obtain ⟨_, _, rfl, _⟩ := h; rfl
  obtain ⟨v, d, rfl, hd, hl, q⟩ := h
  refine rb_one (rs_ret ?_)
  refine re_dcIf (own := [("at", 1), ("line", 2)]) (g := gTup K 2 (gCons (gName 1) (gCons (gName 2) gNil))) rfl sc_marks_of.nd (blkOk_by (N := ["lines", "at", "line"]) (sc := defScope s_marks_of) (by decide +kernel))
    (fun _ _ _ _ _ => pg_tup rfl (pgs_cons (pg_name (i := 1) sc_marks_of.nd rfl (Or.inl rfl)) (pgs_cons (pg_name (i := 2) sc_marks_of.nd rfl (Or.inl rfl)) pgs_nil))) good_tup2 ?_
  refine ri_enumD hd hl.isl G.enumerate fun J Gx xs wk hG ha => re_var 0 rfl ⟨rfl, Ex.refl _, _, _, _, fun i ys => ys = marksTo (itemsD d) i, wk, ?_, hG, rfl, ?_, ?_⟩
  · rw [ha.length]; exact Nat.le_trans hl.len (by decide)
  · rintro i x H2 H3 hi e2 ⟨t, x, y, rfl, hT, rfl, hx, hy⟩
    obtain rfl := Option.some.inj hx
    obtain ⟨dy, hdy, hyy⟩ := ha.getV hy
    have hly : isLineD dy = true := hl.ok _ (List.mem_of_getElem? hdy)
    have e3 : Ex H2 (upd H2 t (.tup [V.int (i : Nat), y])) := Ex.new hT
    have hyd := hyy.mono (e2.trans e3)
    refine ⟨e3, t, [V.int (i : Nat), y], rfl, .inl (.inl upd_same), rfl, _, [y], rfl, y, [], rfl, rfl, rfl, Ex.refl _, fun s0 H0 C cl fp => ?_⟩
    refine rt_cmp op_eq (re_word (re_var 2 rfl ⟨dy, hyd, hly, re_str ⟨rfl, _, rfl, Ex.refl _, fun hb acc hacc => ?_, fun hb s0 H0 C cl fp => ?_⟩⟩))
    · rw [eqK] at hb
      subst hacc
      exact (marks_no hdy (of_decide_eq_false hb)).symm
    · rw [eqK] at hb
      have hw := of_decide_eq_true hb
      refine re_part1 (re_var 2 rfl ⟨dy, _, _, _, hyd, hly, hw, form_mark, rfl, fun u hu hf => ?_⟩)
      rw [mark_lab hf] at hu
      cases hu
      refine ⟨Ex.refl _, .inr (labD dy), rfl, fun s0 H0 C cl fp => re_var 1 rfl ⟨Ex.refl _, fun acc hacc => ?_⟩⟩
      subst hacc
      exact (marks_yes hdy hw).symm
  · rintro p ys H2 hp e2 h2 hlen rfl
    refine q p _ hp e2 ?_
    rw [h2, ha.length]
    rfl
end
end Fl
end
section
set_option Elab.async false
set_option linter.all false
set_option maxRecDepth 100000
set_option maxHeartbeats 4000000
namespace Fl
open PySem PySem.Spec PyProof.Rows L2 Fx
open Evl (Ex fresh_back)
/-! ### a machine is made -/
def st0 (j : Nat) : MSt := ⟨List.replicate 6 (.int 0), false, [], .str "end", .non, "main", j, 0, []⟩
/-- a property of a class -/
structure Prp (P : Program) (w : World) (K : PySem.W.Frag) (mg : Str → Option Value) (base : Heap) (k : Nat) (C : Addr) (m : Str) (sp : Sp) : Prop where
  ex : ∃ pr g fd, PropOf K C m pr g ∧ L2.Binds K fd ["self"] [] ∧ FnOk P w K mg base CX0 k g fd ["self"] sp
section
variable {P : Program} {w : World} {K : PySem.W.Frag} {mg : Str → Option Value} {base : Heap} {f : Addr} {fd : FuncData}
def sp_minit (K : PySem.W.Frag) (C CP : Addr) (b : Bool) : Sp := fun vs H Q _ => ∃ (a dx pa pdx g : Addr) (ys : List Str) (t : Str → Addr) (xs : Str → List V) (ls : Str → List PyData) (ia : Addr) (ns : List Int) (j : Nat), vs = [.ref a, .ref pa, .ref ia] ∧ H a = some (.ins C dx []) ∧ ProgN K CP H pa pdx g ys t xs ls ∧ (∀ n ∈ ys, Lines (.tuple (ls n))) ∧ ("main" : Str) ∈ ys ∧ ys.Nodup ∧ ys.length ≤ 24 ∧ H ia = some (.lst (ns.map V.int)) ∧ ns.length ≤ 40000 ∧ (∀ n ∈ ns, isNum n) ∧ IsPast (ls "main") 0 j ∧
  ∀ (H' : Hp) (A : MA) (mk : Str → Addr), A.m = a → A.bare = b → exBut a H H' → H A.rg = none → H A.sk = none → H A.wr = none → Mach K C ys H' A (st0 j) 0 → CodeM K H' A ys t xs mk ls ns → Q .non H'
abbrev nm_mi : List Str := ["self", "program", "inputs", "name", "lines"]
theorem sc_mi : FnScope nm_mi ["self", "program", "inputs"] (defScope s_machine_init) := ⟨rfl, rfl, rfl, by decide +kernel, rfl, by decide +kernel, by decide +kernel⟩
theorem ok_minit {C CP : Addr} {b : Bool} (F : Fun K "__init__" "Machine.__init__" s_machine_init f fd) (G : Gb mg) (T : MC K C) (TP : PCb K CP b) (PF : Prp P w K mg base 1 CP "functions" (sp_functionsN K CP)) (PE' : PEnd K mg CP)
    (c1 : Cl P w K mg base CX0 1 "marks_of" (sp_marks_new K)) (c2 : Cl P w K mg base CX0 1 "pass_marks" (sp_pass K C)) : FnOk P w K mg base CX0 3 f fd ["self", "program", "inputs"] (sp_minit K C CP b) := by
  refine F.ok sc_mi (fun vs H Q E h => ?_) (fun cdv Ar outer sh H vs Q E hr h => ⟨RB _ _, pss_RB, ?_⟩)
  · obtain ⟨_, _, _, _, _, _, _, _, _, _, _, _, rfl, _⟩ := h; rfl
  obtain ⟨a, dx, pa, pdx, g, ys, t, xs, ls, ia, ns, j, rfl, ha, pr, hln, hmain, hnd, h24, hia, hilen, hns, hp, q⟩ := h
  obtain ⟨prr, gg, gfd, hpf, hbf, Ff⟩ := PF.ex
  obtain ⟨mc, u, hrd, hcv⟩ := PE'.rd
  obtain ⟨mc2, u2, hrd2, hcv2⟩ := PE'.rg
  have nap : pa ≠ a := fun z => by
    have h1 := pr.ins
    rw [z, ha] at h1; cases h1
  have iaa : ia ≠ a := fun z => by rw [z, ha] at hia; cases hia
  -- code
  refine rb_cons <| rs_ini T.cls T.code rfl <| re_prop TP.cls hpf Ff (hr.mono (by decide)) hbf pass0 <| re_var 1 rfl ⟨pa, pdx, _, rfl, pr.ins, pa, pdx, g, ys, t, xs, ls, rfl, pr, fun cd hcd => ?_⟩
  have e1 : Ex H (upd H cd (.dK (dN ys t))) := Ex.new hcd
  refine ⟨dx, [], _, e1 _ _ ha, Nat.le_of_ble_eq_true rfl, rfl, fun H1 b1 h1 => ?_⟩
  have cda : cd ≠ a := fun z => by rw [z, ha] at hcd; cases hcd
  have b01 : exBut a H H1 := (exBut.of e1).trans b1
  have hcd1 : H1 cd = some (.dK (dN ys t)) := b1 _ _ upd_same cda
  have pr1 := pr.ei b01 ha nap
  have back : ∀ {Hx : Hp} {p : Addr}, exBut a H Hx → Hx p = none → p ≠ a → H p = none := fun {Hx p} e h n => by
    cases z : H p with
    | none => rfl
    | some o => rw [e _ _ z n] at h; cases h
  -- marks
  refine rb_cons <| rs_ini T.cls T.marks rfl <| re_dcS (own := [("name", 3), ("lines", 4)]) (g := gTup K 2 (gCons (gName 3) (gCons (gName 4) gNil))) rfl (by exact sc_mi.nd) (blkOk_by (N := nm_mi) (sc := defScope s_machine_init) (by decide +kernel))
    (fun _ _ _ _ _ => pg_tup rfl (pgs_cons (pg_name (i := 3) (by exact sc_mi.nd) rfl (Or.inl rfl)) (pgs_cons (pg_name (i := 4) (by exact sc_mi.nd) rfl (Or.inl rfl)) pgs_nil))) good_tup2 ?_
  refine ri_items <| re_frz <| re_prop TP.cls hpf Ff (hr.mono (by decide)) hbf pass0 <| re_var 1 rfl ⟨pa, pdx, _, rfl, pr1.ins, pa, pdx, g, ys, t, xs, ls, rfl, pr1, fun c3 hc3 => ⟨c3, .dK (dN ys t), upd_same, trivial, fun od => ?_⟩⟩
  have e2 : Ex H1 (upd (upd H1 c3 (.dK (dN ys t))) c3 (.frz od (.dK (dN ys t)))) := fun b o hb => by
    rw [upd_ne (ne_of_none hb hc3), upd_ne (ne_of_none hb hc3)]; exact hb
  have hc2 : upd (upd H1 c3 (.dK (dN ys t))) c3 (.frz od (.dK (dN ys t))) c3 = some (.frz od (.dK (dN ys t))) := upd_same
  refine ⟨c3, od, dN ys t, rfl, upd_same, ?_⟩
  generalize upd (upd H1 c3 (.dK (dN ys t))) c3 (.frz od (.dK (dN ys t))) = H2 at *
  have h2 := e2 _ _ h1
  have dNl : (dN ys t).length = ys.length := List.length_map ..
  refine ⟨_, _, _, fun Dl i H' acc => ∃ mk : Str → Addr, acc = dN (ys.take i) mk ∧ (∀ n ∈ ys.take i, H' (mk n) = some (.dK (marksV (ls n))) ∧ mk n ≠ Dl) ∧ Ex H2 H', walk_items, by omega, fun Dl i H' acc ⟨_, _, _, e⟩ => e _ _ hc2, fun Dl hD => ⟨fun _ => 0, rfl, (fun n h => nomatch h), Ex.new hD⟩, ?_, ?_⟩
  · rintro Dl i x Ha Hb acc hD hi hDl hal ⟨mk, rfl, hmk, ea⟩ ⟨t1, x, y, rfl, hT, rfl, hx, hy⟩
    obtain ⟨kv, hkv, rfl⟩ := Option.map_eq_some_iff.mp (show ((dN ys t)[i]?.map fun kv => kV kv.1) = some x from hx)
    have hy : (dN ys t)[i]?.map Prod.snd = some y := hy
    rw [hkv] at hy
    obtain rfl := Option.some.inj hy
    obtain ⟨n, hyn, rfl⟩ := Option.map_eq_some_iff.mp (show ys[i]?.map (fun n => ((Sum.inr n : Key), V.ref (t n))) = some kv by rw [← hkv]; exact (List.getElem?_map ..).symm)
    have hn : n ∈ ys := List.mem_of_getElem? hyn
    have e3 : Ex Ha (upd Ha t1 (.tup [kV (.inr n), .ref (t n)])) := Ex.new hT
    refine ⟨t1, [kV (.inr n), .ref (t n)], rfl, .inl (.inl upd_same), rfl, kV (.inr n), [.ref (t n)], rfl, .ref (t n), [], rfl, rfl, rfl, fun s0 H0 C' cl fp => ?_⟩
    have e13 : Ex H1 (upd Ha t1 (.tup [kV (.inr n), .ref (t n)])) := e2.trans (ea.trans e3)
    refine re_var 3 rfl ⟨.inr n, rfl, fun s0 H0 C' cl fp => re_call c1 hr (hk := by decide) <| ra_cons <| re_var 4 rfl <| ra_nil ⟨.ref (t n), .tuple (ls n), rfl, .tup (Evl.ex_t e13 (pr1.seq n hn)) ((pr1.dat n hn).mono e13), hln n hn, fun p H6 hp6 e6 h6 => ?_⟩⟩
    have hD6 := e6 _ _ (e3 _ _ hDl)
    have pD : p ≠ Dl := fun z => by rw [z, e3 _ _ hDl] at hp6; cases hp6
    have fresh : n ∉ ys.take i := fun hm => by
      have hn := hnd
      rw [← List.take_append_drop i ys, drop_at hyn] at hn
      exact (List.nodup_append.mp hn).2.2 _ hm _ List.mem_cons_self rfl
    have tk : ys.take (i + 1) = ys.take i ++ [n] := take_snoc hyn
    refine ⟨hD6, fun z => if z = n then p else mk z, ?_, fun z hz => ?_, fun b o hb => ?_⟩
    · rw [putK_new _ (dN_val fresh), tk]
      unfold dN
      rw [List.map_append]
      congr 1
      · refine List.map_congr_left fun z hz => ?_
        have : z ≠ n := fun y => fresh (y ▸ hz)
        simp only [if_neg this]
      · simp
    · rw [tk] at hz
      rcases List.mem_append.mp hz with hz | hz
      · have : z ≠ n := fun y => fresh (y ▸ hz)
        simp only [if_neg this]
        obtain ⟨g1, g2⟩ := hmk z hz
        exact ⟨by rw [upd_ne g2]; exact e6 _ _ (e3 _ _ g1), g2⟩
      · rw [List.mem_singleton.mp hz]
        simp only [if_pos]
        exact ⟨by rw [upd_ne pD]; exact h6, pD⟩
    · rw [upd_ne fun z => by rw [z, hD] at hb; cases hb]
      exact e6 _ _ (e3 _ _ (ea _ _ hb))
  rintro mks acc H3 hD3 hm3 _ ⟨mk, rfl, hmk, e3⟩
  rw [dNl, List.take_length] at hm3 hmk
  have b02 : exBut a H H2 := b01.trans (exBut.of e2)
  have h3 := e3 _ _ h2
  have mksa : mks ≠ a := fun z => by rw [z, h2] at hD3; cases hD3
  refine ⟨dx, _, _, h3, Nat.le_of_ble_eq_true rfl, rfl, fun H4 b4 h4 => ?_⟩
  have b04 : exBut a H H4 := (b02.trans (exBut.of e3)).trans b4
  have hcd4 : H4 cd = some (.dK (dN ys t)) := b4 _ _ (e3 _ _ (e2 _ _ hcd1)) cda
  have hmks4 : H4 mks = some (.dK (dN ys mk)) := b4 _ _ hm3 mksa
  have hmk4 : ∀ n ∈ ys, H4 (mk n) = some (.dK (marksV (ls n))) := fun n hn => b4 _ _ (hmk n hn).1 fun z => by
    have := (hmk n hn).1
    rw [z, h3] at this; cases this
  have pr4 := pr.ei b04 ha nap
  have hia4 := b04 _ _ hia iaa
  clear hm3 hmk h3 hD3 e3 e2 hc2 h2 h1 pr1 hcd1 b4 b02 b01 hcd e1 b1 hc3
  -- is_bare, inputs
  refine rb_cons <| rs_ini T.cls T.bare rfl <| re_con <| re_var 1 rfl ⟨pa, CP, pdx, _, .bl b, _, rfl, pr4.ins, TP.cls, TP.bare, rfl, dx, _, _, h4, Nat.le_of_ble_eq_true rfl, rfl, fun H5 b5 h5 => ?_⟩
  have hia5 := b5 _ _ hia4 iaa
  refine rb_cons <| rs_ini T.cls T.inputs rfl <| re_ct call_tuple_of G.tuple <| ra_cons <| re_var 2 rfl <| ra_nil ⟨ia, ns.map V.int, rfl, .inl ⟨.inl (.inl hia5), fun ip hip => ?_⟩⟩
  have ipa : ip ≠ a := fun z => by rw [z, h5] at hip; cases hip
  refine ⟨dx, _, _, (Ex.new hip) _ _ h5, Nat.le_of_ble_eq_true rfl, rfl, fun H6 b6 h6 => ?_⟩
  have b46 : exBut a H4 H6 := (b5.trans (exBut.of (Ex.new hip))).trans b6
  have hip6 : H6 ip = some (.tup (ns.map V.int)) := b6 _ _ upd_same ipa
  clear b6 hip hia5 b5 h5 hia4
  refine rb_cons <| rs_ini T.cls T.taken rfl <| re_int ⟨dx, _, _, h6, Nat.le_of_ble_eq_true rfl, rfl, fun H7 b7 h7 => ?_⟩
  refine rb_cons <| rs_ini T.cls T.written rfl <| re_lst <| ra_nil ⟨Nat.le_of_ble_eq_true rfl, fun wr H8 hwr e8 hw8 => ?_⟩
  have wra : wr ≠ a := fun z => by rw [z, h7] at hwr; cases hwr
  have wr0 : H wr = none := back ((b04.trans b46).trans b7) hwr wra
  refine ⟨dx, _, _, e8 _ _ h7, Nat.le_of_ble_eq_true rfl, rfl, fun H9 b9 h9 => ?_⟩
  have b69 : exBut a H6 H9 := (b7.trans (exBut.of e8)).trans b9
  have hw9 : H9 wr = some (.lst []) := b9 _ _ hw8 wra
  clear b9 hw8 e8 hwr b7 h7
  refine rb_cons <| rs_ini T.cls T.registers rfl <| re_op op_rep <| re_lst <| ra_cons <| re_int <| ra_nil ⟨Nat.le_of_ble_eq_true rfl, fun z1 H10 hz1 e10 h10 => ?_⟩
  refine re_cval <| re_glob (v := .ref CP) PE'.gm rfl ⟨CP, mc2, .int 6, u2, rfl, hrd2, hcv2, z1, 6, [.int 0], rfl, rfl, h10, by decide, by decide, Nat.le_trans (m := 100) (by decide) (by rw [sizeLine_eq]; decide), fun rg hrg => ?_⟩
  have rga : rg ≠ a := fun z => by rw [z, e10 _ _ h9] at hrg; cases hrg
  have rg0 : H rg = none := back (((b04.trans b46).trans b69).trans (exBut.of e10)) hrg rga
  have wrg : rg ≠ wr := fun z => by rw [z, e10 _ _ hw9] at hrg; cases hrg
  refine ⟨dx, _, _, (Ex.new hrg) _ _ (e10 _ _ h9), Nat.le_of_ble_eq_true rfl, rfl, fun H11 b11 h11 => ?_⟩
  have b9k : exBut a H9 H11 := ((exBut.of e10).trans (exBut.of (Ex.new hrg))).trans b11
  have hw11 := b9k _ _ hw9 wra
  have hg11 : H11 rg = some (.lst (List.replicate 6 (.int 0))) := b11 _ _ upd_same rga
  clear b11 hrg h10 e10 hz1
  refine rb_cons <| rs_ini T.cls T.flag rfl <| re_bl ⟨dx, _, _, h11, Nat.le_of_ble_eq_true rfl, rfl, fun H12 b12 h12 => ?_⟩
  refine rb_cons <| rs_ini T.cls T.stack rfl <| re_lst <| ra_nil ⟨Nat.le_of_ble_eq_true rfl, fun sk H13 hsk e13 hk13 => ?_⟩
  have ska : sk ≠ a := fun z => by rw [z, h12] at hsk; cases hsk
  have sk0 : H sk = none := back ((((b04.trans b46).trans b69).trans b9k).trans b12) hsk ska
  have wsk : sk ≠ wr := fun z => by rw [z, b12 _ _ hw11 wra] at hsk; cases hsk
  have gsk : rg ≠ sk := fun z => by rw [← z, b12 _ _ hg11 rga] at hsk; cases hsk
  refine ⟨dx, _, _, e13 _ _ h12, Nat.le_of_ble_eq_true rfl, rfl, fun H14 b14 h14 => ?_⟩
  have b11k : exBut a H11 H14 := (b12.trans (exBut.of e13)).trans b14
  have hk14 : H14 sk = some (.lst []) := b14 _ _ hk13 ska
  clear b14 hk13 e13 hsk b12 h12
  refine rb_cons <| rs_ini T.cls T.link rfl <| re_cval <| re_glob (v := .ref CP) PE'.gm rfl ⟨CP, mc, .str "end", u, rfl, hrd, hcv, dx, _, _, h14, Nat.le_of_ble_eq_true rfl, rfl, fun H15 b15 h15 => ?_⟩
  refine rb_cons <| rs_ini T.cls T.ended rfl <| re_non ⟨dx, _, _, h15, Nat.le_of_ble_eq_true rfl, rfl, fun H16 b16 h16 => ?_⟩
  refine rb_cons <| rs_ini T.cls T.name rfl <| re_str ⟨dx, _, _, h16, Nat.le_of_ble_eq_true rfl, rfl, fun H17 b17 h17 => ?_⟩
  refine rb_cons <| rs_ini T.cls T.at_ rfl <| re_int ⟨dx, _, _, h17, Nat.le_of_ble_eq_true rfl, rfl, fun H18 b18 h18 => ?_⟩
  have b14k : exBut a H14 H18 := ((b15.trans b16).trans b17).trans b18
  have b4k : exBut a H4 H18 := ((b46.trans b69).trans b9k).trans (b11k.trans b14k)
  have b0k : exBut a H H18 := b04.trans b4k
  clear b15 b16 b17 b18 h15 h16 h17
  let A : MA := ⟨a, dx, cd, mks, ip, wr, rg, sk, b⟩
  have M : Mach K C ys H18 A (st0 0) 0 := ⟨h18, b14k _ _ (b11k _ _ hg11 rga) rga, b14k _ _ hk14 ska, b14k _ _ (b11k _ _ hw11 wra) wra, gsk, wrg, wsk, rfl, fun v hv => .inl ⟨0, List.eq_of_mem_replicate hv, by decide, by decide⟩, Nat.le_refl _, Nat.le_refl _⟩
  have pr18 := pr.ei b0k ha nap
  have hcm : CodeM K H18 A ys t xs mk ls ns := ⟨b4k _ _ hcd4 cda, b4k _ _ hmks4 mksa, pr18.seq, pr18.dat, fun n hn => (hln n hn).ok, fun n hn => b4k _ _ (hmk4 n hn) (fun z => by
    have := hmk4 n hn
    rw [z, h4] at this; cases this), .inl (.inl ((b69.trans (b9k.trans (b11k.trans b14k))) _ _ hip6 ipa)), hns⟩
  refine rb_one <| rs_expr <| re_call c2 hr (hk := by decide) <| ra_cons <| re_var 0 rfl <| ra_nil ⟨ys, A, st0 0, 0, t, xs, mk, ls, ns, j, rfl, M, hcm, hmain, hp, fun H' e' M' => ?_⟩
  refine q H' A mk rfl rfl (fun bb o hb hba => ?_) rg0 sk0 wr0 M' (hcm.exM M e')
  exact e' _ _ (b0k _ _ hb hba) hba (ne_of_none hb rg0) (ne_of_none hb sk0) (ne_of_none hb wr0)
end
end Fl
end
section
set_option Elab.async false
set_option linter.all false
set_option maxRecDepth 100000
set_option maxHeartbeats 4000000
namespace Fx
open PySem PySem.Spec PyProof.Rows L2
open Evl (Ex fresh_back)
section
variable {X : Cx} {o e f i value : Expr} {σ : L2.St} {H : Hp} {Q : VK} {D : Ends} {pos p apos cpos : Pos}
/-- d.get(k, x), k a tuple -/
theorem re_dget2T (hu : X.A.units + 1 < cLine) (h : RE X o σ H fun x H1 => ∃ a, x = .ref a ∧ (∃ kvs, H1 a = some (.dT kvs)) ∧ RE X e σ H1 fun y H2 => RE X f σ H2 fun z H3 => ∃ kvs k b, H3 a = some (.dT kvs) ∧ y = .ref b ∧ H3 b = some (.tup (k.map kV)) ∧ Q ((valV kvs k).getD z) H3)
    (base : attributeBase o "get" X.env (eval o X.env) = eval o X.env := by rfl) (few : (((backTo cpos (starEach [e, f] X.env)).all (fun x => !x.1) && (backToKw cpos (keywordEach [] X.env)).all (fun x => x.1.isSome)) && decide (([e, f] : List Expr).length + ([] : List Keyword).length + (if ([] : List Keyword).isEmpty then 0 else 1) < 30)) = true := by rfl)
    (line : (apos.endLine == cpos.line) = true := by rfl) (trees : backTo cpos (starEach [e, f] X.env) = [(false, eval e X.env), (false, eval f X.env)] := by rfl) : RE X (.Call (.Attribute o "get" apos) [e, f] [] cpos) σ H Q :=
  re_of (pe_dget2 hu pe_RE pe_RE pe_RE ⟨base, few, line, trees⟩) (h.mono fun x H1 ⟨a, ex, ⟨kvs0, h0⟩, q⟩ => ⟨a, ex, .inr ⟨kvs0, .inl h0⟩, q.mono fun y H2 q => q.mono fun z H3 ⟨kvs, k, b, hk, ey, hb, q⟩ => ⟨_, by rw [ey]; exact DGet.t hk hb, q⟩⟩)
/-- d[k] = x, k a tuple -/
theorem rs_dputT (hu : X.A.units + 1 < cLine) (h : RE X e σ H fun v H1 => RE X o σ H1 fun x H2 => RE X i σ H2 fun y H3 => ∃ a kvs k b, x = .ref a ∧ H3 a = some (.dT kvs) ∧ y = .ref b ∧ H3 b = some (.tup (k.map kV)) ∧ kvs.length < sizeLine ∧ D.nx σ (upd H3 a (.dT (putK kvs k v))))
    (hs : swapsWith e (some (.Subscript o i p)) pos.line X.env = pure false := by rfl) : RS X (.Assign [.Subscript o i p] e pos) D σ H :=
  rs_of (ps_dput hu pe_RE pe_RE pe_RE hs) (h.mono fun v H1 q => q.mono fun x H2 q => q.mono fun y H3 ⟨a, kvs, k, b, ex, hk, ey, hb, hl, q⟩ => ⟨a, _, ex, by rw [ey]; exact DPut.t hk hb hl, q⟩)
theorem re_dnewT (h : ∀ p H1, H p = none → Ex H H1 → H1 p = some (.dT []) → Q (.ref p) H1) : RE X (.Dict [] [] pos) σ H Q :=
  re_of pe_dnewT (fun p hp => h p _ hp (Ex.new hp) upd_same)
end
end Fx
namespace Fl
open PySem PySem.Spec PyProof.Rows L2 Fx
open Evl (Ex fresh_back)
/-! ### a run -/
structure RAd where
  (r dx vd : Addr)
def rflds (m : Addr) (n : Nat) (vd : Addr) : List (Str × V) := [("_machine", .ref m), ("_steps", .int (n : Nat)), ("_visits", .ref vd)]
structure RC (K : PySem.W.Frag) (C : Addr) : Prop where
  cls : Cls K C
  mach : NoAttr K C "_machine"
  steps : NoAttr K C "_steps"
  visits : NoAttr K C "_visits"
/-- the program that a run has, as it lies in the heap -/
structure Cd where
  (ys : List Str) (t : Str → Addr) (xs : Str → List V) (mp : Str → Addr) (ls : Str → List PyData) (ns : List Int)
structure RunO (K : PySem.W.Frag) (CR C : Addr) (H : Hp) (R : RAd) (A : MA) (d : Cd) (s : MSt) (n : Nat) : Prop where
  ins : H R.r = some (.ins CR R.dx (rflds A.m n R.vd))
  vis : ∃ kvs : List (List Key × V), H R.vd = some (.dT kvs) ∧ kvs.length ≤ n ∧ ∀ k v, valV kvs k = some v → ∃ i, v = .int i
  mach : Mach K C d.ys H A s n
  code : CodeM K H A d.ys d.t d.xs d.mp d.ls d.ns
  ne : R.r ≠ A.m
def exR (R : RAd) (A : MA) (H H' : Hp) : Prop := ∀ b o, H b = some o → b ≠ R.r → b ≠ R.vd → b ≠ A.m → b ≠ A.rg → b ≠ A.sk → b ≠ A.wr → H' b = some o
section
variable {K : PySem.W.Frag} {CR C : Addr} {H H' H'' : Hp} {R : RAd} {A : MA} {d : Cd} {s s' : MSt} {n m : Nat}
theorem exR.refl : exR R A H H := fun _ _ h _ _ _ _ _ _ => h
theorem exR.trans (e : exR R A H H') (e' : exR R A H' H'') : exR R A H H'' := fun b o h n1 n2 n3 n4 n5 n6 => e' b o (e b o h n1 n2 n3 n4 n5 n6) n1 n2 n3 n4 n5 n6
theorem exR.of (e : Ex H H') : exR R A H H' := fun b o h _ _ _ _ _ _ => e b o h
theorem exR.ofM (e : exM A H H') : exR R A H H' := fun b o h _ _ n3 n4 n5 n6 => e b o h n3 n4 n5 n6
theorem exR.r {o : HO} : exR R A H (upd H R.r o) := fun b u h n _ _ _ _ _ => by rw [upd_ne n]; exact h
theorem exR.vd {o : HO} : exR R A H (upd H R.vd o) := fun b u h _ n _ _ _ _ => by rw [upd_ne n]; exact h
namespace RunO
theorem ex (O : RunO K CR C H R A d s n) (e : Ex H H') : RunO K CR C H' R A d s n := ⟨e _ _ O.ins, by
  obtain ⟨kvs, h, q⟩ := O.vis
  exact ⟨kvs, e _ _ h, q⟩, O.mach.ex e, O.code.ex e, O.ne⟩
theorem stepM (O : RunO K CR C H R A d s n) (e : exM A H H') (M : Mach K C d.ys H' A s' n) : RunO K CR C H' R A d s' n := by
  obtain ⟨kvs, h, q⟩ := O.vis
  exact ⟨e _ _ O.ins O.ne (ne_kind O.ins O.mach.rg (fun z => nomatch z)) (ne_kind O.ins O.mach.sk (fun z => nomatch z)) (ne_kind O.ins O.mach.wr (fun z => nomatch z)), ⟨kvs, e _ _ h (ne_kind h O.mach.ins (fun z => nomatch z)) (ne_kind h O.mach.rg (fun z => nomatch z)) (ne_kind h O.mach.sk (fun z => nomatch z)) (ne_kind h O.mach.wr (fun z => nomatch z)), q⟩, M, O.code.exM O.mach e, O.ne⟩
end RunO
end
section
variable {X : Cx} {σ : L2.St} {H : Hp} {Q : VK} {f x : Str} {v : V} {pos p p2 : Pos} {CR C : Addr} {R : RAd} {A : MA} {d : Cd} {s : MSt} {n : Nat}
/-- self._machine.f -/
theorem re_rm (T : RC X.K CR) (TM : MC X.K C) (na : NoAttr X.K C f) (O : RunO X.K CR C H R A d s n) (hf : (flds A s).lookup f = some v) (hs : σ[0]? = some (some (.ref R.r))) (h : Q v H) (hN : X.N[0]? = some x := by rfl) (hv : Vis X.env.scope x := by first | exact Or.inl rfl | exact Or.inr (Or.inl rfl) | exact Or.inr (Or.inr rfl))
    (hd : (x == ("__debug__" : Str)) = false := by decide) (hcd : (x == ("__classdict__" : Str)) = false := by decide) (hb : attributeBase (.Name x p) "_machine" X.env (eval (.Name x p) X.env) = eval (.Name x p) X.env := by rfl)
    (hb2 : attributeBase (.Attribute (.Name x p) "_machine" p2) f X.env (eval (.Attribute (.Name x p) "_machine" p2) X.env) = eval (.Attribute (.Name x p) "_machine" p2) X.env := by rfl) : RE X (.Attribute (.Attribute (.Name x p) "_machine" p2) f pos) σ H Q :=
  re_fld (re_fld (re_var 0 hs ⟨R.r, CR, R.dx, _, .ref A.m, rfl, O.ins, T.cls, T.mach, rfl, A.m, C, A.dx, _, v, rfl, O.mach.ins, TM.cls, na, hf, h⟩ hN hv hd hcd) hb) hb2
end
section
variable {P : Program} {w : World} {K : PySem.W.Frag} {mg : Str → Option Value} {base : Heap} {f : Addr} {fd : FuncData} {CR C : Addr}
theorem sc_place : FnScope ["self"] ["self"] (defScope s_run_place) := ⟨rfl, rfl, rfl, by decide +kernel, rfl, by decide +kernel, by decide +kernel⟩
def sp_place (K : PySem.W.Frag) (CR C : Addr) : Sp := fun vs H Q _ => ∃ (R : RAd) (A : MA) (d : Cd) (s : MSt) (n : Nat), vs = [.ref R.r] ∧ RunO K CR C H R A d s n ∧
  ((s.ended = .non ∧ ∀ t H', H t = none → Ex H H' → H' t = some (.tup [.str s.name, .int (s.at_ : Nat)]) → Q (.ref t) H') ∨ ∃ x, s.ended = .str x ∧ Q .non H)
theorem ok_place (F : Fun K "place" "Run.place" s_run_place f fd) (T : RC K CR) (TM : MC K C) : FnOk P w K mg base CX0 1 f fd ["self"] (sp_place K CR C) := by
  refine F.ok sc_place (fun vs H Q E h => ?_) (fun cdv Ar outer sh H vs Q E hr h => ⟨RB _ _, pss_RB, ?_⟩)
  · obtain ⟨_, _, _, _, _, rfl, _⟩ := h; rfl
  obtain ⟨R, A, d, s, n, rfl, O, ⟨he, q⟩ | ⟨x, he, q⟩⟩ := h
  · refine rb_cons <| rs_if <| rt_cmp op_notN <| re_rm T TM TM.ended O rfl rfl <| re_non ⟨rfl, _, rfl, ?_⟩
    rw [he]
    exact ifF <| rb_nil <| rb_one <| rs_ret <| re_tup <| ra_cons <| re_rm T TM TM.name O rfl rfl <| ra_cons <| re_rm T TM TM.at_ O rfl rfl <| ra_nil ⟨Nat.le_of_ble_eq_true rfl, fun t H1 ht e1 h1 => q t H1 ht e1 h1⟩
  · refine rb_cons <| rs_if <| rt_cmp op_notN <| re_rm T TM TM.ended O rfl rfl <| re_non ⟨rfl, _, rfl, ?_⟩
    rw [he]
    exact ifT <| rb_one <| rs_ret <| re_non q
theorem sc_rend : FnScope ["self"] ["self"] (defScope s_run_end) := ⟨rfl, rfl, rfl, by decide +kernel, rfl, by decide +kernel, by decide +kernel⟩
def sp_rend (K : PySem.W.Frag) (CR C : Addr) : Sp := fun vs H Q _ => ∃ (R : RAd) (A : MA) (d : Cd) (s : MSt) (n : Nat), vs = [.ref R.r] ∧ RunO K CR C H R A d s n ∧ Q s.ended H
theorem ok_rend (F : Fun K "end" "Run.end" s_run_end f fd) (T : RC K CR) (TM : MC K C) : FnOk P w K mg base CX0 1 f fd ["self"] (sp_rend K CR C) := by
  refine F.ok sc_rend (fun vs H Q E h => ?_) (fun cdv Ar outer sh H vs Q E hr h => ⟨RB _ _, pss_RB, ?_⟩)
  · obtain ⟨_, _, _, _, _, rfl, _⟩ := h; rfl
  obtain ⟨R, A, d, s, n, rfl, O, q⟩ := h
  exact rb_one <| rs_ret <| re_rm T TM TM.ended O rfl rfl q
theorem sc_depth : FnScope ["self"] ["self"] (defScope s_run_depth) := ⟨rfl, rfl, rfl, by decide +kernel, rfl, by decide +kernel, by decide +kernel⟩
def sp_depth (K : PySem.W.Frag) (CR C : Addr) : Sp := fun vs H Q _ => ∃ (R : RAd) (A : MA) (d : Cd) (s : MSt) (n : Nat), vs = [.ref R.r] ∧ RunO K CR C H R A d s n ∧ Q (.int (s.stk.length : Nat)) H
theorem ok_depth (F : Fun K "depth" "Run.depth" s_run_depth f fd) (G : Gb mg) (T : RC K CR) (TM : MC K C) : FnOk P w K mg base CX0 1 f fd ["self"] (sp_depth K CR C) := by
  refine F.ok sc_depth (fun vs H Q E h => ?_) (fun cdv Ar outer sh H vs Q E hr h => ⟨RB _ _, pss_RB, ?_⟩)
  · obtain ⟨_, _, _, _, _, rfl, _⟩ := h; rfl
  obtain ⟨R, A, d, s, n, rfl, O, q⟩ := h
  exact rb_one <| rs_ret <| re_cb call_len G.len <| ra_cons <| re_rm T TM TM.stack O rfl rfl <| ra_nil ⟨_, s.stk.length, rfl, .inl ⟨s.stk, .inl (.inl O.mach.sk), rfl⟩, q⟩
/-- behind a step -/
def ContR (K : PySem.W.Frag) (CR C : Addr) (R : RAd) (A : MA) (d : Cd) (n : Nat) (H : Hp) (Q : VK) (s' : MSt) (φ : Hp → Prop) : Prop :=
  ((∃ x, s'.ended = .str x) ∧ ∀ H2, exR R A H H2 → φ H2 → RunO K CR C H2 R A d s' (n + 1) → Q .non H2) ∨
  (s'.ended = .non ∧ s'.name ∈ d.ys ∧ ∃ j, IsPast (d.ls s'.name) s'.at_ j ∧ ∀ H2 H3, exR R A H H2 → φ H2 → RunO K CR C H2 R A d s' (n + 1) → exM A H2 H3 → RunO K CR C H3 R A d { s' with at_ := j } (n + 1) → Q .non H3)
def sp_step (K : PySem.W.Frag) (CR C : Addr) : Sp := fun vs H Q _ => ∃ (R : RAd) (A : MA) (d : Cd) (s : MSt) (n : Nat) (l : PyData) (p : PreM), vs = [.ref R.r] ∧ n ≤ 49000 ∧ RunO K CR C H R A d s n ∧ s.ended = .non ∧ s.name ∈ d.ys ∧ (d.ls s.name)[s.at_]? = some l ∧ (wordD l, p) ∈ preL K ∧
  ∀ H1, exR R A H H1 → RunO K CR C H1 R A d { s with at_ := s.at_ + 1 } (n + 1) → ∀ q : MSt → (Hp → Prop) → Prop, (∀ s' φ, ContR K CR C R A d n H Q s' φ → q s' φ) → p d.ys A { s with at_ := s.at_ + 1 } (valsD l) H1 q
abbrev nm_step : List Str := ["self", "place"]
theorem sc_step : FnScope nm_step ["self"] (defScope s_run_step) := ⟨rfl, rfl, rfl, by decide +kernel, rfl, by decide +kernel, by decide +kernel⟩
theorem ok_step (F : Fun K "step" "Run.step" s_run_step f fd) (T : RC K CR) (TM : MC K C) (pp : Prp P w K mg base 1 CR "place" (sp_place K CR C)) (c1 : Cl P w K mg base CX0 3 "do_line" (sp_do_line K C)) : FnOk P w K mg base CX0 4 f fd ["self"] (sp_step K CR C) := by
  refine F.ok sc_step (fun vs H Q E h => ?_) (fun cdv Ar outer sh H vs Q E hr h => ⟨RB _ _, pss_RB, ?_⟩)
  · obtain ⟨_, _, _, _, _, _, _, rfl, _⟩ := h; rfl
  obtain ⟨R, A, d, s, n, l, p, rfl, hn, O, he, hm, hl, hp, q⟩ := h
  obtain ⟨prr, gg, gfd, hpf, hbf, Ff⟩ := pp.ex
  refine rb_cons <| rs_set 1 (by exact sc_step.nd) <| re_prop T.cls hpf Ff (hr.mono (by decide)) hbf pass0 <| re_var 0 rfl ⟨R.r, R.dx, _, rfl, O.ins, R, A, d, s, n, rfl, O, .inl ⟨he, fun t H1 ht e1 h1 => ?_⟩⟩
  have O1 := O.ex e1
  obtain ⟨kvs, hv, hkl, hki⟩ := O1.vis
  refine rb_one <| rs_if <| rt_cmp op_notN <| re_var 1 rfl <| re_non ⟨rfl, _, rfl, ifT ?_⟩
  have hkey : H1 t = some (.tup ([Sum.inr s.name, Sum.inl (s.at_ : Int)].map kV)) := h1
  obtain ⟨cnt, hcnt⟩ : ∃ cnt, (valV kvs [Sum.inr s.name, Sum.inl (s.at_ : Int)]).getD (.int 0) = .int cnt := by
    cases z : valV kvs [Sum.inr s.name, Sum.inl (s.at_ : Int)] with
    | none => exact ⟨0, rfl⟩
    | some v =>
      obtain ⟨i, hi⟩ := hki _ _ z
      exact ⟨i, hi⟩
  refine rb_cons <| rs_dputT (hu_of hr) <| re_add <| re_dget2T (hu_of hr) <| re_fld <| re_var 0 rfl ⟨R.r, CR, R.dx, _, .ref R.vd, rfl, O1.ins, T.cls, T.visits, rfl, R.vd, rfl, ⟨kvs, hv⟩, re_var 1 rfl <| re_int ⟨kvs, _, t, hv, rfl, hkey, ?_⟩⟩
  rw [hcnt]
  refine re_int ⟨cnt, 1, rfl, rfl, re_fld <| re_var 0 rfl ⟨R.r, CR, R.dx, _, .ref R.vd, rfl, O1.ins, T.cls, T.visits, rfl, re_var 1 rfl ⟨R.vd, kvs, _, t, rfl, hv, rfl, hkey, szlt (by omega), ?_⟩⟩⟩
  have vr : R.vd ≠ R.r := ne_kind hv O1.ins (fun z => nomatch z)
  have h2r : upd H1 R.vd (.dT (putK kvs [Sum.inr s.name, Sum.inl (s.at_ : Int)] (.int (cnt + 1)))) R.r = some (.ins CR R.dx (rflds A.m n R.vd)) := by
    rw [upd_ne vr.symm]; exact O1.ins
  refine rb_cons <| rs_fldadd <| re_var 0 rfl ⟨R.r, CR, R.dx, _, (n : Nat), rfl, h2r, T.cls, T.steps, rfl, re_int ⟨1, R.dx, _, rfl, h2r, (by show 3 < 1000; decide), ?_⟩⟩
  have e3 : exR R A H (upd (upd H1 R.vd (.dT (putK kvs [Sum.inr s.name, Sum.inl (s.at_ : Int)] (.int (cnt + 1))))) R.r (.ins CR R.dx (rflds A.m (n + 1) R.vd))) := ((exR.of e1).trans exR.vd).trans exR.r
  have O3 : RunO K CR C (upd (upd H1 R.vd (.dT (putK kvs [Sum.inr s.name, Sum.inl (s.at_ : Int)] (.int (cnt + 1))))) R.r (.ins CR R.dx (rflds A.m (n + 1) R.vd))) R A d s (n + 1) ∧ Mach K C d.ys (upd (upd H1 R.vd (.dT (putK kvs [Sum.inr s.name, Sum.inl (s.at_ : Int)] (.int (cnt + 1))))) R.r (.ins CR R.dx (rflds A.m (n + 1) R.vd))) A s n := by
    have keep : ∀ b o, H1 b = some o → b ≠ R.r → b ≠ R.vd → upd (upd H1 R.vd (.dT (putK kvs [Sum.inr s.name, Sum.inl (s.at_ : Int)] (.int (cnt + 1))))) R.r (.ins CR R.dx (rflds A.m (n + 1) R.vd)) b = some o := fun b o hb n1 n2 => by
      rw [upd_ne n1, upd_ne n2]; exact hb
    have M := O1.mach
    have kr : ∀ {b : Addr} {o : HO}, H1 b = some o → (∀ C dx fs, o ≠ .ins C dx fs) → (∀ kvs, o ≠ .dT kvs) → upd (upd H1 R.vd (.dT (putK kvs [Sum.inr s.name, Sum.inl (s.at_ : Int)] (.int (cnt + 1))))) R.r (.ins CR R.dx (rflds A.m (n + 1) R.vd)) b = some o := fun {b o} hb n1 n2 =>
      keep b o hb (fun z => by rw [z, O1.ins] at hb; exact n1 _ _ _ (Option.some.inj hb).symm) (fun z => by rw [z, hv] at hb; exact n2 _ (Option.some.inj hb).symm)
    have kt : ∀ {a : Addr} {zs : List V}, SqT K H1 a zs → SqT K (upd (upd H1 R.vd (.dT (putK kvs [Sum.inr s.name, Sum.inl (s.at_ : Int)] (.int (cnt + 1))))) R.r (.ins CR R.dx (rflds A.m (n + 1) R.vd))) a zs := fun {a zs} h => sqt_ex (fun b o ho ts ht => by
      refine kr ho (fun C dx fs z => ?_) (fun kvs z => ?_)
      · rcases ht with ht | ⟨ob, ht⟩ <;> (rw [ht] at z; cases z)
      · rcases ht with ht | ⟨ob, ht⟩ <;> (rw [ht] at z; cases z)) h
    have cdd := O1.code
    have M3 : Mach K C d.ys (upd (upd H1 R.vd (.dT (putK kvs [Sum.inr s.name, Sum.inl (s.at_ : Int)] (.int (cnt + 1))))) R.r (.ins CR R.dx (rflds A.m (n + 1) R.vd))) A s n := ⟨keep _ _ M.ins O1.ne.symm (ne_kind M.ins hv (fun z => nomatch z)), kr M.rg (fun _ _ _ z => nomatch z) (fun _ z => nomatch z), kr M.sk (fun _ _ _ z => nomatch z) (fun _ z => nomatch z), kr M.wr (fun _ _ _ z => nomatch z) (fun _ z => nomatch z), M.ne1, M.ne2, M.ne3, M.len6, M.vals, M.szs, M.szo⟩
    refine ⟨⟨upd_same, ⟨_, by rw [upd_ne vr]; exact upd_same, Nat.le_trans (length_putK _ _ _) (by omega), fun k v hk => ?_⟩, M3.le (Nat.le_succ _), ?_, O1.ne⟩, M3⟩
    · rw [valV_put] at hk
      by_cases z : k = [Sum.inr s.name, Sum.inl (s.at_ : Int)]
      · rw [if_pos z] at hk
        exact ⟨_, (Option.some.inj hk).symm⟩
      · rw [if_neg z] at hk
        exact hki k v hk
    · exact ⟨kr cdd.cd (fun _ _ _ z => nomatch z) (fun _ z => nomatch z), kr cdd.mks (fun _ _ _ z => nomatch z) (fun _ z => nomatch z), fun n hn => kt (cdd.seq n hn), fun n hn => DA.lines (cdd.ok n hn) (cdd.dat n hn) fun a zs h => kt h, cdd.ok, fun n hn => kr (cdd.mkd n hn) (fun _ _ _ z => nomatch z) (fun _ z => nomatch z), kt cdd.ip, cdd.num⟩
  show RB _ _ _ _ (upd (upd H1 R.vd (.dT (putK kvs [Sum.inr s.name, Sum.inl (s.at_ : Int)] (.int (cnt + 1))))) R.r (.ins CR R.dx (rflds A.m (n + 1) R.vd)))
  generalize upd (upd H1 R.vd (.dT (putK kvs [Sum.inr s.name, Sum.inl (s.at_ : Int)] (.int (cnt + 1))))) R.r (.ins CR R.dx (rflds A.m (n + 1) R.vd)) = H3 at *
  obtain ⟨O3, M3⟩ := O3
  refine rb_one <| rs_expr <| re_call c1 hr (hk := by decide) <| ra_cons <| re_fld <| re_var 0 rfl ⟨R.r, CR, R.dx, _, .ref A.m, rfl, O3.ins, T.cls, T.mach, rfl, ra_nil ⟨d.ys, A, s, n, d.t, d.xs, d.mp, d.ls, d.ns, l, p, rfl, by omega, M3, O3.code, hm, hl, hp, fun H4 e4 M4 D4 qq hqq => ?_⟩⟩
  have O4 := O3.stepM e4 (M4.le (Nat.le_succ n))
  refine q H4 (e3.trans (exR.ofM e4)) O4 qq fun s' φ hc => hqq s' φ ?_
  rcases hc with ⟨hx, q⟩ | ⟨hx, hy, j, hj, q⟩
  · exact .inl ⟨hx, fun H2 e hφ M2 => q H2 (e3.trans (exR.ofM e)) hφ (O3.stepM e M2)⟩
  · exact .inr ⟨hx, hy, j, hj, fun H2 H5 e hφ M2 e' M5 => q H2 H5 (e3.trans (exR.ofM e)) hφ (O3.stepM e M2) e' (O3.stepM (e.trans e') M5)⟩
end
end Fl
end
section
set_option Elab.async false
set_option linter.all false
set_option maxRecDepth 100000
set_option maxHeartbeats 4000000
namespace Fl
open PySem PySem.Spec PyProof.Rows L2 Fx
open Evl (Ex fresh_back)
/-! ### a run is made -/
structure MkO (P : Program) (w : World) (K : PySem.W.Frag) (mg : Str → Option Value) (base : Heap) (k : Nat) (x : Str) (C : Addr) (ps : List Str) (sp : Sp) : Prop where
  gm : mg x = some (.ref C)
  ex : ∃ g fd, Mk K C g ∧ L2.Binds K fd ps [] ∧ FnOk P w K mg base CX0 k g fd ps sp
section
variable {K : PySem.W.Frag} {C CR r dx : Addr} {H H' : Hp} {A : MA} {ys : List Str} {s : MSt} {cap : Nat} {t : Str → Addr} {xs : Str → List V} {mk : Str → Addr} {ls : Str → List PyData} {ns : List Int} {fs : List (Str × V)}
theorem CodeM.ei (D : CodeM K H A ys t xs mk ls ns) (e : exBut r H H') (h : H r = some (.ins CR dx fs)) : CodeM K H' A ys t xs mk ls ns :=
  ⟨e _ _ D.cd (ne_kind D.cd h (fun z => nomatch z)), e _ _ D.mks (ne_kind D.mks h (fun z => nomatch z)), fun n hn => ei_t (e.ei h) (D.seq n hn), fun n hn => (D.dat n hn).monoI (e.ei h), D.ok, fun n hn => e _ _ (D.mkd n hn) (ne_kind (D.mkd n hn) h (fun z => nomatch z)), ei_t (e.ei h) D.ip, D.num⟩
theorem Mach.eb (M : Mach K C ys H A s cap) (e : exBut r H H') (h : H r = some (.ins CR dx fs)) (n : A.m ≠ r) : Mach K C ys H' A s cap :=
  ⟨e _ _ M.ins n, e _ _ M.rg (ne_kind M.rg h (fun z => nomatch z)), e _ _ M.sk (ne_kind M.sk h (fun z => nomatch z)), e _ _ M.wr (ne_kind M.wr h (fun z => nomatch z)), M.ne1, M.ne2, M.ne3, M.len6, M.vals, M.szs, M.szo⟩
end
section
variable {P : Program} {w : World} {K : PySem.W.Frag} {mg : Str → Option Value} {base : Heap} {f : Addr} {fd : FuncData}
theorem FunD.okN {x qual : Str} {st : Stmt} {dvs : List V} {kws : List (Str × V)} {N ps : List Str} {k : Nat} {sp : Sp} (F : L2.FunD K x qual (defArgs st) (defBody st) (defScope st) dvs kws f fd) (S : FnScope N ps (defScope st)) (len : ∀ vs H Q E, sp vs H Q E → vs.length = ps.length)
    (hbody : ∀ (cdv : Value) (A : Around) (outer : List Env) (s : Shared) (H : Hp) (vs : List V) (Q : VK) (E : XK), Room k (A.deeper (envOfC qual (defScope st) s.heap.objs.size f cdv)) → sp vs H Q E →
      ∃ t, PSs (cxOf CX0 P w K mg base N qual (defScope st) f cdv A outer s H E).nox (defBody st) t ∧ t { nx := fun _ H' => Q .non H', rt := Q } (L2.start N vs) H) : FnOk P w K mg base CX0 (k + 1) f fd ps sp :=
  F.ok S len fun cdv A outer s H vs Q E hr hsp => by
    obtain ⟨t, h, q⟩ := hbody cdv A outer s H vs Q E hr hsp
    exact ⟨t, h.nox, q⟩
theorem funD_mk1 {x qual : Str} {st : Stmt} {f T E : Addr} {oc tc : Value} {od td an : Option Addr} {osl ts : Array (Option Value)} {kV doc pm cdv ct : Value} {n : Nat} (l : K.lookup f = some { cls := oc, dict := od, data := Data.func (PySem.W.fnOf x qual (defArgs st) (defBody st) (defScope st) (.ref T) kV doc pm an cdv ct), slots := osl })
    (c : PySem.W.codeIn K cdv qual = true) (k : PySem.W.keepIn K (.ref f) = true) (lT : K.lookup T = some { cls := tc, dict := td, data := Data.seq #[.ref E] n, slots := ts }) : ∃ fd, L2.FunD K x qual (defArgs st) (defBody st) (defScope st) [.ref E] [] f fd :=
  ⟨_, ⟨oc, od, .ref T, kV, doc, pm, an, cdv, ct, osl, rfl, l, c, .inr ⟨List.cons_ne_nil _ _, T, _, [.ref E], n, rfl, lT, rfl, .cons rfl .nil⟩, .inl rfl⟩, k⟩
def sp_rinit (K : PySem.W.Frag) (CR C CP : Addr) (b : Bool) : Sp := fun vs H Q _ => ∃ (r dx pa pdx g : Addr) (ys : List Str) (t : Str → Addr) (xs : Str → List V) (ls : Str → List PyData) (ia : Addr) (ns : List Int) (j : Nat), vs = [.ref r, .ref pa, .ref ia] ∧ H r = some (.ins CR dx []) ∧ ProgN K CP H pa pdx g ys t xs ls ∧ (∀ n ∈ ys, Lines (.tuple (ls n))) ∧ ("main" : Str) ∈ ys ∧ ys.Nodup ∧ ys.length ≤ 24 ∧ H ia = some (.lst (ns.map V.int)) ∧ ns.length ≤ 40000 ∧ (∀ n ∈ ns, isNum n) ∧ IsPast (ls "main") 0 j ∧
  ∀ (H' : Hp) (R : RAd) (A : MA) (mk : Str → Addr), R.r = r → A.bare = b → exBut r H H' → H R.vd = none → H A.m = none → H A.rg = none → H A.sk = none → H A.wr = none → RunO K CR C H' R A ⟨ys, t, xs, mk, ls, ns⟩ (st0 j) 0 → Q .non H'
abbrev nm_ri : List Str := ["self", "program", "inputs"]
theorem sc_ri : FnScope nm_ri nm_ri (defScope s_run_init) := ⟨rfl, rfl, rfl, by decide +kernel, rfl, by decide +kernel, by decide +kernel⟩
theorem ok_rinit {CR C CP : Addr} {b : Bool} {dvs : List V} (F : L2.FunD K "__init__" "Run.__init__" (defArgs s_run_init) (defBody s_run_init) (defScope s_run_init) dvs [] f fd) (T : RC K CR) (c1 : Cl P w K mg base CX0 3 "are_numbers" (sp_ans K)) (MM : MkO P w K mg base 3 "Machine" C nm_ri (sp_minit K C CP b)) : FnOk P w K mg base CX0 5 f fd nm_ri (sp_rinit K CR C CP b) := by
  refine FunD.okN F sc_ri (fun vs H Q E h => ?_) (fun cdv Ar outer sh H vs Q E hr h => ⟨RB _ _, pss_RB, ?_⟩)
  · obtain ⟨_, _, _, _, _, _, _, _, _, _, _, _, rfl, _⟩ := h; rfl
  obtain ⟨r, dx, pa, pdx, g, ys, t, xs, ls, ia, ns, j, rfl, ha, pr, hln, hmain, hnd, h24, hia, hilen, hns, hp, q⟩ := h
  obtain ⟨gg, gfd, hM, hb, FM⟩ := MM.ex
  refine rb_cons <| rs_if <| rt_not <| rt_val <| re_call c1 hr (hk := by decide) <| ra_cons <| re_var 2 rfl <| ra_nil ⟨ia, ns, rfl, .inl (.inl hia), hns, hilen, fun H1 e1 => ⟨true, rfl, ifF <| rb_nil ?_⟩⟩
  refine rb_cons <| rs_ini T.cls T.mach rfl <| re_make hM FM (hr.mono (by decide)) MM.gm hb pass0 <| ra_cons <| re_var 1 rfl <| ra_cons <| re_var 2 rfl <| ra_nil fun a mdx h1 h2 ne => ?_
  have e2 : Ex H1 (upd (upd H1 mdx (.own a)) a (.ins C mdx [])) := fun b o hb => by
    rw [upd_ne (ne_of_none hb h1), upd_ne (ne_of_none hb h2)]; exact hb
  have e12 := e1.trans e2
  refine ⟨a, mdx, pa, pdx, g, ys, t, xs, ls, ia, ns, j, rfl, upd_same, pr.ex e12, hln, hmain, hnd, h24, e12 _ _ hia, hilen, hns, hp, fun H3 A mk hAm hAb b3 g1 g2 g3 M D => ⟨rfl, ?_⟩⟩
  have ra : r ≠ a := fun z => by rw [← z, e1 _ _ ha] at h1; cases h1
  have h3 : H3 r = some (.ins CR dx []) := b3 _ _ (e12 _ _ ha) ra
  have back : ∀ {p : Addr}, upd (upd H1 mdx (.own a)) a (.ins C mdx []) p = none → H p = none := fun h => fresh_back e12 h
  refine ⟨dx, [], _, h3, by decide, rfl, fun H4 b4 h4 => ?_⟩
  refine rb_cons <| rs_ini T.cls T.steps rfl <| re_int ⟨dx, _, _, h4, Nat.le_of_ble_eq_true rfl, rfl, fun H5 b5 h5 => ?_⟩
  refine rb_one <| rs_ini T.cls T.visits rfl <| re_dnewT fun vd H6 hvd e6 h6 => ⟨dx, _, _, e6 _ _ h5, Nat.le_of_ble_eq_true rfl, rfl, fun H7 b7 h7 => ?_⟩
  have b35 : exBut r H3 H5 := b4.trans b5
  have b37 : exBut r H3 H7 := (b35.trans (exBut.of e6)).trans b7
  have vr : vd ≠ r := fun z => by rw [z, h5] at hvd; cases hvd
  have hmr : A.m ≠ r := by rw [hAm]; exact ra.symm
  have am1 : H a = none := fresh_back e1 h1
  have b02 : exBut r H H3 := fun b o hb hn => b3 _ _ (e12 _ _ hb) (ne_of_none hb am1)
  have hv0 : H vd = none := by
    cases z : H vd with
    | none => rfl
    | some o => rw [(b02.trans b35) _ _ z vr] at hvd; cases hvd
  refine q H7 ⟨r, dx, vd⟩ A mk rfl hAb (b02.trans b37) hv0 (by rw [hAm]; exact am1) (back g1) (back g2) (back g3) ⟨?_, ⟨[], b7 _ _ h6 vr, Nat.le_refl _, fun k v hk => nomatch hk⟩, M.eb b37 h3 hmr, D.ei b37 h3, fun z => hmr z.symm⟩
  rw [h7, hAm]; rfl
end
end Fl
end
section
set_option Elab.async false
set_option linter.all false
set_option maxRecDepth 100000
set_option maxHeartbeats 4000000
namespace Fl
open PySem PySem.Spec PyProof.Rows L2 Fx
open Evl (Ex fresh_back)
/-! ### drawn inputs; the place behind marks -/
theorem list_line {K : PySem.W.Frag} {H : Hp} {la : Addr} {ds : List PyData} (h : D K H (.ref la) (.list ds)) (ok : ∀ d ∈ ds, isLineD d = true) {i : Nat} {d : PyData} (hd : ds[i]? = some d) : ∃ xs a, SqL K H la xs ∧ xs[i]? = some (.ref a) ∧ SqT K H a (.str (wordD d) :: valsD d) := by
  cases h with
  | lst sq ha =>
    obtain ⟨u, hu, hdu⟩ := ha.get hd
    obtain ⟨w, zs, rfl, hl, _⟩ := line_leaf (ok d (List.mem_of_getElem? hd))
    cases hdu with
    | tup sq2 ha2 =>
      cases ha2 with
      | cons h0 ht =>
        cases h0
        rw [leaf_vals hl ht] at sq2
        exact ⟨_, _, sq, hu, sq2⟩
section
variable {P : Program} {w : World} {K : PySem.W.Frag} {mg : Str → Option Value} {base : Heap} {f : Addr} {fd : FuncData}
def sp_inputs (K : PySem.W.Frag) : Sp := fun vs H Q _ => ∃ (pa : Addr) (n : Nat), vs = [.ref pa] ∧ n ≤ 600000 ∧ Pen K H pa n ∧ ∀ (la : Addr) (ns : List Int) (H' : Hp), H la = none → H' la = some (.lst (ns.map V.int)) → ns.length ≤ 5 → (∀ z ∈ ns, isNum z) → exP pa H H' → Pen K H' pa (n + 16) → Q (.ref la) H'
abbrev nm_inp : List Str := ["_law_pen_here", "_law_k"]
theorem sc_inp : FnScope nm_inp ["_law_pen_here"] (defScope s_l_inputs) := ⟨rfl, rfl, rfl, by decide +kernel, rfl, by decide +kernel, by decide +kernel⟩
theorem ok_inputs (F : Fun K "_law_inputs" "_law_inputs" s_l_inputs f fd) (G2 : Gb2 mg) (c1 : Cl P w K mg base CX0 1 "_law_draw" (sp_draw K)) (c2 : Cl P w K mg base CX0 2 "_law_pick" (sp_pick K)) (c3 : Cl P w K mg base CX0 3 "_law_number" (sp_number K)) : FnOk P w K mg base CX0 4 f fd ["_law_pen_here"] (sp_inputs K) := by
  refine F.ok sc_inp (fun vs H Q E h => ?_) (fun cdv Ar outer sh H vs Q E hr h => ⟨RB _ _, pss_RB, ?_⟩)
  · obtain ⟨_, _, rfl, _⟩ := h; rfl
  obtain ⟨pa, n, rfl, hn, pen, q⟩ := h
  refine rb_one <| rs_ret <| re_lcS (own := [("_law_k", 1)]) (g := gName 1) rfl (by exact sc_inp.nd) (blkOk_by (N := nm_inp) (sc := defScope s_l_inputs) (by decide +kernel)) (fun _ _ _ _ _ => pg_name (i := 1) (by exact sc_inp.nd) rfl (Or.inl rfl)) good_name ?_
  refine ri_range (n := 0) G2.range <| ra_cons <| re_call c1 hr (hk := by decide) <| ra_cons <| re_var 0 rfl <| ra_cons <| re_int <| ra_nil ⟨pa, 6, n, rfl, by decide, by decide, by omega, pen, fun r H1 r0 r1 e1 pen1 => ra_nil ⟨r, rfl, by omega, by omega, ?_⟩⟩
  refine ⟨_, _, _, fun Dl i H' acc => ∃ ns : List Int, acc = ns.map V.int ∧ ns.length = i ∧ (∀ z ∈ ns, isNum z) ∧ exP pa H1 H' ∧ Pen K H' pa (n + 1 + 3 * i) ∧ Away H' pa Dl, walk_range, by omega, fun _ _ _ _ _ => trivial, fun Dl hD => ?_, ?_, ?_⟩
  · have nD := pen1.ne_new hD
    exact ⟨[], rfl, rfl, (fun _ h => nomatch h), (exP.refl).mut hD nD, pen1.mut (pen1.away hD) nD, (pen1.away hD).mut nD⟩
  · rintro Dl i x H5 H6 acc hD hi hDl hlen5 ⟨ns, rfl, hnl, hns, e5, pen5, aw5⟩ ⟨rfl, rfl⟩
    have nD := pen1.ne_new hD
    have hi5 : i < 6 := by omega
    refine ⟨rfl, fun s0 H0 C cl fp => ?_⟩
    refine re_call c2 hr (hk := by decide) <| ra_cons <| re_var 0 rfl <| ra_cons <| re_lst <| ra_cons <| re_int <| ra_cons <| re_int <| ra_cons <| re_int <| ra_cons <| re_call c3 hr (hk := by decide) <| ra_cons <| re_var 0 rfl <| ra_nil ⟨pa, _, rfl, by omega, pen5, fun z H7 z0 z1 e7 pen7 => ra_nil ⟨Nat.le_of_ble_eq_true rfl, fun o H8 ho e8 h8 => ra_nil ⟨pa, o, _, _, rfl, .inl (.inl h8), Nat.zero_lt_succ _, Nat.le_of_ble_eq_true rfl, by omega, pen7.mono e8, fun v H9 hv e9 pen9 => ?_⟩⟩⟩
    obtain ⟨y, rfl, hy⟩ : ∃ y, v = .int y ∧ isNum y := by
      simp only [List.mem_cons, List.not_mem_nil, or_false] at hv
      rcases hv with rfl | rfl | rfl | rfl
      · exact ⟨0, rfl, by decide, by decide⟩
      · exact ⟨1, rfl, by decide, by decide⟩
      · exact ⟨2, rfl, by decide, by decide⟩
      · exact ⟨z, rfl, z0, z1⟩
    have e57 := (e7.trans (exP.of e8)).trans e9
    refine ⟨e57.but _ _ hDl nD.symm, ns ++ [y], by rw [List.map_append]; rfl, by rw [List.length_append, hnl]; rfl, fun x hx => ?_, (e5.trans e57).mut hD nD, ((pen9.upto (by omega)).mut (aw5.step e57) nD), (aw5.step e57).mut nD⟩
    rcases List.mem_append.mp hx with hx | hx
    · exact hns x hx
    · rw [List.mem_singleton.mp hx]; exact hy
  rintro Dl acc H5 hD hDl hlen5 ⟨ns, rfl, hnl, hns, e5, pen5, aw5⟩
  have hD0 : H Dl = none := e1.back hD (pen1.ne_new hD).symm
  refine q Dl ns H5 hD0 hDl (by omega) hns (e1.trans e5) (pen5.upto (by omega))
def sp_beyond (K : PySem.W.Frag) : Sp := fun vs H Q _ => ∃ (fo : Addr) (kvs : List (Key × V)) (la : Addr) (n : Str) (ds : List PyData) (i j : Nat), vs = [.ref fo, .str n, .int (i : Nat)] ∧ H fo = some (.dK kvs) ∧ valV kvs (.inr n) = some (.ref la) ∧ D K H (.ref la) (.list ds) ∧ (∀ d ∈ ds, isLineD d = true) ∧ IsPast ds i j ∧ ∀ t H', H t = none → Ex H H' → H' t = some (.tup [.str n, .int (j : Nat)]) → Q (.ref t) H'
abbrev nm_bey : List Str := ["_law_plain_here", "_law_name", "_law_index"]
theorem sc_bey : FnScope nm_bey nm_bey (defScope s_l_beyond_marks) := ⟨rfl, rfl, rfl, by decide +kernel, rfl, by decide +kernel, by decide +kernel⟩
theorem ok_beyond (F : Fun K "_law_beyond_marks" "_law_beyond_marks" s_l_beyond_marks f fd) : FnOk P w K mg base CX0 1 f fd nm_bey (sp_beyond K) := by
  refine F.ok sc_bey (fun vs H Q E h => ?_) (fun cdv Ar outer sh H vs Q E hr h => ⟨RB _ _, pss_RB, ?_⟩)
  · obtain ⟨_, _, _, _, _, _, _, rfl, _⟩ := h; rfl
  obtain ⟨fo, kvs, la, n, ds, i, j, rfl, hfo, hv, hD, hok, hp, q⟩ := h
  refine rb_cons <| rs_while (m0 := j - i) PassesOwn.never (fun m σ' H' => ∃ k, m = j - k ∧ i ≤ k ∧ k ≤ j ∧ σ' = [some (.ref fo), some (.str n), some (.int (k : Nat))] ∧ H' = H) ⟨i, rfl, Nat.le_refl _, hp.le, rfl, rfl⟩ ?_
  rintro m σ' H1 ⟨k, rfl, hi, hij, rfl, rfl⟩
  have hdi : ∃ d, ds[k]? = some d ∧ (wordD d = "mark" ↔ k < j) := by
    by_cases z : k < j
    · obtain ⟨d, h1, h2⟩ := hp.mark k hi z
      exact ⟨d, h1, ⟨fun _ => z, fun _ => h2⟩⟩
    · obtain ⟨d, h1, h2⟩ := hp.here
      have : k = j := by omega
      rw [this]
      exact ⟨d, h1, ⟨fun x => absurd x h2, fun x => absurd x (Nat.lt_irrefl _)⟩⟩
  obtain ⟨d, hd, hw⟩ := hdi
  obtain ⟨xs, a, hsq, hxa, hqa⟩ := list_line hD hok hd
  refine rt_cmp op_eq <| re_ixT <| re_ixL <| re_dget (hu_of hr) <| re_var 0 rfl <| re_var 1 rfl ⟨fo, kvs, .inr n, .ref la, rfl, hfo, rfl, hv, re_var 2 rfl ⟨la, xs, (k : Nat), .ref a, rfl, rfl, hsq, atI_nat hxa, re_int ⟨a, _, 0, .str (wordD d), rfl, rfl, hqa, atI_nat (j := 0) rfl, re_str ⟨rfl, _, rfl, ?_⟩⟩⟩⟩
  rw [eqK]
  by_cases z : k < j
  · rw [decide_eq_true (hw.mpr z)]
    refine ifT ⟨fun σ' H' => ∃ m', m' < j - k ∧ ∃ k', m' = j - k' ∧ i ≤ k' ∧ k' ≤ j ∧ σ' = [some (.ref fo), some (.str n), some (.int (k' : Nat))] ∧ H' = H1, fun σ' H' h => h, ?_⟩
    refine rb_one <| rs_set 2 (by exact sc_bey.nd) <| re_add <| re_var 2 rfl <| re_int ⟨_, 1, rfl, rfl, ?_⟩
    exact ⟨j - (k + 1), by omega, k + 1, rfl, by omega, z, rfl, rfl⟩
  · rw [decide_eq_false (fun x => z (hw.mp x))]
    have : k = j := by omega
    subst this
    exact ifF (rb_one <| rs_ret <| re_tup <| ra_cons <| re_var 1 rfl <| ra_cons <| re_var 2 rfl <| ra_nil ⟨Nat.le_of_ble_eq_true rfl, fun t H2 ht e2 h2 => q t H2 ht e2 h2⟩)
end
end Fl
end
section
set_option Elab.async false
set_option linter.all false
set_option maxRecDepth 100000
set_option maxHeartbeats 4000000
namespace Fl
open PySem PySem.Spec PyProof.Rows L2 Fx
open Evl (Ex fresh_back)
/-! ### the shapes of lines -/
inductive Shape : PyData → Prop
  | num {r n : Int} : isReg r → isNum n → Shape (lnum r n)
  | rr {w : Str} {r s : Int} : w ∈ (["copy", "same", "less"] : List Str) → isReg r → isReg s → Shape (lrr w r s)
  | rrr {w : Str} {r s t : Int} : w ∈ (["add", "sub", "mul"] : List Str) → isReg r → isReg s → isReg t → Shape (lrrr w r s t)
  | addr {r : Int} {f : Str} : isReg r → isWordS f = true → Shape (laddr r f)
  | r1 {w : Str} {r : Int} : w ∈ (["in", "out", "callr"] : List Str) → isReg r → Shape (lr w r)
  | s1 {w s : Str} : w ∈ (["mark", "jump", "if", "unless", "call", "tail"] : List Str) → isWordS s = true → Shape (ls1 w s)
  | stk {w : Str} {r : Int} : w ∈ (["push", "pop"] : List Str) → isReg r → Shape (lr w r)
  | lnk {w : Str} : w ∈ (["push", "pop"] : List Str) → Shape (ls1 w "link")
  | read {r : Int} {k : Nat} : isReg r → Shape (lread r k)
  | write {r : Int} {k : Nat} : isReg r → Shape (lwrite k r)
  | fin {w : Str} : w ∈ (["back", "stop"] : List Str) → Shape (lend w)
theorem fits_numD {i : Int} (h : fitsD "number" (.int i) = true) : isNum i := by
  unfold fitsD at h
  rw [if_neg (by decide +kernel), if_pos rfl] at h
  have h : (decide (-2147483648 ≤ i) && decide (i ≤ 2147483647)) = true := h
  rw [Bool.and_eq_true, decide_eq_true_eq, decide_eq_true_eq] at h
  exact h
theorem fits_rl {d : PyData} (h : fitsD "reg or link" d = true) : d = .str "link" ∨ ∃ i : Int, d = .int i ∧ isReg i := by
  unfold fitsD at h
  rw [if_neg (by decide +kernel), if_neg (by decide +kernel), if_neg (by decide +kernel)] at h
  by_cases z : strIs "link" d = true
  · left
    cases d with
    | str s =>
      have : s = "link" := of_decide_eq_true z
      rw [this]
    | _ => exact absurd (show false = true from z) Bool.false_ne_true
  · rw [if_neg (fun y => z y.2)] at h
    right
    cases d with
    | int i =>
      have h : (decide (0 ≤ i) && decide (i < 6)) = true := h
      rw [Bool.and_eq_true, decide_eq_true_eq, decide_eq_true_eq] at h
      exact ⟨i, rfl, h⟩
    | _ => exact absurd (show false = true from h) Bool.false_ne_true
theorem lk_mem {α : Type} {w : Str} {k : α} : ∀ {l : List (Str × α)}, l.lookup w = some k → (w, k) ∈ l
  | [], h => nomatch h
  | (a, b) :: r, h => by
    rw [List.lookup_cons] at h
    by_cases e : w = a
    · subst e
      rw [beq_self_eq_true] at h
      cases h
      exact List.mem_cons_self
    · rw [beq_eq_false_iff_ne.mpr e] at h
      exact List.mem_cons_of_mem _ (lk_mem h)
theorem len1 {α : Type} {xs : List α} (h : xs.length = 1) : ∃ a, xs = [a] := by
  match xs, h with
  | [a], _ => exact ⟨a, rfl⟩
theorem len2 {α : Type} {xs : List α} (h : xs.length = 2) : ∃ a b, xs = [a, b] := by
  match xs, h with
  | [a, b], _ => exact ⟨a, b, rfl⟩
theorem len3 {α : Type} {xs : List α} (h : xs.length = 3) : ∃ a b c, xs = [a, b, c] := by
  match xs, h with
  | [a, b, c], _ => exact ⟨a, b, c, rfl⟩
section
variable {d : PyData} {w : Str} {xs : List PyData}
theorem sh_rr (v : Valid d w xs ["reg", "reg"]) (hw : w ∈ (["copy", "same", "less"] : List Str)) : Shape d := by
  obtain ⟨a, b, rfl⟩ := len2 v.len
  obtain ⟨i, rfl, h1, h2⟩ := fits_reg (v.fits 0 _ _ rfl rfl)
  obtain ⟨j, rfl, h3, h4⟩ := fits_reg (v.fits 1 _ _ rfl rfl)
  rw [v.eq]; exact .rr hw ⟨h1, h2⟩ ⟨h3, h4⟩
theorem sh_rrr (v : Valid d w xs ["reg", "reg", "reg"]) (hw : w ∈ (["add", "sub", "mul"] : List Str)) : Shape d := by
  obtain ⟨a, b, c, rfl⟩ := len3 v.len
  obtain ⟨i, rfl, h1, h2⟩ := fits_reg (v.fits 0 _ _ rfl rfl)
  obtain ⟨j, rfl, h3, h4⟩ := fits_reg (v.fits 1 _ _ rfl rfl)
  obtain ⟨k, rfl, h5, h6⟩ := fits_reg (v.fits 2 _ _ rfl rfl)
  rw [v.eq]; exact .rrr hw ⟨h1, h2⟩ ⟨h3, h4⟩ ⟨h5, h6⟩
theorem sh_r1 (v : Valid d w xs ["reg"]) (hw : w ∈ (["in", "out", "callr"] : List Str)) : Shape d := by
  obtain ⟨a, rfl⟩ := len1 v.len
  obtain ⟨i, rfl, h1, h2⟩ := fits_reg (v.fits 0 _ _ rfl rfl)
  rw [v.eq]; exact .r1 hw ⟨h1, h2⟩
theorem sh_s1 (v : Valid d w xs ["word"]) (hw : w ∈ (["mark", "jump", "if", "unless", "call", "tail"] : List Str)) : Shape d := by
  obtain ⟨a, rfl⟩ := len1 v.len
  obtain ⟨s, rfl, hs⟩ := fits_word (v.fits 0 _ _ rfl rfl)
  rw [v.eq]; exact .s1 hw hs
theorem sh_stk (v : Valid d w xs ["reg or link"]) (hw : w ∈ (["push", "pop"] : List Str)) : Shape d := by
  obtain ⟨a, rfl⟩ := len1 v.len
  rw [v.eq]
  rcases fits_rl (v.fits 0 _ _ rfl rfl) with rfl | ⟨i, rfl, hi⟩
  · exact .lnk hw
  · exact .stk hw hi
theorem sh_fin (v : Valid d w xs []) (hw : w ∈ (["back", "stop"] : List Str)) : Shape d := by
  obtain rfl := List.eq_nil_of_length_eq_zero v.len
  rw [v.eq]; exact .fin hw
theorem shape_of (h : isLineD d = true) : Shape d := by
  obtain ⟨w, xs, kinds, v⟩ := valid_of h
  have hm := lk_mem v.form
  unfold forms at hm
  simp only [List.mem_cons, Prod.mk.injEq, List.not_mem_nil, or_false] at hm
  rcases hm with ⟨rfl, rfl⟩ | ⟨rfl, rfl⟩ | ⟨rfl, rfl⟩ | ⟨rfl, rfl⟩ | ⟨rfl, rfl⟩ | ⟨rfl, rfl⟩ | ⟨rfl, rfl⟩ | ⟨rfl, rfl⟩ | ⟨rfl, rfl⟩ | ⟨rfl, rfl⟩ | ⟨rfl, rfl⟩ | ⟨rfl, rfl⟩ | ⟨rfl, rfl⟩ | ⟨rfl, rfl⟩ | ⟨rfl, rfl⟩ | ⟨rfl, rfl⟩ | ⟨rfl, rfl⟩ | ⟨rfl, rfl⟩ | ⟨rfl, rfl⟩ | ⟨rfl, rfl⟩ | ⟨rfl, rfl⟩ | ⟨rfl, rfl⟩ | ⟨rfl, rfl⟩
  · obtain ⟨a, b, rfl⟩ := len2 v.len
    obtain ⟨i, rfl, h1, h2⟩ := fits_reg (v.fits 0 _ _ rfl rfl)
    have hf := v.fits 1 _ _ rfl rfl
    obtain ⟨j, rfl⟩ := fits_num hf
    rw [v.eq]; exact .num ⟨h1, h2⟩ (fits_numD hf)
  · exact sh_rr v (by decide +kernel)
  · exact sh_rrr v (by decide +kernel)
  · exact sh_rrr v (by decide +kernel)
  · exact sh_rrr v (by decide +kernel)
  · obtain ⟨a, b, rfl⟩ := len2 v.len
    obtain ⟨i, rfl, h1, h2⟩ := fits_reg (v.fits 0 _ _ rfl rfl)
    obtain ⟨s, rfl, hs⟩ := fits_word (v.fits 1 _ _ rfl rfl)
    rw [v.eq]; exact .addr ⟨h1, h2⟩ hs
  · exact sh_rr v (by decide +kernel)
  · exact sh_rr v (by decide +kernel)
  · exact sh_r1 v (by decide +kernel)
  · exact sh_r1 v (by decide +kernel)
  · exact sh_stk v (by decide +kernel)
  · exact sh_stk v (by decide +kernel)
  · obtain ⟨a, b, rfl⟩ := len2 v.len
    obtain ⟨i, rfl, h1, h2⟩ := fits_reg (v.fits 0 _ _ rfl rfl)
    have e := fits_entry (v.fits 1 _ _ rfl rfl)
    rw [v.eq, e]; exact .read ⟨h1, h2⟩
  · obtain ⟨a, b, rfl⟩ := len2 v.len
    obtain ⟨i, rfl, h1, h2⟩ := fits_reg (v.fits 1 _ _ rfl rfl)
    have e := fits_entry (v.fits 0 _ _ rfl rfl)
    rw [v.eq, e]; exact .write ⟨h1, h2⟩
  · exact sh_s1 v (by decide +kernel)
  · exact sh_s1 v (by decide +kernel)
  · exact sh_s1 v (by decide +kernel)
  · exact sh_s1 v (by decide +kernel)
  · exact sh_s1 v (by decide +kernel)
  · exact sh_r1 v (by decide +kernel)
  · exact sh_s1 v (by decide +kernel)
  · exact sh_fin v (by decide +kernel)
  · exact sh_fin v (by decide +kernel)
end
end Fl
end
section
set_option Elab.async false
set_option linter.all false
set_option maxRecDepth 100000
set_option maxHeartbeats 4000000
namespace Fl
open PySem PySem.Spec PyProof.Rows L2 Fx
open Evl (Ex fresh_back)
/-! ### calls that have not come back -/
structure FrOk (ys : List Str) (R : V) (r : List Str) (f : List V) : Prop where
  len : f.length = r.length
  ent : ∀ (k : Nat) e v, r[k]? = some e → f[k]? = some v → (e = "link" → v = R) ∧ (e ≠ "link" → okV ys v)
theorem FrOk.nil {ys : List Str} {R : V} : FrOk ys R [] [] := ⟨rfl, fun k e v h => nomatch h⟩
theorem FrOk.push {ys : List Str} {R : V} {r : List Str} {f : List V} {e : Str} {v : V} (F : FrOk ys R r f) (h1 : e = "link" → v = R) (h2 : e ≠ "link" → okV ys v) : FrOk ys R (r ++ [e]) (f ++ [v]) := by
  refine ⟨by rw [List.length_append, List.length_append, F.len]; rfl, fun k e' v' hr hf => ?_⟩
  by_cases z : k < r.length
  · rw [List.getElem?_append_left z] at hr
    rw [List.getElem?_append_left (by rw [F.len]; exact z)] at hf
    exact F.ent k e' v' hr hf
  · rw [List.getElem?_append_right (by omega)] at hr
    rw [List.getElem?_append_right (by rw [F.len]; omega), F.len] at hf
    cases hk : k - r.length with
    | zero =>
      rw [hk] at hr hf
      cases hr; cases hf
      exact ⟨h1, h2⟩
    | succ m => rw [hk] at hr; cases hr
theorem FrOk.pop {ys : List Str} {R : V} {r : List Str} {f : List V} {e : Str} (F : FrOk ys R (r ++ [e]) f) : ∃ f' v, f = f' ++ [v] ∧ FrOk ys R r f' ∧ (e = "link" → v = R) ∧ (e ≠ "link" → okV ys v) := by
  have hl : f.length = r.length + 1 := by rw [F.len, List.length_append]; rfl
  have hne : f ≠ [] := fun z => by rw [z] at hl; cases hl
  refine ⟨f.dropLast, f.getLast hne, (List.dropLast_concat_getLast hne).symm, ⟨by rw [List.length_dropLast, hl]; rfl, fun k e' v' hr hf => ?_⟩, ?_⟩
  · have hk := (List.getElem?_eq_some_iff.mp hr).1
    refine F.ent k e' v' (by rw [List.getElem?_append_left hk]; exact hr) ?_
    have hc := List.dropLast_concat_getLast hne
    rw [← hc, List.getElem?_append_left (by rw [List.length_dropLast, hl]; omega)]
    exact hf
  · refine F.ent r.length e _ (by rw [List.getElem?_append_right (Nat.le_refl _), Nat.sub_self]; rfl) ?_
    rw [List.getLast_eq_getElem, ← List.getElem?_eq_getElem]
    congr 1
    omega
theorem FrOk.at_ {ys : List Str} {R : V} {r : List Str} {f : List V} {k : Nat} (F : FrOk ys R r f) (h : hasV r k = true) : k < f.length ∧ ∃ v, f[f.length - 1 - k]? = some v ∧ okV ys v := by
  unfold hasV at h
  rw [Bool.and_eq_true, decide_eq_true_eq, decide_eq_true_eq] at h
  have hk : k < f.length := by rw [F.len]; exact h.1
  obtain ⟨v, hv⟩ : ∃ v, f[f.length - 1 - k]? = some v := ⟨_, List.getElem?_eq_getElem (by omega)⟩
  exact ⟨hk, v, hv, (F.ent _ _ _ (by rw [F.len]; exact h.2) hv).2 (by decide +kernel)⟩
theorem FrOk.set {ys : List Str} {R : V} {r : List Str} {f : List V} {k : Nat} {u : V} (F : FrOk ys R r f) (h : hasV r k = true) (hu : okV ys u) : FrOk ys R r (f.set (f.length - 1 - k) u) := by
  unfold hasV at h
  rw [Bool.and_eq_true, decide_eq_true_eq, decide_eq_true_eq] at h
  refine ⟨by rw [List.length_set]; exact F.len, fun j e v hr hf => ?_⟩
  rw [List.getElem?_set] at hf
  by_cases z : f.length - 1 - k = j
  · rw [if_pos z] at hf
    have : e = "value" := by
      rw [← z, F.len, h.2] at hr
      exact (Option.some.inj hr).symm
    subst this
    refine ⟨fun y => absurd y (by decide +kernel), fun _ => ?_⟩
    split at hf
    · rw [← Option.some.inj hf]; exact hu
    · cases hf
  · rw [if_neg z] at hf
    exact F.ent j e v hr hf
/-- a call that has not come back: the function, the index behind the call, the depth -/
abbrev Ent := Str × Nat × Nat
inductive Under (d : Cd) (H : Hp) : List V → V → List Ent → Prop
  | base : Under d H [] (.str "end") []
  | call {below : List V} {R : V} {calls : List Ent} {n : Str} {i : Nat} {fr : List V} {t : Addr} {q : Bool} : Under d H below R calls → n ∈ d.ys → Whole q d.ys (d.ls n) → i < (d.ls n).length → (q = true → ownAtN (d.ls n) i = false) → FrOk d.ys R (rowAtN (d.ls n) i) fr → H t = some (.tup [.str n, .int (i : Nat)]) → Under d H (below ++ fr) (.ref t) ((n, i, (below ++ fr).length) :: calls)
def keepT (H H' : Hp) : Prop := ∀ b zs, H b = some (.tup zs) → H' b = some (.tup zs)
theorem Under.mono {d : Cd} {H H' : Hp} (e : keepT H H') : ∀ {below : List V} {R : V} {calls : List Ent}, Under d H below R calls → Under d H' below R calls := by
  intro below R calls h
  induction h with
  | base => exact .base
  | call _ a b c g f k ih => exact .call ih a b c g f (e _ _ k)
structure Dyn (d : Cd) (H : Hp) (s : MSt) (calls : List Ent) : Prop where
  nm : s.name ∈ d.ys
  ex : ∃ below R fr q, Under d H below R calls ∧ s.stk = below ++ fr ∧ FrOk d.ys R (rowAtN (d.ls s.name) s.at_) fr ∧ Whole q d.ys (d.ls s.name) ∧ (q = true → ownAtN (d.ls s.name) s.at_ = true → s.link = R)
theorem Dyn.mono {d : Cd} {H H' : Hp} {s : MSt} {calls : List Ent} (D : Dyn d H s calls) (e : keepT H H') : Dyn d H' s calls := by
  obtain ⟨b, R, fr, q, u, h⟩ := D.ex
  exact ⟨D.nm, b, R, fr, q, u.mono e, h⟩
theorem row_next {ds : List PyData} {i : Nat} {l : PyData} (h : ds[i]? = some l) : rowAtN ds (i + 1) = (rowB l (rowAtN ds i)).getD [] := by
  show (match ds[i]? with | some d => (rowB d (rowAtN ds i)).getD [] | none => []) = _
  rw [h]
theorem own_next {ds : List PyData} {i : Nat} {l : PyData} (h : ds[i]? = some l) : ownAtN ds (i + 1) = ownB l (ownAtN ds i) := by
  show (match ds[i]? with | some d => ownB d (ownAtN ds i) | none => true) = _
  rw [h]
theorem own_keep {l : PyData} {o : Bool} (h1 : wordD l ≠ "pop") (h2 : wordD l ∉ (["call", "callr"] : List Str)) : ownB l o = o := by
  unfold ownB isPair
  rw [decide_eq_false h1, decide_eq_false h2]
  simp
theorem past_keep {ds : List PyData} {i : Nat} : ∀ {m : Nat}, (∀ k, i ≤ k → k < i + m → ∃ d, ds[k]? = some d ∧ wordD d = "mark") → rowAtN ds (i + m) = rowAtN ds i ∧ ownAtN ds (i + m) = ownAtN ds i
  | 0, _ => ⟨rfl, rfl⟩
  | m + 1, h => by
    obtain ⟨h1, h2⟩ := past_keep (m := m) fun k a b => h k a (by omega)
    obtain ⟨d, hd, hw⟩ := h (i + m) (by omega) (by omega)
    refine ⟨?_, ?_⟩
    · rw [show i + (m + 1) = i + m + 1 from rfl, row_next hd, rowB_flow (.inl hw), h1]; rfl
    · rw [show i + (m + 1) = i + m + 1 from rfl, own_next hd, own_keep (by rw [hw]; decide +kernel) (by rw [hw]; decide +kernel), h2]
theorem Dyn.past {d : Cd} {H : Hp} {s : MSt} {calls : List Ent} {j : Nat} (D : Dyn d H s calls) (h : IsPast (d.ls s.name) s.at_ j) : Dyn d H { s with at_ := j } calls := by
  obtain ⟨b, R, fr, q, u, h1, h2, h3, h4⟩ := D.ex
  obtain ⟨m, rfl⟩ : ∃ m, j = s.at_ + m := ⟨j - s.at_, by have := h.le; omega⟩
  obtain ⟨g1, g2⟩ := past_keep (m := m) h.mark
  exact ⟨D.nm, b, R, fr, q, u, h1, by show FrOk _ _ (rowAtN (d.ls s.name) (s.at_ + m)) fr; rw [g1]; exact h2, h3, fun a c => h4 a (by rw [← g2]; exact c)⟩
theorem last_not {q : Bool} {ns : List Str} {ds : List PyData} (W : Whole q ns ds) {i : Nat} {l : PyData} (h : ds[i]? = some l) (hw : wordD l ∉ endL) : i + 1 < ds.length := by
  have hi := (List.getElem?_eq_some_iff.mp h).1
  obtain ⟨x, hx, hxw⟩ := W.last
  by_cases z : i = ds.length - 1
  · rw [← z, h] at hx
    cases hx
    exact absurd hxw hw
  · omega
theorem past_some {q : Bool} {ns : List Str} {ds : List PyData} (W : Whole q ns ds) {i : Nat} (h : i < ds.length) : ∃ j, IsPast ds i j := by
  obtain ⟨x, hx, hxw⟩ := W.last
  refine past_ex (ds.length - i) i ⟨ds.length - 1, x, by omega, by omega, hx, fun z => ?_⟩ fun _ _ => trivial
  rw [z] at hxw
  exact absurd hxw (by decide +kernel)
end Fl
end
section
set_option Elab.async false
set_option linter.all false
set_option maxRecDepth 100000
set_option maxHeartbeats 4000000
namespace Fl
open PySem PySem.Spec PyProof.Rows L2 Fx
open Evl (Ex fresh_back)
/-! ### what one line does to the calls -/
inductive Res (d : Cd) (H1 : Hp) (s : MSt) (l : PyData) (calls : List Ent) : MSt → (Hp → Prop) → Prop
  | stop {s' : MSt} {φ : Hp → Prop} {x : Str} : s'.ended = .str x → x ≠ "back" → wordD l ≠ "back" → wordD l ∉ (["push", "pop"] : List Str) → s'.stk = s.stk → Res d H1 s l calls s' φ
  | back {s' : MSt} {φ : Hp → Prop} : s'.ended = .str "back" → wordD l = "back" → calls = [] → s.stk = [] → s'.stk = s.stk → Res d H1 s l calls s' φ
  | ret {s' : MSt} {φ : Hp → Prop} {n : Str} {i dep : Nat} {cs : List Ent} : wordD l = "back" → calls = (n, i, dep) :: cs → s'.ended = .non → s'.name = n → s'.at_ = i → s'.stk = s.stk → s.stk.length = dep → Dyn d H1 s' cs → i < (d.ls n).length → Res d H1 s l calls s' φ
  | call {s' : MSt} {φ : Hp → Prop} : wordD l ∈ (["call", "callr"] : List Str) → s'.ended = .non → s'.stk = s.stk → s'.at_ < (d.ls s'.name).length → s'.name ∈ d.ys → s.at_ + 1 < (d.ls s.name).length → (∀ H2, keepT H1 H2 → φ H2 → Dyn d H2 s' ((s.name, s.at_ + 1, s.stk.length) :: calls)) → Res d H1 s l calls s' φ
  | go {s' : MSt} {φ : Hp → Prop} : wordD l ∉ (["call", "callr", "back"] : List Str) → s'.ended = .non → s'.at_ < (d.ls s'.name).length → Dyn d H1 s' calls → (wordD l = "push" → s'.stk.length = s.stk.length + 1) → (wordD l = "pop" → s'.stk.length + 1 = s.stk.length) → (wordD l ∉ (["push", "pop"] : List Str) → s'.stk.length = s.stk.length) → Res d H1 s l calls s' φ
section
variable {K : PySem.W.Frag} {C : Addr} {d : Cd} {H : Hp} {A : MA} {s s' : MSt} {l : PyData} {calls : List Ent} {φ : Hp → Prop}
/-- a line that leaves the row, the link and the stack as they are -/
theorem res_same (D : Dyn d H s calls) (he : s'.ended = .non) (hl : (d.ls s.name)[s.at_]? = some l) (hw : wordD l ∉ (["push", "pop", "read", "write", "back", "tail", "call", "callr", "jump", "stop"] : List Str)) (h1 : s'.name = s.name) (h2 : s'.at_ = s.at_ + 1) (h3 : s'.stk = s.stk) (h4 : s'.link = s.link) : Res d H s l calls s' φ := by
  obtain ⟨b, R, fr, q, u, g1, g2, W, g4⟩ := D.ex
  have nw : ∀ w : Str, w ∈ (["push", "pop", "read", "write", "back", "tail", "call", "callr", "jump", "stop"] : List Str) → wordD l ≠ w := fun w h z => hw (z ▸ h)
  have hlt : s.at_ + 1 < (d.ls s.name).length := last_not W hl fun z => by
    simp only [endL, List.mem_cons, List.not_mem_nil, or_false] at z
    rcases z with z | z | z | z
    · exact nw _ (by decide +kernel) z
    · exact nw _ (by decide +kernel) z
    · exact nw _ (by decide +kernel) z
    · exact nw _ (by decide +kernel) z
  have hr : rowAtN (d.ls s.name) (s.at_ + 1) = rowAtN (d.ls s.name) s.at_ := by
    rw [row_next hl, rowB_plain]
    · rfl
    · intro z
      simp only [List.mem_cons, List.not_mem_nil, or_false] at z
      rcases z with z | z | z | z | z | z <;> exact nw _ (by decide +kernel) z
  have ho : ownAtN (d.ls s.name) (s.at_ + 1) = ownAtN (d.ls s.name) s.at_ := by
    rw [own_next hl, own_keep (nw _ (by decide +kernel))]
    intro z
    simp only [List.mem_cons, List.not_mem_nil, or_false] at z
    rcases z with z | z <;> exact nw _ (by decide +kernel) z
  refine .go (fun z => ?_) he (by rw [h1, h2]; exact hlt) ⟨by rw [h1]; exact D.nm, b, R, fr, q, u, by rw [h3]; exact g1, by rw [h1, h2, hr]; exact g2, by rw [h1]; exact W, fun a c => ?_⟩ (fun z => absurd z (nw _ (by decide +kernel))) (fun z => absurd z (nw _ (by decide +kernel))) (fun _ => by rw [h3])
  · simp only [List.mem_cons, List.not_mem_nil, or_false] at z
    rcases z with z | z | z <;> exact nw _ (by decide +kernel) z
  · rw [h1, h2, ho] at c
    rw [h4]; exact g4 a c
theorem res_stop {x : Str} (he : s'.ended = .str x) (hx : x ≠ "back") (h1 : wordD l ∉ (["back", "push", "pop"] : List Str)) (h2 : s'.stk = s.stk) : Res d H s l calls s' φ :=
  .stop he hx (fun z => h1 (by rw [z]; decide +kernel)) (fun z => h1 (List.mem_cons_of_mem _ z)) h2
/-- read and write: an entry of the row -/
theorem dyn_row (D : Dyn d H s calls) (hl : (d.ls s.name)[s.at_]? = some l) : ∃ (b : List V) (R : V) (fr : List V) (q : Bool) (γ : Str → Option (List Str)), Under d H b R calls ∧ s.stk = b ++ fr ∧ FrOk d.ys R (rowAtN (d.ls s.name) s.at_) fr ∧ Whole q d.ys (d.ls s.name) ∧ (q = true → ownAtN (d.ls s.name) s.at_ = true → s.link = R) ∧ (∀ i x, (d.ls s.name)[i]? = some x → Here γ q d.ys x (rowAtN (d.ls s.name) i) (ownAtN (d.ls s.name) i) (rowAtN (d.ls s.name) (i + 1))) := by
  obtain ⟨b, R, fr, q, u, g1, g2, W, g4⟩ := D.ex
  obtain ⟨γ, hh⟩ := W.here
  exact ⟨b, R, fr, q, γ, u, g1, g2, W, g4, hh⟩
theorem res_read {r : Int} {k : Nat} (D : Dyn d H s calls) (hl : (d.ls s.name)[s.at_]? = some (lread r k)) (he : s.ended = .non) : ∃ v, k < s.stk.length ∧ s.stk[s.stk.length - 1 - k]? = some v ∧ okV d.ys v ∧ ∀ rg φ, Res d H s (lread r k) calls { s with reg := rg, at_ := s.at_ + 1 } φ := by
  have hw : wordD (lread r k) = "read" := rfl
  obtain ⟨b, R, fr, q, γ, u, g1, g2, W, g4, hh⟩ := dyn_row D hl
  have hrow := (hh _ _ hl).row
  have hrow : (if hasV (rowAtN (d.ls s.name) s.at_) k = true then some (rowAtN (d.ls s.name) s.at_) else none) = some (rowAtN (d.ls s.name) (s.at_ + 1)) := hrow
  by_cases hv : hasV (rowAtN (d.ls s.name) s.at_) k = true
  · rw [if_pos hv] at hrow
    obtain ⟨hk, v, hfv, hok⟩ := g2.at_ hv
    refine ⟨v, by rw [g1, List.length_append]; omega, ?_, hok, fun rg φ => ?_⟩
    · rw [g1, List.length_append, List.getElem?_append_right (by omega)]
      rw [show b.length + fr.length - 1 - k - b.length = fr.length - 1 - k by omega]
      exact hfv
    · refine .go (by rw [hw]; decide +kernel) he (last_not W hl (by rw [hw]; decide +kernel)) ⟨D.nm, b, R, fr, q, u, g1, ?_, W, fun a c => g4 a ?_⟩ (fun z => absurd (hw.symm.trans z) (by decide +kernel)) (fun z => absurd (hw.symm.trans z) (by decide +kernel)) (fun _ => rfl)
      · show FrOk _ _ (rowAtN (d.ls s.name) (s.at_ + 1)) fr
        rw [← Option.some.inj hrow]; exact g2
      · have c : ownAtN (d.ls s.name) (s.at_ + 1) = true := c
        rw [own_next hl, own_keep (by rw [hw]; decide +kernel) (by rw [hw]; decide +kernel)] at c
        exact c
  · rw [if_neg hv] at hrow; cases hrow
theorem res_write {r : Int} {k : Nat} (D : Dyn d H s calls) (hl : (d.ls s.name)[s.at_]? = some (lwrite k r)) (he : s.ended = .non) : k < s.stk.length ∧ ∀ u φ, okV d.ys u → Res d H s (lwrite k r) calls { s with stk := s.stk.set (s.stk.length - 1 - k) u, at_ := s.at_ + 1 } φ := by
  have hw : wordD (lwrite k r) = "write" := rfl
  obtain ⟨b, R, fr, q, γ, u, g1, g2, W, g4, hh⟩ := dyn_row D hl
  have hrow := (hh _ _ hl).row
  have hrow : (if hasV (rowAtN (d.ls s.name) s.at_) k = true then some (rowAtN (d.ls s.name) s.at_) else none) = some (rowAtN (d.ls s.name) (s.at_ + 1)) := hrow
  by_cases hv : hasV (rowAtN (d.ls s.name) s.at_) k = true
  · rw [if_pos hv] at hrow
    obtain ⟨hk, v, hfv, hok⟩ := g2.at_ hv
    refine ⟨by rw [g1, List.length_append]; omega, fun x φ hx => ?_⟩
    refine .go (by rw [hw]; decide +kernel) he (last_not W hl (by rw [hw]; decide +kernel)) ⟨D.nm, b, R, fr.set (fr.length - 1 - k) x, q, u, ?_, ?_, W, fun a c => g4 a ?_⟩ (fun z => absurd (hw.symm.trans z) (by decide +kernel)) (fun z => absurd (hw.symm.trans z) (by decide +kernel)) (fun _ => List.length_set ..)
    · show s.stk.set (s.stk.length - 1 - k) x = b ++ fr.set (fr.length - 1 - k) x
      rw [g1, List.length_append, List.set_append_right _ _ (by omega)]
      rw [show b.length + fr.length - 1 - k - b.length = fr.length - 1 - k by omega]
    · show FrOk _ _ (rowAtN (d.ls s.name) (s.at_ + 1)) _
      rw [← Option.some.inj hrow]; exact g2.set hv hx
    · have c : ownAtN (d.ls s.name) (s.at_ + 1) = true := c
      rw [own_next hl, own_keep (by rw [hw]; decide +kernel) (by rw [hw]; decide +kernel)] at c
      exact c
  · rw [if_neg hv] at hrow; cases hrow
theorem own_pushlink {o : Bool} : ownB plink o = o := own_keep (by decide +kernel) (by decide +kernel)
theorem own_poplink {o : Bool} : ownB poplink o = true := by
  unfold ownB
  rw [show isPair "pop" "link" poplink = true by decide +kernel]; rfl
theorem res_push {v : V} {e : Str} (D : Dyn d H s calls) (hl : (d.ls s.name)[s.at_]? = some l) (hw : wordD l = "push") (hr : entryD l = e) (he : s.ended = .non) (hv : e ≠ "link" → okV d.ys v) (hv2 : e = "link" → v = s.link ∧ needsB l = true) : Res d H s l calls { s with stk := s.stk ++ [v], at_ := s.at_ + 1 } φ := by
  obtain ⟨b, R, fr, q, γ, u, g1, g2, W, g4, hh⟩ := dyn_row D hl
  have hhere := hh _ _ hl
  have hrow : rowAtN (d.ls s.name) (s.at_ + 1) = rowAtN (d.ls s.name) s.at_ ++ [e] := by
    have := hhere.row
    unfold rowB at this
    rw [if_pos hw, hr] at this
    exact (Option.some.inj this).symm
  refine .go (by rw [hw]; decide +kernel) he (last_not W hl (by rw [hw]; decide +kernel)) ⟨D.nm, b, R, fr ++ [v], q, u, by show s.stk ++ [v] = _; rw [g1, List.append_assoc], ?_, W, fun a c => g4 a ?_⟩ (fun _ => List.length_append) (fun z => absurd (hw.symm.trans z) (by decide +kernel)) (fun z => absurd (by rw [hw]; decide +kernel) z)
  · show FrOk _ _ (rowAtN (d.ls s.name) (s.at_ + 1)) _
    rw [hrow]
    refine g2.push (fun z => ?_) hv
    obtain ⟨z1, z2⟩ := hv2 z
    obtain ⟨z3, z4⟩ := hhere.own z2
    rw [z1]; exact g4 z3 z4
  · have c : ownAtN (d.ls s.name) (s.at_ + 1) = true := c
    rw [own_next hl, own_keep (by rw [hw]; decide +kernel) (by rw [hw]; decide +kernel)] at c
    exact c
theorem pop_split {row : List Str} {e : Str} (h : row.drop (row.length - 1) = [e]) : row = row.dropLast ++ [e] := by
  have hne : row ≠ [] := fun z => by rw [z] at h; cases h
  have := List.take_append_drop (row.length - 1) row
  rw [h, ← List.dropLast_eq_take] at this
  exact this.symm
theorem res_pop {e : Str} (D : Dyn d H s calls) (hl : (d.ls s.name)[s.at_]? = some l) (hw : wordD l = "pop") (hr : entryD l = e) (he : s.ended = .non) : ∃ st v, s.stk = st ++ [v] ∧ (e ≠ "link" → okV d.ys v) ∧ ∀ (rg : List V) (lk : V) (φ : Hp → Prop), (e = "link" → lk = v) → (e ≠ "link" → lk = s.link) → (e ≠ "link" → isPair "pop" "link" l = false) → Res d H s l calls { s with stk := st, reg := rg, link := lk, at_ := s.at_ + 1 } φ := by
  obtain ⟨b, R, fr, q, γ, u, g1, g2, W, g4, hh⟩ := dyn_row D hl
  have hhere := hh _ _ hl
  have h := hhere.row
  unfold rowB at h
  rw [if_neg (by rw [hw]; decide +kernel), if_pos hw, hr] at h
  by_cases z : (rowAtN (d.ls s.name) s.at_).drop ((rowAtN (d.ls s.name) s.at_).length - 1) = [e]
  · rw [if_pos z] at h
    have hsp := pop_split z
    rw [hsp] at g2
    obtain ⟨f', v, rfl, F', e1, e2⟩ := g2.pop
    refine ⟨b ++ f', v, by rw [g1, List.append_assoc], e2, fun rg lk φ h1 h2 h3 => ?_⟩
    refine .go (by rw [hw]; decide +kernel) he (last_not W hl (by rw [hw]; decide +kernel)) ⟨D.nm, b, R, f', q, u, rfl, ?_, W, fun a c => ?_⟩ (fun z => absurd (hw.symm.trans z) (by decide +kernel)) (fun _ => by show (b ++ f').length + 1 = s.stk.length; rw [g1, ← List.append_assoc, List.length_append (bs := [v])]; rfl) (fun z => absurd (by rw [hw]; decide +kernel) z)
    · show FrOk _ _ (rowAtN (d.ls s.name) (s.at_ + 1)) _
      rw [← Option.some.inj h]; exact F'
    · by_cases y : e = "link"
      · show lk = R
        rw [h1 y]; exact e1 y
      · show lk = R
        rw [h2 y]
        have c : ownAtN (d.ls s.name) (s.at_ + 1) = true := c
        rw [own_next hl] at c
        unfold ownB at c
        rw [h3 y, Bool.false_or, Bool.and_eq_true] at c
        exact g4 a c.1
  · rw [if_neg z] at h; cases h
end
end Fl
end
section
set_option Elab.async false
set_option linter.all false
set_option maxRecDepth 100000
set_option maxHeartbeats 4000000
namespace Fl
open PySem PySem.Spec PyProof.Rows L2 Fx
open Evl (Ex fresh_back)
/-! ### every line of a tidy program -/
section
variable {K : PySem.W.Frag} {C : Addr} {d : Cd} {H : Hp} {A : MA} {s s' : MSt} {l : PyData} {calls : List Ent} {φ : Hp → Prop}
theorem res_jump {lab w : Str} (D : Dyn d H s calls) (hl : (d.ls s.name)[s.at_]? = some (ls1 w lab)) (hj : w ∈ jumpL) (he : s.ended = .non) : ∃ j : Nat, valV (marksV (d.ls s.name)) (.inr lab) = some (.int (j : Nat)) ∧ ∀ φ, Res d H s (ls1 w lab) calls { s with at_ := j } φ := by
  obtain ⟨b, R, fr, q, γ, u, g1, g2, W, g4, hh⟩ := dyn_row D hl
  have hw : wordD (ls1 w lab) = w := rfl
  have hwj : wordD (ls1 w lab) ∈ jumpL := hj
  obtain ⟨n, m, h1, h2, h3, h4⟩ := markN_some (mem_labels (W.jumps _ (List.mem_of_getElem? hl) hwj))
  have h1 : markN (d.ls s.name) (d.ls s.name).length lab = some n := h1
  refine ⟨n, ?_, fun φ => ?_⟩
  · show valV (marksTo _ _) _ = _
    rw [val_marks, h1]; rfl
  · have e1 := (hh _ _ h2).lab (.inl h3)
    have e2 := (hh _ _ hl).lab (.inr hwj)
    rw [h4] at e1
    have hrow := Option.some.inj (e1.1.symm.trans e2.1)
    have ne : ∀ x : Str, x ∈ (["call", "callr", "back", "push", "pop"] : List Str) → w ≠ x := fun x hx z => by
      subst z
      revert hx hj
      simp only [jumpL, List.mem_cons, List.not_mem_nil, or_false]
      rintro (rfl | rfl | rfl) <;> (intro h; rcases h with h | h | h | h | h <;> exact absurd h (by decide +kernel))
    refine .go (fun z => ?_) he (List.getElem?_eq_some_iff.mp h2).1 ⟨D.nm, b, R, fr, q, u, g1, ?_, W, fun a c => g4 a (e2.2 a)⟩ (fun z => absurd z (ne _ (by decide +kernel))) (fun z => absurd z (ne _ (by decide +kernel))) (fun _ => rfl)
    · simp only [List.mem_cons, List.not_mem_nil, or_false] at z
      rcases z with z | z | z <;> exact ne _ (by decide +kernel) z
    · show FrOk _ _ (rowAtN (d.ls s.name) n) fr
      rw [hrow]; exact g2
theorem res_call {n : Str} {t : Addr} (hW : ∀ n ∈ d.ys, ∃ q, Whole q d.ys (d.ls n)) (hb : A.bare = false) (D : Dyn d H s calls) (hl : (d.ls s.name)[s.at_]? = some l) (hw : wordD l ∈ (["call", "callr"] : List Str)) (he : s.ended = .non) (hn : n ∈ d.ys) : Res d H s l calls (callSt A { s with at_ := s.at_ + 1 } t n) (fun H' => H' t = some (.tup [.str s.name, .int ((s.at_ + 1 : Nat) : Int)])) := by
  obtain ⟨b, R, fr, q, γ, u, g1, g2, W, g4, hh⟩ := dyn_row D hl
  have cs : callSt A { s with at_ := s.at_ + 1 } t n = { s with link := .ref t, name := n, at_ := 0 } := by
    unfold callSt behSt
    rw [if_neg (by rw [hb]; exact Bool.false_ne_true)]
  rw [cs]
  obtain ⟨q2, W2⟩ := hW n hn
  have nw : ∀ x : Str, x ∈ (["push", "pop", "read", "write", "back", "tail", "jump", "stop"] : List Str) → wordD l ≠ x := fun x hx z => by
    rw [z] at hw
    simp only [List.mem_cons, List.not_mem_nil, or_false] at hw
    rcases hw with rfl | rfl <;> exact absurd hx (by decide +kernel)
  have hlt : s.at_ + 1 < (d.ls s.name).length := last_not W hl fun z => by
    simp only [endL, List.mem_cons, List.not_mem_nil, or_false] at z
    rcases z with z | z | z | z <;> exact nw _ (by decide +kernel) z
  have hr : rowAtN (d.ls s.name) (s.at_ + 1) = rowAtN (d.ls s.name) s.at_ := by
    rw [row_next hl, rowB_plain]
    · rfl
    · intro z
      simp only [List.mem_cons, List.not_mem_nil, or_false] at z
      rcases z with z | z | z | z | z | z <;> exact nw _ (by decide +kernel) z
  have ho : ownAtN (d.ls s.name) (s.at_ + 1) = false := by
    rw [own_next hl]
    unfold ownB isPair
    rw [decide_eq_true hw, decide_eq_false (nw "pop" (by decide +kernel))]
    simp
  refine .call hw he rfl W2.pos hn hlt fun H2 k2 hφ => ⟨hn, b ++ fr, .ref t, [], q2, ?_, ?_, FrOk.nil, W2, fun _ _ => rfl⟩
  · show Under d H2 (b ++ fr) (.ref t) ((s.name, s.at_ + 1, s.stk.length) :: calls)
    rw [g1]
    exact .call (u.mono k2) D.nm W hlt (fun _ => ho) (by rw [hr]; exact g2) hφ
  · show s.stk = _
    rw [g1, List.append_nil]
theorem need_row (D : Dyn d H s calls) (hl : (d.ls s.name)[s.at_]? = some l) (hw : wordD l ∈ (["back", "tail"] : List Str)) : ∃ (b : List V) (R : V), Under d H b R calls ∧ s.stk = b ∧ s.link = R := by
  obtain ⟨b, R, fr, q, γ, u, g1, g2, W, g4, hh⟩ := dyn_row D hl
  have hhere := hh _ _ hl
  have hn : needsB l = true := by
    unfold needsB
    rw [decide_eq_true hw, Bool.or_true]
  obtain ⟨z3, z4⟩ := hhere.own hn
  have ne : ∀ x : Str, x ∈ (["push", "pop", "read", "write"] : List Str) → wordD l ≠ x := fun x hx z => by
    rw [z] at hw
    simp only [List.mem_cons, List.not_mem_nil, or_false] at hw
    rcases hw with rfl | rfl <;> exact absurd hx (by decide +kernel)
  have hrow := hhere.row
  unfold rowB at hrow
  rw [if_neg (ne _ (by decide +kernel)), if_neg (ne _ (by decide +kernel)), if_neg (ne _ (by decide +kernel)), if_neg (ne _ (by decide +kernel)), if_pos hw] at hrow
  by_cases z : rowAtN (d.ls s.name) s.at_ = []
  · rw [z] at g2
    have : fr = [] := List.eq_nil_of_length_eq_zero g2.len
    subst this
    exact ⟨b, R, u, by rw [g1, List.append_nil], g4 z3 z4⟩
  · rw [if_neg z] at hrow; cases hrow
theorem res_tail {n : Str} (hW : ∀ n ∈ d.ys, ∃ q, Whole q d.ys (d.ls n)) (D : Dyn d H s calls) (hl : (d.ls s.name)[s.at_]? = some l) (hw : wordD l = "tail") (he : s.ended = .non) (hn : n ∈ d.ys) : Res d H s l calls { s with name := n, at_ := 0 } φ := by
  obtain ⟨b, R, u, g1, g2⟩ := need_row D hl (by rw [hw]; decide +kernel)
  obtain ⟨q2, W2⟩ := hW n hn
  refine .go (by rw [hw]; decide +kernel) he W2.pos ⟨hn, b, R, [], q2, u, by show s.stk = _; rw [g1, List.append_nil], FrOk.nil, W2, fun _ _ => g2⟩ (fun z => absurd (hw.symm.trans z) (by decide +kernel)) (fun z => absurd (hw.symm.trans z) (by decide +kernel)) (fun _ => rfl)
theorem under_end {b : List V} {R : V} (u : Under d H b R calls) : (R = .str "end" ∧ b = [] ∧ calls = []) ∨ ∃ (b0 : List V) (R0 : V) (cs : List Ent) (n : Str) (i : Nat) (fr : List V) (t : Addr) (q : Bool), R = .ref t ∧ b = b0 ++ fr ∧ calls = (n, i, b.length) :: cs ∧ Under d H b0 R0 cs ∧ n ∈ d.ys ∧ Whole q d.ys (d.ls n) ∧ i < (d.ls n).length ∧ (q = true → ownAtN (d.ls n) i = false) ∧ FrOk d.ys R0 (rowAtN (d.ls n) i) fr ∧ H t = some (.tup [.str n, .int (i : Nat)]) := by
  cases u with
  | base => exact .inl ⟨rfl, rfl, rfl⟩
  | call a b c e f g k => exact .inr ⟨_, _, _, _, _, _, _, _, rfl, rfl, rfl, a, b, c, e, f, g, k⟩
theorem res_back (D : Dyn d H s calls) (hl : (d.ls s.name)[s.at_]? = some l) (hw : wordD l = "back") (he : s.ended = .non) : (s.link = .str "end" ∧ ∀ φ, Res d H s l calls { s with at_ := s.at_ + 1, ended := .str "back" } φ) ∨ ∃ (t : Addr) (n : Str) (j : Nat), s.link = .ref t ∧ H t = some (.tup [.str n, .int (j : Nat)]) ∧ ∀ φ, Res d H s l calls { s with name := n, at_ := j } φ := by
  obtain ⟨b, R, u, g1, g2⟩ := need_row D hl (by rw [hw]; decide +kernel)
  rcases under_end u with ⟨rfl, rfl, rfl⟩ | ⟨b0, R0, cs, n, i, fr, t, q, rfl, rfl, rfl, u0, hn, W, hi, ho, hf, ht⟩
  · exact .inl ⟨g2, fun φ => .back rfl hw rfl g1 rfl⟩
  · refine .inr ⟨t, n, i, g2, ht, fun φ => .ret hw rfl he rfl rfl rfl (by rw [g1]) ⟨hn, b0, R0, fr, q, u0, g1, hf, W, fun a c => ?_⟩ hi⟩
    have c : ownAtN (d.ls n) i = true := c
    rw [ho a] at c; cases c
theorem mem_pre2 {w : Str} {p : PreM} (i : Nat) (h : (preL K)[i]? = some (w, p)) : (w, p) ∈ preL K := List.mem_of_getElem? h
theorem pj_of {Hc : Hp} {lab w : Str} {at2 : Nat} {q : MSt → (Hp → Prop) → Prop} (hC : CodeM K Hc A d.ys d.t d.xs d.mp d.ls d.ns) (D : Dyn d H s calls) (hl : (d.ls s.name)[s.at_]? = some (ls1 w lab)) (hj : w ∈ jumpL) (he : s.ended = .non) (hq : ∀ s' φ, Res d H s (ls1 w lab) calls s' φ → q s' φ) : pJump d.ys A { s with at_ := at2 } [.str lab] Hc q := by
  obtain ⟨j, h1, h2⟩ := res_jump D hl hj he
  exact ⟨lab, dN d.ys d.mp, d.mp s.name, marksV (d.ls s.name), j, rfl, hC.mks, dN_get D.nm, hC.mkd _ D.nm, h1, hq _ _ (h2 _)⟩
theorem line_ok (hW : ∀ n ∈ d.ys, ∃ q, Whole q d.ys (d.ls n)) (hb : A.bare = false) (hl : (d.ls s.name)[s.at_]? = some l) (hs : s.name ∈ d.ys) (hm : wordD l ≠ "mark") (he : s.ended = .non) (h6 : s.reg.length = 6) (hv : ∀ v ∈ s.reg, okV d.ys v) : ∃ p, (wordD l, p) ∈ preL K ∧
    ∀ H Hc calls, CodeM K Hc A d.ys d.t d.xs d.mp d.ls d.ns → Dyn d H s calls → keepT H Hc → ∀ q : MSt → (Hp → Prop) → Prop, (∀ s' φ, Res d H s l calls s' φ → q s' φ) → p d.ys A { s with at_ := s.at_ + 1 } (valsD l) Hc q := by
  obtain ⟨q0, W⟩ := hW _ hs
  have hok := W.ok _ (List.mem_of_getElem? hl)
  have kind : ∀ {H : Hp} {calls : List Ent} {φ : Hp → Prop}, wordD l ∉ (["back", "push", "pop"] : List Str) → Res d H s l calls { s with at_ := s.at_ + 1, ended := .str "kind" } φ := fun h => res_stop rfl (by decide +kernel) h rfl
  have nm := W.named _ (List.mem_of_getElem? hl)
  cases shape_of hok with
  | num hr hn => exact ⟨pNum, mem_pre2 0 rfl, fun H Hc calls hC D kk q hq => ⟨_, _, rfl, hr, .inl ⟨_, rfl, hn⟩, hq _ _ (res_same D he hl (show ("num" : Str) ∉ _ by decide +kernel) rfl rfl rfl rfl)⟩⟩
  | addr hr hw => exact ⟨pNum, mem_pre2 5 rfl, fun H Hc calls hC D kk q hq => ⟨_, _, rfl, hr, .inr ⟨_, nm _ rfl, rfl⟩, hq _ _ (res_same D he hl (show ("addr" : Str) ∉ _ by decide +kernel) rfl rfl rfl rfl)⟩⟩
  | rr hw hr hs2 =>
    simp only [List.mem_cons, List.not_mem_nil, or_false] at hw
    rcases hw with rfl | rfl | rfl
    · exact ⟨pCopy, mem_pre2 1 rfl, fun H Hc calls hC D kk q hq => ⟨_, _, rfl, hr, hs2, hq _ _ (res_same D he hl (show ("copy" : Str) ∉ _ by decide +kernel) rfl rfl rfl rfl)⟩⟩
    · exact ⟨pSame, mem_pre2 6 rfl, fun H Hc calls hC D kk q hq => ⟨_, _, rfl, hr, hs2, hq _ _ (res_same D he hl (show ("same" : Str) ∉ _ by decide +kernel) rfl rfl rfl rfl)⟩⟩
    · exact ⟨pLess, mem_pre2 7 rfl, fun H Hc calls hC D kk q hq => ⟨_, _, rfl, hr, hs2, fun _ x y _ _ => hq _ _ (res_same D he hl (show ("less" : Str) ∉ _ by decide +kernel) rfl rfl rfl rfl), fun _ => hq _ _ (kind (show ("less" : Str) ∉ _ by decide +kernel))⟩⟩
  | rrr hw hr hs2 ht =>
    simp only [List.mem_cons, List.not_mem_nil, or_false] at hw
    rcases hw with rfl | rfl | rfl
    · exact ⟨_, mem_pre2 2 rfl, fun H Hc calls hC D kk q hq => ⟨_, _, _, rfl, hr, hs2, ht, fun _ x y _ _ => hq _ _ (res_same D he hl (show ("add" : Str) ∉ _ by decide +kernel) rfl rfl rfl rfl), fun _ => hq _ _ (kind (show ("add" : Str) ∉ _ by decide +kernel))⟩⟩
    · exact ⟨_, mem_pre2 3 rfl, fun H Hc calls hC D kk q hq => ⟨_, _, _, rfl, hr, hs2, ht, fun _ x y _ _ => hq _ _ (res_same D he hl (show ("sub" : Str) ∉ _ by decide +kernel) rfl rfl rfl rfl), fun _ => hq _ _ (kind (show ("sub" : Str) ∉ _ by decide +kernel))⟩⟩
    · exact ⟨_, mem_pre2 4 rfl, fun H Hc calls hC D kk q hq => ⟨_, _, _, rfl, hr, hs2, ht, fun _ x y _ _ => hq _ _ (res_same D he hl (show ("mul" : Str) ∉ _ by decide +kernel) rfl rfl rfl rfl), fun _ => hq _ _ (kind (show ("mul" : Str) ∉ _ by decide +kernel))⟩⟩
  | r1 hw hr =>
    rename_i w r
    simp only [List.mem_cons, List.not_mem_nil, or_false] at hw
    rcases hw with rfl | rfl | rfl
    · exact ⟨pIn K, mem_pre2 8 rfl, fun H Hc calls hC D kk q hq => ⟨_, _, rfl, hr, hC.ip, hC.num, hq _ _ (res_same D he hl (show ("in" : Str) ∉ _ by decide +kernel) rfl rfl rfl rfl)⟩⟩
    · exact ⟨pOut, mem_pre2 9 rfl, fun H Hc calls hC D kk q hq => ⟨_, rfl, hr, fun _ => hq _ _ (res_same D he hl (show ("out" : Str) ∉ _ by decide +kernel) rfl rfl rfl rfl), fun _ => hq _ _ (kind (show ("out" : Str) ∉ _ by decide +kernel))⟩⟩
    · refine ⟨pCallr, mem_pre2 18 rfl, fun H Hc calls hC D kk q hq => ⟨_, rfl, hr, fun n hn t ht => hq _ _ (res_call hW hb D hl (show ("callr" : Str) ∈ _ by decide +kernel) he ?_), fun _ => hq _ _ (kind (show ("callr" : Str) ∉ _ by decide +kernel))⟩⟩
      have hn : s.get r = .str n := hn
      rcases hv _ (get_at h6 hr).2.1 with ⟨i, hi, _⟩ | ⟨x, hx, hxe⟩
      · rw [hn] at hi; cases hi
      · rw [hn] at hxe; cases hxe; exact hx
  | s1 hw hws =>
    rename_i w lab
    simp only [List.mem_cons, List.not_mem_nil, or_false] at hw
    rcases hw with rfl | rfl | rfl | rfl | rfl | rfl
    · exact absurd rfl hm
    · exact ⟨pJump, mem_pre2 14 rfl, fun H Hc calls hC D kk q hq => pj_of hC D hl (by decide +kernel) he hq⟩
    · exact ⟨pIf true, mem_pre2 15 rfl, fun H Hc calls hC D kk q hq => ⟨fun _ => pj_of hC D hl (by decide +kernel) he hq, fun _ => hq _ _ (res_same D he hl (show ("if" : Str) ∉ _ by decide +kernel) rfl rfl rfl rfl)⟩⟩
    · exact ⟨pIf false, mem_pre2 16 rfl, fun H Hc calls hC D kk q hq => ⟨fun _ => pj_of hC D hl (by decide +kernel) he hq, fun _ => hq _ _ (res_same D he hl (show ("unless" : Str) ∉ _ by decide +kernel) rfl rfl rfl rfl)⟩⟩
    · exact ⟨pCall, mem_pre2 17 rfl, fun H Hc calls hC D kk q hq => ⟨lab, rfl, fun t ht => hq _ _ (res_call hW hb D hl (show ("call" : Str) ∈ _ by decide +kernel) he (nm _ rfl))⟩⟩
    · exact ⟨pTail, mem_pre2 19 rfl, fun H Hc calls hC D kk q hq => ⟨lab, rfl, hq _ _ (res_tail hW D hl rfl he (nm _ rfl))⟩⟩
  | stk hw hr =>
    rename_i w r
    simp only [List.mem_cons, List.not_mem_nil, or_false] at hw
    rcases hw with rfl | rfl
    · exact ⟨pPush, mem_pre2 10 rfl, fun H Hc calls hC D kk q hq => .inr ⟨r, rfl, hr, hq _ _ (res_push (e := "value") D hl rfl rfl he (fun _ => hv _ (get_at h6 hr).2.1) (fun z => absurd z (by decide +kernel)))⟩⟩
    · refine ⟨pPop, mem_pre2 11 rfl, fun H Hc calls hC D kk q hq => ?_⟩
      obtain ⟨st, v, h1, h2, h3⟩ := res_pop (e := "value") D hl rfl rfl he
      exact ⟨st, v, h1, .inr ⟨r, rfl, hr, h2 (by decide +kernel), hq _ _ (h3 _ _ _ (fun z => absurd z (by decide +kernel)) (fun _ => rfl) (fun _ => rfl))⟩⟩
  | lnk hw =>
    rename_i w
    simp only [List.mem_cons, List.not_mem_nil, or_false] at hw
    rcases hw with rfl | rfl
    · exact ⟨pPush, mem_pre2 10 rfl, fun H Hc calls hC D kk q hq => .inl ⟨rfl, hq _ _ (res_push (e := "link") D hl rfl rfl he (fun z => absurd rfl z) (fun z => ⟨rfl, by decide +kernel⟩))⟩⟩
    · refine ⟨pPop, mem_pre2 11 rfl, fun H Hc calls hC D kk q hq => ?_⟩
      obtain ⟨st, v, h1, h2, h3⟩ := res_pop (e := "link") D hl rfl rfl he
      exact ⟨st, v, h1, .inl ⟨rfl, hq _ _ (h3 s.reg v _ (fun _ => rfl) (fun z => absurd rfl z) (fun z => absurd rfl z))⟩⟩
  | read hr =>
    refine ⟨pRead, mem_pre2 12 rfl, fun H Hc calls hC D kk q hq => ?_⟩
    obtain ⟨v, h1, h2, h3, h4⟩ := res_read D hl he
    exact ⟨_, _, v, rfl, hr, h1, h2, h3, hq _ _ (h4 _ _)⟩
  | write hr =>
    refine ⟨pWrite, mem_pre2 13 rfl, fun H Hc calls hC D kk q hq => ?_⟩
    obtain ⟨h1, h2⟩ := res_write D hl he
    exact ⟨_, _, rfl, hr, h1, hq _ _ (h2 _ _ (hv _ (get_at h6 hr).2.1))⟩
  | fin hw =>
    rename_i w
    simp only [List.mem_cons, List.not_mem_nil, or_false] at hw
    rcases hw with rfl | rfl
    · refine ⟨pBack, mem_pre2 20 rfl, fun H Hc calls hC D kk q hq => ⟨hb, ?_⟩⟩
      rcases res_back D hl rfl he with ⟨h1, h2⟩ | ⟨t, n, j, h1, h2, h3⟩
      · exact .inl ⟨h1, hq _ _ (h2 _)⟩
      · exact .inr ⟨t, n, j, h1, kk _ _ h2, hq _ _ (h3 _)⟩
    · exact ⟨pStop, mem_pre2 21 rfl, fun H Hc calls hC D kk q hq => hq _ _ (res_stop rfl (by decide +kernel) (show ("stop" : Str) ∉ _ by decide +kernel) rfl)⟩
end
end Fl
end
section
set_option Elab.async false
set_option linter.all false
set_option maxRecDepth 100000
set_option maxHeartbeats 4000000
namespace Fx
open PySem PySem.Spec PyProof.Rows L2
open Evl (Ex fresh_back)
section
variable {X : Cx} {o : Expr} {σ : L2.St} {H : Hp} {Q : VK} {D : Ends} {m : Str} {pos apos : Pos}
theorem rs_break (h : D.bk σ H) : RS X (.Break pos) D σ H := rs_of ps_break h
/-- o.m() -/
theorem re_meth0 {CX : CXT} {k : Nat} {C g : Addr} {fd : FuncData} {ps : List Str} {sp : Sp} {E : XK} {pl : Sem Bool} (c : Cls X.K C) (hm : Meth X.K C m g) (F : FnOk X.prog X.w X.K X.mg X.base CX k g fd ps sp) (hr : Room k X.A) (hb : Binds X.K fd ps []) (hx : Passes CX X E)
    (h : RE X o σ H fun x H1 => ∃ a dx fs, x = .ref a ∧ H1 a = some (.ins C dx fs) ∧ fs.lookup m = none ∧ sp [x] H1 Q E)
    (ht : eval (.Call (.Attribute o m apos) [] [] pos) X.env = (do
      let ov ← eval o X.env
      standAt apos.atName
      let (f, first) ← holding [ov] (getMethod ov m pl)
      callWith pos f first (backTo pos (starEach [] X.env)) (backToKw pos (keywordEach [] X.env))) := by rfl) :
    RE X (.Call (.Attribute o m apos) [] [] pos) σ H Q :=
  re_of (pe_meth0 pe_RE c hm F hr hb .nil hx ht) (h.mono fun x H1 ⟨a, dx, fs, h1, h2, h3, h4⟩ => ⟨a, dx, fs, h1, h2, h3, by subst h1; exact h4⟩)
end
end Fx
namespace Fl
open PySem PySem.Spec PyProof.Rows L2 Fx
open Evl (Ex fresh_back)
/-! ### drawn programs are right -/
theorem word_len {s : Str} (h : isWordS s = true) : s.length ≤ 100000 := word_short h
theorem line_short {d : PyData} (h : isLineD d = true) : shortL d := by
  cases shape_of h with
  | num => exact ⟨Nat.le_of_ble_eq_true rfl, fun x hx => by
      simp only [List.mem_cons, List.not_mem_nil, or_false] at hx
      rcases hx with rfl | rfl | rfl
      · exact Nat.le_of_ble_eq_true rfl
      · trivial
      · trivial⟩
  | rr hw =>
    simp only [List.mem_cons, List.not_mem_nil, or_false] at hw
    exact ⟨Nat.le_of_ble_eq_true rfl, fun x hx => by
      simp only [List.mem_cons, List.not_mem_nil, or_false] at hx
      rcases hx with rfl | rfl | rfl
      · rcases hw with rfl | rfl | rfl <;> exact Nat.le_of_ble_eq_true rfl
      · trivial
      · trivial⟩
  | rrr hw =>
    simp only [List.mem_cons, List.not_mem_nil, or_false] at hw
    exact ⟨Nat.le_of_ble_eq_true rfl, fun x hx => by
      simp only [List.mem_cons, List.not_mem_nil, or_false] at hx
      rcases hx with rfl | rfl | rfl | rfl
      · rcases hw with rfl | rfl | rfl <;> exact Nat.le_of_ble_eq_true rfl
      · trivial
      · trivial
      · trivial⟩
  | addr hr hf => exact ⟨Nat.le_of_ble_eq_true rfl, fun x hx => by
      simp only [List.mem_cons, List.not_mem_nil, or_false] at hx
      rcases hx with rfl | rfl | rfl
      · exact Nat.le_of_ble_eq_true rfl
      · trivial
      · exact word_len hf⟩
  | r1 hw =>
    simp only [List.mem_cons, List.not_mem_nil, or_false] at hw
    exact ⟨Nat.le_of_ble_eq_true rfl, fun x hx => by
      simp only [List.mem_cons, List.not_mem_nil, or_false] at hx
      rcases hx with rfl | rfl
      · rcases hw with rfl | rfl | rfl <;> exact Nat.le_of_ble_eq_true rfl
      · trivial⟩
  | s1 hw hs =>
    simp only [List.mem_cons, List.not_mem_nil, or_false] at hw
    exact ⟨Nat.le_of_ble_eq_true rfl, fun x hx => by
      simp only [List.mem_cons, List.not_mem_nil, or_false] at hx
      rcases hx with rfl | rfl
      · rcases hw with rfl | rfl | rfl | rfl | rfl | rfl <;> exact Nat.le_of_ble_eq_true rfl
      · exact word_len hs⟩
  | stk hw =>
    simp only [List.mem_cons, List.not_mem_nil, or_false] at hw
    exact ⟨Nat.le_of_ble_eq_true rfl, fun x hx => by
      simp only [List.mem_cons, List.not_mem_nil, or_false] at hx
      rcases hx with rfl | rfl
      · rcases hw with rfl | rfl <;> exact Nat.le_of_ble_eq_true rfl
      · trivial⟩
  | lnk hw =>
    simp only [List.mem_cons, List.not_mem_nil, or_false] at hw
    exact ⟨Nat.le_of_ble_eq_true rfl, fun x hx => by
      simp only [List.mem_cons, List.not_mem_nil, or_false] at hx
      rcases hx with rfl | rfl
      · rcases hw with rfl | rfl <;> exact Nat.le_of_ble_eq_true rfl
      · exact Nat.le_of_ble_eq_true rfl⟩
  | read => exact ⟨Nat.le_of_ble_eq_true rfl, fun x hx => by
      simp only [List.mem_cons, List.not_mem_nil, or_false] at hx
      rcases hx with rfl | rfl | rfl
      · exact Nat.le_of_ble_eq_true rfl
      · trivial
      · trivial⟩
  | write => exact ⟨Nat.le_of_ble_eq_true rfl, fun x hx => by
      simp only [List.mem_cons, List.not_mem_nil, or_false] at hx
      rcases hx with rfl | rfl | rfl
      · exact Nat.le_of_ble_eq_true rfl
      · trivial
      · trivial⟩
  | fin hw =>
    simp only [List.mem_cons, List.not_mem_nil, or_false] at hw
    exact ⟨Nat.le_of_ble_eq_true rfl, fun x hx => by
      simp only [List.mem_cons, List.not_mem_nil, or_false] at hx
      subst hx
      rcases hw with rfl | rfl <;> exact Nat.le_of_ble_eq_true rfl⟩
theorem plain_book {ps : PlP} (ad : Str → Addr) (hp : PlainD ps) : Book false (bkL ps ad) where
  word e he := by
    obtain ⟨p, hp', rfl⟩ := List.mem_map.mp he
    exact hp.word p hp'
  nodup := by rw [bkN_L]; exact hp.nodup
  main := by rw [bkN_L]; exact hp.main
  len := by
    show (ps.map _).length ≤ 24
    rw [List.length_map]; have := hp.len; omega
  any e he := by
    obtain ⟨p, hp', rfl⟩ := List.mem_map.mp he
    obtain ⟨q, W⟩ := hp.whole p hp'
    exact ⟨rfl, Nat.le_trans (hp.l40 p hp') (by decide), fun x hx => line_short (W.ok x hx)⟩
  all := by
    show ((ps.map fun p => ((p.1, V.ref (ad p.1), PyData.list p.2) : Fn3)).map fun e => dlen e.2.2).sum ≤ 240
    rw [List.map_map]
    exact hp.all
  wrong e he := by
    obtain ⟨p, hp', rfl⟩ := List.mem_map.mp he
    obtain ⟨q, W⟩ := hp.whole p hp'
    refine W.wrong (fun s hs => ?_) (fun z => absurd z Bool.false_ne_true)
    obtain ⟨p2, hp2, rfl⟩ := List.mem_map.mp hs
    rw [bkL_val hp.nodup hp2]; rfl
  good e he := by
    obtain ⟨p, hp', rfl⟩ := List.mem_map.mp he
    obtain ⟨q, W⟩ := hp.whole p hp'
    exact W.good rfl (Nat.le_trans (hp.l40 p hp') (by decide))
  tidy e he := by
    obtain ⟨p, hp', rfl⟩ := List.mem_map.mp he
    obtain ⟨q, W⟩ := hp.whole p hp'
    exact W.tidy false
/-- the machine's program is the drawn one -/
structure PrgOk (ps : PlP) (d : Cd) : Prop where
  mem : ∀ n, n ∈ d.ys ↔ n ∈ ps.map (·.1)
  ls : ∀ p ∈ ps, d.ls p.1 = p.2
  whole : ∀ n ∈ d.ys, ∃ q, Whole q d.ys (d.ls n)
theorem prg_of {ps : PlP} {ad : Str → Addr} {d : Cd} (hp : PlainD ps) (hf : FitsB (bkL ps ad) d.ys d.ls) : PrgOk ps d := by
  have mem : ∀ n, n ∈ d.ys ↔ n ∈ ps.map (·.1) := fun n => by rw [hf.perm.mem_iff, bkN_L]
  have ls : ∀ p ∈ ps, d.ls p.1 = p.2 := fun p hp' => hf.ls _ (bkL_mem hp')
  refine ⟨mem, ls, fun n hn => ?_⟩
  obtain ⟨p, hp', rfl⟩ := List.mem_map.mp ((mem n).mp hn)
  obtain ⟨q, W⟩ := hp.whole p hp'
  rw [ls p hp']
  exact ⟨q, W.mono fun s hs => (mem s).mpr hs⟩
end Fl
end
section
set_option Elab.async false
set_option linter.all false
set_option maxRecDepth 100000
set_option maxHeartbeats 4000000
namespace Fl
open PySem PySem.Spec PyProof.Rows L2 Fx
open Evl (Ex fresh_back)

/-! ### a new pen -/
theorem cut63 (ns : List Int) : ∃ ms : List Int, cutV (ns.map V.int) none (some 63) = ms.map V.int ∧ ms.length ≤ 63 := by
  refine ⟨ns.take (min 63 ns.length), ?_, by rw [List.length_take]; omega⟩
  unfold cutV
  rw [HT.sIx_none, show HT.sIx (ns.map V.int).length (ns.map V.int).length (some 63) = min 63 (ns.map V.int).length from HT.sIx_nat _ _ 63, List.drop_zero, Nat.sub_zero, List.length_map, List.map_take]
section
variable {P : Program} {w : World} {K : PySem.W.Frag} {mg : Str → Option Value} {base : Heap} {f : Addr} {fd : FuncData}
theorem sc_pen : FnScope ["_law_script"] ["_law_script"] (defScope s_pen) := ⟨rfl, rfl, rfl, by decide +kernel, rfl, by decide +kernel, by decide +kernel⟩
def sp_pen (K : PySem.W.Frag) : Sp := fun vs H Q _ => ∃ (a : Addr) (ns : List Int), vs = [.ref a] ∧ SqL K H a (ns.map V.int) ∧ ∀ p H', Ex H H' → Pen K H' p 0 → Q (.ref p) H'
theorem ok_pen (F : Fun K "_law_pen" "_law_pen" s_pen f fd) (G : Gb mg) : FnOk P w K mg base CX0 1 f fd ["_law_script"] (sp_pen K) := by
  refine F.ok sc_pen (fun vs H Q E h => ?_) (fun cdv A outer s H vs Q E hr h => ⟨RB _ _, pss_RB, ?_⟩)
  · obtain ⟨_, _, rfl, _⟩ := h; rfl
  obtain ⟨a, ns, rfl, ha, q⟩ := h
  obtain ⟨ms, em, hm⟩ := cut63 ns
  refine rb_one <| rs_ret <| re_disp fun p hp => rp_cons <| re_str <| re_ct call_list_of G.list <| ra_cons <| re_of (pe_slice sl_list pe_RE po_none (po_some pe_RE)) <| re_var 0 rfl <| re_int ⟨63, rfl, a, _, rfl, Evl.ex_l (Ex.new hp) ha, fun c hc => ra_nil ⟨c, ms.map V.int, rfl, .inl (.inl (.inl (by rw [upd_same, em]))), fun l hl => rp_cons <| re_str <| re_int <| rp_cons <| re_str <| re_int <| rp_nil ⟨?_, penV l 0 0, rfl, Nat.le_of_ble_eq_true rfl, ?_⟩⟩⟩
  · have n1 : p ≠ l := fun z => by
      rw [← z] at hl
      by_cases e : p = c
      · rw [e, upd_same] at hl; cases hl
      · rw [upd_ne e, upd_same] at hl; cases hl
    have n2 : p ≠ c := fun z => by rw [← z, upd_same] at hc; cases hc
    rw [upd_ne n1, upd_ne n2, upd_same]
  · have n1 : l ≠ p := fun z => by
      rw [z] at hl
      by_cases e : p = c
      · rw [e, upd_same] at hl; cases hl
      · rw [upd_ne e, upd_same] at hl; cases hl
    refine q p _ (ex_mut (((Ex.new hp).trans (Ex.new hc)).trans (Ex.new hl)) hp) ⟨l, ms, 0, 0, ?_, .inl ?_, hm, Int.le_refl _, by decide, Int.le_refl _⟩
    · rw [upd_same]; rfl
    · rw [upd_ne n1]; exact upd_same
end
theorem lookup_none {β : Type} {k : Str} : ∀ {l : List (Str × β)}, l.lookup k = none ↔ k ∉ l.map (·.1)
  | [] => ⟨fun _ => List.not_mem_nil, fun _ => rfl⟩
  | (k', v) :: r => by
    rw [List.lookup_cons]
    by_cases e : k = k'
    · subst e
      rw [beq_self_eq_true]
      exact ⟨(fun h => nomatch h), fun h => absurd List.mem_cons_self h⟩
    · rw [beq_eq_false_iff_ne.mpr e]
      rw [List.map_cons, List.mem_cons, not_or]
      exact ⟨fun h => ⟨e, lookup_none.mp h⟩, fun h => lookup_none.mpr h.2⟩
end Fl
end
section
set_option Elab.async false
set_option linter.all false
set_option maxRecDepth 100000
set_option maxHeartbeats 4000000
namespace Fl
open PySem PySem.Spec PyProof.Rows L2 Fx
open Evl (Ex fresh_back)
/-! ### the law's loop -/
abbrev nm_law : List Str := ["_law_script", "_law_pen_here", "_law_turn", "_law_plain_here", "_law_inputs_here", "_law_told", "_law_open_calls", "_law_k", "_law_place", "_law_depth", "_law_line"]
theorem sc_law : FnScope nm_law ["_law_script"] (defScope s_law) := ⟨rfl, rfl, rfl, by decide +kernel, rfl, by decide +kernel, by decide +kernel⟩
def forBody : Stmt → List Stmt
  | .For _ _ b _ _ => b
  | _ => []
abbrev turnB : List Stmt := forBody ((defBody s_law).getD 1 (.Pass ⟨0, 0, 0, 0⟩))
abbrev iterB : List Stmt := forBody (turnB.getD 2 (.Pass ⟨0, 0, 0, 0⟩))
abbrev st14 (i : Nat) : Stmt := iterB.getD i (.Pass ⟨0, 0, 0, 0⟩)
/-- what the law needs of what stands around it -/
structure LT (P : Program) (w : World) (K : PySem.W.Frag) (mg : Str → Option Value) (base : Heap) (CP C CR : Addr) (jp : Nat) : Prop where
  G : Gb mg
  G2 : Gb2 mg
  hjp : jp ≤ 18
  pen : Cl P w K mg base CX0 1 "_law_pen" (sp_pen K)
  plain : Cl P w K mg base CX0 jp "_law_plain" (sp_plain K)
  inputs : Cl P w K mg base CX0 4 "_law_inputs" (sp_inputs K)
  beyond : Cl P w K mg base CX0 1 "_law_beyond_marks" (sp_beyond K)
  MP : MkO P w K mg base 7 "Program" CP ["self", "functions"] (sp_initB K CP false)
  MR : MkO P w K mg base 5 "Run" CR nm_ri (sp_rinit K CR C CP false)
  rc : RC K CR
  place : Prp P w K mg base 1 CR "place" (sp_place K CR C)
  end_ : Prp P w K mg base 1 CR "end" (sp_rend K CR C)
  depth : Prp P w K mg base 1 CR "depth" (sp_depth K CR C)
  step : Mt P w K mg base CX0 4 CR "step" ["self"] (sp_step K CR C)
/-- an open call as the law keeps it -/
def EntV (K : PySem.W.Frag) (d : Cd) (H : Hp) (e : Ent) (v : V) : Prop := ∃ (a b : Addr) (j : Nat), v = .ref a ∧ SqT K H a [.ref b, .int (e.2.2 : Nat)] ∧ SqT K H b [.str e.1, .int (j : Nat)] ∧ IsPast (d.ls e.1) e.2.1 j ∧ PyData.strOk e.1 = true
inductive EntsV (K : PySem.W.Frag) (d : Cd) (H : Hp) : List Ent → List V → Prop
  | nil : EntsV K d H [] []
  | snoc {e : Ent} {cs : List Ent} {v : V} {vs : List V} : EntsV K d H cs vs → EntV K d H e v → EntsV K d H (e :: cs) (vs ++ [v])
def keepS (K : PySem.W.Frag) (H H' : Hp) : Prop := ∀ a xs, SqT K H a xs → SqT K H' a xs
section
variable {K : PySem.W.Frag} {d : Cd} {H H' : Hp}
theorem EntV.mono {e : Ent} {v : V} (k : keepS K H H') (h : EntV K d H e v) : EntV K d H' e v := by
  obtain ⟨a, b, j, h1, h2, h3, h4⟩ := h
  exact ⟨a, b, j, h1, k _ _ h2, k _ _ h3, h4⟩
theorem EntsV.mono (k : keepS K H H') : ∀ {cs : List Ent} {vs : List V}, EntsV K d H cs vs → EntsV K d H' cs vs := by
  intro cs vs h
  induction h with
  | nil => exact .nil
  | snoc _ b ih => exact .snoc ih (b.mono k)
theorem keepS.ex (e : Ex H H') : keepS K H H' := fun a xs h => Evl.ex_t e h
theorem keepS.but {lo : Addr} {vs : List V} (h : H lo = some (.lst vs)) (e : ∀ b o, b ≠ lo → H b = some o → H' b = some o) : keepS K H H' := fun a xs hs => sqt_ex (fun b o ho ts ht => e b o (fun z => by
  rw [z, h] at ho
  rcases ht with ht | ⟨ob, ht⟩ <;> (rw [ht] at ho; cases ho)) ho) hs
theorem keepS.run {CR C : Addr} {R : RAd} {A : MA} {s : MSt} {n : Nat} (O : RunO K CR C H R A d s n) (e : exR R A H H') : keepS K H H' := fun a xs hs => sqt_ex (fun b o ho ts ht => by
  obtain ⟨kvs, hv, _⟩ := O.vis
  have ne : ∀ {u : HO} {x : Addr}, H x = some u → (∀ ts, u ≠ .tup ts) → (∀ ob ts, u ≠ .frz ob (.tup ts)) → b ≠ x := fun hx n1 n2 z => by
    rw [z, hx] at ho
    have := Option.some.inj ho
    rcases ht with ht | ⟨ob, ht⟩
    · exact n1 _ (this.trans ht)
    · exact n2 _ _ (this.trans ht)
  exact e b o ho (ne O.ins (fun _ z => nomatch z) (fun _ _ z => nomatch z)) (ne hv (fun _ z => nomatch z) (fun _ _ z => nomatch z)) (ne O.mach.ins (fun _ z => nomatch z) (fun _ _ z => nomatch z)) (ne O.mach.rg (fun _ z => nomatch z) (fun _ _ z => nomatch z)) (ne O.mach.sk (fun _ z => nomatch z) (fun _ _ z => nomatch z)) (ne O.mach.wr (fun _ z => nomatch z) (fun _ _ z => nomatch z))) hs
def entD (n : Str) (j dep : Nat) : PyData := .tuple [.tuple [.str n, .int (j : Nat)], .int (dep : Nat)]
theorem shaped_ent {n : Str} {j dep : Nat} (h : PyData.strOk n = true) : SeqAt.shaped (entD n j dep) = true := by
  show ((((PyData.strOk n && (true && true)) && (true && true))) && decide _) = true
  rw [h]; rfl
theorem ent_data {e : Ent} {v : V} (h : EntV K d H e v) : ∃ j, IsPast (d.ls e.1) e.2.1 j ∧ Dp K H v (entD e.1 j e.2.2) ∧ PyData.strOk e.1 = true := by
  obtain ⟨a, b, j, rfl, h2, h3, h4, h5⟩ := h
  exact ⟨j, h4, .tup h2 (.cons (.tup h3 (.cons (.str _) (.cons (.int _) .nil))) (.cons (.int _) .nil)), h5⟩
theorem dpa_app : ∀ {vs ws : List V} {ds es : List PyData}, DpAll K H vs ds → DpAll K H ws es → DpAll K H (vs ++ ws) (ds ++ es)
  | [], _, _, _, .nil, k => k
  | _ :: _, _, _, _, .cons a b, k => .cons a (dpa_app b k)
theorem lay_app : ∀ {as bs : List PyData}, PyData.canLayAll0 as = true → PyData.canLayAll0 bs = true → PyData.canLayAll0 (as ++ bs) = true
  | [], _, _, h => h
  | a :: as, bs, h, k => by
    have h : (PyData.canLay0 a && PyData.canLayAll0 as) = true := h
    rw [Bool.and_eq_true] at h
    show (PyData.canLay0 a && PyData.canLayAll0 (as ++ bs)) = true
    rw [h.1, lay_app h.2 k]; rfl
theorem depth_app : ∀ {as bs : List PyData}, PyData.depthAll as ≤ 2 → PyData.depthAll bs ≤ 2 → PyData.depthAll (as ++ bs) ≤ 2
  | [], _, _, h => h
  | a :: as, bs, h, k => by
    have h : Nat.max (PyData.depth a) (PyData.depthAll as) ≤ 2 := h
    have h1 := Nat.le_trans (Nat.le_max_left (PyData.depth a) (PyData.depthAll as)) h
    have h2 := Nat.le_trans (Nat.le_max_right (PyData.depth a) (PyData.depthAll as)) h
    exact Nat.max_le.mpr ⟨h1, depth_app h2 k⟩
theorem canLay_one {n : Str} {j dep : Nat} (h : PyData.strOk n = true) : PyData.canLayAll0 [entD n j dep] = true := by
  show ((((PyData.strOk n && (true && true)) && (true && true))) && true) = true
  rw [h]; rfl
theorem ents_data : ∀ {cs : List Ent} {vs : List V}, EntsV K d H cs vs → ∃ ds, DpAll K H vs ds ∧ ds.length = cs.length ∧ PyData.canLayAll0 ds = true ∧ PyData.depthAll ds ≤ 2 := by
  intro cs vs h
  induction h with
  | nil => exact ⟨[], .nil, rfl, rfl, Nat.zero_le _⟩
  | snoc _ b ih =>
    obtain ⟨ds, h1, h2, h3, h4⟩ := ih
    obtain ⟨j, _, hd, hs⟩ := ent_data b
    refine ⟨ds ++ [entD _ j _], dpa_app h1 (.cons hd .nil), by rw [List.length_append, h2]; rfl, lay_app h3 (canLay_one hs), depth_app h4 (Nat.le_refl 2)⟩
end
end Fl
end
section
set_option Elab.async false
set_option linter.all false
set_option maxRecDepth 100000
set_option maxHeartbeats 4000000
namespace Fl
open PySem PySem.Spec PyProof.Rows L2 Fx
open Evl (Ex fresh_back)
abbrev sg (sa pa : Addr) (t : Int) (fo ia r lo : Addr) (k : Int) (pl : V) (dep : Nat) (la : Addr) : L2.St := [some (.ref sa), some (.ref pa), some (.int t), some (.ref fo), some (.ref ia), some (.ref r), some (.ref lo), some (.int k), some pl, some (.int (dep : Nat)), some (.ref la)]
abbrev lawX (P : Program) (w : World) (K : PySem.W.Frag) (mg : Str → Option Value) (base : Heap) (f : Addr) (cdv : Value) (A : Around) (outer : List Env) (s : Shared) (H : Hp) (E : XK) : Cx := (cxOf CX0 P w K mg base nm_law "law" (defScope s_law) f cdv A outer s H E).nox
theorem endCase {s : MSt} (h : s.ended = .non ∨ ∃ x, s.ended = .str x) : L2.scal s.ended (.str "back") = true := by
  rcases h with h | ⟨x, h⟩ <;> (rw [h]; rfl)
theorem ents_nil {K : PySem.W.Frag} {d : Cd} {H : Hp} {cs : List Ent} {vs : List V} (h : EntsV K d H cs vs) : ∃ ds, DpAll K H vs ds ∧ SeqAt.shaped (.list ds) = true ∧ PyData.eqv (.list ds) (.list []) = cs.isEmpty := by
  obtain ⟨ds, h1, h2, h3, h4⟩ := ents_data h
  refine ⟨ds, h1, ?_, ?_⟩
  · show (PyData.canLayAll0 ds && decide (PyData.depthAll ds + 1 ≤ 64)) = true
    rw [h3, decide_eq_true (by omega)]; rfl
  · cases ds with
    | nil =>
      have : cs = [] := List.eq_nil_of_length_eq_zero h2.symm
      subst this; rfl
    | cons x r =>
      cases cs with
      | nil => cases h2
      | cons c r2 => rfl
section
variable {P : Program} {w : World} {K : PySem.W.Frag} {mg : Str → Option Value} {base : Heap} {f : Addr} {CP C CR : Addr} {jp : Nat} {cdv : Value} {Ar : Around} {outer : List Env} {sh : Shared} {H0 : Hp} {E : XK}
variable {D : Ends} {H : Hp} {R : RAd} {A : MA} {d : Cd} {s : MSt} {n : Nat} {calls : List Ent} {vs zs : List V} {wd : Str} {sa pa fo ia lo la : Addr} {t k : Int} {pl : V} {dep : Nat}
/-- told.end -/
theorem re_tend {X : Cx} {σ : L2.St} {Q : VK} {x : Str} {p pos : Pos} (pe : Prp X.prog X.w X.K X.mg X.base 1 CR "end" (sp_rend X.K CR C)) (T : RC X.K CR) (hr : Room 2 X.A) (O : RunO X.K CR C H R A d s n) (hs : σ[5]? = some (some (.ref R.r))) (h : Q s.ended H) (hN : X.N[5]? = some x := by rfl) (hv : Vis X.env.scope x := by first | exact Or.inl rfl | exact Or.inr (Or.inl rfl) | exact Or.inr (Or.inr rfl))
    (hd : (x == ("__debug__" : Str)) = false := by decide) (hcd : (x == ("__classdict__" : Str)) = false := by decide) (hb : attributeBase (.Name x p) "end" X.env (eval (.Name x p) X.env) = eval (.Name x p) X.env := by rfl) : RE X (.Attribute (.Name x p) "end" pos) σ H Q := by
  obtain ⟨prr, gg, gfd, hpf, hbf, Ff⟩ := pe.ex
  exact re_prop T.cls hpf Ff hr hbf pass0 (re_var 5 hs ⟨R.r, R.dx, _, rfl, O.ins, R, A, d, s, n, rfl, O, h⟩ hN hv hd hcd) hb
theorem re_tdepth {X : Cx} {σ : L2.St} {Q : VK} {x : Str} {p pos : Pos} (pe : Prp X.prog X.w X.K X.mg X.base 1 CR "depth" (sp_depth X.K CR C)) (T : RC X.K CR) (hr : Room 2 X.A) (O : RunO X.K CR C H R A d s n) (hs : σ[5]? = some (some (.ref R.r))) (h : Q (.int (s.stk.length : Nat)) H) (hN : X.N[5]? = some x := by rfl) (hv : Vis X.env.scope x := by first | exact Or.inl rfl | exact Or.inr (Or.inl rfl) | exact Or.inr (Or.inr rfl))
    (hd : (x == ("__debug__" : Str)) = false := by decide) (hcd : (x == ("__classdict__" : Str)) = false := by decide) (hb : attributeBase (.Name x p) "depth" X.env (eval (.Name x p) X.env) = eval (.Name x p) X.env := by rfl) : RE X (.Attribute (.Name x p) "depth" pos) σ H Q := by
  obtain ⟨prr, gg, gfd, hpf, hbf, Ff⟩ := pe.ex
  exact re_prop T.cls hpf Ff hr hbf pass0 (re_var 5 hs ⟨R.r, R.dx, _, rfl, O.ins, R, A, d, s, n, rfl, O, h⟩ hN hv hd hcd) hb
theorem re_tplace {X : Cx} {σ : L2.St} {Q : VK} {x : Str} {p pos : Pos} (pe : Prp X.prog X.w X.K X.mg X.base 1 CR "place" (sp_place X.K CR C)) (T : RC X.K CR) (hr : Room 2 X.A) (O : RunO X.K CR C H R A d s n) (hs : σ[5]? = some (some (.ref R.r))) (h : (s.ended = .non ∧ ∀ t H', H t = none → Ex H H' → H' t = some (.tup [.str s.name, .int (s.at_ : Nat)]) → Q (.ref t) H') ∨ ∃ x, s.ended = .str x ∧ Q .non H) (hN : X.N[5]? = some x := by rfl) (hv : Vis X.env.scope x := by first | exact Or.inl rfl | exact Or.inr (Or.inl rfl) | exact Or.inr (Or.inr rfl))
    (hd : (x == ("__debug__" : Str)) = false := by decide) (hcd : (x == ("__classdict__" : Str)) = false := by decide) (hb : attributeBase (.Name x p) "place" X.env (eval (.Name x p) X.env) = eval (.Name x p) X.env := by rfl) : RE X (.Attribute (.Name x p) "place" pos) σ H Q := by
  obtain ⟨prr, gg, gfd, hpf, hbf, Ff⟩ := pe.ex
  exact re_prop T.cls hpf Ff hr hbf pass0 (re_var 5 hs ⟨R.r, R.dx, _, rfl, O.ins, R, A, d, s, n, rfl, O, h⟩ hN hv hd hcd) hb
/-- if told.end == "back" and (line[0] != "back" or open != []): .. -/
theorem s14_6 (T : LT P w K mg base CP C CR jp) (hr : Room 2 (lawX P w K mg base f cdv Ar outer sh H0 E).A) (O : RunO K CR C H R A d s n) (hlo : H lo = some (.lst vs)) (ev : EntsV K d H calls vs) (hq : SqT K H la (.str wd :: zs)) (he : s.ended = .non ∨ ∃ x, s.ended = .str x)
    (hc : s.ended = .str "back" → wd = "back" ∧ calls = []) (q : ∀ H', Ex H H' → D.nx (sg sa pa t fo ia R.r lo k pl dep la) H') : RS (lawX P w K mg base f cdv Ar outer sh H0 E) (st14 6) D (sg sa pa t fo ia R.r lo k pl dep la) H := by
  refine rs_if <| rt_w <| rw_and <| rt_cmp op_eq <| re_tend T.end_ T.rc hr O rfl <| re_str ⟨endCase he, _, rfl, ?_⟩
  refine ifB (fun z => ?_) fun z => ?_
  · have z := of_decide_eq_true z
    obtain ⟨rfl, rfl⟩ := hc z
    refine rw_and1 <| rt_w <| rw_or <| rt_cmp op_ne <| re_lat 10 hq (atI_nat (j := 0) rfl) rfl <| re_str ⟨rfl, _, rfl, ?_⟩
    rw [decide_eq_true rfl]
    refine ifF <| rw_or1 <| rt_cmp (op_neD hr.u64) <| re_var 6 rfl <| re_lst <| ra_nil ⟨Nat.zero_le _, fun p H2 hp e2 h2 => ?_⟩
    obtain ⟨ds, hd, hsh, heq⟩ := ents_nil (ev.mono (keepS.ex e2))
    refine ⟨.list ds, .list [], .lst (Evl.ex_l e2 (.inl (.inl hlo))) hd, .lst (.inl (.inl h2)) .nil, hsh, rfl, _, rfl, ?_⟩
    rw [heq]
    exact ifF <| rb_nil <| q H2 e2
  · exact ifF <| rb_nil <| q H (Ex.refl _)
/-- if line[0] not in ("push", "pop") and told.depth != depth: .. -/
theorem s14_8 (T : LT P w K mg base CP C CR jp) (hr : Room 2 (lawX P w K mg base f cdv Ar outer sh H0 E).A) (O : RunO K CR C H R A d s n) (hq : SqT K H la (.str wd :: zs))
    (hc : wd ∉ (["push", "pop"] : List Str) → s.stk.length = dep) (q : ∀ H', Ex H H' → D.nx (sg sa pa t fo ia R.r lo k pl dep la) H') : RS (lawX P w K mg base f cdv Ar outer sh H0 E) (st14 8) D (sg sa pa t fo ia R.r lo k pl dep la) H := by
  refine rs_if <| rt_w <| rw_and <| rt_nin (ws := ["push", "pop"]) <| re_lat 10 hq (atI_nat (j := 0) rfl) rfl ⟨wd, rfl, re_tup <| ra_cons <| re_str <| ra_cons <| re_str <| ra_nil ⟨Nat.le_of_ble_eq_true rfl, fun p H2 hp e2 h2 => ⟨p, rfl, .inl (.inl h2), ?_⟩⟩⟩
  refine ifB (fun z => ?_) fun z => ?_
  · have z : wd ∉ (["push", "pop"] : List Str) := fun y => by rw [decide_eq_true y] at z; cases z
    refine rw_and1 <| rt_cmp op_ne <| re_tdepth T.depth T.rc hr (O.ex e2) rfl <| re_var 9 rfl ⟨rfl, _, rfl, ?_⟩
    rw [hc z, decide_eq_true rfl]
    exact ifF <| rb_nil <| q H2 e2
  · exact ifF <| rb_nil <| q H2 e2
/-- if line[0] in ("push", "pop") and told.depth - depth != {..}[line[0]]: .. -/
theorem s14_7 (T : LT P w K mg base CP C CR jp) (hr : Room 2 (lawX P w K mg base f cdv Ar outer sh H0 E).A) (O : RunO K CR C H R A d s n) (hq : SqT K H la (.str wd :: zs))
    (h1 : wd = "push" → s.stk.length = dep + 1) (h2 : wd = "pop" → s.stk.length + 1 = dep) (q : ∀ H', Ex H H' → D.nx (sg sa pa t fo ia R.r lo k pl dep la) H') : RS (lawX P w K mg base f cdv Ar outer sh H0 E) (st14 7) D (sg sa pa t fo ia R.r lo k pl dep la) H := by
  refine rs_if <| rt_w <| rw_and <| rt_in (ws := ["push", "pop"]) <| re_lat 10 hq (atI_nat (j := 0) rfl) rfl ⟨wd, rfl, re_tup <| ra_cons <| re_str <| ra_cons <| re_str <| ra_nil ⟨Nat.le_of_ble_eq_true rfl, fun p H2 hp e2 h2' => ⟨p, rfl, .inl (.inl h2'), ?_⟩⟩⟩
  refine ifB (fun z => ?_) fun z => ?_
  · have z : wd ∈ (["push", "pop"] : List Str) := of_decide_eq_true z
    have O2 := O.ex e2
    have hq2 := Evl.ex_t e2 hq
    refine rw_and1 <| rt_cmp op_ne <| re_sub <| re_tdepth T.depth T.rc hr O2 rfl <| re_var 9 rfl ⟨_, _, rfl, rfl, ?_⟩
    refine re_dget (hu_of hr) <| re_disp fun dd hdd => rp_cons <| re_str <| re_int <| rp_cons <| re_str <| re_un un_neg <| re_int ⟨1, rfl, rp_nil ⟨upd_same, [(.inr "push", .int 1), (.inr "pop", .int (-1))], rfl, Nat.le_of_ble_eq_true rfl, ?_⟩⟩
    have e3 : Ex H2 (upd (upd H2 dd (.dK [])) dd (.dK (mergeK [] [(.inr "push", .int 1), (.inr "pop", .int (-1))]))) := fun b o hb => by
      rw [upd_ne (ne_of_none hb hdd), upd_ne (ne_of_none hb hdd)]; exact hb
    refine re_lat 10 (Evl.ex_t e3 hq2) (atI_nat (j := 0) rfl) rfl ?_
    simp only [List.mem_cons, List.not_mem_nil, or_false] at z
    rcases z with rfl | rfl
    · refine ⟨dd, _, .inr "push", .int 1, rfl, upd_same, rfl, rfl, rfl, _, rfl, ?_⟩
      have e : ((s.stk.length : Nat) : Int) - (dep : Nat) = 1 := by have := h1 rfl; omega
      rw [e, decide_eq_true rfl]
      exact ifF <| rb_nil <| q _ (e2.trans e3)
    · refine ⟨dd, _, .inr "pop", .int (-1), rfl, upd_same, rfl, rfl, rfl, _, rfl, ?_⟩
      have e : ((s.stk.length : Nat) : Int) - (dep : Nat) = -1 := by have := h2 rfl; omega
      rw [e, decide_eq_true rfl]
      exact ifF <| rb_nil <| q _ (e2.trans e3)
  · exact ifF <| rb_nil <| q H2 e2
end
end Fl
end
section
set_option Elab.async false
set_option linter.all false
set_option maxRecDepth 100000
set_option maxHeartbeats 4000000
namespace Fl
open PySem PySem.Spec PyProof.Rows L2 Fx
open Evl (Ex fresh_back)
theorem eqv_ent {n : Str} {j dep : Nat} : PyData.eqv (entD n j dep) (entD n j dep) = true := by
  show (((n == n) && (((j : Int) == (j : Int)) && true)) && (((dep : Int) == (dep : Int)) && true)) = true
  rw [beq_self_eq_true, beq_self_eq_true, beq_self_eq_true]; rfl
section
variable {P : Program} {w : World} {K : PySem.W.Frag} {mg : Str → Option Value} {base : Heap} {f : Addr} {CP C CR : Addr} {jp : Nat} {cdv : Value} {Ar : Around} {outer : List Env} {sh : Shared} {H0 : Hp} {E : XK}
variable {D : Ends} {H : Hp} {R : RAd} {A : MA} {d : Cd} {s : MSt} {n : Nat} {calls : List Ent} {vs zs : List V} {wd : Str} {sa pa fo ia lo la : Addr} {t k : Int} {pl : V} {dep : Nat}
/-- if line[0] in ("call", "callr") and told.end is None: open.append(..) -/
theorem s14_4n (T : LT P w K mg base CP C CR jp) (hr : Room 2 (lawX P w K mg base f cdv Ar outer sh H0 E).A) (O : RunO K CR C H R A d s n) (hq : SqT K H la (.str wd :: zs))
    (hc : wd ∉ (["call", "callr"] : List Str) ∨ ∃ x, s.ended = .str x) (q : ∀ H', Ex H H' → D.nx (sg sa pa t fo ia R.r lo k pl dep la) H') : RS (lawX P w K mg base f cdv Ar outer sh H0 E) (st14 4) D (sg sa pa t fo ia R.r lo k pl dep la) H := by
  refine rs_if <| rt_w <| rw_and <| rt_in (ws := ["call", "callr"]) <| re_lat 10 hq (atI_nat (j := 0) rfl) rfl ⟨wd, rfl, re_tup <| ra_cons <| re_str <| ra_cons <| re_str <| ra_nil ⟨Nat.le_of_ble_eq_true rfl, fun p H2 hp e2 h2 => ⟨p, rfl, .inl (.inl h2), ?_⟩⟩⟩
  refine ifB (fun z => ?_) fun z => ?_
  · have z := of_decide_eq_true z
    rcases hc with hc | ⟨x, hx⟩
    · exact absurd z hc
    · refine rw_and1 <| rt_cmp op_isN <| re_tend T.end_ T.rc hr (O.ex e2) rfl <| re_non ⟨rfl, _, rfl, ?_⟩
      rw [hx]
      exact ifF <| rb_nil <| q H2 e2
  · exact ifF <| rb_nil <| q H2 e2
theorem s14_4y {tp l0 : Addr} {nm0 : Str} {at0 j : Nat} {kvs : List (Key × V)} {ds : List PyData} (T : LT P w K mg base CP C CR jp) (hr : Room 2 (lawX P w K mg base f cdv Ar outer sh H0 E).A) (O : RunO K CR C H R A d s n) (hlo : H lo = some (.lst vs)) (hq : SqT K H la (.str wd :: zs))
    (hw : wd ∈ (["call", "callr"] : List Str)) (he : s.ended = .non) (htp : H tp = some (.tup [.str nm0, .int (at0 : Nat)])) (hfo : H fo = some (.dK kvs)) (hv : valV kvs (.inr nm0) = some (.ref l0)) (hd : Fx.D K H (.ref l0) (.list ds)) (hok : ∀ x ∈ ds, isLineD x = true) (hds : d.ls nm0 = ds) (hp : IsPast ds (at0 + 1) j) (hs : PyData.strOk nm0 = true) (hl : vs.length ≤ 1000)
    (q : ∀ H' v, (∀ b o, b ≠ lo → H b = some o → H' b = some o) → H' lo = some (.lst (vs ++ [v])) → EntV K d H' (nm0, at0 + 1, dep) v → D.nx (sg sa pa t fo ia R.r lo k (.ref tp) dep la) H') : RS (lawX P w K mg base f cdv Ar outer sh H0 E) (st14 4) D (sg sa pa t fo ia R.r lo k (.ref tp) dep la) H := by
  refine rs_if <| rt_w <| rw_and <| rt_in (ws := ["call", "callr"]) <| re_lat 10 hq (atI_nat (j := 0) rfl) rfl ⟨wd, rfl, re_tup <| ra_cons <| re_str <| ra_cons <| re_str <| ra_nil ⟨Nat.le_of_ble_eq_true rfl, fun p H2 hp' e2 h2 => ⟨p, rfl, .inl (.inl h2), ?_⟩⟩⟩
  rw [decide_eq_true hw]
  refine ifT <| rw_and1 <| rt_cmp op_isN <| re_tend T.end_ T.rc hr (O.ex e2) rfl <| re_non ⟨rfl, _, rfl, ?_⟩
  rw [he]
  have htp2 : SqT K H2 tp [.str nm0, .int (at0 : Nat)] := .inl (.inl (e2 _ _ htp))
  refine ifT <| rb_one <| rs_expr <| re_append <| re_var 6 rfl ⟨lo, rfl, ⟨vs, e2 _ _ hlo⟩, re_tup <| ra_cons <| re_call T.beyond hr (hk := by decide) <| ra_cons <| re_var 3 rfl <| ra_cons <| re_lat 8 htp2 (atI_nat (j := 0) rfl) rfl <| ra_cons <| re_add <| re_lat 8 htp2 (atI_nat (j := 1) rfl) rfl <| re_int ⟨_, 1, rfl, rfl, ra_nil ⟨fo, kvs, l0, nm0, ds, at0 + 1, j, rfl, e2 _ _ hfo, hv, hd.mono e2, hok, hp, fun t1 H3 ht1 e3 h3 => ra_cons <| re_var 9 rfl <| ra_nil ⟨Nat.le_of_ble_eq_true rfl, fun t2 H4 ht2 e4 h4 => ?_⟩⟩⟩⟩
  have e24 := e2.trans (e3.trans e4)
  have ne1 : t1 ≠ lo := fun z => by rw [z, e2 _ _ hlo] at ht1; cases ht1
  have ne2 : t2 ≠ lo := fun z => by rw [z, e3 _ _ (e2 _ _ hlo)] at ht2; cases ht2
  refine ⟨vs, e24 _ _ hlo, szlt (by omega), q _ (.ref t2) (fun b o hb ho => by rw [upd_ne hb]; exact e24 _ _ ho) upd_same ⟨t2, t1, j, rfl, .inl (.inl (by rw [upd_ne ne2]; exact h4)), .inl (.inl (by rw [upd_ne ne1]; exact e4 _ _ h3)), by show IsPast (d.ls nm0) (at0 + 1) j; rw [hds]; exact hp, hs⟩⟩
/-- if line[0] == "back": .. -/
theorem s14_5n (hq : SqT K H la (.str wd :: zs)) (hc : wd ≠ "back") (q : D.nx (sg sa pa t fo ia R.r lo k pl dep la) H) : RS (lawX P w K mg base f cdv Ar outer sh H0 E) (st14 5) D (sg sa pa t fo ia R.r lo k pl dep la) H := by
  refine rs_if <| rt_cmp op_eq <| re_lat 10 hq (atI_nat (j := 0) rfl) rfl <| re_str ⟨rfl, _, rfl, ?_⟩
  rw [eqK, decide_eq_false hc]
  exact ifF <| rb_nil q
theorem s14_5e (T : LT P w K mg base CP C CR jp) (hr : Room 2 (lawX P w K mg base f cdv Ar outer sh H0 E).A) (O : RunO K CR C H R A d s n) (hlo : H lo = some (.lst [])) (hq : SqT K H la (.str "back" :: zs)) (he : s.ended = .str "back") (hd : dep = 0)
    (q : ∀ H', Ex H H' → D.nx (sg sa pa t fo ia R.r lo k pl dep la) H') : RS (lawX P w K mg base f cdv Ar outer sh H0 E) (st14 5) D (sg sa pa t fo ia R.r lo k pl dep la) H := by
  refine rs_if <| rt_cmp op_eq <| re_lat 10 hq (atI_nat (j := 0) rfl) rfl <| re_str ⟨rfl, _, rfl, ?_⟩
  rw [eqK, decide_eq_true rfl]
  refine ifT <| rb_one <| rs_if <| rt_cmp (op_eqD hr.u64) <| re_var 6 rfl <| re_lst <| ra_nil ⟨Nat.zero_le _, fun p H2 hp e2 h2 => ⟨.list [], .list [], .lst (.inl (.inl (e2 _ _ hlo))) .nil, .lst (.inl (.inl h2)) .nil, rfl, rfl, _, rfl, ?_⟩⟩
  refine ifT <| rb_one <| rs_if <| rt_w <| rw_or <| rt_cmp op_ne <| re_tend T.end_ T.rc hr (O.ex e2) rfl <| re_str ⟨by rw [he]; rfl, _, rfl, ?_⟩
  rw [he, decide_eq_true rfl]
  refine ifF <| rw_or1 <| rt_cmp op_ne <| re_var 9 rfl <| re_int ⟨rfl, _, rfl, ?_⟩
  subst hd
  exact ifF <| rb_nil <| q H2 e2
theorem s14_5r {e : Ent} {cs : List Ent} {v : V} (T : LT P w K mg base CP C CR jp) (hr : Room 2 (lawX P w K mg base f cdv Ar outer sh H0 E).A) (O : RunO K CR C H R A d s n) (hlo : H lo = some (.lst (vs ++ [v]))) (ev : EntsV K d H (e :: cs) (vs ++ [v])) (ent : EntV K d H e v) (hq : SqT K H la (.str "back" :: zs)) (he : s.ended = .non) (h1 : s.name = e.1) (h2 : IsPast (d.ls e.1) e.2.1 s.at_) (h3 : s.stk.length = e.2.2)
    (q : ∀ H', (∀ b o, b ≠ lo → H b = some o → H' b = some o) → H' lo = some (.lst vs) → D.nx (sg sa pa t fo ia R.r lo k pl dep la) H') : RS (lawX P w K mg base f cdv Ar outer sh H0 E) (st14 5) D (sg sa pa t fo ia R.r lo k pl dep la) H := by
  refine rs_if <| rt_cmp op_eq <| re_lat 10 hq (atI_nat (j := 0) rfl) rfl <| re_str ⟨rfl, _, rfl, ?_⟩
  rw [eqK, decide_eq_true rfl]
  refine ifT <| rb_one <| rs_if <| rt_cmp (op_eqD hr.u64) <| re_var 6 rfl <| re_lst <| ra_nil ⟨Nat.zero_le _, fun p H2 hp e2 h2' => ?_⟩
  obtain ⟨ds, hdd, hsh, heq⟩ := ents_nil (ev.mono (keepS.ex e2))
  refine ⟨.list ds, .list [], .lst (.inl (.inl (e2 _ _ hlo))) hdd, .lst (.inl (.inl h2')) .nil, hsh, rfl, _, rfl, ?_⟩
  rw [heq]
  have O2 := O.ex e2
  refine ifF <| rb_one <| rs_if <| rt_cmp (op_neD hr.u64) <| re_tup <| ra_cons <| re_tplace T.place T.rc hr O2 rfl (.inl ⟨he, fun t1 H3 ht1 e3 h3' => ra_cons <| re_tdepth T.depth T.rc hr (O2.ex e3) rfl <| ra_nil ⟨Nat.le_of_ble_eq_true rfl, fun t2 H4 ht2 e4 h4 => ?_⟩⟩)
  have hlo4 : H4 lo = some (.lst (vs ++ [v])) := e4 _ _ (e3 _ _ (e2 _ _ hlo))
  refine re_pop <| re_var 6 rfl ⟨lo, vs, v, rfl, hlo4, ?_⟩
  have ne1 : t1 ≠ lo := fun z => by rw [z, e2 _ _ hlo] at ht1; cases ht1
  have ne2 : t2 ≠ lo := fun z => by rw [z, e3 _ _ (e2 _ _ hlo)] at ht2; cases ht2
  have eb : ∀ b o, b ≠ lo → H4 b = some o → upd H4 lo (.lst vs) b = some o := fun b o hb ho => by rw [upd_ne hb]; exact ho
  have e24 := e2.trans (e3.trans e4)
  obtain ⟨j, hj, hD, hso⟩ := ent_data ((ent.mono (keepS.ex e24)).mono (keepS.but hlo4 eb))
  obtain rfl := hj.uniq h2
  have hmine : Dp K (upd H4 lo (.lst vs)) (.ref t2) (entD e.1 s.at_ e.2.2) := by
    refine .tup (.inl (.inl (by rw [upd_ne ne2]; exact h4))) (.cons (.tup (.inl (.inl (by rw [upd_ne ne1]; exact e4 _ _ h3'))) ?_) (.cons ?_ .nil))
    · rw [h1]; exact .cons (.str _) (.cons (.int _) .nil)
    · rw [h3]; exact .int _
  refine ⟨_, _, hmine, hD, shaped_ent hso, shaped_ent hso, _, rfl, ?_⟩
  rw [eqv_ent]
  exact ifF <| rb_nil <| q _ (fun b o hb ho => by rw [upd_ne hb]; exact e24 _ _ ho) upd_same
end
end Fl
end
section
set_option Elab.async false
set_option linter.all false
set_option maxRecDepth 100000
set_option maxHeartbeats 4000000
namespace Fl
open PySem PySem.Spec PyProof.Rows L2 Fx
open Evl (Ex fresh_back)
/-! ### one step of a run, seen by the law -/
def exL (lo : Addr) (H H' : Hp) : Prop := ∀ b o, b ≠ lo → H b = some o → H' b = some o
structure FrL (Hb : Hp) (R : RAd) (A : MA) (lo : Addr) : Prop where
  r : Hb R.r = none
  vd : Hb R.vd = none
  m : Hb A.m = none
  rg : Hb A.rg = none
  sk : Hb A.sk = none
  wr : Hb A.wr = none
  nlo : Hb lo = none
  n1 : lo ≠ A.rg
  n2 : lo ≠ A.sk
  n3 : lo ≠ A.wr
section
variable {K : PySem.W.Frag} {CR C : Addr} {Hb H H' : Hp} {d : Cd} {R : RAd} {A : MA} {lo la : Addr} {wd : Str} {zs vs : List V} {s : MSt} {n : Nat} {calls cf : List Ent}
theorem FrL.ex (F : FrL Hb R A lo) (e : Ex Hb H) (e' : exR R A H H') : Ex Hb H' := fun b o hb => e' b o (e _ _ hb) (ne_of_none hb F.r) (ne_of_none hb F.vd) (ne_of_none hb F.m) (ne_of_none hb F.rg) (ne_of_none hb F.sk) (ne_of_none hb F.wr)
theorem FrL.exL (F : FrL Hb R A lo) (e : Ex Hb H) (e' : exL lo H H') : Ex Hb H' := fun b o hb => e' b o (ne_of_none hb F.nlo) (e _ _ hb)
theorem exL.keepT {vs : List V} (e : exL lo H H') (h : H lo = some (.lst vs)) : keepT H H' := fun b zs hb => e b _ (fun z => by rw [z, h] at hb; cases hb) hb
theorem exR.keepT (O : RunO K CR C H R A d s n) (e : exR R A H H') : keepT H H' := fun b zs hb => by
  obtain ⟨kvs, hv, _⟩ := O.vis
  exact e b _ hb (ne_kind hb O.ins (fun z => nomatch z)) (ne_kind hb hv (fun z => nomatch z)) (ne_kind hb O.mach.ins (fun z => nomatch z)) (ne_kind hb O.mach.rg (fun z => nomatch z)) (ne_kind hb O.mach.sk (fun z => nomatch z)) (ne_kind hb O.mach.wr (fun z => nomatch z))
theorem keepT.of (e : Ex H H') : keepT H H' := fun b zs h => e _ _ h
theorem RunO.butLo (O : RunO K CR C H R A d s n) {vs : List V} (h : H lo = some (.lst vs)) (F : FrL Hb R A lo) (e : exL lo H H') : RunO K CR C H' R A d s n := by
  obtain ⟨kvs, hv, q⟩ := O.vis
  have k : ∀ {b : Addr} {o : HO}, H b = some o → (∀ xs, o ≠ .lst xs) → H' b = some o := fun {b o} hb hn => e b o (fun z => by rw [z, h] at hb; exact hn _ (Option.some.inj hb).symm) hb
  have ks := keepS.but (K := K) h e
  have M := O.mach
  have D := O.code
  exact ⟨k O.ins (fun _ z => nomatch z), ⟨kvs, k hv (fun _ z => nomatch z), q⟩, ⟨k M.ins (fun _ z => nomatch z), e _ _ F.n1.symm M.rg, e _ _ F.n2.symm M.sk, e _ _ F.n3.symm M.wr, M.ne1, M.ne2, M.ne3, M.len6, M.vals, M.szs, M.szo⟩,
    ⟨k D.cd (fun _ z => nomatch z), k D.mks (fun _ z => nomatch z), fun n hn => ks _ _ (D.seq n hn), fun n hn => DA.lines (D.ok n hn) (D.dat n hn) fun a zs h => ks _ _ h, D.ok, fun n hn => k (D.mkd n hn) (fun _ z => nomatch z), ks _ _ D.ip, D.num⟩, O.ne⟩
/-- what the last statements see -/
structure SL (K : PySem.W.Frag) (CR C : Addr) (Hb : Hp) (d : Cd) (R : RAd) (A : MA) (lo la : Addr) (wd : Str) (zs : List V) (H : Hp) (s : MSt) (n : Nat) (calls : List Ent) (vs : List V) (cf : List Ent) : Prop where
  fr : FrL Hb R A lo
  ex : Ex Hb H
  run : RunO K CR C H R A d s n
  hlo : H lo = some (.lst vs)
  ents : EntsV K d H calls vs
  line : SqT K H la (.str wd :: zs)
  dyn : s.ended = .non → Dyn d H s cf
namespace SL
theorem ext (S : SL K CR C Hb d R A lo la wd zs H s n calls vs cf) (e : Ex H H') : SL K CR C Hb d R A lo la wd zs H' s n calls vs cf := ⟨S.fr, S.ex.trans e, S.run.ex e, e _ _ S.hlo, S.ents.mono (keepS.ex e), Evl.ex_t e S.line, fun h => (S.dyn h).mono (keepT.of e)⟩
theorem upd {calls' : List Ent} {vs' : List V} (S : SL K CR C Hb d R A lo la wd zs H s n calls vs cf) (e : exL lo H H') (h : H' lo = some (.lst vs')) (ev : EntsV K d H' calls' vs') : SL K CR C Hb d R A lo la wd zs H' s n calls' vs' cf := ⟨S.fr, S.fr.exL S.ex e, S.run.butLo S.hlo S.fr e, h, ev, keepS.but S.hlo e _ _ S.line, fun h => (S.dyn h).mono (e.keepT S.hlo)⟩
end SL
end
section
variable {P : Program} {w : World} {K : PySem.W.Frag} {mg : Str → Option Value} {base : Heap} {f : Addr} {CP C CR : Addr} {jp : Nat} {cdv : Value} {Ar : Around} {outer : List Env} {sh : Shared} {H0 : Hp} {E : XK}
variable {D : Ends} {Hb H : Hp} {R : RAd} {A : MA} {d : Cd} {s : MSt} {n : Nat} {calls cf : List Ent} {vs zs : List V} {wd : Str} {sa pa fo ia lo la : Addr} {t k : Int} {pl : V} {dep : Nat}
theorem ents_len {K : PySem.W.Frag} {d : Cd} {H : Hp} : ∀ {cs : List Ent} {vs : List V}, EntsV K d H cs vs → vs.length = cs.length := by
  intro cs vs h
  induction h with
  | nil => rfl
  | snoc _ _ ih => rw [List.length_append, ih]; rfl
/-- the last three statements -/
theorem ok_tail3 (T : LT P w K mg base CP C CR jp) (hr : Room 2 (lawX P w K mg base f cdv Ar outer sh H0 E).A) (S : SL K CR C Hb d R A lo la wd zs H s n calls vs cf) (he : s.ended = .non ∨ ∃ x, s.ended = .str x)
    (hc : s.ended = .str "back" → wd = "back" ∧ calls = []) (h1 : wd = "push" → s.stk.length = dep + 1) (h2 : wd = "pop" → s.stk.length + 1 = dep) (h3 : wd ∉ (["push", "pop"] : List Str) → s.stk.length = dep)
    (q : ∀ H', SL K CR C Hb d R A lo la wd zs H' s n calls vs cf → D.nx (sg sa pa t fo ia R.r lo k pl dep la) H') : RB (lawX P w K mg base f cdv Ar outer sh H0 E) [st14 6, st14 7, st14 8] D (sg sa pa t fo ia R.r lo k pl dep la) H := by
  refine rb_cons <| s14_6 T hr S.run S.hlo S.ents S.line he hc fun H1 e1 => ?_
  have S1 := S.ext e1
  refine rb_cons <| s14_7 T hr S1.run S1.line h1 h2 fun H2 e2 => ?_
  have S2 := S1.ext e2
  exact rb_one <| s14_8 T hr S2.run S2.line h3 fun H3 e3 => q H3 (S2.ext e3)
/-- the statements behind the step -/
theorem ok_tail5 {tp l0 : Addr} {kvs : List (Key × V)} {s0 : MSt} {l : PyData} {s1 : MSt} {H1 : Hp} {φ : Hp → Prop} (T : LT P w K mg base CP C CR jp) (hr : Room 2 (lawX P w K mg base f cdv Ar outer sh H0 E).A)
    (hres : Res d H1 s0 l calls s1 φ) (hwd : wordD l = wd) (hdep : dep = s0.stk.length)
    (hs1 : s.ended = s1.ended) (hs2 : s.stk = s1.stk) (hs3 : s.name = s1.name) (hpast : s1.ended = .non → IsPast (d.ls s1.name) s1.at_ s.at_)
    (hW : ∀ n ∈ d.ys, ∃ q, Whole q d.ys (d.ls n)) (hn0 : s0.name ∈ d.ys) (hso : PyData.strOk s0.name = true)
    (S : SL K CR C Hb d R A lo la wd zs H s n calls vs cf) (hcf : ∀ cs, (wd ∈ (["call", "callr"] : List Str) → s1.ended = .non → cs = (s0.name, s0.at_ + 1, s0.stk.length) :: calls) → (wd = "back" → s1.ended = .non → ∃ e, calls = e :: cs) → (wd ∉ (["call", "callr", "back"] : List Str) → s1.ended = .non → cs = calls) → s1.ended = .non → cs = cf)
    (htp : H tp = some (.tup [.str s0.name, .int (s0.at_ : Nat)])) (hfo : H fo = some (.dK kvs)) (hv : valV kvs (.inr s0.name) = some (.ref l0)) (hd : Fx.D K H (.ref l0) (.list (d.ls s0.name))) (hl : vs.length ≤ 1000)
    (q : ∀ H' cs vs', SL K CR C Hb d R A lo la wd zs H' s n cs vs' cf → vs'.length ≤ vs.length + 1 → (s.ended = .non → cs = cf) → D.nx (sg sa pa t fo ia R.r lo k (.ref tp) dep la) H') : RB (lawX P w K mg base f cdv Ar outer sh H0 E) [st14 4, st14 5, st14 6, st14 7, st14 8] D (sg sa pa t fo ia R.r lo k (.ref tp) dep la) H := by
  have hstk : s.stk.length = s1.stk.length := by rw [hs2]
  cases hres with
  | @stop x he hx h1 h2 h3 =>
    rw [hwd] at h1 h2
    refine rb_cons <| s14_4n T hr S.run S.line (.inr ⟨x, by rw [hs1]; exact he⟩) fun H2 e2 => ?_
    have S2 := S.ext e2
    refine rb_cons <| s14_5n S2.line h1 ?_
    refine ok_tail3 T hr S2 (.inr ⟨x, by rw [hs1]; exact he⟩) (fun z => ?_) (fun z => absurd (by rw [z]; decide +kernel) h2) (fun z => absurd (by rw [z]; decide +kernel) h2) (fun _ => by rw [hstk, h3, hdep]) fun H3 S3 => q H3 _ _ S3 (Nat.le_succ _) fun z => ?_
    · rw [hs1, he] at z
      exact absurd (V.str.inj z) hx
    · rw [hs1, he] at z; cases z
  | back he h1 h2 h3 h4 =>
    rw [hwd] at h1
    subst h1
    subst h2
    refine rb_cons <| s14_4n T hr S.run S.line (.inr ⟨_, by rw [hs1]; exact he⟩) fun H2 e2 => ?_
    have S2 := S.ext e2
    have hvs : vs = [] := List.eq_nil_of_length_eq_zero (ents_len S2.ents)
    subst hvs
    refine rb_cons <| s14_5e T hr S2.run S2.hlo S2.line (by rw [hs1]; exact he) (by rw [hdep, h3]; rfl) fun H3 e3 => ?_
    refine ok_tail3 T hr (S2.ext e3) (.inr ⟨_, by rw [hs1]; exact he⟩) (fun _ => ⟨rfl, rfl⟩) (fun z => absurd z (by decide +kernel)) (fun z => absurd z (by decide +kernel)) (fun _ => by rw [hstk, h4, hdep]) fun H4 S4 => q H4 _ _ S4 (Nat.le_succ _) fun z => ?_
    rw [hs1, he] at z; cases z
  | @ret n1 i1 dp cs h1 h2 he h3 h4 h5 h6 dy hi =>
    rw [hwd] at h1
    subst h1
    subst h2
    refine rb_cons <| s14_4n T hr S.run S.line (.inl (by decide +kernel)) fun H2 e2 => ?_
    have S2 := S.ext e2
    have hen : s.ended = .non := by rw [hs1]; exact he
    obtain ⟨vs', v, rfl, ev', ent⟩ : ∃ vs' v, vs = vs' ++ [v] ∧ EntsV K d H2 cs vs' ∧ EntV K d H2 (n1, i1, dp) v := by
      cases S2.ents with
      | snoc a b => exact ⟨_, _, rfl, a, b⟩
    have hp2 := hpast he
    rw [h3, h4] at hp2
    refine rb_cons <| s14_5r T hr S2.run S2.hlo S2.ents ent S2.line hen (by rw [hs3, h3]) hp2 (by rw [hstk, h5, h6]) fun H3 e3 h3' => ?_
    have S3 := S2.upd e3 h3' (ev'.mono (keepS.but S2.hlo e3))
    refine ok_tail3 T hr S3 (.inl hen) (fun z => by rw [hen] at z; cases z) (fun z => absurd z (by decide +kernel)) (fun z => absurd z (by decide +kernel)) (fun _ => by rw [hstk, h5, hdep]) fun H4 S4 => q H4 _ _ S4 (by rw [List.length_append]; omega) fun _ => hcf cs (fun z => absurd z (by decide +kernel)) (fun _ _ => ⟨_, rfl⟩) (fun z => absurd (by decide +kernel) z) he
  | call h1 he h2 h3 h4 h5 dy =>
    rw [hwd] at h1
    have hen : s.ended = .non := by rw [hs1]; exact he
    obtain ⟨q0, W0⟩ := hW _ hn0
    obtain ⟨j, hj⟩ := past_some W0 h5
    refine rb_cons <| s14_4y T hr S.run S.hlo S.line h1 hen htp hfo hv hd W0.ok rfl hj hso hl fun H2 v e2 h2' ent => ?_
    have S2 := S.upd e2 h2' (.snoc (S.ents.mono (keepS.but S.hlo e2)) ent)
    have nw : ∀ x : Str, x ∈ (["push", "pop", "back"] : List Str) → wd ≠ x := fun x hx z => by
      subst z
      simp only [List.mem_cons, List.not_mem_nil, or_false] at h1
      rcases h1 with rfl | rfl <;> exact absurd hx (by decide +kernel)
    refine rb_cons <| s14_5n S2.line (nw _ (by decide +kernel)) ?_
    refine ok_tail3 T hr S2 (.inl hen) (fun z => by rw [hen] at z; cases z) (fun z => absurd z (nw _ (by decide +kernel))) (fun z => absurd z (nw _ (by decide +kernel))) (fun _ => by rw [hstk, h2, hdep]) fun H3 S3 => q H3 _ _ S3 (by rw [List.length_append]; exact Nat.le_refl _) fun _ => hcf _ (fun _ _ => by rw [hdep]) (fun z => absurd z (nw _ (by decide +kernel))) (fun z => absurd (by
      simp only [List.mem_cons, List.not_mem_nil, or_false] at h1 ⊢
      rcases h1 with rfl | rfl
      · exact .inl rfl
      · exact .inr (.inl rfl)) z) he
  | go h1 he h2 dy h3 h4 h5 =>
    rw [hwd] at h1 h3 h4 h5
    have hen : s.ended = .non := by rw [hs1]; exact he
    have n1 : wd ∉ (["call", "callr"] : List Str) := fun z => h1 (by
      simp only [List.mem_cons, List.not_mem_nil, or_false] at z ⊢
      rcases z with rfl | rfl
      · exact .inl rfl
      · exact .inr (.inl rfl))
    refine rb_cons <| s14_4n T hr S.run S.line (.inl n1) fun H2 e2 => ?_
    have S2 := S.ext e2
    refine rb_cons <| s14_5n S2.line (fun z => h1 (by rw [z]; decide +kernel)) ?_
    exact ok_tail3 T hr S2 (.inl hen) (fun z => by rw [hen] at z; cases z) (fun z => by rw [hstk, h3 z, hdep]) (fun z => by rw [hstk, h4 z, hdep]) (fun z => by rw [hstk, h5 z, hdep]) fun H3 S3 => q H3 _ _ S3 (Nat.le_succ _) fun _ => hcf calls (fun z => absurd z n1) (fun z => absurd (by rw [z]; decide +kernel) h1) (fun _ _ => rfl) he
end
end Fl
end
section
set_option Elab.async false
set_option linter.all false
set_option maxRecDepth 100000
set_option maxHeartbeats 4000000
namespace Fl
open PySem PySem.Spec PyProof.Rows L2 Fx
open Evl (Ex fresh_back)
theorem res_sum {d : Cd} {H1 : Hp} {s s1 : MSt} {l : PyData} {calls : List Ent} {φ : Hp → Prop} (h : Res d H1 s l calls s1 φ) : (∃ x, s1.ended = .str x) ∨ (s1.ended = .non ∧ s1.name ∈ d.ys ∧ s1.at_ < (d.ls s1.name).length ∧ ∃ cf, (∀ H2, keepT H1 H2 → φ H2 → Dyn d H2 s1 cf) ∧
    ∀ cs, (wordD l ∈ (["call", "callr"] : List Str) → s1.ended = .non → cs = (s.name, s.at_ + 1, s.stk.length) :: calls) → (wordD l = "back" → s1.ended = .non → ∃ e, calls = e :: cs) → (wordD l ∉ (["call", "callr", "back"] : List Str) → s1.ended = .non → cs = calls) → s1.ended = .non → cs = cf) := by
  cases h with
  | stop he => exact .inl ⟨_, he⟩
  | back he => exact .inl ⟨_, he⟩
  | @ret n1 i1 dp cs h1 h2 he h3 h4 h5 h6 dy hi =>
    refine .inr ⟨he, dy.nm, by rw [h3, h4]; exact hi, cs, fun H2 k _ => dy.mono k, fun cs' _ g2 _ _ => ?_⟩
    obtain ⟨e, he'⟩ := g2 h1 he
    rw [h2] at he'
    exact (List.cons.inj he').2.symm
  | call h1 he h2 h3 h4 h5 dy => exact .inr ⟨he, h4, h3, _, dy, fun cs' g1 _ _ _ => g1 h1 he⟩
  | go h1 he h2 dy => exact .inr ⟨he, dy.nm, h2, calls, fun H2 k _ => dy.mono k, fun cs' _ _ g3 _ => g3 h1 he⟩
structure LI (K : PySem.W.Frag) (CR C : Addr) (Hb : Hp) (d : Cd) (R : RAd) (A : MA) (lo : Addr) (H : Hp) (s : MSt) (n : Nat) (calls : List Ent) : Prop where
  fr : FrL Hb R A lo
  ex : Ex Hb H
  run : RunO K CR C H R A d s n
  ol : ∃ vs, H lo = some (.lst vs) ∧ EntsV K d H calls vs ∧ vs.length ≤ n
  st : (s.ended = .non ∧ Dyn d H s calls ∧ ∃ l, (d.ls s.name)[s.at_]? = some l ∧ wordD l ≠ "mark") ∨ ∃ x, s.ended = .str x
structure Bs (K : PySem.W.Frag) (Hb : Hp) (ps : PlP) (ad : Str → Addr) (d : Cd) (fo : Addr) (A : MA) : Prop where
  hp : PlainD ps
  prg : PrgOk ps d
  hfo : Hb fo = some (.dK (bkV (bkL ps ad)))
  dat : ∀ p ∈ ps, D K Hb (.ref (ad p.1)) (.list p.2)
  bare : A.bare = false
theorem LI.ext {K : PySem.W.Frag} {CR C : Addr} {Hb H H' : Hp} {d : Cd} {R : RAd} {A : MA} {lo : Addr} {s : MSt} {n : Nat} {calls : List Ent} (L : LI K CR C Hb d R A lo H s n calls) (e : Ex H H') : LI K CR C Hb d R A lo H' s n calls := by
  obtain ⟨vs, h1, h2, h3⟩ := L.ol
  exact ⟨L.fr, L.ex.trans e, L.run.ex e, ⟨vs, e _ _ h1, h2.mono (keepS.ex e), h3⟩, L.st.imp (fun ⟨a, b, c⟩ => ⟨a, b.mono (keepT.of e), c⟩) id⟩
section
variable {P : Program} {w : World} {K : PySem.W.Frag} {mg : Str → Option Value} {base : Heap} {f : Addr} {CP C CR : Addr} {jp : Nat} {cdv : Value} {Ar : Around} {outer : List Env} {sh : Shared} {H0 : Hp} {E : XK}
variable {D : Ends} {Hb H : Hp} {R : RAd} {A : MA} {d : Cd} {s : MSt} {n : Nat} {calls : List Ent} {sa pa fo ia lo : Addr} {t k : Int} {ps : PlP} {ad : Str → Addr} {x8 x9 x10 : Option V}
theorem ok_iter (T : LT P w K mg base CP C CR jp) (hr : Room 8 (lawX P w K mg base f cdv Ar outer sh H0 E).A) (B : Bs K Hb ps ad d fo A) (L : LI K CR C Hb d R A lo H s n calls) (hn : n ≤ 900)
    (qn : ∀ y8 y9 y10 H' s' calls', LI K CR C Hb d R A lo H' s' (n + 1) calls' → D.nx [some (.ref sa), some (.ref pa), some (.int t), some (.ref fo), some (.ref ia), some (.ref R.r), some (.ref lo), some (.int k), y8, y9, y10] H')
    (qb : ∀ y8 y9 y10 H', LI K CR C Hb d R A lo H' s n calls → D.bk [some (.ref sa), some (.ref pa), some (.int t), some (.ref fo), some (.ref ia), some (.ref R.r), some (.ref lo), some (.int k), y8, y9, y10] H') :
    RB (lawX P w K mg base f cdv Ar outer sh H0 E) iterB D [some (.ref sa), some (.ref pa), some (.int t), some (.ref fo), some (.ref ia), some (.ref R.r), some (.ref lo), some (.int k), x8, x9, x10] H := by
  have hr2 : Room 2 (lawX P w K mg base f cdv Ar outer sh H0 E).A := hr.mono (by decide)
  have O := L.run
  rcases L.st with ⟨he, dy, l, hl, hm⟩ | ⟨x, hx⟩
  · refine rb_cons <| rs_two (i := 8) (j := 9) rfl (by exact sc_law.nd) rfl rfl (by decide) rfl rfl rfl <| ra_cons <| re_tplace T.place T.rc hr2 O rfl (.inl ⟨he, fun tp H1 htp e1 h1 => ra_cons <| re_tdepth T.depth T.rc hr2 (O.ex e1) rfl <| ra_nil ⟨_, _, rfl, ?_⟩⟩)
    have L1 := L.ext e1
    have O1 := L1.run
    have dy1 := dy.mono (keepT.of e1)
    refine rb_cons <| rs_if <| rt_cmp op_isN <| re_var 8 rfl <| re_non ⟨rfl, _, rfl, ifF <| rb_nil ?_⟩
    obtain ⟨p0, hp0, hpn⟩ := List.mem_map.mp ((B.prg.mem _).mp dy.nm)
    have hls : d.ls s.name = p0.2 := by rw [← hpn]; exact B.prg.ls p0 hp0
    have hv0 : valV (bkV (bkL ps ad)) (.inr s.name) = some (.ref (ad p0.1)) := by rw [← hpn]; exact bkL_val B.hp.nodup hp0
    obtain ⟨q0, W0⟩ := B.prg.whole _ dy.nm
    have hd1 : Fx.D K H1 (.ref (ad p0.1)) (.list (d.ls s.name)) := by rw [hls]; exact (B.dat p0 hp0).mono L1.ex
    have hfo1 := L1.ex _ _ B.hfo
    obtain ⟨xs, la, hsq, hxa, hqa⟩ := list_line hd1 W0.ok hl
    have htp1 : SqT K H1 tp [.str s.name, .int (s.at_ : Nat)] := .inl (.inl h1)
    refine rb_cons <| rs_set 10 (by exact sc_law.nd) <| re_ixL <| re_dget (hu_of hr) <| re_var 3 rfl <| re_lat 8 htp1 (atI_nat (j := 0) rfl) rfl ⟨fo, _, .inr s.name, .ref (ad p0.1), rfl, hfo1, rfl, hv0, re_lat 8 htp1 (atI_nat (j := 1) rfl) rfl ⟨ad p0.1, xs, (s.at_ : Nat), .ref la, rfl, rfl, hsq, atI_nat hxa, ?_⟩⟩
    obtain ⟨gs, fds, hMs, hbs, FMs⟩ := T.step.ex
    obtain ⟨p, hp, hline⟩ := line_ok (K := K) (A := A) B.prg.whole B.bare hl dy.nm hm he O1.mach.len6 O1.mach.vals
    obtain ⟨vs, ho1, ho2, ho3⟩ := L1.ol
    refine rb_cons <| rs_expr <| re_meth0 T.rc.cls hMs FMs (hr.mono (by decide)) hbs pass0 <| re_var 5 rfl ⟨R.r, R.dx, _, rfl, O1.ins, rfl, R, A, d, s, n, l, p, rfl, by omega, O1, he, dy.nm, hl, hp, fun H2 e2 O2 qq hqq => ?_⟩
    have k12 := e2.keepT O1
    refine hline H1 H2 calls O2.code dy1 k12 qq fun s1 φ hres => hqq s1 φ ?_
    have hso : PyData.strOk s.name = true := word_strOk (by rw [← hpn]; exact B.hp.word p0 hp0)
    have fin : ∀ {H3 : Hp} {s3 : MSt} {cf : List Ent}, exR R A H1 H3 → RunO K CR C H3 R A d s3 (n + 1) → s3.ended = s1.ended → s3.stk = s1.stk → s3.name = s1.name → (s1.ended = .non → IsPast (d.ls s1.name) s1.at_ s3.at_) → (s3.ended = .non → Dyn d H3 s3 cf) →
        (∀ cs, (wordD l ∈ (["call", "callr"] : List Str) → s1.ended = .non → cs = (s.name, s.at_ + 1, s.stk.length) :: calls) → (wordD l = "back" → s1.ended = .non → ∃ e, calls = e :: cs) → (wordD l ∉ (["call", "callr", "back"] : List Str) → s1.ended = .non → cs = calls) → s1.ended = .non → cs = cf) →
        RB (lawX P w K mg base f cdv Ar outer sh H0 E) [st14 4, st14 5, st14 6, st14 7, st14 8] D (sg sa pa t fo ia R.r lo k (.ref tp) s.stk.length la) H3 := by
      intro H3 s3 cf e3 O3 g1 g2 g3 g4 g5 g6
      have ex3 := L.fr.ex L1.ex e3
      have ks := keepS.run O1 e3
      have hlo3 : H3 lo = some (.lst vs) := e3 _ _ ho1 (ne_kind ho1 O1.ins (fun z => nomatch z)) (by
        obtain ⟨kvs, hv, _⟩ := O1.vis
        exact ne_kind ho1 hv (fun z => nomatch z)) (ne_kind ho1 O1.mach.ins (fun z => nomatch z)) L.fr.n1 L.fr.n2 L.fr.n3
      refine ok_tail5 (d := d) (cf := cf) T hr2 hres rfl rfl g1 g2 g3 g4 B.prg.whole dy.nm hso ⟨L.fr, ex3, O3, hlo3, ho2.mono ks, ks _ _ hqa, g5⟩ g6 ?_ (ex3 _ _ B.hfo) hv0 (by rw [hls]; exact (B.dat p0 hp0).mono ex3) (by omega) fun H' cs vs' S hle hcs => ?_
      · exact (e3.keepT O1) _ _ h1
      · refine qn _ _ _ H' s3 cs ⟨L.fr, S.ex, S.run, ⟨vs', S.hlo, S.ents, by omega⟩, ?_⟩
        rcases res_sum hres with ⟨x, hx⟩ | ⟨hx, hny, hlt, _⟩
        · exact .inr ⟨x, by rw [g1]; exact hx⟩
        · have hen : s3.ended = .non := by rw [g1]; exact hx
          obtain ⟨l3, h31, h32⟩ := (g4 hx).here
          refine .inl ⟨hen, by rw [hcs hen]; exact S.dyn hen, l3, ?_, h32⟩
          rw [g3]; exact h31
    rcases res_sum hres with ⟨x, hx⟩ | ⟨hx, hny, hlt, cf, hdy, hcf⟩
    · exact .inl ⟨⟨x, hx⟩, fun H3 e3 hφ O3 => fin (cf := []) e3 O3 rfl rfl rfl (fun z => by rw [hx] at z; cases z) (fun z => by rw [hx] at z; cases z) (fun cs _ _ _ z => by rw [hx] at z; cases z)⟩
    · obtain ⟨q1, W1⟩ := B.prg.whole _ hny
      obtain ⟨j, hj⟩ := past_some W1 hlt
      refine .inr ⟨hx, hny, j, hj, fun H3 H4 e3 hφ O3 e4 O4 => ?_⟩
      have e14 := e3.trans (exR.ofM e4)
      refine fin (cf := cf) e14 O4 rfl rfl rfl (fun _ => hj) (fun _ => ?_) hcf
      exact ((hdy H3 (e3.keepT O1) hφ).past hj).mono ((exR.ofM (R := R) e4).keepT O3)
  · refine rb_cons <| rs_two (i := 8) (j := 9) rfl (by exact sc_law.nd) rfl rfl (by decide) rfl rfl rfl <| ra_cons <| re_tplace T.place T.rc hr2 O rfl (.inr ⟨x, hx, ra_cons <| re_tdepth T.depth T.rc hr2 O rfl <| ra_nil ⟨_, _, rfl, ?_⟩⟩)
    refine rb_cons <| rs_if <| rt_cmp op_isN <| re_var 8 rfl <| re_non ⟨rfl, _, rfl, ?_⟩
    rw [decide_eq_true rfl]
    exact ifT <| rb_one <| rs_break <| qb _ _ _ H L
end
end Fl
end
section
set_option Elab.async false
set_option linter.all false
set_option maxRecDepth 100000
set_option maxHeartbeats 4000000
namespace Fl
open PySem PySem.Spec PyProof.Rows L2 Fx
open Evl (Ex fresh_back)
/-! ### one turn of the law; the law -/
section
variable {P : Program} {w : World} {K : PySem.W.Frag} {mg : Str → Option Value} {base : Heap} {f : Addr} {CP C CR : Addr} {jp : Nat} {cdv : Value} {Ar : Around} {outer : List Env} {sh : Shared} {H0 : Hp} {E : XK}
variable {De : Ends} {H : Hp} {n : Nat} {sa pa : Addr} {t : Int} {x3 x4 x5 x6 x7 x8 x9 x10 : Option V}
theorem ok_turn (T : LT P w K mg base CP C CR jp) (hr : Room 19 (lawX P w K mg base f cdv Ar outer sh H0 E).A) (hn : n + cpl ≤ 550000) (pen : Pen K H pa n)
    (q : ∀ y3 y4 y5 y6 y7 y8 y9 y10 H', Pen K H' pa (n + cpl + 16) → De.nx [some (.ref sa), some (.ref pa), some (.int t), y3, y4, y5, y6, y7, y8, y9, y10] H') :
    RB (lawX P w K mg base f cdv Ar outer sh H0 E) turnB De [some (.ref sa), some (.ref pa), some (.int t), x3, x4, x5, x6, x7, x8, x9, x10] H := by
  have hcpl : cpl = 31520 := by decide +kernel
  refine rb_cons <| rs_two (i := 3) (j := 4) rfl (by exact sc_law.nd) rfl rfl (by decide) rfl rfl rfl <| ra_cons <| re_call T.plain hr (hk := by have := T.hjp; omega) <| ra_cons <| re_var 1 rfl <| ra_cons <| re_int <| ra_nil ⟨pa, 5, n, rfl, by decide, by decide, hn, pen, fun fo ps ad H1 hp hfo0 hfo hdat e1 pen1 => ?_⟩
  refine ra_cons <| re_call T.inputs hr (hk := by decide) <| ra_cons <| re_var 1 rfl <| ra_nil ⟨pa, n + cpl, rfl, by omega, pen1, fun ia ns H2 hia0 hia hlen hns e2 pen2 => ra_nil ⟨_, _, rfl, ?_⟩⟩
  have fopa : fo ≠ pa := (pen.ne_new hfo0).symm
  have hfo2 := e2.but _ _ hfo fopa
  have hdat2 : ∀ p ∈ ps, D K H2 (.ref (ad p.1)) (.list p.2) := fun p hp' => (hdat p hp').mono fun b o hb => by
    obtain ⟨h1, h2⟩ := hideL_of hb
    exact e2.but _ _ h2 fun z => h1 (by rw [z]; exact List.mem_cons_self)
  clear hdat hfo e1 e2 pen1
  obtain ⟨gP, fdP, hMP, hbP, FMP⟩ := T.MP.ex
  obtain ⟨gR, fdR, hMR, hbR, FMR⟩ := T.MR.ex
  have bk := plain_book ad hp
  refine rb_cons <| rs_two (i := 5) (j := 6) rfl (by exact sc_law.nd) rfl rfl (by decide) rfl rfl rfl <| ra_cons <| re_make hMR FMR (hr.mono (by decide)) T.MR.gm hbR pass0 <| ra_cons <| re_make hMP FMP (hr.mono (by decide)) T.MP.gm hbP pass0 <| ra_cons <| re_var 3 rfl <| ra_nil fun a dx h1 h2 ne => ?_
  have e3 : Ex H2 (upd (upd H2 dx (.own a)) a (.ins CP dx [])) := fun b o hb => by
    rw [upd_ne (ne_of_none hb h1), upd_ne (ne_of_none hb h2)]; exact hb
  refine ⟨a, dx, fo, bkL ps ad, rfl, upd_same, e3 _ _ hfo2, fun e he => ?_, bk, fun H4 g ys tt xs ls b4 ft pr => ⟨rfl, ?_⟩⟩
  · obtain ⟨p, hp', rfl⟩ := List.mem_map.mp he
    exact (hdat2 p hp').mono e3
  have e24 : Ex H2 H4 := fun b o hb => b4 _ _ (e3 _ _ hb) (ne_of_none hb h1)
  refine ra_cons <| re_var 4 rfl <| ra_nil fun r rdx h3 h4 ne2 => ?_
  have e5 : Ex H4 (upd (upd H4 rdx (.own r)) r (.ins CR rdx [])) := fun b o hb => by
    rw [upd_ne (ne_of_none hb h3), upd_ne (ne_of_none hb h4)]; exact hb
  have e25 := e24.trans e5
  have hmem : ∀ z, z ∈ ys ↔ z ∈ ps.map (·.1) := fun z => by rw [ft.perm.mem_iff, bkN_L]
  have hlsp : ∀ p ∈ ps, ls p.1 = p.2 := fun p hp' => ft.ls _ (bkL_mem hp')
  have hmain : ("main" : Str) ∈ ys := (hmem _).mpr hp.main
  have hnd : ys.Nodup := ft.perm.nodup_iff.mpr bk.nodup
  have h24 : ys.length ≤ 24 := by
    rw [ft.perm.length_eq]
    show (bkL ps ad |>.map _).length ≤ 24
    rw [List.length_map]; exact bk.len
  have hwh : ∀ z ∈ ys, ∃ q, Whole q ys (ls z) := fun z hz => by
    obtain ⟨p, hp', rfl⟩ := List.mem_map.mp ((hmem z).mp hz)
    obtain ⟨q, W⟩ := hp.whole p hp'
    rw [hlsp p hp']
    exact ⟨q, W.mono fun s hs => (hmem s).mpr hs⟩
  have hln : ∀ z ∈ ys, Lines (.tuple (ls z)) := fun z hz => by
    obtain ⟨q, W⟩ := hwh z hz
    obtain ⟨p, hp', rfl⟩ := List.mem_map.mp ((hmem z).mp hz)
    refine ⟨rfl, ?_, W.ok⟩
    show (ls p.1).length ≤ 1000
    rw [hlsp p hp']
    exact Nat.le_trans (hp.l40 p hp') (by decide)
  obtain ⟨qm, Wm⟩ := hwh _ hmain
  obtain ⟨j, hj⟩ := past_some Wm Wm.pos
  refine ⟨r, rdx, a, dx, g, ys, tt, xs, ls, ia, ns, j, rfl, upd_same, pr.ex e5, hln, hmain, hnd, h24, e25 _ _ hia, by omega, hns, hj, fun H6 R A mk hRr hAb b6 g1 g2 g3 g4 g5 O => ⟨rfl, ?_⟩⟩
  have fb : ∀ {b : Addr}, upd (upd H4 rdx (.own r)) r (.ins CR rdx []) b = none → H2 b = none := fun h => fresh_back e25 h
  have hr2 : H2 r = none := fresh_back e24 h3
  have e26 : Ex H2 H6 := fun b o hb => b6 _ _ (e25 _ _ hb) (ne_of_none hb hr2)
  refine ra_cons <| re_lst <| ra_nil ⟨Nat.zero_le _, fun lo H7 hlo e7 h7 => ra_nil ⟨_, _, rfl, ?_⟩⟩
  have O7 := O.ex e7
  have e27 := e26.trans e7
  let dd : Cd := ⟨ys, tt, xs, mk, ls, ns⟩
  have hprg : PrgOk ps dd := ⟨hmem, hlsp, hwh⟩
  have B : Bs K H2 ps ad dd fo A := ⟨hp, hprg, hfo2, hdat2, hAb⟩
  have lne : ∀ {b : Addr} {u : HO}, H6 b = some u → lo ≠ b := fun h z => by rw [← z, hlo] at h; cases h
  have fr : FrL H2 R A lo := ⟨by rw [hRr]; exact hr2, fb g1, fb g2, fb g3, fb g4, fb g5, fresh_back e26 hlo, lne O.mach.rg, lne O.mach.sk, lne O.mach.wr⟩
  have L0 : LI K CR C H2 dd R A lo H7 (st0 j) 0 [] := ⟨fr, e27, O7, ⟨[], h7, .nil, Nat.le_refl _⟩, .inl ⟨rfl, ⟨hmain, [], .str "end", [], qm, .base, rfl, (by
    have := (past_keep (ds := ls "main") (i := 0) (m := j) fun k a b => hj.mark k a (by omega)).1
    rw [Nat.zero_add] at this
    show FrOk ys (.str "end") (rowAtN (ls "main") j) []
    rw [this]; exact FrOk.nil), Wm, fun _ _ => rfl⟩, hj.here⟩⟩
  subst hRr
  refine rb_one <| rs_for (g := gName 7) PassesOwn.never rfl (pg_name (i := 7) (by exact sc_law.nd) rfl (Or.inl rfl)) good_name ?_
  refine ri_range (n := 0) T.G2.range <| ra_cons <| re_int <| ra_nil ⟨400, rfl, by decide, by decide, ?_⟩
  refine ⟨_, _, _, fun i σ' H' => ∃ y7 y8 y9 y10 s m calls, σ' = [some (.ref sa), some (.ref pa), some (.int t), some (.ref fo), some (.ref ia), some (.ref R.r), some (.ref lo), y7, y8, y9, y10] ∧ m ≤ i ∧ LI K CR C H2 dd R A lo H' s m calls, walk_range, ⟨_, _, _, _, _, 0, [], rfl, Nat.le_refl _, L0⟩, fun _ _ _ _ _ => trivial, ?_, ?_⟩
  · rintro i x σ' Ha Hb hi ⟨y7, y8, y9, y10, s, m, calls, rfl, hm, L⟩ ⟨rfl, rfl⟩
    have hi' : i < 400 := hi
    refine ok_iter T (hr.mono (by decide)) B L (by omega) (fun y8 y9 y10 H' s' calls' L' => ⟨_, _, _, _, s', m + 1, calls', rfl, by omega, L'⟩) fun y8 y9 y10 H' L' => ?_
    exact q _ _ _ _ _ _ _ _ H' (pen2.mono L'.ex)
  · rintro σ' H' ⟨y7, y8, y9, y10, s, m, calls, rfl, hm, L⟩
    exact q _ _ _ _ _ _ _ _ H' (pen2.mono L.ex)
def sp_law (K : PySem.W.Frag) : Sp := fun vs H Q _ => ∃ (sa : Addr) (ns : List Int), vs = [.ref sa] ∧ SqL K H sa (ns.map V.int) ∧ ∀ H', Q (.bl true) H'
theorem ok_law {fd : FuncData} (F : Fun K "law" "law" s_law f fd) (T : LT P w K mg base CP C CR jp) : FnOk P w K mg base CX0 20 f fd ["_law_script"] (sp_law K) := by
  refine F.ok sc_law (fun vs H Q E h => ?_) (fun cdv Ar outer sh H vs Q E hr h => ⟨RB _ _, pss_RB, ?_⟩)
  · obtain ⟨_, _, rfl, _⟩ := h; rfl
  obtain ⟨sa, ns, rfl, hS, q⟩ := h
  have hcpl : cpl = 31520 := by decide +kernel
  refine rb_cons <| rs_set 1 (by exact sc_law.nd) <| re_call T.pen hr (hk := by decide) <| ra_cons <| re_var 0 rfl <| ra_nil ⟨sa, ns, rfl, hS, fun pa H1 e1 pen => ?_⟩
  have hS1 := Evl.ex_l e1 hS
  refine rb_cons <| rs_for (g := gName 2) PassesOwn.never rfl (pg_name (i := 2) (by exact sc_law.nd) rfl (Or.inl rfl)) good_name ?_
  refine ri_range (n := 0) T.G2.range <| ra_cons <| re_add <| re_int <| re_cb (call_min2 rfl) T.G2.min <| ra_cons <| re_int <| ra_cons <| re_cb call_len T.G.len <| ra_cons <| re_var 0 rfl <| ra_nil ⟨_, ns.length, rfl, .inl ⟨_, hS1, (List.length_map ..).symm⟩, ra_nil ⟨6, (ns.length : Nat), rfl, 6, _, rfl, rfl, ra_nil ⟨_, rfl, ?_, ?_, ?_⟩⟩⟩
  · split <;> omega
  · split <;> omega
  have hn : (6 + (if ((ns.length : Nat) : Int) < 6 then ((ns.length : Nat) : Int) else 6)).toNat ≤ 12 := by split <;> omega
  generalize (6 + (if ((ns.length : Nat) : Int) < 6 then ((ns.length : Nat) : Int) else 6)).toNat = many at *
  refine ⟨many, _, _, fun i σ' H' => ∃ y2 y3 y4 y5 y6 y7 y8 y9 y10, σ' = [some (.ref sa), some (.ref pa), y2, y3, y4, y5, y6, y7, y8, y9, y10] ∧ Pen K H' pa ((cpl + 16) * i), walk_range, ⟨_, _, _, _, _, _, _, _, _, rfl, pen⟩, fun _ _ _ _ _ => trivial, ?_, ?_⟩
  · rintro i x σ' Ha Hb hi ⟨y2, y3, y4, y5, y6, y7, y8, y9, y10, rfl, pen⟩ ⟨rfl, rfl⟩
    have hi' : i < 12 := by omega
    have hb : (cpl + 16) * i ≤ (cpl + 16) * 11 := Nat.mul_le_mul_left _ (by omega)
    exact ok_turn T hr (by omega) pen fun y3 y4 y5 y6 y7 y8 y9 y10 H' pen' => ⟨_, _, _, _, _, _, _, _, _, rfl, by rw [Nat.mul_succ]; exact pen'.upto (by omega)⟩
  rintro σ' H2 ⟨y2, y3, y4, y5, y6, y7, y8, y9, y10, rfl, _⟩
  exact rb_one <| rs_ret <| re_bl <| q _
end
end Fl
end
section
set_option Elab.async false
set_option linter.all false
set_option maxRecDepth 100000
set_option maxHeartbeats 2000000
namespace Fl
open PySem PySem.Spec PyProof.Rows L2 Fx
open Evl (Ex fresh_back)
/-! ### the module's tables, told by what is written -/
def strsAre : List Value → List Str → Bool
  | [], [] => true
  | .str x _ :: vs, w :: ws => x == w && strsAre vs ws
  | _, _ => false
theorem strsAre_ok : ∀ {vs : List Value} {ws : List Str}, strsAre vs ws = true → Vals (ws.map V.str) vs
  | [], [], _ => .nil
  | [], _ :: _, h => nomatch h
  | v :: vs, [], h => by cases v <;> exact nomatch h
  | v :: vs, w :: ws, h => by
    cases v with
    | str x t =>
      have h : (x == w && strsAre vs ws) = true := h
      rw [Bool.and_eq_true] at h
      have e : x = w := by simpa using h.1
      exact .cons ⟨t, by rw [e]⟩ (strsAre_ok h.2)
    | _ => exact nomatch h
def tupStrs (K : PySem.W.Frag) (b : Addr) (ws : List Str) : Bool := match K.lookup b with
  | some o => (o.cls == Value.type "tuple") && (match o.data with | .seq its _ => decide (its.size ≤ 100) && strsAre its.toList ws | _ => false)
  | none => false
theorem tupStrs_ok {K : PySem.W.Frag} {b : Addr} {ws : List Str} (h : tupStrs K b ws = true) (H : Hp) : SqT K H b (ws.map V.str) := by
  unfold tupStrs at h
  cases hl : K.lookup b with
  | none => rw [hl] at h; exact nomatch h
  | some o =>
    rw [hl] at h
    have h : ((o.cls == Value.type "tuple") && (match o.data with | .seq its _ => decide (its.size ≤ 100) && strsAre its.toList ws | _ => false)) = true := h
    rw [Bool.and_eq_true] at h
    have hc : o.cls = Value.type "tuple" := by simpa using h.1
    cases hd : o.data with
    | seq its n =>
      rw [hd] at h
      have h2 : (decide (its.size ≤ 100) && strsAre its.toList ws) = true := h.2
      rw [Bool.and_eq_true, decide_eq_true_eq] at h2
      exact .inr ⟨o, its, n, hl, hc, hd, Nat.le_trans h2.1 (by rw [sizeLine_eq]; decide), strsAre_ok h2.2⟩
    | _ => rw [hd] at h; exact nomatch h.2
def keysAll (K : PySem.W.Frag) (a : Addr) (ks : List Str) : Bool := match K.lookup a with
  | some o => (match o.data with | .dict es _ => es.toList.all (fun e => match e.key with | .str w _ => ks.contains w | _ => false) | _ => false)
  | none => false
theorem keysAll_ok {K : PySem.W.Frag} {a : Addr} {ks : List Str} {z : Str} (h : keysAll K a ks = true) (hz : z ∉ ks) : PySem.W.nsIn K a z = some none := by
  unfold keysAll at h
  unfold PySem.W.nsIn
  cases hl : K.lookup a with
  | none => rw [hl] at h; exact nomatch h
  | some o =>
    rw [hl] at h
    obtain ⟨oc, od, dt, sl⟩ := o
    cases dt with
    | dict es n =>
      have h : (es.toList.all fun e => match e.key with | .str w _ => ks.contains w | _ => false) = true := h
      rw [List.all_eq_true] at h
      have hf : es.toList.find? (fun x => x.key.isStr z) = none := by
        rw [List.find?_eq_none]
        intro e he
        have := h e he
        cases hk : e.key with
        | str w t =>
          rw [hk] at this
          have hw : w ∈ ks := by simpa using this
          intro hs
          have : w = z := by simpa [Value.isStr] using hs
          exact hz (this ▸ hw)
        | _ => rw [hk] at this; exact nomatch this
      have hr : (es.toList.any fun x => x.refKey) = false := by
        rw [List.any_eq_false]
        intro e he
        have := h e he
        cases hk : e.key with
        | str w t => simp [DictEntry.refKey, hk]
        | _ => rw [hk] at this; exact nomatch this
      show (match es.toList.find? (fun x => x.key.isStr z) with
        | some e => some (some e.val)
        | none => if (es.toList.any fun x => x.refKey) = true then none else some none) = some none
      rw [hf, hr]
      rfl
    | _ => exact nomatch h
def formsOk (K : PySem.W.Frag) (a : Addr) : Bool := keysAll K a (forms.map (·.1)) && forms.all fun e => match PySem.W.nsIn K a e.1 with
  | some (some (.ref b)) => tupStrs K b e.2
  | _ => false
def sizesOk (K : PySem.W.Frag) (a : Addr) : Bool := keysAll K a (sizes.map (·.1)) && sizes.all fun e => match PySem.W.nsIn K a e.1 with
  | some (some (.int i _)) => i == e.2
  | _ => false
theorem lookup_memG {β : Type} {k : Str} {v : β} : ∀ {l : List (Str × β)}, l.lookup k = some v → (k, v) ∈ l
  | [], h => nomatch h
  | (k', v') :: r, h => by
    rw [List.lookup_cons] at h
    by_cases e : k = k'
    · subst e
      rw [beq_self_eq_true] at h
      cases h
      exact List.mem_cons_self
    · rw [beq_eq_false_iff_ne.mpr e] at h
      exact List.mem_cons_of_mem _ (lookup_memG h)
section
variable {P : Program} {w : World} {K : PySem.W.Frag} {mg : Str → Option Value} {h base : Heap}
theorem frm_mk {a : Addr} {es : Array DictEntry} {n : Nat} (X : K.In h) (G : h.Ns mainGlobals mg) (ha : PySem.W.nsIn K mainGlobals "FORMS" = some (some (.ref a))) (l : K.lookup a = some { cls := Value.type "dict", data := Data.dict es n }) (k : PySem.W.KeysLit w.params es.toList) (lo : (a == sysModules) = false) (ok : formsOk K a = true) : Frm K w mg := by
  unfold formsOk at ok
  rw [Bool.and_eq_true, List.all_eq_true] at ok
  refine ⟨a, es, n, PySem.W.mg_of X G ha, ⟨l, k, lo⟩, fun z => ?_⟩
  cases hz : forms.lookup z with
  | none => exact keysAll_ok ok.1 (lookup_none.mp hz)
  | some kinds =>
    have := ok.2 _ (lookup_memG hz)
    have this : (match PySem.W.nsIn K a z with | some (some (.ref b)) => tupStrs K b kinds | _ => false) = true := this
    show ∃ b, PySem.W.nsIn K a z = some (some (.ref b)) ∧ ∀ H, SqT K H b (kinds.map V.str)
    split at this
    · rename_i b hb
      exact ⟨b, hb, tupStrs_ok this⟩
    · exact nomatch this
theorem sizes_mk {a : Addr} {es : Array DictEntry} {n : Nat} (X : K.In h) (G : h.Ns mainGlobals mg) (ha : PySem.W.nsIn K mainGlobals "SIZES" = some (some (.ref a))) (l : K.lookup a = some { cls := Value.type "dict", data := Data.dict es n }) (k : PySem.W.KeysLit w.params es.toList) (lo : (a == sysModules) = false) (ok : sizesOk K a = true) :
    ∃ a es n, mg "SIZES" = some (.ref a) ∧ KDict K w a es n ∧ ∀ z : Str, ∃ r, PySem.W.nsIn K a z = some r ∧ match sizes.lookup z with | some i => ∃ t, r = some (.int i t) | none => r = none := by
  unfold sizesOk at ok
  rw [Bool.and_eq_true, List.all_eq_true] at ok
  refine ⟨a, es, n, PySem.W.mg_of X G ha, ⟨l, k, lo⟩, fun z => ?_⟩
  cases hz : sizes.lookup z with
  | none => exact ⟨none, keysAll_ok ok.1 (lookup_none.mp hz), rfl⟩
  | some i =>
    have := ok.2 _ (lookup_memG hz)
    have this : (match PySem.W.nsIn K a z with | some (some (.int j _)) => j == i | _ => false) = true := this
    split at this
    · rename_i j t hb
      have e : j = i := by simpa using this
      exact ⟨_, hb, t, by rw [e]⟩
    · exact nomatch this
theorem tup_mk {x : Str} {a : Addr} {ws : List Str} (X : K.In h) (G : h.Ns mainGlobals mg) (ha : PySem.W.nsIn K mainGlobals x = some (some (.ref a))) (ok : tupStrs K a ws = true) : ∃ a, mg x = some (.ref a) ∧ ∀ H, SqT K H a (ws.map V.str) := ⟨a, PySem.W.mg_of X G ha, tupStrs_ok ok⟩
theorem int_mk {x : Str} {i : Int} {t : Tok} (X : K.In h) (G : h.Ns mainGlobals mg) (ha : PySem.W.nsIn K mainGlobals x = some (some (.int i t))) : ∃ t, mg x = some (.int i t) := ⟨t, PySem.W.mg_of X G ha⟩
/-- a def of the module: where it stands -/
def GD (K : PySem.W.Frag) (mg : Str → Option Value) (x : Str) (st : Stmt) : Prop := ∃ f fd, mg x = some (.ref f) ∧ Fun K x x st f fd
theorem gd_mk {x : Str} {st : Stmt} {f : Addr} {oc : Value} {od an : Option Addr} {osl : Array (Option Value)} {kV doc pm cdv ct : Value} (X : K.In h) (G : h.Ns mainGlobals mg) (a : PySem.W.nsIn K mainGlobals x = some (some (.ref f)))
    (l : K.lookup f = some { cls := oc, dict := od, data := Data.func (PySem.W.fnOf x x (defArgs st) (defBody st) (defScope st) Value.none kV doc pm an cdv ct), slots := osl }) (c : PySem.W.codeIn K cdv x = true) (k : PySem.W.keepIn K (.ref f) = true) : GD K mg x st := ⟨f, _, PySem.W.mg_of X G a, fun_mk l c k⟩
theorem GD.cl {x : Str} {st : Stmt} {ps : List Str} {CX : CXT} {k : Nat} {sp : Sp} (g : GD K mg x st) (ok : ∀ f fd, Fun K x x st f fd → FnOk P w K mg base CX k f fd ps sp)
    (hb : ∀ (kV doc pm : Value) (an : Option Addr) (cdv ct : Value) (us : List Value), us.length = ps.length → bindArgs (PySem.W.fnOf x x (defArgs st) (defBody st) (defScope st) Value.none kV doc pm an cdv ct) { pos := us } = pure (ps.zip us)) : Cl P w K mg base CX k x sp := by
  obtain ⟨f, fd, hm, F⟩ := g
  exact ⟨f, fd, ps, hm, F.kp, F.binds hb, ok f fd F⟩
end
end Fl
end
section
set_option Elab.async false
set_option linter.all false
set_option maxRecDepth 100000
set_option maxHeartbeats 4000000
namespace Fl
open PySem PySem.Spec PyProof.Rows L2 Fx
open Evl (Ex fresh_back)
theorem Cl.up {P : Program} {w : World} {K : PySem.W.Frag} {mg : Str → Option Value} {base : Heap} {CX : CXT} {k j : Nat} {x : Str} {sp : Sp} (c : Cl P w K mg base CX k x sp) (h : k ≤ j) : Cl P w K mg base CX j x sp := by
  obtain ⟨f, fd, ps, h1, h2, h3, F⟩ := c.ex
  exact ⟨f, fd, ps, h1, h2, h3, F.mono h⟩
/-- a def that a table of the module names -/
def TD (K : PySem.W.Frag) (a : Addr) (z x : Str) (st : Stmt) : Prop := ∃ g fd, PySem.W.nsIn K a z = some (some (.ref g)) ∧ Fun K x x st g fd
theorem td_mk {K : PySem.W.Frag} {a f : Addr} {z x : Str} {st : Stmt} {oc : Value} {od an : Option Addr} {osl : Array (Option Value)} {kV doc pm cdv ct : Value} (n : PySem.W.nsIn K a z = some (some (.ref f)))
    (l : K.lookup f = some { cls := oc, dict := od, data := Data.func (PySem.W.fnOf x x (defArgs st) (defBody st) (defScope st) Value.none kV doc pm an cdv ct), slots := osl }) (c : PySem.W.codeIn K cdv x = true) (k : PySem.W.keepIn K (.ref f) = true) : TD K a z x st := ⟨f, _, n, fun_mk l c k⟩
/-- all defs of the row but law, where they stand -/
structure AllD (K : PySem.W.Frag) (mg : Str → Option Value) : Prop where
  g_is_int : GD K mg "is_int" s_is_int
  g_is_number : GD K mg "is_number" s_is_number
  g_is_word : GD K mg "is_word" s_is_word
  g_is_list : GD K mg "is_list" s_is_list
  g_is_filled_list : GD K mg "is_filled_list" s_is_filled_list
  g_are_numbers : GD K mg "are_numbers" s_are_numbers
  g_wrapped : GD K mg "wrapped" s_wrapped
  g__fits : GD K mg "_fits" s_fits
  g_is_line : GD K mg "is_line" s_is_line
  g_named_function : GD K mg "named_function" s_named_function
  g_named_label : GD K mg "named_label" s_named_label
  g_marks_of : GD K mg "marks_of" s_marks_of
  g__leads : GD K mg "_leads" s_leads
  g_reached_ways : GD K mg "reached_ways" s_reached_ways
  g__entry_of : GD K mg "_entry_of" s_entry_of
  g__has_value : GD K mg "_has_value" s_has_value
  g__row_behind : GD K mg "_row_behind" s_row_behind
  g_rows_of : GD K mg "rows_of" s_rows_of
  g__own_behind : GD K mg "_own_behind" s_own_behind
  g_own_indexes : GD K mg "own_indexes" s_own_indexes
  g__needs_own : GD K mg "_needs_own" s_needs_own
  g_is_tidy : GD K mg "is_tidy" s_is_tidy
  g__names_are_there : GD K mg "_names_are_there" s_names_are_there
  g__first_wrong : GD K mg "_first_wrong" s_first_wrong
  g__are_functions : GD K mg "_are_functions" s_are_functions
  g__check_lengths : GD K mg "_check_lengths" s_check_lengths
  g_check_functions : GD K mg "check_functions" s_check_functions
  g__law_pen : GD K mg "_law_pen" s_pen
  g__law_draw : GD K mg "_law_draw" s_draw
  g__law_pick : GD K mg "_law_pick" s_pick
  g__law_words : GD K mg "_law_words" s_words
  g__law_number : GD K mg "_law_number" s_number
  g__law_plain_line : GD K mg "_law_plain_line" s_plain_line
  g__law_called : GD K mg "_law_called" s_called
  g__law_call : GD K mg "_law_call" s_lcall
  g__law_item : GD K mg "_law_item" s_item
  g__law_items : GD K mg "_law_items" s_items
  g__law_lines : GD K mg "_law_lines" s_lines
  g__law_plain : GD K mg "_law_plain" s_plain
  g__law_inputs : GD K mg "_law_inputs" s_l_inputs
  g__law_beyond_marks : GD K mg "_law_beyond_marks" s_l_beyond_marks
  g_pass_marks : GD K mg "pass_marks" s_pass_marks
  g__are_numbers : GD K mg "_are_numbers" s_m_are_numbers
  g__keep_behind : GD K mg "_keep_behind" s_m_keep_behind
  g__enter : GD K mg "_enter" s_m_enter
  g_jump : GD K mg "_jump" s_m_jump
  g_do_line : GD K mg "do_line" s_do_line
structure AllA (K : PySem.W.Frag) (w : World) (mg : Str → Option Value) : Prop where
  ex : ∃ a es n, mg "ACTIONS" = some (.ref a) ∧ KDict K w a es n ∧ TD K a "num" "_num" s_m_num ∧ TD K a "copy" "_copy" s_m_copy ∧ TD K a "add" "_add" s_m_add ∧ TD K a "sub" "_sub" s_m_sub ∧ TD K a "mul" "_mul" s_m_mul ∧ TD K a "addr" "_num" s_m_num ∧ TD K a "same" "_same" s_m_same ∧ TD K a "less" "_less" s_m_less ∧ TD K a "in" "_take_in" s_m_take_in ∧ TD K a "out" "_put_out" s_m_put_out ∧ TD K a "push" "_push" s_m_push ∧ TD K a "pop" "_pop" s_m_pop ∧ TD K a "read" "_read" s_m_read ∧ TD K a "write" "_write" s_m_write ∧ TD K a "jump" "_jump" s_m_jump ∧ TD K a "if" "_if" s_m_if ∧ TD K a "unless" "_unless" s_m_unless ∧ TD K a "call" "_call" s_m_call ∧ TD K a "callr" "_callr" s_m_callr ∧ TD K a "tail" "_tail" s_m_tail ∧ TD K a "back" "_back" s_m_back ∧ TD K a "stop" "_stop" s_m_stop
/-- the classes, where they stand -/
structure AllC (K : PySem.W.Frag) (mg : Str → Option Value) (CP C CR : Addr) : Prop where
  gmM : mg "Machine" = some (.ref C)
  gmR : mg "Run" = some (.ref CR)
  pc : PC K CP
  pe : PEnd K mg CP
  mc : MC K C
  rc : RC K CR
  initP : ∃ f fd, Mk K CP f ∧ Fun K "__init__" "Program.__init__" s_init f fd
  keep : ∃ f fd, Meth K CP "_keep" f ∧ Fun K "_keep" "Program._keep" s_keep f fd
  pfun : ∃ pr g fd, PropOf K CP "functions" pr g ∧ Fun K "functions" "Program.functions" s_functions g fd
  initM : ∃ f fd, Mk K C f ∧ Fun K "__init__" "Machine.__init__" s_machine_init f fd
  initR : ∃ f fd v, Mk K CR f ∧ L2.FunD K "__init__" "Run.__init__" (defArgs s_run_init) (defBody s_run_init) (defScope s_run_init) [v] [] f fd
  pplace : ∃ pr g fd, PropOf K CR "place" pr g ∧ Fun K "place" "Run.place" s_run_place g fd
  pend : ∃ pr g fd, PropOf K CR "end" pr g ∧ Fun K "end" "Run.end" s_run_end g fd
  pdepth : ∃ pr g fd, PropOf K CR "depth" pr g ∧ Fun K "depth" "Run.depth" s_run_depth g fd
  step : ∃ f fd, Meth K CR "step" f ∧ Fun K "step" "Run.step" s_run_step f fd
section
variable {P : Program} {w : World} {K : PySem.W.Frag} {mg : Str → Option Value} {base : Heap} {CP C CR : Addr}
theorem TD.held {C a : Addr} {z x : Str} {st : Stmt} {ps : List Str} {k : Nat} {p : PreM} (t : TD K a z x st) (ok : ∀ f fd, Fun K x x st f fd → FnOk P w K mg base CX0 k f fd ps (sp_am K C z p)) (hk : k ≤ 2)
    (hb : ∀ (kV doc pm : Value) (an : Option Addr) (cdv ct : Value) (us : List Value), us.length = ps.length → bindArgs (PySem.W.fnOf x x (defArgs st) (defBody st) (defScope st) Value.none kV doc pm an cdv ct) { pos := us } = pure (ps.zip us)) : ∃ g, PySem.W.nsIn K a z = some (some (.ref g)) ∧ Held P w K mg base 2 g (sp_am K C z p) := by
  obtain ⟨g, fd, h1, F⟩ := t
  exact ⟨g, h1, fd, ps, (ok g fd F).mono hk, F.kp, F.binds hb⟩
theorem lt_mk (A : AllD K mg) (AA : AllA K w mg) (B : AllC K mg CP C CR) (G : Gb mg) (G2 : Gb2 mg) (GM : Gm mg) (Fm : Frm K w mg) (F2 : Frm2 K w mg) : LT P w K mg base CP C CR 12 := by
  have TM := B.mc
  have PE' := B.pe
  have pcb : PCb K CP false := ⟨B.pc.cls, B.pc.bare, B.pc.nF⟩
  have c_is_int : Cl P w K mg base CX0 1 "is_int" (sp_is_int K) := A.g_is_int.cl (ps := ["value"]) (fun f fd F => ok_is_int F G) (fun _ _ _ _ _ _ us hl => match us, hl with | [_], _ => rfl)
  have c_is_number : Cl P w K mg base CX0 2 "is_number" (sp_is_number K) := A.g_is_number.cl (ps := ["value"]) (fun f fd F => ok_is_number F G c_is_int) (fun _ _ _ _ _ _ us hl => match us, hl with | [_], _ => rfl)
  have c_is_word : Cl P w K mg base CX0 1 "is_word" (sp_is_word K) := A.g_is_word.cl (ps := ["value"]) (fun f fd F => ok_is_word F G) (fun _ _ _ _ _ _ us hl => match us, hl with | [_], _ => rfl)
  have c_is_list : Cl P w K mg base CX0 1 "is_list" (sp_is_list K) := A.g_is_list.cl (ps := ["value"]) (fun f fd F => ok_is_list F G) (fun _ _ _ _ _ _ us hl => match us, hl with | [_], _ => rfl)
  have c_is_filled_list : Cl P w K mg base CX0 2 "is_filled_list" (sp_is_filled_list K) := A.g_is_filled_list.cl (ps := ["value"]) (fun f fd F => ok_is_filled_list F G c_is_list) (fun _ _ _ _ _ _ us hl => match us, hl with | [_], _ => rfl)
  have c_are_numbers : Cl P w K mg base CX0 3 "are_numbers" (sp_ans K) := A.g_are_numbers.cl (ps := ["value"]) (fun f fd F => ok_ans F G c_is_list c_is_number) (fun _ _ _ _ _ _ us hl => match us, hl with | [_], _ => rfl)
  have c_wrapped : Cl P w K mg base CX0 1 "wrapped" (sp_wrapped) := A.g_wrapped.cl (ps := ["number"]) (fun f fd F => ok_wrapped F G) (fun _ _ _ _ _ _ us hl => match us, hl with | [_], _ => rfl)
  have c__fits : Cl P w K mg base CX0 3 "_fits" (sp_fits K) := A.g__fits.cl (ps := ["kind", "part"]) (fun f fd F => ok_fits F G c_is_word c_is_number c_is_int) (fun _ _ _ _ _ _ us hl => match us, hl with | [_, _], _ => rfl)
  have c_is_line : Cl P w K mg base CX0 4 "is_line" (sp_is_line K) := A.g_is_line.cl (ps := ["value"]) (fun f fd F => ok_is_line F G Fm c__fits) (fun _ _ _ _ _ _ us hl => match us, hl with | [_], _ => rfl)
  have c_named_function : Cl P w K mg base CX0 1 "named_function" (sp_named_function K) := A.g_named_function.cl (ps := ["line"]) (fun f fd F => ok_named_function F ) (fun _ _ _ _ _ _ us hl => match us, hl with | [_], _ => rfl)
  have c_named_label : Cl P w K mg base CX0 1 "named_label" (sp_named_label K) := A.g_named_label.cl (ps := ["line"]) (fun f fd F => ok_named_label F F2) (fun _ _ _ _ _ _ us hl => match us, hl with | [_], _ => rfl)
  have c_marks_of : Cl P w K mg base CX0 1 "marks_of" (sp_marks_of K) := A.g_marks_of.cl (ps := ["lines"]) (fun f fd F => ok_marks_of F G) (fun _ _ _ _ _ _ us hl => match us, hl with | [_], _ => rfl)
  have c_marks_new : Cl P w K mg base CX0 1 "marks_of" (sp_marks_new K) := A.g_marks_of.cl (ps := ["lines"]) (fun f fd F => ok_marks_new F G) (fun _ _ _ _ _ _ us hl => match us, hl with | [_], _ => rfl)
  have c__leads : Cl P w K mg base CX0 1 "_leads" (sp_leads K) := A.g__leads.cl (ps := ["lines", "at", "marks"]) (fun f fd F => ok_leads F G) (fun _ _ _ _ _ _ us hl => match us, hl with | [_, _, _], _ => rfl)
  have c_reached_ways : Cl P w K mg base CX0 2 "reached_ways" (sp_reached_ways K) := A.g_reached_ways.cl (ps := ["lines"]) (fun f fd F => ok_reached_ways F G c_marks_of c__leads) (fun _ _ _ _ _ _ us hl => match us, hl with | [_], _ => rfl)
  have c__entry_of : Cl P w K mg base CX0 1 "_entry_of" (sp_entry_of K) := A.g__entry_of.cl (ps := ["line"]) (fun f fd F => ok_entry_of F ) (fun _ _ _ _ _ _ us hl => match us, hl with | [_], _ => rfl)
  have c__has_value : Cl P w K mg base CX0 1 "_has_value" (sp_has_value K) := A.g__has_value.cl (ps := ["row", "k"]) (fun f fd F => ok_has_value F G) (fun _ _ _ _ _ _ us hl => match us, hl with | [_, _], _ => rfl)
  have c__row_behind : Cl P w K mg base CX0 2 "_row_behind" (sp_row_behind K) := A.g__row_behind.cl (ps := ["line", "row"]) (fun f fd F => ok_row_behind F G c__entry_of c__has_value) (fun _ _ _ _ _ _ us hl => match us, hl with | [_, _], _ => rfl)
  have c_rows_of : Cl P w K mg base CX0 3 "rows_of" (sp_rows_of K) := A.g_rows_of.cl (ps := ["lines", "ways"]) (fun f fd F => ok_rows_of F G c__row_behind) (fun _ _ _ _ _ _ us hl => match us, hl with | [_, _], _ => rfl)
  have c__own_behind : Cl P w K mg base CX0 1 "_own_behind" (sp_own_behind K) := A.g__own_behind.cl (ps := ["line", "own"]) (fun f fd F => ok_own_behind F F2) (fun _ _ _ _ _ _ us hl => match us, hl with | [_, _], _ => rfl)
  have c_own_indexes : Cl P w K mg base CX0 2 "own_indexes" (sp_own_indexes K) := A.g_own_indexes.cl (ps := ["lines", "ways"]) (fun f fd F => ok_own_indexes F G c__own_behind) (fun _ _ _ _ _ _ us hl => match us, hl with | [_, _], _ => rfl)
  have c__needs_own : Cl P w K mg base CX0 1 "_needs_own" (sp_needs_own K) := A.g__needs_own.cl (ps := ["line"]) (fun f fd F => ok_needs_own F ) (fun _ _ _ _ _ _ us hl => match us, hl with | [_], _ => rfl)
  have c_is_tidy : Cl P w K mg base CX0 4 "is_tidy" (sp_is_tidy K) := A.g_is_tidy.cl (ps := ["lines", "bare"]) (fun f fd F => ok_is_tidy F G F2 c_reached_ways c_rows_of c_own_indexes c__needs_own) (fun _ _ _ _ _ _ us hl => match us, hl with | [_, _], _ => rfl)
  have c__names_are_there : Cl P w K mg base CX0 2 "_names_are_there" (sp_there K) := A.g__names_are_there.cl (ps := ["line", "labels", "functions"]) (fun f fd F => ok_there F c_named_label c_named_function) (fun _ _ _ _ _ _ us hl => match us, hl with | [_, _, _], _ => rfl)
  have c__first_wrong : Cl P w K mg base CX0 5 "_first_wrong" (sp_first_wrong K) := A.g__first_wrong.cl (ps := ["lines", "functions", "bare"]) (fun f fd F => ok_first_wrong F G F2 c_marks_of c_is_line c__names_are_there) (fun _ _ _ _ _ _ us hl => match us, hl with | [_, _, _], _ => rfl)
  have c__are_functions : Cl P w K mg base CX0 3 "_are_functions" (sp_are_functions K) := A.g__are_functions.cl (ps := ["value"]) (fun f fd F => ok_are_functions F G c_is_word c_is_filled_list) (fun _ _ _ _ _ _ us hl => match us, hl with | [_], _ => rfl)
  have c__check_lengths : Cl P w K mg base CX0 1 "_check_lengths" (sp_check_lengths K) := A.g__check_lengths.cl (ps := ["functions"]) (fun f fd F => ok_check_lengths F G) (fun _ _ _ _ _ _ us hl => match us, hl with | [_], _ => rfl)
  have c_check_functions : Cl P w K mg base CX0 6 "check_functions" (sp_checkB K) := A.g_check_functions.cl (ps := ["functions", "bare"]) (fun f fd F => ok_checkB F G c__are_functions c__first_wrong c__check_lengths c_is_tidy) (fun _ _ _ _ _ _ us hl => match us, hl with | [_, _], _ => rfl)
  have c__law_pen : Cl P w K mg base CX0 1 "_law_pen" (sp_pen K) := A.g__law_pen.cl (ps := ["_law_script"]) (fun f fd F => ok_pen F G) (fun _ _ _ _ _ _ us hl => match us, hl with | [_], _ => rfl)
  have c__law_draw : Cl P w K mg base CX0 1 "_law_draw" (sp_draw K) := A.g__law_draw.cl (ps := ["_law_pen_here", "_law_many"]) (fun f fd F => ok_draw F G G2) (fun _ _ _ _ _ _ us hl => match us, hl with | [_, _], _ => rfl)
  have c__law_pick : Cl P w K mg base CX0 2 "_law_pick" (sp_pick K) := A.g__law_pick.cl (ps := ["_law_pen_here", "_law_options"]) (fun f fd F => ok_pick F G c__law_draw) (fun _ _ _ _ _ _ us hl => match us, hl with | [_, _], _ => rfl)
  have c_pickS : Cl P w K mg base CX0 2 "_law_pick" (sp_pickS K) := A.g__law_pick.cl (ps := ["_law_pen_here", "_law_options"]) (fun f fd F => ok_pickS F G c__law_draw) (fun _ _ _ _ _ _ us hl => match us, hl with | [_, _], _ => rfl)
  have c__law_words : Cl P w K mg base CX0 3 "_law_words" (sp_words K) := A.g__law_words.cl (ps := ["_law_pen_here", "_law_many"]) (fun f fd F => ok_words F G G2 c__law_draw c__law_pick c_pickS) (fun _ _ _ _ _ _ us hl => match us, hl with | [_, _], _ => rfl)
  have c__law_number : Cl P w K mg base CX0 3 "_law_number" (sp_number K) := A.g__law_number.cl (ps := ["_law_pen_here"]) (fun f fd F => ok_number F G c__law_draw c__law_pick) (fun _ _ _ _ _ _ us hl => match us, hl with | [_], _ => rfl)
  have c__law_plain_line : Cl P w K mg base CX0 4 "_law_plain_line" (sp_pline K) := A.g__law_plain_line.cl (ps := ["_law_pen_here", "_law_world"]) (fun f fd F => ok_pline F G c__law_draw c__law_pick c__law_number) (fun _ _ _ _ _ _ us hl => match us, hl with | [_, _], _ => rfl)
  have c__law_called : Cl P w K mg base CX0 3 "_law_called" (sp_called K) := A.g__law_called.cl (ps := ["_law_pen_here", "_law_world"]) (fun f fd F => ok_called F G c__law_draw c__law_pick) (fun _ _ _ _ _ _ us hl => match us, hl with | [_, _], _ => rfl)
  have c__law_call : Cl P w K mg base CX0 4 "_law_call" (sp_lcall K) := A.g__law_call.cl (ps := ["_law_pen_here", "_law_world"]) (fun f fd F => ok_lcall F G c__law_draw c__law_pick c__law_called) (fun _ _ _ _ _ _ us hl => match us, hl with | [_, _], _ => rfl)
  have c_item0 : Cl P w K mg base CX0 5 "_law_item" (sp_item K 0) := A.g__law_item.cl (ps := ["_law_pen_here", "_law_world", "_law_deep"]) (fun f fd F => ok_item F G G2 c__law_draw c__law_pick c__law_plain_line c__law_call (fun d' h => nomatch h) (Nat.le_refl 4) (by decide)) (fun _ _ _ _ _ _ us hl => match us, hl with | [_, _, _], _ => rfl)
  have c_items0 : Cl P w K mg base CX0 6 "_law_items" (sp_items K 0) := A.g__law_items.cl (ps := ["_law_pen_here", "_law_world", "_law_many", "_law_deep"]) (fun f fd F => ok_items F G2 c__law_draw c_item0 (by decide) (by decide)) (fun _ _ _ _ _ _ us hl => match us, hl with | [_, _, _, _], _ => rfl)
  have c_item1 : Cl P w K mg base CX0 7 "_law_item" (sp_item K 1) := A.g__law_item.cl (ps := ["_law_pen_here", "_law_world", "_law_deep"]) (fun f fd F => ok_item F G G2 c__law_draw c__law_pick c__law_plain_line c__law_call (fun d' h => by cases h; exact c_items0) (by decide) (by decide)) (fun _ _ _ _ _ _ us hl => match us, hl with | [_, _, _], _ => rfl)
  have c_items1 : Cl P w K mg base CX0 8 "_law_items" (sp_items K 1) := A.g__law_items.cl (ps := ["_law_pen_here", "_law_world", "_law_many", "_law_deep"]) (fun f fd F => ok_items F G2 c__law_draw c_item1 (by decide) (by decide)) (fun _ _ _ _ _ _ us hl => match us, hl with | [_, _, _, _], _ => rfl)
  have c_item2 : Cl P w K mg base CX0 9 "_law_item" (sp_item K 2) := A.g__law_item.cl (ps := ["_law_pen_here", "_law_world", "_law_deep"]) (fun f fd F => ok_item F G G2 c__law_draw c__law_pick c__law_plain_line c__law_call (fun d' h => by cases h; exact c_items1) (by decide) (by decide)) (fun _ _ _ _ _ _ us hl => match us, hl with | [_, _, _], _ => rfl)
  have c_items2 : Cl P w K mg base CX0 10 "_law_items" (sp_items K 2) := A.g__law_items.cl (ps := ["_law_pen_here", "_law_world", "_law_many", "_law_deep"]) (fun f fd F => ok_items F G2 c__law_draw c_item2 (by decide) (by decide)) (fun _ _ _ _ _ _ us hl => match us, hl with | [_, _, _, _], _ => rfl)
  have c__law_lines : Cl P w K mg base CX0 11 "_law_lines" (sp_lines K) := A.g__law_lines.cl (ps := ["_law_pen_here", "_law_world"]) (fun f fd F => ok_lines F G c__law_draw c__law_pick c__law_called (c_items0.up (by decide)) (c_items1.up (by decide)) c_items2 (by decide)) (fun _ _ _ _ _ _ us hl => match us, hl with | [_, _], _ => rfl)
  have c__law_plain : Cl P w K mg base CX0 12 "_law_plain" (sp_plain K) := A.g__law_plain.cl (ps := ["_law_pen_here", "_law_many"]) (fun f fd F => ok_plain F G G2 c__law_draw c__law_pick c__law_words c__law_plain_line c__law_lines (by decide)) (fun _ _ _ _ _ _ us hl => match us, hl with | [_, _], _ => rfl)
  have c__law_inputs : Cl P w K mg base CX0 4 "_law_inputs" (sp_inputs K) := A.g__law_inputs.cl (ps := ["_law_pen_here"]) (fun f fd F => ok_inputs F G2 c__law_draw c__law_pick c__law_number) (fun _ _ _ _ _ _ us hl => match us, hl with | [_], _ => rfl)
  have c__law_beyond_marks : Cl P w K mg base CX0 1 "_law_beyond_marks" (sp_beyond K) := A.g__law_beyond_marks.cl (ps := ["_law_plain_here", "_law_name", "_law_index"]) (fun f fd F => ok_beyond F ) (fun _ _ _ _ _ _ us hl => match us, hl with | [_, _, _], _ => rfl)
  have c_pass_marks : Cl P w K mg base CX0 1 "pass_marks" (sp_pass K C) := A.g_pass_marks.cl (ps := ["machine"]) (fun f fd F => ok_pass F TM) (fun _ _ _ _ _ _ us hl => match us, hl with | [_], _ => rfl)
  have c__are_numbers : Cl P w K mg base CX0 1 "_are_numbers" (sp_an K C) := A.g__are_numbers.cl (ps := ["machine", "registers"]) (fun f fd F => ok_m_an F G GM TM) (fun _ _ _ _ _ _ us hl => match us, hl with | [_, _], _ => rfl)
  have c__keep_behind : Cl P w K mg base CX0 1 "_keep_behind" (sp_keepb K C) := A.g__keep_behind.cl (ps := ["machine"]) (fun f fd F => ok_m_kb F TM) (fun _ _ _ _ _ _ us hl => match us, hl with | [_], _ => rfl)
  have c__enter : Cl P w K mg base CX0 1 "_enter" (sp_enter K C) := A.g__enter.cl (ps := ["machine", "name"]) (fun f fd F => ok_m_enter F TM) (fun _ _ _ _ _ _ us hl => match us, hl with | [_, _], _ => rfl)
  have c_jif : Cl P w K mg base CX0 1 "_jump" (sp_am K C "if" pJump) := A.g_jump.cl (ps := ["machine", "line"]) (fun f fd F => ok_m_jump F TM) (fun _ _ _ _ _ _ us hl => match us, hl with | [_, _], _ => rfl)
  have c_junless : Cl P w K mg base CX0 1 "_jump" (sp_am K C "unless" pJump) := A.g_jump.cl (ps := ["machine", "line"]) (fun f fd F => ok_m_jump F TM) (fun _ _ _ _ _ _ us hl => match us, hl with | [_, _], _ => rfl)
  obtain ⟨ta, es, n, mA, KD, t_num, t_copy, t_add, t_sub, t_mul, t_addr, t_same, t_less, t_in, t_out, t_push, t_pop, t_read, t_write, t_jump, t_if, t_unless, t_call, t_callr, t_tail, t_back, t_stop⟩ := AA.ex
  have acts : Acts P w K mg base C := ⟨ta, es, n, mA, KD, fun z p hp => by
    unfold preL at hp
    simp only [List.mem_cons, Prod.mk.injEq, List.not_mem_nil, or_false] at hp
    rcases hp with ⟨rfl, rfl⟩ | ⟨rfl, rfl⟩ | ⟨rfl, rfl⟩ | ⟨rfl, rfl⟩ | ⟨rfl, rfl⟩ | ⟨rfl, rfl⟩ | ⟨rfl, rfl⟩ | ⟨rfl, rfl⟩ | ⟨rfl, rfl⟩ | ⟨rfl, rfl⟩ | ⟨rfl, rfl⟩ | ⟨rfl, rfl⟩ | ⟨rfl, rfl⟩ | ⟨rfl, rfl⟩ | ⟨rfl, rfl⟩ | ⟨rfl, rfl⟩ | ⟨rfl, rfl⟩ | ⟨rfl, rfl⟩ | ⟨rfl, rfl⟩ | ⟨rfl, rfl⟩ | ⟨rfl, rfl⟩ | ⟨rfl, rfl⟩
    · exact t_num.held (ps := ["machine", "line"]) (fun f fd F => ok_m_num F TM) (by decide) (fun _ _ _ _ _ _ us hl => match us, hl with | [_, _], _ => rfl)
    · exact t_copy.held (ps := ["machine", "line"]) (fun f fd F => ok_m_copy F TM) (by decide) (fun _ _ _ _ _ _ us hl => match us, hl with | [_, _], _ => rfl)
    · exact t_add.held (ps := ["machine", "line"]) (fun f fd F => ok_m_add F TM c__are_numbers c_wrapped) (by decide) (fun _ _ _ _ _ _ us hl => match us, hl with | [_, _], _ => rfl)
    · exact t_sub.held (ps := ["machine", "line"]) (fun f fd F => ok_m_sub F TM c__are_numbers c_wrapped) (by decide) (fun _ _ _ _ _ _ us hl => match us, hl with | [_, _], _ => rfl)
    · exact t_mul.held (ps := ["machine", "line"]) (fun f fd F => ok_m_mul F TM c__are_numbers c_wrapped) (by decide) (fun _ _ _ _ _ _ us hl => match us, hl with | [_, _], _ => rfl)
    · exact t_addr.held (ps := ["machine", "line"]) (fun f fd F => ok_m_num F TM) (by decide) (fun _ _ _ _ _ _ us hl => match us, hl with | [_, _], _ => rfl)
    · exact t_same.held (ps := ["machine", "line"]) (fun f fd F => ok_m_same F TM) (by decide) (fun _ _ _ _ _ _ us hl => match us, hl with | [_, _], _ => rfl)
    · exact t_less.held (ps := ["machine", "line"]) (fun f fd F => ok_m_less F TM c__are_numbers) (by decide) (fun _ _ _ _ _ _ us hl => match us, hl with | [_, _], _ => rfl)
    · exact t_in.held (ps := ["machine", "line"]) (fun f fd F => ok_m_in F G TM) (by decide) (fun _ _ _ _ _ _ us hl => match us, hl with | [_, _], _ => rfl)
    · exact t_out.held (ps := ["machine", "line"]) (fun f fd F => ok_m_out F TM c__are_numbers) (by decide) (fun _ _ _ _ _ _ us hl => match us, hl with | [_, _], _ => rfl)
    · exact t_push.held (ps := ["machine", "line"]) (fun f fd F => ok_m_push F TM) (by decide) (fun _ _ _ _ _ _ us hl => match us, hl with | [_, _], _ => rfl)
    · exact t_pop.held (ps := ["machine", "line"]) (fun f fd F => ok_m_pop F TM) (by decide) (fun _ _ _ _ _ _ us hl => match us, hl with | [_, _], _ => rfl)
    · exact t_read.held (ps := ["machine", "line"]) (fun f fd F => ok_m_read F TM) (by decide) (fun _ _ _ _ _ _ us hl => match us, hl with | [_, _], _ => rfl)
    · exact t_write.held (ps := ["machine", "line"]) (fun f fd F => ok_m_write F TM) (by decide) (fun _ _ _ _ _ _ us hl => match us, hl with | [_, _], _ => rfl)
    · exact t_jump.held (ps := ["machine", "line"]) (fun f fd F => ok_m_jump F TM) (by decide) (fun _ _ _ _ _ _ us hl => match us, hl with | [_, _], _ => rfl)
    · exact t_if.held (ps := ["machine", "line"]) (fun f fd F => ok_m_if F TM c_jif) (by decide) (fun _ _ _ _ _ _ us hl => match us, hl with | [_, _], _ => rfl)
    · exact t_unless.held (ps := ["machine", "line"]) (fun f fd F => ok_m_unless F TM c_junless) (by decide) (fun _ _ _ _ _ _ us hl => match us, hl with | [_, _], _ => rfl)
    · exact t_call.held (ps := ["machine", "line"]) (fun f fd F => ok_m_call F c__keep_behind c__enter) (by decide) (fun _ _ _ _ _ _ us hl => match us, hl with | [_, _], _ => rfl)
    · exact t_callr.held (ps := ["machine", "line"]) (fun f fd F => ok_m_callr F G TM c__keep_behind c__enter) (by decide) (fun _ _ _ _ _ _ us hl => match us, hl with | [_, _], _ => rfl)
    · exact t_tail.held (ps := ["machine", "line"]) (fun f fd F => ok_m_tail F c__enter) (by decide) (fun _ _ _ _ _ _ us hl => match us, hl with | [_, _], _ => rfl)
    · exact t_back.held (ps := ["machine", "_"]) (fun f fd F => ok_m_back F TM PE') (by decide) (fun _ _ _ _ _ _ us hl => match us, hl with | [_, _], _ => rfl)
    · exact t_stop.held (ps := ["machine", "_"]) (fun f fd F => ok_m_stop F TM) (by decide) (fun _ _ _ _ _ _ us hl => match us, hl with | [_, _], _ => rfl)⟩
  have c_do_line : Cl P w K mg base CX0 3 "do_line" (sp_do_line K C) := A.g_do_line.cl (ps := ["machine"]) (fun f fd F => ok_do_line F TM acts c_pass_marks) (fun _ _ _ _ _ _ us hl => match us, hl with | [_], _ => rfl)
  obtain ⟨fk, fdk, mk, Fk⟩ := B.keep
  have m1 : Mt P w K mg base CX0 1 CP "_keep" ["self", "functions"] (sp_keepB K CP) := ⟨fk, fdk, mk, Fk.binds (fun _ _ _ _ _ _ us hl => match us, hl with | [_, _], _ => rfl), ok_keepB Fk G B.pc⟩
  obtain ⟨fp, fdp, Mp, Fp⟩ := B.initP
  have MP : MkO P w K mg base 7 "Program" CP ["self", "functions"] (sp_initB K CP false) := ⟨B.pe.gm, fp, fdp, Mp, Fp.binds (fun _ _ _ _ _ _ us hl => match us, hl with | [_, _], _ => rfl), ok_initB Fp pcb c_check_functions m1⟩
  obtain ⟨pr, g4, fd4, p1, Ff⟩ := B.pfun
  have pf : Prp P w K mg base 1 CP "functions" (sp_functionsN K CP) := ⟨pr, g4, fd4, p1, Ff.binds (fun _ _ _ _ _ _ us hl => match us, hl with | [_], _ => rfl), ok_functionsN Ff G pcb⟩
  obtain ⟨fm, fdm, Mm, Fmi⟩ := B.initM
  have MM : MkO P w K mg base 3 "Machine" C nm_ri (sp_minit K C CP false) := ⟨B.gmM, fm, fdm, Mm, Fmi.binds (fun _ _ _ _ _ _ us hl => match us, hl with | [_, _, _], _ => rfl), ok_minit Fmi G TM pcb pf PE' c_marks_new c_pass_marks⟩
  obtain ⟨fr, fdr, v0, Mr, Fr⟩ := B.initR
  have bR : L2.Binds K fdr nm_ri [] := by
    obtain ⟨ds, hv, hb⟩ := Fr.binds1 (ps := nm_ri) 3 1 (List.cons_ne_nil _ _) rfl fun T kV doc pm an cdv ct us its h1 h2 => match us, its, h1, h2 with | [_, _, _], [_], _, _ => ⟨_, rfl, rfl⟩
    cases hv
    exact hb
  have MR : MkO P w K mg base 5 "Run" CR nm_ri (sp_rinit K CR C CP false) := ⟨B.gmR, fr, fdr, Mr, bR, ok_rinit Fr B.rc c_are_numbers MM⟩
  obtain ⟨pr1, q1, fq1, r1, Fq1⟩ := B.pplace
  have pp : Prp P w K mg base 1 CR "place" (sp_place K CR C) := ⟨pr1, q1, fq1, r1, Fq1.binds (fun _ _ _ _ _ _ us hl => match us, hl with | [_], _ => rfl), ok_place Fq1 B.rc TM⟩
  obtain ⟨pr2, q2, fq2, r2, Fq2⟩ := B.pend
  have pe : Prp P w K mg base 1 CR "end" (sp_rend K CR C) := ⟨pr2, q2, fq2, r2, Fq2.binds (fun _ _ _ _ _ _ us hl => match us, hl with | [_], _ => rfl), ok_rend Fq2 B.rc TM⟩
  obtain ⟨pr3, q3, fq3, r3, Fq3⟩ := B.pdepth
  have pd : Prp P w K mg base 1 CR "depth" (sp_depth K CR C) := ⟨pr3, q3, fq3, r3, Fq3.binds (fun _ _ _ _ _ _ us hl => match us, hl with | [_], _ => rfl), ok_depth Fq3 G B.rc TM⟩
  obtain ⟨fs, fds, ms, Fs⟩ := B.step
  have stp : Mt P w K mg base CX0 4 CR "step" ["self"] (sp_step K CR C) := ⟨fs, fds, ms, Fs.binds (fun _ _ _ _ _ _ us hl => match us, hl with | [_], _ => rfl), ok_step Fs B.rc TM pp c_do_line⟩
  exact ⟨G, G2, by decide, c__law_pen, c__law_plain, c__law_inputs, c__law_beyond_marks, MP, MR, B.rc, pp, pe, pd, stp⟩
end
end Fl
end
section
set_option Elab.async false
set_option linter.all false
set_option maxRecDepth 100000
set_option maxHeartbeats 2000000
namespace Fl
open PySem PySem.Spec PyProof.Rows L2 Fx
open Evl (Ex fresh_back)
section
variable {K : PySem.W.Frag} {w : World} {mg : Str → Option Value} {h : Heap}
theorem initR_mk {CR f T E : Addr} {oc tc : Value} {od td an : Option Addr} {osl ts : Array (Option Value)} {kV doc pm cdv ct : Value} {n : Nat} (M : Mk K CR f) (l : K.lookup f = some { cls := oc, dict := od, data := Data.func (PySem.W.fnOf "__init__" "Run.__init__" (defArgs s_run_init) (defBody s_run_init) (defScope s_run_init) (.ref T) kV doc pm an cdv ct), slots := osl })
    (c : PySem.W.codeIn K cdv "Run.__init__" = true) (k : PySem.W.keepIn K (.ref f) = true) (lT : K.lookup T = some { cls := tc, dict := td, data := Data.seq #[.ref E] n, slots := ts }) : ∃ f fd v, Mk K CR f ∧ L2.FunD K "__init__" "Run.__init__" (defArgs s_run_init) (defBody s_run_init) (defScope s_run_init) [v] [] f fd := by
  obtain ⟨fd, h⟩ := funD_mk1 l c k lT
  exact ⟨f, fd, _, M, h⟩
/-- all that the end asks of what is written -/
def LawF (K : PySem.W.Frag) (w : World) (mg : Str → Option Value) (fa : Addr) : Prop := ∃ fd CP C CR, Fun K "law" "law" s_law fa fd ∧ AllD K mg ∧ AllA K w mg ∧ AllC K mg CP C CR ∧ Gb mg ∧ Gb2 mg ∧ Gm mg ∧ Frm K w mg ∧ Frm2 K w mg
theorem lawF_mk {fa fb CP C CR : Addr} {oc kV doc pm cdv ct : Value} {an od : Option Addr} {osl : Array (Option Value)} (X : K.In h) (G : h.Ns mainGlobals mg) (hmg : mg "law" = some (.ref fa)) (ha : PySem.W.nsIn K mainGlobals "law" = some (some (.ref fb)))
    (l : K.lookup fb = some { cls := oc, dict := od, data := Data.func (PySem.W.fnOf "law" "law" (defArgs s_law) (defBody s_law) (defScope s_law) Value.none kV doc pm an cdv ct), slots := osl }) (hc : PySem.W.codeIn K cdv "law" = true) (kp : PySem.W.keepIn K (.ref fb) = true)
    (B : AllC K mg CP C CR) (A : AllD K mg) (AA : AllA K w mg) (g1 : Gb mg) (g2 : Gb2 mg) (g3 : Gm mg) (f1 : Frm K w mg) (f2 : Frm2 K w mg) : LawF K w mg fa := by
  have e := hmg.symm.trans (PySem.W.mg_of X G ha)
  cases e
  exact ⟨_, CP, C, CR, fun_mk l hc kp, A, AA, B, g1, g2, g3, f1, f2⟩
end
theorem k14_walk {l : PySem.W.OpenLaw} {q : Program} {loose : List Str} {XP : (Str → Option Value) → Heap → Prop} {YP : World → Heap → Prop} {d : DefRec} {Kp : Params → PySem.W.Frag} (hn : l.most = some 63) (hdf : d.params.defaults = []) (hname : d.name = "law")
    (hY : ∀ (w : World) (h : Heap), YP w h → (Kp w.params).In h)
    (F : ∀ (w : World) (mg : Str → Option Value) (fa : Addr) (h : Heap), (Kp w.params).In h → h.Ns mainGlobals mg → mg "law" = some (.ref fa) → LawF (Kp w.params) w mg fa) :
    PySem.W.WalkO q loose XP YP l.row.toRowW d [] (fun f vs => PySem.call f vs) :=
  L2.walk_ofK (K := Kp) (k := 20) (CX := CX0) (sp := sp_law) (x := "_law_script") hn (by rw [sizeLine_eq]; decide) hdf ⟨rfl, by decide, by decide⟩ hY (fun w mg fa h KX G hmg => by
    rw [hname] at hmg
    obtain ⟨fd, CP, C, CR, FL, A, AA, B, g1, g2, gm, f1, f2⟩ := F w mg fa h KX G hmg
    refine ⟨fd, fun s u => ?_, fun base _ _ => ok_law FL (lt_mk A AA B g1 g2 gm f1 f2)⟩
    obtain ⟨oc, od, kV, doc, pm, an, cdv, ct, osl, rfl, lk, hcd⟩ := FL.ex
    exact .of_eq rfl) (fun K H a ns _ _ hS => ⟨a, ns, rfl, hS, fun H' => rfl⟩) (fun _ _ _ _ h => h)
end Fl
end
set_option Elab.async false
set_option linter.all false
open PySem PySem.W PyProof.Rows
-- Names under which the head would write out what it needs only to reckon faster, for the texts, the code
-- and the built-in functions of the law's heap: taken here, so that the compiled file stays small.
def PySem.W.Fast.tw10648006477573394201 : Unit := ()
def PySem.W.Fast.tw4903837875487226649 : Unit := ()
def PySem.W.Fast.tw2385146737436768473 : Unit := ()
def PySem.W.Fast.tw2251672593405106073 : Unit := ()
def PySem.W.Fast.tw777467049957893753 : Unit := ()
def PySem.W.Fast.tw17956765489962367609 : Unit := ()
def PySem.W.Fast.tw11726676455534818649 : Unit := ()
def PySem.W.Fast.tw2302545435485871161 : Unit := ()
def PySem.W.Fast.tw1411872610085969945 : Unit := ()
def PySem.W.Fast.tw6757337690898986745 : Unit := ()
def PySem.W.Fast.tw49389052038033273 : Unit := ()
def PySem.W.Fast.tw13917645189847421241 : Unit := ()
def PySem.W.Fast.tw10018447918893570041 : Unit := ()
def PySem.W.Fast.tw17370296492855012185 : Unit := ()
def PySem.W.Fast.tw10051188883761734169 : Unit := ()
def PySem.W.Fast.tw6127433087712993529 : Unit := ()
def PySem.W.Fast.tw9414488287416731321 : Unit := ()
def PySem.W.Fast.tw2857503518865715577 : Unit := ()
def PySem.W.Fast.tw16382958076262565241 : Unit := ()
def PySem.W.Fast.tw13186097160391706600 : Unit := ()
def PySem.W.Fast.tw10224470992749951400 : Unit := ()
def PySem.W.Fast.tw18439962560081137768 : Unit := ()
def PySem.W.Fast.tw4896868392632350216 : Unit := ()
def PySem.W.Fast.tw12857729800987465064 : Unit := ()
def PySem.W.Fast.tw613572384174166792 : Unit := ()
def PySem.W.Fast.tw11637883563357050632 : Unit := ()
def PySem.W.Fast.tw9181899278969372136 : Unit := ()
def PySem.W.Fast.tw6111134261459768936 : Unit := ()
def PySem.W.Fast.tw16937604248312938536 : Unit := ()
def PySem.W.Fast.tw17814975604562177307 : Unit := ()
def PySem.W.Fast.tw15643009390991819195 : Unit := ()
def PySem.W.Fast.tw7616491699531989435 : Unit := ()
def PySem.W.Fast.tw15120432678862836859 : Unit := ()
def PySem.W.Fast.tw9270352966675074619 : Unit := ()
def PySem.W.Fast.tw12132048226300854811 : Unit := ()
def PySem.W.Fast.tw7183852437266808347 : Unit := ()
def PySem.W.Fast.tw12369872817269795067 : Unit := ()
def PySem.W.Fast.tw11969464840419123163 : Unit := ()
def PySem.W.Fast.tw14136635225728803803 : Unit := ()
def PySem.W.Fast.tw11813347410131707867 : Unit := ()
def PySem.W.Fast.tw5029984802719983291 : Unit := ()
def PySem.W.Fast.tw15833428535684315835 : Unit := ()
def PySem.W.Fast.tw1169944689274973563 : Unit := ()
def PySem.W.Fast.tw16817759978153124347 : Unit := ()
def PySem.W.Fast.tw13639920561821889755 : Unit := ()
def PySem.W.Fast.tw12051034484679113947 : Unit := ()
def PySem.W.Fast.tw652510601766935291 : Unit := ()
def PySem.W.Fast.tw12591801386595239675 : Unit := ()
def PySem.W.Fast.tw6055825523358921179 : Unit := ()
def PySem.W.Fast.tw14810541423673040347 : Unit := ()
def PySem.W.Fast.tw11828045288484812650 : Unit := ()
def PySem.W.Fast.tw10275807702616911434 : Unit := ()
def PySem.W.Fast.tw15384307757784023306 : Unit := ()
def PySem.W.Fast.tw18243008455205404938 : Unit := ()
def PySem.W.Fast.tw8855962781951857066 : Unit := ()
def PySem.W.Fast.tw12988531572506898954 : Unit := ()
def PySem.W.Fast.tw9585203718124504586 : Unit := ()
def PySem.W.Fast.tw94977551954172426 : Unit := ()
def PySem.W.Fast.tw5253162104690206954 : Unit := ()
def PySem.W.Fast.tw3090153283026007722 : Unit := ()
def PySem.W.Fast.tw26607167173262986 : Unit := ()
def PySem.W.Fast.tw9129355774146372970 : Unit := ()
def PySem.W.Fast.tw11250746042423968554 : Unit := ()
def PySem.W.Fast.tw14584062825749569002 : Unit := ()
def PySem.W.Fast.tw7706601657751955658 : Unit := ()
def PySem.W.Fast.tw13315516914074297546 : Unit := ()
def PySem.W.Fast.tw5469523372929395626 : Unit := ()
def PySem.W.Fast.tw10046333031760876426 : Unit := ()
def PySem.W.Fast.tw17033475731069863946 : Unit := ()
def PySem.W.Fast.tw18297422746406633194 : Unit := ()
def PySem.W.Fast.tw8973125428632387306 : Unit := ()
def PySem.W.Fast.tw5727566227710263754 : Unit := ()
def PySem.W.Fast.tw8364751666889514442 : Unit := ()
def PySem.W.Fast.tw13779851506506878090 : Unit := ()
def PySem.W.Fast.tw10526366874338729098 : Unit := ()
def PySem.W.Fast.tw7975092632181146762 : Unit := ()
def PySem.W.Fast.tw1426115805753873397 : Unit := ()
def PySem.W.Fast.tw17792891207332018165 : Unit := ()
def PySem.W.Fast.tw12726620515255994069 : Unit := ()
def PySem.W.Fast.tw7564399155617196181 : Unit := ()
def PySem.W.Fast.tw10112993796369848469 : Unit := ()
def PySem.W.Fast.tw14335307697211376757 : Unit := ()
def PySem.W.Fast.tw5553373535664242805 : Unit := ()
def PySem.W.Fast.tw1745115834910541365 : Unit := ()
def PySem.W.Fast.tw4777604350410712629 : Unit := ()
def PySem.W.Fast.tw1430970465008148757 : Unit := ()
def PySem.W.Fast.tw15883902786714339285 : Unit := ()
def PySem.W.Fast.tw5078327367176870581 : Unit := ()
def PySem.W.Fast.tw33733798853745013 : Unit := ()
def PySem.W.Fast.tw17982404224012429813 : Unit := ()
def PySem.W.Fast.tw9998157943385321685 : Unit := ()
def PySem.W.Fast.tw3057442667280133333 : Unit := ()
def PySem.W.Fast.tw10053086009577544629 : Unit := ()
def PySem.W.Fast.tw3424194876149514901 : Unit := ()
def PySem.W.Fast.tw14196510928890942069 : Unit := ()
def PySem.W.Fast.tw3381999135458712917 : Unit := ()
def PySem.W.Fast.tw2731690514287248117 : Unit := ()
def PySem.W.Fast.tw15079415222544296853 : Unit := ()
def PySem.W.Fast.tw17394293529548309397 : Unit := ()
def PySem.W.Fast.tw16106239097075484565 : Unit := ()
def PySem.W.Fast.tw8028157671159346037 : Unit := ()
def PySem.W.Fast.tw13573079667162639669 : Unit := ()
def PySem.W.Fast.tw40420140870170356 : Unit := ()
def PySem.W.Fast.tw6618144185286020564 : Unit := ()
def PySem.W.Fast.tw17096357963424833972 : Unit := ()
def PySem.W.Fast.tw1752251303787676820 : Unit := ()
def PySem.W.Fast.tw4390129868340433780 : Unit := ()
def PySem.W.Fast.tw14025586419898484276 : Unit := ()
def PySem.W.Fast.tw7049418308324240372 : Unit := ()
def PySem.W.Fast.tw13935087464569681908 : Unit := ()
def PySem.W.Fast.tw12348821744776676052 : Unit := ()
def PySem.W.Fast.tw8200983289963306708 : Unit := ()
def PySem.W.Fast.tw9950875095262161588 : Unit := ()
def PySem.W.Fast.tw14320702160153669012 : Unit := ()
def PySem.W.Fast.tw15840384126851888980 : Unit := ()
def PySem.W.Fast.tw7226154357522900500 : Unit := ()
def PySem.W.Fast.tw5568435299721511156 : Unit := ()
def PySem.W.Fast.tw17910439228891279316 : Unit := ()
def PySem.W.Fast.tw3691086935690691508 : Unit := ()
def PySem.W.Fast.tw17699293780088726612 : Unit := ()
def PySem.W.Fast.tw8887948951564931124 : Unit := ()
def PySem.W.Fast.tw15373783610730267700 : Unit := ()
def PySem.W.Fast.tw8932223162773715732 : Unit := ()
def PySem.W.Fast.tw1033016146331306196 : Unit := ()
def PySem.W.Fast.tw18076192148976016596 : Unit := ()
def PySem.W.Fast.tw16877743617211134132 : Unit := ()
def PySem.W.Fast.tw14256803250262117556 : Unit := ()
def PySem.W.Fast.tw8025905712496682900 : Unit := ()
def PySem.W.Fast.tw10556298488221313940 : Unit := ()
def PySem.W.Fast.tw13430598116903047476 : Unit := ()
def PySem.W.Fast.tw14377383650374194484 : Unit := ()
def PySem.W.Fast.tw17484175357941480119 : Unit := ()
def PySem.W.Fast.tw2454192166735849847 : Unit := ()
def PySem.W.Fast.tw7099763847510499095 : Unit := ()
def PySem.W.Fast.tw2978501967939939095 : Unit := ()
def PySem.W.Fast.tw8898670928065696983 : Unit := ()
def PySem.W.Fast.tw5291550398484904887 : Unit := ()
def PySem.W.Fast.tw3552071486796629943 : Unit := ()
def PySem.W.Fast.tw1379898535739659159 : Unit := ()
def PySem.W.Fast.tw12620569876685399959 : Unit := ()
def PySem.W.Fast.tw13409237690605903479 : Unit := ()
def PySem.W.Fast.tw10118773779995253079 : Unit := ()
def PySem.W.Fast.tw13219844729478211607 : Unit := ()
def PySem.W.Fast.tw5607201518578312215 : Unit := ()
def PySem.W.Fast.tw1688768202802911991 : Unit := ()
def PySem.W.Fast.tw15560368561058298743 : Unit := ()
def PySem.W.Fast.tw10363185931984318039 : Unit := ()
def PySem.W.Fast.tw8519454492493382647 : Unit := ()
def PySem.W.Fast.tw16789946173617408727 : Unit := ()
def PySem.W.Fast.tw12352795626548773591 : Unit := ()
def PySem.W.Fast.tw2290123783720186583 : Unit := ()
def PySem.W.Fast.tw11202713818600300087 : Unit := ()
def PySem.W.Fast.tw9890367457535770135 : Unit := ()
def PySem.W.Fast.tw13155899791636658711 : Unit := ()
def PySem.W.Fast.tw7684415934766759447 : Unit := ()
def PySem.W.Fast.tw9727944740245806774 : Unit := ()
def PySem.W.Fast.tw25714481286257334 : Unit := ()
def PySem.W.Fast.tw18319611061359853686 : Unit := ()
def PySem.W.Fast.tw15654061515558132822 : Unit := ()
def PySem.W.Fast.tw15941180214784114934 : Unit := ()
def PySem.W.Fast.tw10692464846623692438 : Unit := ()
def PySem.W.Fast.tw16932447364461898102 : Unit := ()
def PySem.W.Fast.tw6626729420006843158 : Unit := ()
def PySem.W.Fast.tw4145482839908380566 : Unit := ()
def PySem.W.Fast.tw6800536079768674198 : Unit := ()
def PySem.W.Fast.tw3226254883781273206 : Unit := ()
def PySem.W.Fast.tw10054591311662789238 : Unit := ()
def PySem.W.Fast.tw14469387296554689142 : Unit := ()
def PySem.W.Fast.tw10404262784263519830 : Unit := ()
def PySem.W.Fast.tw11606585195792707606 : Unit := ()
def PySem.W.Fast.tw15459085501481280534 : Unit := ()
def PySem.W.Fast.tw12954808738146290422 : Unit := ()
def PySem.W.Fast.tw11677356369092288246 : Unit := ()
def PySem.W.Fast.tw16071719509919316694 : Unit := ()
def PySem.W.Fast.tw11605294181649209782 : Unit := ()
def PySem.W.Fast.tw1685037586676355222 : Unit := ()
def PySem.W.Fast.tw14940455834808214518 : Unit := ()
def PySem.W.Fast.tw12693764132165061590 : Unit := ()
def PySem.W.Fast.tw7139883193370229601 : Unit := ()
def PySem.W.Fast.tw4912719267849769505 : Unit := ()
def PySem.W.Fast.tw9378876589987593761 : Unit := ()
def PySem.W.Fast.tw16750533919139035073 : Unit := ()
def PySem.W.Fast.tw7311130797611640929 : Unit := ()
def PySem.W.Fast.tw8176085998819395073 : Unit := ()
def PySem.W.Fast.tw1860374636932912769 : Unit := ()
def PySem.W.Fast.tw15559215334388643169 : Unit := ()
def PySem.W.Fast.tw13572087334915924417 : Unit := ()
def PySem.W.Fast.tw12206933564698881473 : Unit := ()
def PySem.W.Fast.tw13045025503777376129 : Unit := ()
def PySem.W.Fast.tw2406686084935771745 : Unit := ()
def PySem.W.Fast.tw9821673958279014081 : Unit := ()
def PySem.W.Fast.tw14004342441501623425 : Unit := ()
def PySem.W.Fast.tw8335403281807615952 : Unit := ()
def PySem.W.Fast.tw7270295162079340464 : Unit := ()
def PySem.W.Fast.tw4764399517824176048 : Unit := ()
def PySem.W.Fast.tw14256391268371128816 : Unit := ()
def PySem.W.Fast.tw13780980800890560816 : Unit := ()
def PySem.W.Fast.tw13448606980851207184 : Unit := ()
def PySem.W.Fast.tw9963020870623820528 : Unit := ()
def PySem.W.Fast.tw16243831443644420528 : Unit := ()
def PySem.W.Fast.tw7011109499574732208 : Unit := ()
def PySem.W.Fast.tw4934665678031504656 : Unit := ()
def PySem.W.Fast.tw7158004402599362403 : Unit := ()
def PySem.W.Fast.tw13371381127174740803 : Unit := ()
def PySem.W.Fast.tw10811687628966788035 : Unit := ()
def PySem.W.Fast.tw6387338360810912419 : Unit := ()
def PySem.W.Fast.tw473041130895699619 : Unit := ()
def PySem.W.Fast.tw10321307876889004707 : Unit := ()
def PySem.W.Fast.tw11797686811753586051 : Unit := ()
def PySem.W.Fast.tw1398364031496817763 : Unit := ()
def PySem.W.Fast.tw96375276963251299 : Unit := ()
def PySem.W.Fast.tw8404072262032524355 : Unit := ()
def PySem.W.Fast.tw13822821505881966083 : Unit := ()
def PySem.W.Fast.tw1701306106010051779 : Unit := ()
def PySem.W.Fast.tw12762215531414555267 : Unit := ()
def PySem.W.Fast.tw11531570481702302339 : Unit := ()
def PySem.W.Fast.tw2008660798093013635 : Unit := ()
def PySem.W.Fast.tw4016937362732409603 : Unit := ()
def PySem.W.Fast.tw13187703781678522531 : Unit := ()
def PySem.W.Fast.tw4250386744580875139 : Unit := ()
def PySem.W.Fast.tw16142180198836668003 : Unit := ()
def PySem.W.Fast.tw3715849860995740963 : Unit := ()
def PySem.W.Fast.tw10438487068800046371 : Unit := ()
def PySem.W.Fast.tw9188786888901681443 : Unit := ()
def PySem.W.Fast.tw8673615434680962051 : Unit := ()
def PySem.W.Fast.tw11853432554658241251 : Unit := ()
def PySem.W.Fast.tw4401391579195182819 : Unit := ()
def PySem.W.Fast.tw16573789155147349699 : Unit := ()
def PySem.W.Fast.tw2444390132271313603 : Unit := ()
def PySem.W.Fast.tw12405049866642921650 : Unit := ()
def PySem.W.Fast.tw9808556220365534546 : Unit := ()
def PySem.W.Fast.tw13761566877092836658 : Unit := ()
def PySem.W.Fast.tw15349295243038448658 : Unit := ()
def PySem.W.Fast.tw790498161024615442 : Unit := ()
def PySem.W.Fast.tw3406729363224045586 : Unit := ()
def PySem.W.Fast.tw17885616237036863922 : Unit := ()
def PySem.W.Fast.tw2291934570629652338 : Unit := ()
def PySem.W.Fast.tw6212215529925102450 : Unit := ()
def PySem.W.Fast.tw10937673711534471730 : Unit := ()
def PySem.W.Fast.tw5638250814401817874 : Unit := ()
def PySem.W.Fast.tw18021105754927307282 : Unit := ()
def PySem.W.Fast.tw13816573438368092690 : Unit := ()
def PySem.W.Fast.tw15614827319274216402 : Unit := ()
def PySem.W.Fast.tw14448360210452356018 : Unit := ()
def PySem.W.Fast.tw8418386128469864082 : Unit := ()
def PySem.W.Fast.tw5346784936431336498 : Unit := ()
def PySem.W.Fast.tw1473869242837875762 : Unit := ()
def PySem.W.Fast.tw8347551390216932562 : Unit := ()
def PySem.W.Fast.tw11324239961603174461 : Unit := ()
def PySem.W.Fast.tw6042926749823523869 : Unit := ()
def PySem.W.Fast.tw16702350729605416701 : Unit := ()
def PySem.W.Fast.tw8344958918081687005 : Unit := ()
def PySem.W.Fast.tw14702145477067254237 : Unit := ()
def PySem.W.Fast.tw12021394206196540605 : Unit := ()
def PySem.W.Fast.tw5448117030094794333 : Unit := ()
def PySem.W.Fast.tw5134731366621778237 : Unit := ()
def PySem.W.Fast.tw6732428712328164349 : Unit := ()
def PySem.W.Fast.tw4242910654055162589 : Unit := ()
def PySem.W.Fast.tw8449432070685146525 : Unit := ()
def PySem.W.Fast.tw599799680924907645 : Unit := ()
def PySem.W.Fast.tw10245680054117429789 : Unit := ()
def PySem.W.Fast.tw13092062223760684413 : Unit := ()
def PySem.W.Fast.tw2234817842010138397 : Unit := ()
def PySem.W.Fast.tw1667283496196669661 : Unit := ()
def PySem.W.Fast.tw15933168949137103805 : Unit := ()
def PySem.W.Fast.tw3213267386669288349 : Unit := ()
def PySem.W.Fast.tw785452832290815613 : Unit := ()
def PySem.W.Fast.tw5807039811172187773 : Unit := ()
def PySem.W.Fast.tw17851144998079187292 : Unit := ()
def PySem.W.Fast.tw6939638993827080988 : Unit := ()
def PySem.W.Fast.tw385734278810133276 : Unit := ()
def PySem.W.Fast.tw15365334213137946396 : Unit := ()
def PySem.W.Fast.tw8015516686136510972 : Unit := ()
def PySem.W.Fast.tw4990003513477016028 : Unit := ()
def PySem.W.Fast.tw17187263095905203676 : Unit := ()
def PySem.W.Fast.tw4474870139937548476 : Unit := ()
def PySem.W.Fast.tw6203486935527896252 : Unit := ()
def PySem.W.Fast.tw2334910659236993948 : Unit := ()
def PySem.W.Fast.tw12813040563899192956 : Unit := ()
def PySem.W.Fast.tw17149189455536312636 : Unit := ()
def PySem.W.Fast.tw343537612242294076 : Unit := ()
def PySem.W.Fast.tw6740987401342227164 : Unit := ()
def PySem.W.Fast.tw6243834432944593628 : Unit := ()
def PySem.W.Fast.tw15235609827494387868 : Unit := ()
def PySem.W.Fast.tw12951610730215825276 : Unit := ()
def PySem.W.Fast.tw16826589551416995100 : Unit := ()
def PySem.W.Fast.tw17186947768636471292 : Unit := ()
def PySem.W.Fast.tw10390902724262063068 : Unit := ()
def PySem.W.Fast.tw4282068069541308540 : Unit := ()
def PySem.W.Fast.tw10976820635722841212 : Unit := ()
def PySem.W.Fast.tw8109860428600382268 : Unit := ()
def PySem.W.Fast.tw16372544468126355996 : Unit := ()
def PySem.W.Fast.tw8360963782732513532 : Unit := ()
def PySem.W.Fast.tw12077017498816520412 : Unit := ()
def PySem.W.Fast.tw8912919174005364380 : Unit := ()
def PySem.W.Fast.tw6174568131581485407 : Unit := ()
def PySem.W.Fast.tw6784093864045703231 : Unit := ()
def PySem.W.Fast.tw3601700278334536159 : Unit := ()
def PySem.W.Fast.tw14474226919107333311 : Unit := ()
def PySem.W.Fast.tw782570832290571455 : Unit := ()
def PySem.W.Fast.tw7102190623582708159 : Unit := ()
def PySem.W.Fast.tw13290837017031717279 : Unit := ()
def PySem.W.Fast.tw9081818520609981279 : Unit := ()
def PySem.W.Fast.tw23796475527556063 : Unit := ()
def PySem.W.Fast.tw4758703969750135487 : Unit := ()
def PySem.W.Fast.tw11966867421139233471 : Unit := ()
def PySem.W.Fast.tw6925978487748905631 : Unit := ()
def PySem.W.Fast.tw1235967422087168383 : Unit := ()
def PySem.W.Fast.tw8588665031710922527 : Unit := ()
def PySem.W.Fast.tw11740937740705784607 : Unit := ()
def PySem.W.Fast.tw11527903069877488127 : Unit := ()
def PySem.W.Fast.tw9484281261435532511 : Unit := ()
def PySem.W.Fast.tw18342491864634258367 : Unit := ()
def PySem.W.Fast.tw13139660586527996831 : Unit := ()
def PySem.W.Fast.tw14337258792388829087 : Unit := ()
def PySem.W.Fast.tw4715549186675376767 : Unit := ()
def PySem.W.Fast.tw3680261470336364030 : Unit := ()
def PySem.W.Fast.tw15177109819000725694 : Unit := ()
def PySem.W.Fast.tw12599579009317438366 : Unit := ()
def PySem.W.Fast.tw6731871117159772798 : Unit := ()
def PySem.W.Fast.tw14863635040780879486 : Unit := ()
def PySem.W.Fast.tw12502530472530796158 : Unit := ()
def PySem.W.Fast.tw16589896598213264702 : Unit := ()
def PySem.W.Fast.tw3092794407440290846 : Unit := ()
def PySem.W.Fast.tw1606436350821028606 : Unit := ()
def PySem.W.Fast.tw14669085819484462846 : Unit := ()
def PySem.W.Fast.tw1541468313770329822 : Unit := ()
def PySem.W.Fast.tw11702562851325030110 : Unit := ()
def PySem.W.Fast.tw642262732980976798 : Unit := ()
def PySem.W.Fast.tw58585226928441214 : Unit := ()
def PySem.W.Fast.tw13825187637899459134 : Unit := ()
def PySem.W.Fast.tw15208749497029500478 : Unit := ()
def PySem.W.Fast.tw1085410721416330526 : Unit := ()
def PySem.W.Fast.tw7217706779477489758 : Unit := ()
def PySem.W.Fast.tw7470574402927209278 : Unit := ()
def PySem.W.Fast.tw16501472050522736446 : Unit := ()
def PySem.W.Fast.tw10028083258834173886 : Unit := ()
def PySem.W.Fast.tw13373343238107791294 : Unit := ()
def PySem.W.Fast.tw6778258311933000201 : Unit := ()
def PySem.W.Fast.tw10137432515162081513 : Unit := ()
def PySem.W.Fast.tw568256320527112393 : Unit := ()
def PySem.W.Fast.tw16052443011055251657 : Unit := ()
def PySem.W.Fast.tw17488963702457240489 : Unit := ()
def PySem.W.Fast.tw11005705882410548873 : Unit := ()
def PySem.W.Fast.tw12756191984909920009 : Unit := ()
def PySem.W.Fast.tw16714681758625224169 : Unit := ()
def PySem.W.Fast.tw5308260011579423177 : Unit := ()
def PySem.W.Fast.tw16299943392462907849 : Unit := ()
def PySem.W.Fast.tw15770643919313312201 : Unit := ()
def PySem.W.Fast.tw4717247873403591113 : Unit := ()
def PySem.W.Fast.tw4620276577480633513 : Unit := ()
def PySem.W.Fast.tw6533967687392030889 : Unit := ()
def PySem.W.Fast.tw13084313835893988969 : Unit := ()
def PySem.W.Fast.tw17421723984601501289 : Unit := ()
def PySem.W.Fast.tw13370850600452505897 : Unit := ()
def PySem.W.Fast.tw16631813833020638505 : Unit := ()
def PySem.W.Fast.tw5743542789611599881 : Unit := ()
def PySem.W.Fast.tw6355502585812005609 : Unit := ()
def PySem.W.Fast.tw11251135979701336777 : Unit := ()
def PySem.W.Fast.tw6114144132024966569 : Unit := ()
def PySem.W.Fast.tw6856502817000980457 : Unit := ()
def PySem.W.Fast.tw6280347961162437289 : Unit := ()
def PySem.W.Fast.tw476918930536615593 : Unit := ()
def PySem.W.Fast.tw10799000963642279305 : Unit := ()
def PySem.W.Fast.tw2051926359251236233 : Unit := ()
def PySem.W.Fast.tw7647255972571416969 : Unit := ()
def PySem.W.Fast.tw2828521814846650473 : Unit := ()
def PySem.W.Fast.tw15831483375930487913 : Unit := ()
def PySem.W.Fast.tw7426852902825335913 : Unit := ()
def PySem.W.Fast.tw14388433776045386825 : Unit := ()
def PySem.W.Fast.tw75662737698572361 : Unit := ()
def PySem.W.Fast.tw16386075808920233769 : Unit := ()
def PySem.W.Fast.tw8404111756193430313 : Unit := ()
def PySem.W.Fast.tw2967686010602862377 : Unit := ()
def PySem.W.Fast.tw14645618018190956329 : Unit := ()
def PySem.W.Fast.tw3504209394789923384 : Unit := ()
def PySem.W.Fast.tw4591399686754914264 : Unit := ()
def PySem.W.Fast.tw16583030698272977880 : Unit := ()
def PySem.W.Fast.tw2390520742583509528 : Unit := ()
def PySem.W.Fast.tw17867354509549788376 : Unit := ()
def PySem.W.Fast.tw6446136362256971416 : Unit := ()
def PySem.W.Fast.tw16227953526007160472 : Unit := ()
def PySem.W.Fast.tw10166015648763992440 : Unit := ()
def PySem.W.Fast.tw8078168944847766872 : Unit := ()
def PySem.W.Fast.tw5240701546301120568 : Unit := ()
def PySem.W.Fast.tw2284998485655740184 : Unit := ()
def PySem.W.Fast.tw3951004641734006552 : Unit := ()
def PySem.W.Fast.tw16291002302748527384 : Unit := ()
def PySem.W.Fast.tw18431900988163440824 : Unit := ()
def PySem.W.Fast.tw15256062182597653688 : Unit := ()
def PySem.W.Fast.tw1868177625223254936 : Unit := ()
def PySem.W.Fast.tw4249763128516034136 : Unit := ()
def PySem.W.Fast.tw14571542701949267544 : Unit := ()
def PySem.W.Fast.tw5230982562201566808 : Unit := ()
def PySem.W.Fast.tw3668414827251709240 : Unit := ()
def PySem.W.Fast.tw16930419620500473707 : Unit := ()
def PySem.W.Fast.tw14460930003139362667 : Unit := ()
def PySem.W.Fast.tw11529528313383680299 : Unit := ()
def PySem.W.Fast.tw4863716165605288235 : Unit := ()
def PySem.W.Fast.tw5531925206042848555 : Unit := ()
def PySem.W.Fast.tw6413505602851280171 : Unit := ()
def PySem.W.Fast.tw10441671143143051275 : Unit := ()
def PySem.W.Fast.tw14223129202222689707 : Unit := ()
def PySem.W.Fast.tw9711783024129055883 : Unit := ()
def PySem.W.Fast.tw894033015982549835 : Unit := ()
def PySem.W.Fast.tw13967926359058172459 : Unit := ()
def PySem.W.Fast.tw8164092489493798443 : Unit := ()
def PySem.W.Fast.tw16644511248498106635 : Unit := ()
def PySem.W.Fast.tw9796741186013347083 : Unit := ()
def PySem.W.Fast.tw18270290905930825995 : Unit := ()
def PySem.W.Fast.tw14881732796855690507 : Unit := ()
def PySem.W.Fast.tw16228563006701941995 : Unit := ()
def PySem.W.Fast.tw17426070813032365291 : Unit := ()
def PySem.W.Fast.tw16815535169922091691 : Unit := ()
def PySem.W.Fast.tw3630608277274689035 : Unit := ()
def PySem.W.Fast.tw8836394682556993003 : Unit := ()
def PySem.W.Fast.tw9757178741169269227 : Unit := ()
def PySem.W.Fast.tw12868400485256025291 : Unit := ()
def PySem.W.Fast.tw7654442216299320235 : Unit := ()
def PySem.W.Fast.tw2208976942036859627 : Unit := ()
def PySem.W.Fast.tw17741268487254977818 : Unit := ()
def PySem.W.Fast.tw6282041716656945146 : Unit := ()
def PySem.W.Fast.tw4226502281481298906 : Unit := ()
def PySem.W.Fast.tw11006104683884785626 : Unit := ()
def PySem.W.Fast.tw17109724325987309690 : Unit := ()
def PySem.W.Fast.tw18108747559771151482 : Unit := ()
def PySem.W.Fast.tw7411711435629862106 : Unit := ()
def PySem.W.Fast.tw7100044348285170618 : Unit := ()
def PySem.W.Fast.tw18367928184819890554 : Unit := ()
def PySem.W.Fast.tw2203234389618670970 : Unit := ()
def PySem.W.Fast.tw13080915341845846394 : Unit := ()
def PySem.W.Fast.tw14278668190912804186 : Unit := ()
def PySem.W.Fast.tw370518321751917338 : Unit := ()
def PySem.W.Fast.tw12480504826291674 : Unit := ()
def PySem.W.Fast.tw9935687937093884378 : Unit := ()
def PySem.W.Fast.tw13822735996630606010 : Unit := ()
def PySem.W.Fast.tw9984995308489052346 : Unit := ()
def PySem.W.Fast.tw5256062839835660186 : Unit := ()
def PySem.W.Fast.tw10608550529022796378 : Unit := ()
def PySem.W.Fast.tw8978496423967651866 : Unit := ()
def PySem.W.Fast.tw8269205590056580122 : Unit := ()
def PySem.W.Fast.tw14459528323867446298 : Unit := ()
def PySem.W.Fast.tw3795522440003885797 : Unit := ()
def PySem.W.Fast.tw16854582626535108293 : Unit := ()
def PySem.W.Fast.tw17697400989237802117 : Unit := ()
def PySem.W.Fast.tw7652450676755013477 : Unit := ()
def PySem.W.Fast.tw11895944303038957093 : Unit := ()
def PySem.W.Fast.tw11834975239519359525 : Unit := ()
def PySem.W.Fast.tw9361224342508022021 : Unit := ()
def PySem.W.Fast.tw15609023915756156901 : Unit := ()
def PySem.W.Fast.tw13546115453165686757 : Unit := ()
def PySem.W.Fast.tw4007272603935975365 : Unit := ()
def PySem.W.Fast.tw7243446891674439333 : Unit := ()
def PySem.W.Fast.tw15295157528678171013 : Unit := ()
def PySem.W.Fast.tw14475440261861142597 : Unit := ()
def PySem.W.Fast.tw16750886876634869253 : Unit := ()
def PySem.W.Fast.tw10405538831494534373 : Unit := ()
def PySem.W.Fast.tw5070577687639593157 : Unit := ()
def PySem.W.Fast.tw8718483606186427717 : Unit := ()
def PySem.W.Fast.tw9794596734202379589 : Unit := ()
def PySem.W.Fast.tw873793008109745477 : Unit := ()
def PySem.W.Fast.tw6404666998169466917 : Unit := ()
def PySem.W.Fast.tw14675603867704002437 : Unit := ()
def PySem.W.Fast.tw17335662259409534565 : Unit := ()
def PySem.W.Fast.tw4793373279872980549 : Unit := ()
def PySem.W.Fast.tw15133492309938730565 : Unit := ()
def PySem.W.Fast.tw8168285792634593573 : Unit := ()
def PySem.W.Fast.tw1697352060859231525 : Unit := ()
def PySem.W.Fast.tw1664739896122300260 : Unit := ()
def PySem.W.Fast.tw10897451394691230564 : Unit := ()
def PySem.W.Fast.tw393530751853634116 : Unit := ()
def PySem.W.Fast.tw7277726917149640964 : Unit := ()
def PySem.W.Fast.tw7651153823287618948 : Unit := ()
def PySem.W.Fast.tw9937096097490633828 : Unit := ()
def PySem.W.Fast.tw1723455535190202180 : Unit := ()
def PySem.W.Fast.tw4680363109825254052 : Unit := ()
def PySem.W.Fast.tw13072124875151243940 : Unit := ()
def PySem.W.Fast.tw2834503994514888324 : Unit := ()
def PySem.W.Fast.tw2250522489110851652 : Unit := ()
def PySem.W.Fast.tw5843136484894698244 : Unit := ()
def PySem.W.Fast.tw4887483288964015588 : Unit := ()
def PySem.W.Fast.tw2476726521365767652 : Unit := ()
def PySem.W.Fast.tw2669165919385344484 : Unit := ()
def PySem.W.Fast.tw503216193442696388 : Unit := ()
def PySem.W.Fast.tw474197238820899428 : Unit := ()
def PySem.W.Fast.tw5210145964077770788 : Unit := ()
def PySem.W.Fast.tw5773576077159161223 : Unit := ()
def PySem.W.Fast.tw15759083084260642023 : Unit := ()
def PySem.W.Fast.tw2605538863958336711 : Unit := ()
def PySem.W.Fast.tw1505249792633601223 : Unit := ()
def PySem.W.Fast.tw13942249720754527431 : Unit := ()
def PySem.W.Fast.tw9465647485651954599 : Unit := ()
def PySem.W.Fast.tw2864658536207237447 : Unit := ()
def PySem.W.Fast.tw3604968109539965415 : Unit := ()
def PySem.W.Fast.tw5128843839383970247 : Unit := ()
def PySem.W.Fast.tw709348248629573063 : Unit := ()
def PySem.W.Fast.tw5384568895756318887 : Unit := ()
def PySem.W.Fast.tw1763977650520466599 : Unit := ()
def PySem.W.Fast.tw3516793560381451431 : Unit := ()
def PySem.W.Fast.tw7019323465027088999 : Unit := ()
def PySem.W.Fast.tw17070109533029623623 : Unit := ()
def PySem.W.Fast.tw8910530990220257831 : Unit := ()
def PySem.W.Fast.tw4656457179234734023 : Unit := ()
def PySem.W.Fast.tw1702963504663416230 : Unit := ()
def PySem.W.Fast.tw854713210020839526 : Unit := ()
def PySem.W.Fast.tw15815872332587285318 : Unit := ()
def PySem.W.Fast.tw12961920642434762278 : Unit := ()
def PySem.W.Fast.tw1322966215374117414 : Unit := ()
def PySem.W.Fast.tw14767581673510851078 : Unit := ()
def PySem.W.Fast.tw576952601881654502 : Unit := ()
def PySem.W.Fast.tw1785509036436152998 : Unit := ()
def PySem.W.Fast.tw13578535947970305670 : Unit := ()
def PySem.W.Fast.tw8586320395949435974 : Unit := ()
def PySem.W.Fast.tw14294728814680732742 : Unit := ()
def PySem.W.Fast.tw8469537110478258086 : Unit := ()
def PySem.W.Fast.tw4157170923010249638 : Unit := ()
def PySem.W.Fast.tw9823001952762196870 : Unit := ()
def PySem.W.Fast.tw1514742441648668550 : Unit := ()
def PySem.W.Fast.tw12734360380418015110 : Unit := ()
def PySem.W.Fast.tw13154420076731129862 : Unit := ()
def PySem.W.Fast.tw5065879647574697702 : Unit := ()
def PySem.W.Fast.tw7503628089064165542 : Unit := ()
def PySem.W.Fast.tw6563621520872102470 : Unit := ()
def PySem.W.Fast.tw4962287991136903462 : Unit := ()
def PySem.W.Fast.tw11910965029279706406 : Unit := ()
def PySem.W.Fast.tw9749716816734940422 : Unit := ()
def PySem.W.Fast.tw16238092270212854321 : Unit := ()
def PySem.W.Fast.tw9187972796308980689 : Unit := ()
def PySem.W.Fast.tw5098237734752024529 : Unit := ()
def PySem.W.Fast.tw15840641511518655857 : Unit := ()
def PySem.W.Fast.tw8636990211126111313 : Unit := ()
def PySem.W.Fast.tw3038804338618223697 : Unit := ()
def PySem.W.Fast.tw16397855913775681329 : Unit := ()
def PySem.W.Fast.tw13434378397237045777 : Unit := ()
def PySem.W.Fast.tw9196978887824649425 : Unit := ()
def PySem.W.Fast.tw823643245999003857 : Unit := ()
def PySem.W.Fast.tw9661417267834672465 : Unit := ()
def PySem.W.Fast.tw16204731195593389521 : Unit := ()
def PySem.W.Fast.tw2363362262484357297 : Unit := ()
def PySem.W.Fast.tw2074976661806781617 : Unit := ()
def PySem.W.Fast.tw6074753946852091761 : Unit := ()
def PySem.W.Fast.tw15524560506069549649 : Unit := ()
def PySem.W.Fast.tw8604050157915923153 : Unit := ()
def PySem.W.Fast.tw14284133591503619793 : Unit := ()
def PySem.W.Fast.tw6844193974144684992 : Unit := ()
def PySem.W.Fast.tw11279791007755780768 : Unit := ()
def PySem.W.Fast.tw1691948973921950080 : Unit := ()
def PySem.W.Fast.tw4045903558411725888 : Unit := ()
def PySem.W.Fast.tw14751862700935774272 : Unit := ()
def PySem.W.Fast.tw11099010251403834848 : Unit := ()
def PySem.W.Fast.tw15953732600717076672 : Unit := ()
def PySem.W.Fast.tw15069993859832653728 : Unit := ()
def PySem.W.Fast.tw2568009193152039840 : Unit := ()
def PySem.W.Fast.tw14919330672476948384 : Unit := ()
def PySem.W.Fast.tw10601701258752652192 : Unit := ()
def PySem.W.Fast.tw16893376301302131328 : Unit := ()
def PySem.W.Fast.tw817517556683185184 : Unit := ()
def PySem.W.Fast.tw12019150358882712608 : Unit := ()
def PySem.W.Fast.tw7628625814344787712 : Unit := ()
def PySem.W.Fast.tw3868838765993543680 : Unit := ()
def PySem.W.Fast.tw14743996321415552000 : Unit := ()
def PySem.W.Fast.tw10674971345986444288 : Unit := ()
def PySem.W.Fast.tw4013079033460446208 : Unit := ()
def PySem.W.Fast.tw5982336185186331328 : Unit := ()
def PySem.W.Fast.tw11758493453261418176 : Unit := ()
def PySem.W.Fast.tw11111742595294878848 : Unit := ()
def PySem.W.Fast.tw1406432912051293312 : Unit := ()
def PySem.W.Fast.tw3939407668133546112 : Unit := ()
def PySem.W.Fast.tw1494626376686607904 : Unit := ()
def PySem.W.Fast.tw2711914274060699168 : Unit := ()
def PySem.W.Fast.tw8841521102209687379 : Unit := ()
def PySem.W.Fast.tw3071409765346255699 : Unit := ()
def PySem.W.Fast.tw3602889902276696627 : Unit := ()
def PySem.W.Fast.tw558673331046810899 : Unit := ()
def PySem.W.Fast.tw10865972254390784275 : Unit := ()
def PySem.W.Fast.tw14658853373041435315 : Unit := ()
def PySem.W.Fast.tw5434653006450672723 : Unit := ()
def PySem.W.Fast.tw4877649554736052307 : Unit := ()
def PySem.W.Fast.tw3892986287029047379 : Unit := ()
def PySem.W.Fast.tw10763933989509449523 : Unit := ()
def PySem.W.Fast.tw16944859819754584595 : Unit := ()
def PySem.W.Fast.tw13993389726256516147 : Unit := ()
def PySem.W.Fast.tw10823094346156339987 : Unit := ()
def PySem.W.Fast.tw5163769452478179507 : Unit := ()
def PySem.W.Fast.tw9104690824754994035 : Unit := ()
def PySem.W.Fast.tw9004511258928710227 : Unit := ()
def PySem.W.Fast.tw8386923947372699219 : Unit := ()
def PySem.W.Fast.tw7389408813133513139 : Unit := ()
def PySem.W.Fast.tw133155422048468898 : Unit := ()
def PySem.W.Fast.tw5593301008762097538 : Unit := ()
def PySem.W.Fast.tw16732820092477188706 : Unit := ()
def PySem.W.Fast.tw11661659124390551874 : Unit := ()
def PySem.W.Fast.tw13566287000709702818 : Unit := ()
def PySem.W.Fast.tw13686875726212811618 : Unit := ()
def PySem.W.Fast.tw11796229662361926210 : Unit := ()
def PySem.W.Fast.tw7021419341005981954 : Unit := ()
def PySem.W.Fast.tw13338444002471155682 : Unit := ()
def PySem.W.Fast.tw937931940154378658 : Unit := ()
def PySem.W.Fast.tw14244558805473476994 : Unit := ()
def PySem.W.Fast.tw3153071861529260418 : Unit := ()
def PySem.W.Fast.tw15503082640981429346 : Unit := ()
def PySem.W.Fast.tw16390217463047090274 : Unit := ()
def PySem.W.Fast.tw5863398983753848354 : Unit := ()
def PySem.W.Fast.tw8846038190478900770 : Unit := ()
def PySem.W.Fast.tw6303525640697918690 : Unit := ()
def PySem.W.Fast.tw9355595370941965250 : Unit := ()
def PySem.W.Fast.tw12549443458283873346 : Unit := ()
def PySem.W.Fast.tw18444509611885230850 : Unit := ()
def PySem.W.Fast.tw12266532080678826754 : Unit := ()
def PySem.W.Fast.tw4817268209106340610 : Unit := ()
def PySem.W.Fast.tw14150040623874195501 : Unit := ()
def PySem.W.Fast.tw2114874374538477325 : Unit := ()
def PySem.W.Fast.tw3518748913356217101 : Unit := ()
def PySem.W.Fast.tw8474438675563226573 : Unit := ()
def PySem.W.Fast.tw9754700084001190189 : Unit := ()
def PySem.W.Fast.tw13459653730608311277 : Unit := ()
def PySem.W.Fast.tw16713962718365384397 : Unit := ()
def PySem.W.Fast.tw3356572057839130317 : Unit := ()
def PySem.W.Fast.tw18431521457461820109 : Unit := ()
def PySem.W.Fast.tw9594787258972405165 : Unit := ()
def PySem.W.Fast.tw8521703147221240973 : Unit := ()
def PySem.W.Fast.tw14091674412763806829 : Unit := ()
def PySem.W.Fast.tw13925937606458257517 : Unit := ()
def PySem.W.Fast.tw11268765892508206637 : Unit := ()
def PySem.W.Fast.tw9422560803341013229 : Unit := ()
def PySem.W.Fast.tw8664135221555126349 : Unit := ()
def PySem.W.Fast.tw12596247791791788109 : Unit := ()
def PySem.W.Fast.tw16333568834441518893 : Unit := ()
def PySem.W.Fast.tw17976995252490048717 : Unit := ()
def PySem.W.Fast.tw15606810155485289677 : Unit := ()
def PySem.W.Fast.tw17667478992509134477 : Unit := ()
def PySem.W.Fast.tw2272752633700660845 : Unit := ()
def PySem.W.Fast.tw9048481048556380781 : Unit := ()
def PySem.W.Fast.tw12768867038840829100 : Unit := ()
def PySem.W.Fast.tw4882813336562528268 : Unit := ()
def PySem.W.Fast.tw1695536347607479724 : Unit := ()
def PySem.W.Fast.tw10996141233440267404 : Unit := ()
def PySem.W.Fast.tw2976415439526514220 : Unit := ()
def PySem.W.Fast.tw11881174459459490924 : Unit := ()
def PySem.W.Fast.tw7953699224601023596 : Unit := ()
def PySem.W.Fast.tw17356598267682234188 : Unit := ()
def PySem.W.Fast.tw8658267250946350604 : Unit := ()
def PySem.W.Fast.tw2481274358024157420 : Unit := ()
def PySem.W.Fast.tw13088582009581067212 : Unit := ()
def PySem.W.Fast.tw8097353222346201004 : Unit := ()
def PySem.W.Fast.tw17639637056337813420 : Unit := ()
def PySem.W.Fast.tw7003023594715102860 : Unit := ()
def PySem.W.Fast.tw2795476673354069644 : Unit := ()
def PySem.W.Fast.tw9814681972011495788 : Unit := ()
def PySem.W.Fast.tw8303825825728364591 : Unit := ()
def PySem.W.Fast.tw5753949032949280815 : Unit := ()
def PySem.W.Fast.tw7913549988804315919 : Unit := ()
def PySem.W.Fast.tw269761766296409871 : Unit := ()
def PySem.W.Fast.tw10426372326597799695 : Unit := ()
def PySem.W.Fast.tw6681838352298193647 : Unit := ()
def PySem.W.Fast.tw16030977628524876239 : Unit := ()
def PySem.W.Fast.tw8870486820507683119 : Unit := ()
def PySem.W.Fast.tw6488675465127229135 : Unit := ()
def PySem.W.Fast.tw14526375856809287503 : Unit := ()
def PySem.W.Fast.tw12834175967411022383 : Unit := ()
def PySem.W.Fast.tw16052266517187074319 : Unit := ()
def PySem.W.Fast.tw17495363389159465199 : Unit := ()
def PySem.W.Fast.tw12092714181605645391 : Unit := ()
def PySem.W.Fast.tw16148452427319082511 : Unit := ()
def PySem.W.Fast.tw16863369068934229519 : Unit := ()
def PySem.W.Fast.tw7599095322099384847 : Unit := ()
def PySem.W.Fast.tw17376870269748719 : Unit := ()
def PySem.W.Fast.tw6336039285028319151 : Unit := ()
def PySem.W.Fast.tw10335855438504895119 : Unit := ()
def PySem.W.Fast.tw2150599283453041295 : Unit := ()
def PySem.W.Fast.tw1495413842229479502 : Unit := ()
def PySem.W.Fast.tw11516569994026322702 : Unit := ()
def PySem.W.Fast.tw9208672390581666414 : Unit := ()
def PySem.W.Fast.tw9704660793552421166 : Unit := ()
def PySem.W.Fast.tw17074098886681873870 : Unit := ()
def PySem.W.Fast.tw3360792503662903886 : Unit := ()
def PySem.W.Fast.tw3568377066815496910 : Unit := ()
def PySem.W.Fast.tw18232674982586579662 : Unit := ()
def PySem.W.Fast.tw14230586676408128334 : Unit := ()
def PySem.W.Fast.tw15977219007922192622 : Unit := ()
def PySem.W.Fast.tw9427759859050100686 : Unit := ()
set_option maxRecDepth 100000 in
set_option maxHeartbeats 0 in
theorem PySem.Challenge.cw_foldlines_k14_whole_tidy_calls_come_back_holds : PySem.Challenge.rw_foldlines_k14_whole_tidy_calls_come_back.Holds := by
  w_on; o_law; k_head; (case hw => w_witness2)
  k_fill
  refine Fl.k14_walk (l := PySem.Challenge.rw_foldlines_k14_whole_tidy_calls_come_back) rfl rfl rfl (fun w h Y => PySem.W.kIn_of Y) ?z1_F
  case z1_F =>
    intro w mg fa h KX G hmg
    refine' Fl.lawF_mk KX G hmg ?z2_aL ?z2_lL ?z2_cL ?z2_kL ?z2_B ?z2_A ?z2_AA ?z2_g1 ?z2_g2 ?z2_g3 ?z2_f1 ?z2_f2
    case z2_aL => k_is
    case z2_lL => k_is
    case z2_cL => k_is
    case z2_kL => k_is
    case z2_B =>
      refine' ⟨?z3_gmM, ?z3_gmR, ?z3_pc, ?z3_pe, ?z3_mc, ?z3_rc, ?z3_initP, ?z3_keep, ?z3_pfun, ?z3_initM, ?z3_initR, ?z3_pplace, ?z3_pend, ?z3_pdepth, ?z3_step⟩
      case z3_gmM => exact PySem.W.mg_of KX G (by k_is)
      case z3_gmR => exact PySem.W.mg_of KX G (by k_is)
      case z3_pe =>
        refine' ⟨?z4_gm, ⟨.type "type", _, ⟨?z4_rd, ?z4_ga⟩, ⟨?z4_at1, ?z4_rel⟩⟩, ⟨.type "type", _, ⟨?z4_rd2, ?z4_ga2⟩, ⟨?z4_at2, ?z4_rel2⟩⟩⟩
        case z4_gm => exact PySem.W.mg_of KX G (by k_is)
        case z4_rd => k_is
        case z4_ga => k_is
        case z4_at1 => k_is
        case z4_rel => exact ⟨_, rfl⟩
        case z4_rd2 => k_is
        case z4_ga2 => k_is
        case z4_at2 => k_is
        case z4_rel2 => exact ⟨_, rfl⟩
      case z3_pc =>
        refine' ⟨⟨?z5_pg, ?z5_hd, ?z5_po, ?z5_sa⟩, ⟨?z5_at1, rfl, ?z5_get, by decide⟩, ?z5_nF⟩
        case z5_pg => k_is
        case z5_hd => k_is
        case z5_po => k_is
        case z5_sa => k_is
        case z5_at1 => k_is
        case z5_get => k_is
        case z5_nF => show PySem.W.findIn _ _ _ = some none; k_is
      case z3_mc =>
        refine' ⟨⟨?z6_pg, ?z6_hd, ?z6_po, ?z6_sa⟩, ?z6_m_code, ?z6_m_marks, ?z6_m_is_bare, ?z6_m_inputs, ?z6_m_taken, ?z6_m_written, ?z6_m_registers, ?z6_m_flag, ?z6_m_stack, ?z6_m_link, ?z6_m_ended, ?z6_m_name, ?z6_m_at⟩
        case z6_pg => k_is
        case z6_hd => k_is
        case z6_po => k_is
        case z6_sa => k_is
        case z6_m_code => show PySem.W.findIn _ _ _ = some none; k_is
        case z6_m_marks => show PySem.W.findIn _ _ _ = some none; k_is
        case z6_m_is_bare => show PySem.W.findIn _ _ _ = some none; k_is
        case z6_m_inputs => show PySem.W.findIn _ _ _ = some none; k_is
        case z6_m_taken => show PySem.W.findIn _ _ _ = some none; k_is
        case z6_m_written => show PySem.W.findIn _ _ _ = some none; k_is
        case z6_m_registers => show PySem.W.findIn _ _ _ = some none; k_is
        case z6_m_flag => show PySem.W.findIn _ _ _ = some none; k_is
        case z6_m_stack => show PySem.W.findIn _ _ _ = some none; k_is
        case z6_m_link => show PySem.W.findIn _ _ _ = some none; k_is
        case z6_m_ended => show PySem.W.findIn _ _ _ = some none; k_is
        case z6_m_name => show PySem.W.findIn _ _ _ = some none; k_is
        case z6_m_at => show PySem.W.findIn _ _ _ = some none; k_is
      case z3_rc =>
        refine' ⟨⟨?z7_pg, ?z7_hd, ?z7_po, ?z7_sa⟩, ?z7_m1, ?z7_m2, ?z7_m3⟩
        case z7_pg => k_is
        case z7_hd => k_is
        case z7_po => k_is
        case z7_sa => k_is
        case z7_m1 => show PySem.W.findIn _ _ _ = some none; k_is
        case z7_m2 => show PySem.W.findIn _ _ _ = some none; k_is
        case z7_m3 => show PySem.W.findIn _ _ _ = some none; k_is
      case z3_initP =>
        refine' ⟨_, _, ⟨?z8_mk, ?z8_fi, ?z8_fn, ?z8_kp⟩, L2.fun_mk ?z8_l ?z8_c ?z8_k⟩
        case z8_mk => k_is
        case z8_fi => k_is
        case z8_fn => k_is
        case z8_kp => k_is
        case z8_l => k_is
        case z8_c => k_is
        case z8_k => k_is
      case z3_initM =>
        refine' ⟨_, _, ⟨?z9_mk, ?z9_fi, ?z9_fn, ?z9_kp⟩, L2.fun_mk ?z9_l ?z9_c ?z9_k⟩
        case z9_mk => k_is
        case z9_fi => k_is
        case z9_fn => k_is
        case z9_kp => k_is
        case z9_l => k_is
        case z9_c => k_is
        case z9_k => k_is
      case z3_initR =>
        refine' Fl.initR_mk ⟨?z10_mk, ?z10_fi, ?z10_fn, ?z10_kp⟩ ?z10_l ?z10_c ?z10_k ?z10_lT
        case z10_mk => k_is
        case z10_fi => k_is
        case z10_fn => k_is
        case z10_kp => k_is
        case z10_l => k_is
        case z10_c => k_is
        case z10_k => k_is
        case z10_lT => k_is
      case z3_keep =>
        refine' ⟨_, _, ⟨?z11_fi, ?z11_fn, ?z11_kp⟩, L2.fun_mk ?z11_l ?z11_c ?z11_k⟩
        case z11_fi => k_is
        case z11_fn => k_is
        case z11_kp => k_is
        case z11_l => k_is
        case z11_c => k_is
        case z11_k => k_is
      case z3_step =>
        refine' ⟨_, _, ⟨?z12_fi, ?z12_fn, ?z12_kp⟩, L2.fun_mk ?z12_l ?z12_c ?z12_k⟩
        case z12_fi => k_is
        case z12_fn => k_is
        case z12_kp => k_is
        case z12_l => k_is
        case z12_c => k_is
        case z12_k => k_is
      case z3_pfun =>
        refine' ⟨_, _, _, ⟨?z13_fi, ?z13_sg, ?z13_tk, ⟨_, ?z13_rc⟩⟩, L2.fun_mk ?z13_l ?z13_c ?z13_k⟩
        case z13_fi => k_is
        case z13_sg => k_is
        case z13_tk => k_is
        case z13_rc => exact rfl
        case z13_l => k_is
        case z13_c => k_is
        case z13_k => k_is
      case z3_pplace =>
        refine' ⟨_, _, _, ⟨?z14_fi, ?z14_sg, ?z14_tk, ⟨_, ?z14_rc⟩⟩, L2.fun_mk ?z14_l ?z14_c ?z14_k⟩
        case z14_fi => k_is
        case z14_sg => k_is
        case z14_tk => k_is
        case z14_rc => exact rfl
        case z14_l => k_is
        case z14_c => k_is
        case z14_k => k_is
      case z3_pend =>
        refine' ⟨_, _, _, ⟨?z15_fi, ?z15_sg, ?z15_tk, ⟨_, ?z15_rc⟩⟩, L2.fun_mk ?z15_l ?z15_c ?z15_k⟩
        case z15_fi => k_is
        case z15_sg => k_is
        case z15_tk => k_is
        case z15_rc => exact rfl
        case z15_l => k_is
        case z15_c => k_is
        case z15_k => k_is
      case z3_pdepth =>
        refine' ⟨_, _, _, ⟨?z16_fi, ?z16_sg, ?z16_tk, ⟨_, ?z16_rc⟩⟩, L2.fun_mk ?z16_l ?z16_c ?z16_k⟩
        case z16_fi => k_is
        case z16_sg => k_is
        case z16_tk => k_is
        case z16_rc => exact rfl
        case z16_l => k_is
        case z16_c => k_is
        case z16_k => k_is
    case z2_A =>
      refine' ⟨?z17_g_is_int, ?z17_g_is_number, ?z17_g_is_word, ?z17_g_is_list, ?z17_g_is_filled_list, ?z17_g_are_numbers, ?z17_g_wrapped, ?z17_g__fits, ?z17_g_is_line, ?z17_g_named_function, ?z17_g_named_label, ?z17_g_marks_of, ?z17_g__leads, ?z17_g_reached_ways, ?z17_g__entry_of, ?z17_g__has_value, ?z17_g__row_behind, ?z17_g_rows_of, ?z17_g__own_behind, ?z17_g_own_indexes, ?z17_g__needs_own, ?z17_g_is_tidy, ?z17_g__names_are_there, ?z17_g__first_wrong, ?z17_g__are_functions, ?z17_g__check_lengths, ?z17_g_check_functions, ?z17_g__law_pen, ?z17_g__law_draw, ?z17_g__law_pick, ?z17_g__law_words, ?z17_g__law_number, ?z17_g__law_plain_line, ?z17_g__law_called, ?z17_g__law_call, ?z17_g__law_item, ?z17_g__law_items, ?z17_g__law_lines, ?z17_g__law_plain, ?z17_g__law_inputs, ?z17_g__law_beyond_marks, ?z17_g_pass_marks, ?z17_g__are_numbers, ?z17_g__keep_behind, ?z17_g__enter, ?z17_g_jump, ?z17_g_do_line⟩
      case z17_g_is_int =>
        refine' Fl.gd_mk KX G ?z18_a ?z18_l ?z18_c ?z18_k
        case z18_a => k_is
        case z18_l => k_is
        case z18_c => k_is
        case z18_k => k_is
      case z17_g_is_number =>
        refine' Fl.gd_mk KX G ?z19_a ?z19_l ?z19_c ?z19_k
        case z19_a => k_is
        case z19_l => k_is
        case z19_c => k_is
        case z19_k => k_is
      case z17_g_is_word =>
        refine' Fl.gd_mk KX G ?z20_a ?z20_l ?z20_c ?z20_k
        case z20_a => k_is
        case z20_l => k_is
        case z20_c => k_is
        case z20_k => k_is
      case z17_g_is_list =>
        refine' Fl.gd_mk KX G ?z21_a ?z21_l ?z21_c ?z21_k
        case z21_a => k_is
        case z21_l => k_is
        case z21_c => k_is
        case z21_k => k_is
      case z17_g_is_filled_list =>
        refine' Fl.gd_mk KX G ?z22_a ?z22_l ?z22_c ?z22_k
        case z22_a => k_is
        case z22_l => k_is
        case z22_c => k_is
        case z22_k => k_is
      case z17_g_are_numbers =>
        refine' Fl.gd_mk KX G ?z23_a ?z23_l ?z23_c ?z23_k
        case z23_a => k_is
        case z23_l => k_is
        case z23_c => k_is
        case z23_k => k_is
      case z17_g_wrapped =>
        refine' Fl.gd_mk KX G ?z24_a ?z24_l ?z24_c ?z24_k
        case z24_a => k_is
        case z24_l => k_is
        case z24_c => k_is
        case z24_k => k_is
      case z17_g__fits =>
        refine' Fl.gd_mk KX G ?z25_a ?z25_l ?z25_c ?z25_k
        case z25_a => k_is
        case z25_l => k_is
        case z25_c => k_is
        case z25_k => k_is
      case z17_g_is_line =>
        refine' Fl.gd_mk KX G ?z26_a ?z26_l ?z26_c ?z26_k
        case z26_a => k_is
        case z26_l => k_is
        case z26_c => k_is
        case z26_k => k_is
      case z17_g_named_function =>
        refine' Fl.gd_mk KX G ?z27_a ?z27_l ?z27_c ?z27_k
        case z27_a => k_is
        case z27_l => k_is
        case z27_c => k_is
        case z27_k => k_is
      case z17_g_named_label =>
        refine' Fl.gd_mk KX G ?z28_a ?z28_l ?z28_c ?z28_k
        case z28_a => k_is
        case z28_l => k_is
        case z28_c => k_is
        case z28_k => k_is
      case z17_g_marks_of =>
        refine' Fl.gd_mk KX G ?z29_a ?z29_l ?z29_c ?z29_k
        case z29_a => k_is
        case z29_l => k_is
        case z29_c => k_is
        case z29_k => k_is
      case z17_g__leads =>
        refine' Fl.gd_mk KX G ?z30_a ?z30_l ?z30_c ?z30_k
        case z30_a => k_is
        case z30_l => k_is
        case z30_c => k_is
        case z30_k => k_is
      case z17_g_reached_ways =>
        refine' Fl.gd_mk KX G ?z31_a ?z31_l ?z31_c ?z31_k
        case z31_a => k_is
        case z31_l => k_is
        case z31_c => k_is
        case z31_k => k_is
      case z17_g__entry_of =>
        refine' Fl.gd_mk KX G ?z32_a ?z32_l ?z32_c ?z32_k
        case z32_a => k_is
        case z32_l => k_is
        case z32_c => k_is
        case z32_k => k_is
      case z17_g__has_value =>
        refine' Fl.gd_mk KX G ?z33_a ?z33_l ?z33_c ?z33_k
        case z33_a => k_is
        case z33_l => k_is
        case z33_c => k_is
        case z33_k => k_is
      case z17_g__row_behind =>
        refine' Fl.gd_mk KX G ?z34_a ?z34_l ?z34_c ?z34_k
        case z34_a => k_is
        case z34_l => k_is
        case z34_c => k_is
        case z34_k => k_is
      case z17_g_rows_of =>
        refine' Fl.gd_mk KX G ?z35_a ?z35_l ?z35_c ?z35_k
        case z35_a => k_is
        case z35_l => k_is
        case z35_c => k_is
        case z35_k => k_is
      case z17_g__own_behind =>
        refine' Fl.gd_mk KX G ?z36_a ?z36_l ?z36_c ?z36_k
        case z36_a => k_is
        case z36_l => k_is
        case z36_c => k_is
        case z36_k => k_is
      case z17_g_own_indexes =>
        refine' Fl.gd_mk KX G ?z37_a ?z37_l ?z37_c ?z37_k
        case z37_a => k_is
        case z37_l => k_is
        case z37_c => k_is
        case z37_k => k_is
      case z17_g__needs_own =>
        refine' Fl.gd_mk KX G ?z38_a ?z38_l ?z38_c ?z38_k
        case z38_a => k_is
        case z38_l => k_is
        case z38_c => k_is
        case z38_k => k_is
      case z17_g_is_tidy =>
        refine' Fl.gd_mk KX G ?z39_a ?z39_l ?z39_c ?z39_k
        case z39_a => k_is
        case z39_l => k_is
        case z39_c => k_is
        case z39_k => k_is
      case z17_g__names_are_there =>
        refine' Fl.gd_mk KX G ?z40_a ?z40_l ?z40_c ?z40_k
        case z40_a => k_is
        case z40_l => k_is
        case z40_c => k_is
        case z40_k => k_is
      case z17_g__first_wrong =>
        refine' Fl.gd_mk KX G ?z41_a ?z41_l ?z41_c ?z41_k
        case z41_a => k_is
        case z41_l => k_is
        case z41_c => k_is
        case z41_k => k_is
      case z17_g__are_functions =>
        refine' Fl.gd_mk KX G ?z42_a ?z42_l ?z42_c ?z42_k
        case z42_a => k_is
        case z42_l => k_is
        case z42_c => k_is
        case z42_k => k_is
      case z17_g__check_lengths =>
        refine' Fl.gd_mk KX G ?z43_a ?z43_l ?z43_c ?z43_k
        case z43_a => k_is
        case z43_l => k_is
        case z43_c => k_is
        case z43_k => k_is
      case z17_g_check_functions =>
        refine' Fl.gd_mk KX G ?z44_a ?z44_l ?z44_c ?z44_k
        case z44_a => k_is
        case z44_l => k_is
        case z44_c => k_is
        case z44_k => k_is
      case z17_g__law_pen =>
        refine' Fl.gd_mk KX G ?z45_a ?z45_l ?z45_c ?z45_k
        case z45_a => k_is
        case z45_l => k_is
        case z45_c => k_is
        case z45_k => k_is
      case z17_g__law_draw =>
        refine' Fl.gd_mk KX G ?z46_a ?z46_l ?z46_c ?z46_k
        case z46_a => k_is
        case z46_l => k_is
        case z46_c => k_is
        case z46_k => k_is
      case z17_g__law_pick =>
        refine' Fl.gd_mk KX G ?z47_a ?z47_l ?z47_c ?z47_k
        case z47_a => k_is
        case z47_l => k_is
        case z47_c => k_is
        case z47_k => k_is
      case z17_g__law_words =>
        refine' Fl.gd_mk KX G ?z48_a ?z48_l ?z48_c ?z48_k
        case z48_a => k_is
        case z48_l => k_is
        case z48_c => k_is
        case z48_k => k_is
      case z17_g__law_number =>
        refine' Fl.gd_mk KX G ?z49_a ?z49_l ?z49_c ?z49_k
        case z49_a => k_is
        case z49_l => k_is
        case z49_c => k_is
        case z49_k => k_is
      case z17_g__law_plain_line =>
        refine' Fl.gd_mk KX G ?z50_a ?z50_l ?z50_c ?z50_k
        case z50_a => k_is
        case z50_l => k_is
        case z50_c => k_is
        case z50_k => k_is
      case z17_g__law_called =>
        refine' Fl.gd_mk KX G ?z51_a ?z51_l ?z51_c ?z51_k
        case z51_a => k_is
        case z51_l => k_is
        case z51_c => k_is
        case z51_k => k_is
      case z17_g__law_call =>
        refine' Fl.gd_mk KX G ?z52_a ?z52_l ?z52_c ?z52_k
        case z52_a => k_is
        case z52_l => k_is
        case z52_c => k_is
        case z52_k => k_is
      case z17_g__law_item =>
        refine' Fl.gd_mk KX G ?z53_a ?z53_l ?z53_c ?z53_k
        case z53_a => k_is
        case z53_l => k_is
        case z53_c => k_is
        case z53_k => k_is
      case z17_g__law_items =>
        refine' Fl.gd_mk KX G ?z54_a ?z54_l ?z54_c ?z54_k
        case z54_a => k_is
        case z54_l => k_is
        case z54_c => k_is
        case z54_k => k_is
      case z17_g__law_lines =>
        refine' Fl.gd_mk KX G ?z55_a ?z55_l ?z55_c ?z55_k
        case z55_a => k_is
        case z55_l => k_is
        case z55_c => k_is
        case z55_k => k_is
      case z17_g__law_plain =>
        refine' Fl.gd_mk KX G ?z56_a ?z56_l ?z56_c ?z56_k
        case z56_a => k_is
        case z56_l => k_is
        case z56_c => k_is
        case z56_k => k_is
      case z17_g__law_inputs =>
        refine' Fl.gd_mk KX G ?z57_a ?z57_l ?z57_c ?z57_k
        case z57_a => k_is
        case z57_l => k_is
        case z57_c => k_is
        case z57_k => k_is
      case z17_g__law_beyond_marks =>
        refine' Fl.gd_mk KX G ?z58_a ?z58_l ?z58_c ?z58_k
        case z58_a => k_is
        case z58_l => k_is
        case z58_c => k_is
        case z58_k => k_is
      case z17_g_pass_marks =>
        refine' Fl.gd_mk KX G ?z59_a ?z59_l ?z59_c ?z59_k
        case z59_a => k_is
        case z59_l => k_is
        case z59_c => k_is
        case z59_k => k_is
      case z17_g__are_numbers =>
        refine' Fl.gd_mk KX G ?z60_a ?z60_l ?z60_c ?z60_k
        case z60_a => k_is
        case z60_l => k_is
        case z60_c => k_is
        case z60_k => k_is
      case z17_g__keep_behind =>
        refine' Fl.gd_mk KX G ?z61_a ?z61_l ?z61_c ?z61_k
        case z61_a => k_is
        case z61_l => k_is
        case z61_c => k_is
        case z61_k => k_is
      case z17_g__enter =>
        refine' Fl.gd_mk KX G ?z62_a ?z62_l ?z62_c ?z62_k
        case z62_a => k_is
        case z62_l => k_is
        case z62_c => k_is
        case z62_k => k_is
      case z17_g_jump =>
        refine' Fl.gd_mk KX G ?z63_a ?z63_l ?z63_c ?z63_k
        case z63_a => k_is
        case z63_l => k_is
        case z63_c => k_is
        case z63_k => k_is
      case z17_g_do_line =>
        refine' Fl.gd_mk KX G ?z64_a ?z64_l ?z64_c ?z64_k
        case z64_a => k_is
        case z64_l => k_is
        case z64_c => k_is
        case z64_k => k_is
    case z2_AA =>
      refine' ⟨⟨_, _, _, PySem.W.mg_of KX G ?z65_ha, ⟨?z65_hl, ?z65_hk, ?z65_lo⟩, ?z65_t_num, ?z65_t_copy, ?z65_t_add, ?z65_t_sub, ?z65_t_mul, ?z65_t_addr, ?z65_t_same, ?z65_t_less, ?z65_t_in, ?z65_t_out, ?z65_t_push, ?z65_t_pop, ?z65_t_read, ?z65_t_write, ?z65_t_jump, ?z65_t_if, ?z65_t_unless, ?z65_t_call, ?z65_t_callr, ?z65_t_tail, ?z65_t_back, ?z65_t_stop⟩⟩
      case z65_ha => k_is
      case z65_hl => k_is
      case z65_hk => k_keys
      case z65_lo => first | rfl | decide
      case z65_t_num =>
        refine' Fl.td_mk ?z66_n ?z66_l ?z66_c ?z66_k
        case z66_n => k_is
        case z66_l => k_is
        case z66_c => k_is
        case z66_k => k_is
      case z65_t_copy =>
        refine' Fl.td_mk ?z67_n ?z67_l ?z67_c ?z67_k
        case z67_n => k_is
        case z67_l => k_is
        case z67_c => k_is
        case z67_k => k_is
      case z65_t_add =>
        refine' Fl.td_mk ?z68_n ?z68_l ?z68_c ?z68_k
        case z68_n => k_is
        case z68_l => k_is
        case z68_c => k_is
        case z68_k => k_is
      case z65_t_sub =>
        refine' Fl.td_mk ?z69_n ?z69_l ?z69_c ?z69_k
        case z69_n => k_is
        case z69_l => k_is
        case z69_c => k_is
        case z69_k => k_is
      case z65_t_mul =>
        refine' Fl.td_mk ?z70_n ?z70_l ?z70_c ?z70_k
        case z70_n => k_is
        case z70_l => k_is
        case z70_c => k_is
        case z70_k => k_is
      case z65_t_addr =>
        refine' Fl.td_mk ?z71_n ?z71_l ?z71_c ?z71_k
        case z71_n => k_is
        case z71_l => k_is
        case z71_c => k_is
        case z71_k => k_is
      case z65_t_same =>
        refine' Fl.td_mk ?z72_n ?z72_l ?z72_c ?z72_k
        case z72_n => k_is
        case z72_l => k_is
        case z72_c => k_is
        case z72_k => k_is
      case z65_t_less =>
        refine' Fl.td_mk ?z73_n ?z73_l ?z73_c ?z73_k
        case z73_n => k_is
        case z73_l => k_is
        case z73_c => k_is
        case z73_k => k_is
      case z65_t_in =>
        refine' Fl.td_mk ?z74_n ?z74_l ?z74_c ?z74_k
        case z74_n => k_is
        case z74_l => k_is
        case z74_c => k_is
        case z74_k => k_is
      case z65_t_out =>
        refine' Fl.td_mk ?z75_n ?z75_l ?z75_c ?z75_k
        case z75_n => k_is
        case z75_l => k_is
        case z75_c => k_is
        case z75_k => k_is
      case z65_t_push =>
        refine' Fl.td_mk ?z76_n ?z76_l ?z76_c ?z76_k
        case z76_n => k_is
        case z76_l => k_is
        case z76_c => k_is
        case z76_k => k_is
      case z65_t_pop =>
        refine' Fl.td_mk ?z77_n ?z77_l ?z77_c ?z77_k
        case z77_n => k_is
        case z77_l => k_is
        case z77_c => k_is
        case z77_k => k_is
      case z65_t_read =>
        refine' Fl.td_mk ?z78_n ?z78_l ?z78_c ?z78_k
        case z78_n => k_is
        case z78_l => k_is
        case z78_c => k_is
        case z78_k => k_is
      case z65_t_write =>
        refine' Fl.td_mk ?z79_n ?z79_l ?z79_c ?z79_k
        case z79_n => k_is
        case z79_l => k_is
        case z79_c => k_is
        case z79_k => k_is
      case z65_t_jump =>
        refine' Fl.td_mk ?z80_n ?z80_l ?z80_c ?z80_k
        case z80_n => k_is
        case z80_l => k_is
        case z80_c => k_is
        case z80_k => k_is
      case z65_t_if =>
        refine' Fl.td_mk ?z81_n ?z81_l ?z81_c ?z81_k
        case z81_n => k_is
        case z81_l => k_is
        case z81_c => k_is
        case z81_k => k_is
      case z65_t_unless =>
        refine' Fl.td_mk ?z82_n ?z82_l ?z82_c ?z82_k
        case z82_n => k_is
        case z82_l => k_is
        case z82_c => k_is
        case z82_k => k_is
      case z65_t_call =>
        refine' Fl.td_mk ?z83_n ?z83_l ?z83_c ?z83_k
        case z83_n => k_is
        case z83_l => k_is
        case z83_c => k_is
        case z83_k => k_is
      case z65_t_callr =>
        refine' Fl.td_mk ?z84_n ?z84_l ?z84_c ?z84_k
        case z84_n => k_is
        case z84_l => k_is
        case z84_c => k_is
        case z84_k => k_is
      case z65_t_tail =>
        refine' Fl.td_mk ?z85_n ?z85_l ?z85_c ?z85_k
        case z85_n => k_is
        case z85_l => k_is
        case z85_c => k_is
        case z85_k => k_is
      case z65_t_back =>
        refine' Fl.td_mk ?z86_n ?z86_l ?z86_c ?z86_k
        case z86_n => k_is
        case z86_l => k_is
        case z86_c => k_is
        case z86_k => k_is
      case z65_t_stop =>
        refine' Fl.td_mk ?z87_n ?z87_l ?z87_c ?z87_k
        case z87_n => k_is
        case z87_l => k_is
        case z87_c => k_is
        case z87_k => k_is
    case z2_g1 =>
      refine' ⟨?z88_n_isinstance, ?z88_n_int, ?z88_n_bool, ?z88_n_str, ?z88_n_len, ?z88_n_all, ?z88_n_list, ?z88_n_tuple, ?z88_n_dict, ?z88_n_zip, ?z88_n_sum, ?z88_n_enumerate, ?z88_n_sorted, ?z88_n_max, ?z88_n_leastN, ?z88_n_greatestN, ?z88_n_letters, ?z88_n_entry, ?z88_n_regs, ?z88_n_lines, ?z88_n_allL, ?z88_n_funs⟩
      case z88_n_isinstance => exact PySem.W.mg_none_of KX G (by k_is)
      case z88_n_int => exact PySem.W.mg_none_of KX G (by k_is)
      case z88_n_bool => exact PySem.W.mg_none_of KX G (by k_is)
      case z88_n_str => exact PySem.W.mg_none_of KX G (by k_is)
      case z88_n_len => exact PySem.W.mg_none_of KX G (by k_is)
      case z88_n_all => exact PySem.W.mg_none_of KX G (by k_is)
      case z88_n_list => exact PySem.W.mg_none_of KX G (by k_is)
      case z88_n_tuple => exact PySem.W.mg_none_of KX G (by k_is)
      case z88_n_dict => exact PySem.W.mg_none_of KX G (by k_is)
      case z88_n_zip => exact PySem.W.mg_none_of KX G (by k_is)
      case z88_n_sum => exact PySem.W.mg_none_of KX G (by k_is)
      case z88_n_enumerate => exact PySem.W.mg_none_of KX G (by k_is)
      case z88_n_sorted => exact PySem.W.mg_none_of KX G (by k_is)
      case z88_n_max => exact PySem.W.mg_none_of KX G (by k_is)
      case z88_n_leastN => exact Fl.int_mk KX G (by k_is)
      case z88_n_greatestN => exact Fl.int_mk KX G (by k_is)
      case z88_n_letters => exact Fl.int_mk KX G (by k_is)
      case z88_n_entry => exact Fl.int_mk KX G (by k_is)
      case z88_n_regs => exact Fl.int_mk KX G (by k_is)
      case z88_n_lines => exact Fl.int_mk KX G (by k_is)
      case z88_n_allL => exact Fl.int_mk KX G (by k_is)
      case z88_n_funs => exact Fl.int_mk KX G (by k_is)
    case z2_g2 =>
      refine' ⟨?z89_n_abs, ?z89_n_range, ?z89_n_min, ?z89_n_repr, ?z89_n_veE⟩
      case z89_n_abs => exact PySem.W.mg_none_of KX G (by k_is)
      case z89_n_range => exact PySem.W.mg_none_of KX G (by k_is)
      case z89_n_min => exact PySem.W.mg_none_of KX G (by k_is)
      case z89_n_repr => exact PySem.W.mg_none_of KX G (by k_is)
      case z89_n_veE => exact PySem.W.mg_none_of KX G (by k_is)
    case z2_g3 =>
      refine' ⟨?z90_n_any⟩
      case z90_n_any => exact PySem.W.mg_none_of KX G (by k_is)
    case z2_f1 =>
      refine' Fl.frm_mk KX G ?z91_ha ?z91_hl ?z91_hk ?z91_lo ?z91_ok
      case z91_ha => k_is
      case z91_hl => k_is
      case z91_hk => k_keys
      case z91_lo => first | rfl | decide
      case z91_ok => kernel_rfl
    case z2_f2 =>
      refine' ⟨?z92_jw, ?z92_sw, ?z92_cw, ?z92_ew⟩
      case z92_jw =>
        refine' Fl.tup_mk KX G ?z93_ha ?z93_ok
        case z93_ha => k_is
        case z93_ok => kernel_rfl
      case z92_sw =>
        refine' Fl.tup_mk KX G ?z94_ha ?z94_ok
        case z94_ha => k_is
        case z94_ok => kernel_rfl
      case z92_cw =>
        refine' Fl.tup_mk KX G ?z95_ha ?z95_ok
        case z95_ha => k_is
        case z95_ok => kernel_rfl
      case z92_ew =>
        refine' Fl.tup_mk KX G ?z96_ha ?z96_ok
        case z96_ha => k_is
        case z96_ok => kernel_rfl
