import PyProof.Rows.All
import HandS.ForMost
import HandS.ForExc
import HandS.IsInst
import HandS.TupAny
import HandS.TupMul
import HandS.Defaults
import HandS.Flow
import HandS.Style
import HandS.Zip
import HandS.Wide
import HandS.Walk
import HandS.Strs
import HandS.TryMany
import HandS.DeepEq
import HandS.MakeKw
import HandS.FStr
import HandS.Conv
import HandS.ListItems
import HandS.StrMore
import PyProof.TypeEq
import PyProof.Draws
import KE.GoesMore
import HandS.MakeKwOnly
import KE.KExcSuper
import HandS.ExcInit
import HandS.ExcCtx
import HandS.HotCalls
import HandS.ExcIs
import HandS.ExcField
import KE.KExcIs
import Wide.All
import OpenK.AllK
import Wide.FinOn
import KE.KStateDown
import KE.KSuper
import HandS.Base
import HandS.Call
import HandS.List
import HandS.Dict
import HandS.More
import HandS.Exc
import HandS.Head0
import HandS.Head1
import HandS.Head2
import HandS.HeadHook1
import HandS.HeadHook2
import HandS.HeadHook3
import HandS.HeadEnd
import PySem.Challenge.RW_papertongue_k03_tokens_refused
set_option Elab.async false
set_option linter.all false
set_option maxRecDepth 100000
set_option maxHeartbeats 4000000
namespace Lay
open PySem PySem.Spec PyProof.Rows L2
/-- what all contexts of a text share -/
structure LX (P : Program) (w : World) (K : PySem.W.Frag) (X : Cx) : Prop where
  prog : X.prog = P
  w : X.w = w
  K : X.K = K
  calm : X.calm = true
  un : X.A.units + 64 < cLine
section
variable {P : Program} {w : World} {K : PySem.W.Frag} {X : Cx}
theorem LX.b (L : LX P w K X) {s : Shared} {H : Hp} {sc : Scope} {ce : Env} {fp : List Addr} : LX P w K (X.blk s H sc ce fp) := ⟨L.prog, L.w, L.K, L.calm, L.un⟩
theorem LX.n (L : LX P w K X) : LX P w K X.nox := ⟨L.prog, L.w, L.K, L.calm, L.un⟩
/-! ### leaves: a rule is chosen where the values are known -/
def sB (P : Program) (w : World) (K : PySem.W.Frag) (f : Value → Value → Sem Value) : R2 := fun x y H Q => ∃ r : R2, (∀ X, LX P w K X → OpR X f r) ∧ r x y H Q
theorem ob {f : Value → Value → Sem Value} (L : LX P w K X) : OpR X f (sB P w K f) := by
  intro pins s σ H x y v u Q I rx ry h
  obtain ⟨r, hr, q⟩ := h
  exact hr X L pins s σ H x y v u Q I rx ry q
abbrev op_ {f : Value → Value → Sem Value} (L : LX P w K X) := @ob P w K X f L
def sU (P : Program) (w : World) (K : PySem.W.Frag) (f : Value → Sem Value) : V → Hp → VK → Prop := fun x H Q => ∃ r : V → Hp → VK → Prop, (∀ X, LX P w K X → UnR X f r) ∧ r x H Q
theorem ou {f : Value → Sem Value} (L : LX P w K X) : UnR X f (sU P w K f) := by
  intro pins s σ H x v Q I rx h
  obtain ⟨r, hr, q⟩ := h
  exact hr X L pins s σ H x v Q I rx q
def sC (P : Program) (w : World) (K : PySem.W.Frag) (f : Value) : List V → Hp → VK → Prop := fun xs H Q => ∃ r : List V → Hp → VK → Prop, (∀ X, LX P w K X → CallR X f r) ∧ r xs H Q
theorem oc {f : Value} (L : LX P w K X) : CallR X f (sC P w K f) := by
  intro pins s σ H xs us Q I rx h
  obtain ⟨r, hr, q⟩ := h
  exact hr X L pins s σ H xs us Q I rx q
def sM (P : Program) (w : World) (K : PySem.W.Frag) (id : String) : V → List V → Hp → VK → Prop := fun x xs H Q => ∃ r : V → List V → Hp → VK → Prop, (∀ X, LX P w K X → MtR X id r) ∧ r x xs H Q
theorem om {id : String} (L : LX P w K X) : MtR X id (sM P w K id) := by
  intro pins s σ H x xs v us Q I rx rs h
  obtain ⟨r, hr, q⟩ := h
  exact hr X L pins s σ H x xs v us Q I rx rs q
def sI (P : Program) (w : World) (K : PySem.W.Frag) : R2 := fun x y H Q => ∃ r : R2, (∀ X, LX P w K X → IxR X r) ∧ r x y H Q
theorem oi (L : LX P w K X) : IxR X (sI P w K) := by
  intro value slice pins s σ H x y v u Q I rx ry h hs
  obtain ⟨r, hr, q⟩ := h
  exact hr X L value slice pins s σ H x y v u Q I rx ry q hs
def sSl (P : Program) (w : World) (K : PySem.W.Frag) : V → Option Int → Option Int → Hp → VK → Prop := fun x lo hi H Q => ∃ r : V → Option Int → Option Int → Hp → VK → Prop, (∀ X, LX P w K X → SlR X r) ∧ r x lo hi H Q
def sSet (P : Program) (w : World) (K : PySem.W.Frag) : TSet := fun o i v H Q => ∃ r : TSet, (∀ X, LX P w K X → PSet X r) ∧ r o i v H Q
theorem ose (L : LX P w K X) : PSet X (sSet P w K) := by
  intro pins s σ H o i v ov iv u Q I r1 r2 r3 h
  obtain ⟨r, hr, q⟩ := h
  exact hr X L pins s σ H o i v ov iv u Q I r1 r2 r3 q
def sIp (P : Program) (w : World) (K : PySem.W.Frag) (op : Operator) : TIp := fun x y H Q => ∃ r : TIp, (∀ X, LX P w K X → PIp X op r) ∧ r x y H Q
theorem oip {op : Operator} (L : LX P w K X) : PIp X op (sIp P w K op) := by
  intro pins s σ H x y v u Q I r1 r2 h
  obtain ⟨r, hr, q⟩ := h
  exact hr X L pins s σ H x y v u Q I r1 r2 q
theorem osl (L : LX P w K X) : SlR X (sSl P w K) := by
  intro pins s σ H x v vl vu lo hi sl Q I rx hs pl pu h
  obtain ⟨r, hr, q⟩ := h
  exact hr X L pins s σ H x v vl vu lo hi sl Q I rx hs pl pu q
end
/-! ### what is asked where the values are known -/
section
variable {P : Program} {w : World} {K : PySem.W.Frag} {H : Hp} {Q : VK} {i j : Int} {x y : V} {a b : Addr} {xs ys : List V} {u v : Str}
theorem b_add (q : Q (.int (i + j)) H) : sB P w K (binaryOp .Add) (.int i) (.int j) H Q := ⟨_, fun _ _ => op_add, i, j, rfl, rfl, q⟩
theorem b_sub (q : Q (.int (i - j)) H) : sB P w K (binaryOp .Sub) (.int i) (.int j) H Q := ⟨_, fun _ _ => op_sub, i, j, rfl, rfl, q⟩
theorem b_mul (h : CMul i j) (q : Q (.int (i * j)) H) : sB P w K (binaryOp .Mult) (.int i) (.int j) H Q := ⟨_, fun _ _ => op_mul, i, j, rfl, rfl, h, q⟩
theorem b_mod (h : 0 < j) (q : Q (.int (i % j)) H) : sB P w K (binaryOp .Mod) (.int i) (.int j) H Q := ⟨_, fun _ _ => op_mod, i, j, rfl, rfl, h, q⟩
theorem b_fdiv (h : CDiv i j) (q : Q (.int (i / j)) H) : sB P w K (binaryOp .FloorDiv) (.int i) (.int j) H Q := ⟨_, fun _ _ => op_fdiv, i, j, rfl, rfl, h, q⟩
theorem b_pow (h : CPow i j) (q : Q (.int (i ^ j.toNat)) H) : sB P w K (binaryOp .Pow) (.int i) (.int j) H Q := ⟨_, fun _ _ => op_pow, i, j, rfl, rfl, h, q⟩
theorem b_adds (h : u.length + v.length ≤ sizeLine) (q : Q (.str (u ++ v)) H) : sB P w K (binaryOp .Add) (.str u) (.str v) H Q := ⟨_, fun _ _ => op_add_str, u, v, rfl, rfl, h, q⟩
theorem b_cat (h1 : H a = some (.lst xs)) (h2 : H b = some (.lst ys)) (hz : xs.length + ys.length ≤ sizeLine) (q : ∀ p, H p = none → Q (.ref p) (upd H p (.lst (xs ++ ys)))) : sB P w K (binaryOp .Add) (.ref a) (.ref b) H Q :=
  ⟨_, fun _ _ => op_cat, a, b, xs, ys, rfl, rfl, h1, h2, hz, q⟩
/-- tuples together: some address holds both -/
theorem b_catT (h1 : SqT K H a xs) (h2 : SqT K H b ys) (hz : xs.length + ys.length ≤ sizeLine) (q : ∀ p H', Same H H' → SqT K H' p (xs ++ ys) → Q (.ref p) H') : sB P w K (binaryOp .Add) (.ref a) (.ref b) H Q := by
  refine ⟨rCatA K, fun X L => L.K ▸ op_catA, a, b, xs, ys, rfl, rfl, h1, h2, hz, fun e => ?_, fun _ e => ?_, fun _ _ p hp => ?_⟩
  · subst e
    exact q b H (Same.refl H) h2
  · subst e
    exact q a H (Same.refl H) (by rw [List.append_nil]; exact h1)
  · exact q p _ (fun c o e => by rw [upd_ne (ne_of_none e hp)]; exact e) (SqT.of upd_same)
theorem b_rep {n : Int} (h1 : H a = some (.lst xs)) (h2 : -(2 ^ 63) ≤ n) (h3 : n < 2 ^ 63) (hz : xs.length * n.toNat ≤ sizeLine) (q : ∀ p, H p = none → Q (.ref p) (upd H p (.lst (List.replicate n.toNat xs).flatten))) : sB P w K (binaryOp .Mult) (.ref a) (.int n) H Q :=
  ⟨_, fun _ _ => op_rep, a, n, xs, rfl, rfl, h1, h2, h3, hz, q⟩
theorem c_lt (q : Q (.bl (decide (i < j))) H) : sB P w K (compareOp .Lt) (.int i) (.int j) H Q := ⟨_, fun _ _ => op_lt, i, j, rfl, rfl, q⟩
theorem c_le (q : Q (.bl (decide (i ≤ j))) H) : sB P w K (compareOp .LtE) (.int i) (.int j) H Q := ⟨_, fun _ _ => op_le, i, j, rfl, rfl, q⟩
theorem c_gt (q : Q (.bl (decide (j < i))) H) : sB P w K (compareOp .Gt) (.int i) (.int j) H Q := ⟨_, fun _ _ => op_gt, i, j, rfl, rfl, q⟩
theorem c_ge (q : Q (.bl (decide (j ≤ i))) H) : sB P w K (compareOp .GtE) (.int i) (.int j) H Q := ⟨_, fun _ _ => op_ge, i, j, rfl, rfl, q⟩
theorem c_eq (h : scal x y = true) (q : Q (.bl (decide (x = y))) H) : sB P w K (compareOp .Eq) x y H Q := ⟨_, fun _ _ => op_eq, h, q⟩
theorem c_ne (h : scal x y = true) (q : Q (.bl (!decide (x = y))) H) : sB P w K (compareOp .NotEq) x y H Q := ⟨_, fun _ _ => op_ne, h, q⟩
theorem c_isN (q : Q (.bl (decide (x = .non))) H) : sB P w K (compareOp .Is) x .non H Q := ⟨_, fun _ _ => op_isN, rfl, q⟩
theorem c_notN (q : Q (.bl (!decide (x = .non))) H) : sB P w K (compareOp .IsNot) x .non H Q := ⟨_, fun _ _ => op_notN, rfl, q⟩
theorem c_isB {c d : Bool} (q : Q (.bl (decide (c = d))) H) : sB P w K (compareOp .Is) (.bl c) (.bl d) H Q := ⟨_, fun _ _ => op_isBl, c, d, rfl, rfl, q⟩
theorem c_in (h : SqL K H a xs ∨ SqT K H a xs) (hx : flatV x = true) (hs : xs.all flatV = true) (q : Q (.bl (inV x xs)) H) : sB P w K (compareOp .In) x (.ref a) H Q := ⟨rIn K false, fun X L => L.K ▸ op_in_seq, a, xs, rfl, h, hx, hs, q⟩
theorem c_notin (h : SqL K H a xs ∨ SqT K H a xs) (hx : flatV x = true) (hs : xs.all flatV = true) (q : Q (.bl (!inV x xs)) H) : sB P w K (compareOp .NotIn) x (.ref a) H Q := ⟨rIn K true, fun X L => L.K ▸ op_notIn_seq, a, xs, rfl, h, hx, hs, q⟩
theorem c_insign {c : Nat} (q : Q (.bl (decide (c ∈ v.cps.toList))) H) : sB P w K (compareOp .In) (.str ⟨#[c]⟩) (.str v) H Q := ⟨_, fun _ _ => op_in_sign, c, v, rfl, rfl, q⟩
theorem i_lst (h : SqL K H a xs) (hi : atI xs i = some x) (q : Q x H) : sI P w K (.ref a) (.int i) H Q := ⟨rIxL K, fun X L => L.K ▸ ix_list, a, xs, i, x, rfl, rfl, h, hi, q⟩
theorem i_tup (h : SqT K H a xs) (hi : atI xs i = some x) (q : Q x H) : sI P w K (.ref a) (.int i) H Q := ⟨rIxT K, fun X L => L.K ▸ ix_tup, a, xs, i, x, rfl, rfl, h, hi, q⟩
theorem i_str {c : Nat} (hz : v.length ≤ sizeLine) (hi : atI v.cps.toList i = some c) (q : Q (.str ⟨#[c]⟩) H) : sI P w K (.str v) (.int i) H Q := ⟨rIxS, fun _ _ => ix_str, v, i, c, rfl, rfl, hz, hi, q⟩
theorem sl_l {lo hi : Option Int} (h : SqL K H a xs) (q : ∀ p, H p = none → Q (.ref p) (upd H p (.lst (cutV xs lo hi)))) : sSl P w K (.ref a) lo hi H Q := ⟨rSlL K, fun X L => L.K ▸ sl_list, a, xs, rfl, h, q⟩
theorem sl_s {lo hi : Option Int} (hz : v.length ≤ sizeLine) (q : Q (.str (cutS v lo hi)) H) : sSl P w K (.str v) lo hi H Q := ⟨rSlS, fun _ _ => sl_str, v, rfl, hz, q⟩
theorem cutV_whole {lo hi : Option Int} (h : HT.sIx xs.length 0 lo = 0 ∧ HT.sIx xs.length xs.length hi = xs.length) : cutV xs lo hi = xs := by
  unfold cutV
  rw [h.1, h.2, List.drop_zero, Nat.sub_zero, List.take_length]
theorem sl_t {lo hi : Option Int} (h : SqT K H a xs) (q : ∀ p H', Same H H' → SqT K H' p (cutV xs lo hi) → Q (.ref p) H') : sSl P w K (.ref a) lo hi H Q := by
  refine ⟨rSlA K, fun X L => L.K ▸ sl_tupA, a, xs, rfl, h, fun e => ?_, fun _ p hp => ?_⟩
  · exact q a H (Same.refl H) (by rw [cutV_whole e]; exact h)
  · exact q p _ (fun c o e => by rw [upd_ne (ne_of_none e hp)]; exact e) (SqT.of upd_same)
theorem st_l {k : Nat} {Q : Hp → Prop} (h : H a = some (.lst xs)) (hi : ixN xs.length i = some k) (q : Q (upd H a (.lst (xs.set k x)))) : sSet P w K (.ref a) (.int i) x H Q := ⟨rSetL, fun _ _ => set_list, a, xs, i, k, rfl, rfl, h, hi, q⟩
theorem k_lenl (h : SqL K H a xs ∨ SqT K H a xs) (q : Q (.int xs.length) H) : sC P w K (.builtin "len") [.ref a] H Q := ⟨_, fun X L => L.K ▸ call_len_seq, a, xs, rfl, h, q⟩
theorem k_lens (hz : v.length ≤ sizeLine) (q : Q (.int v.length) H) : sC P w K (.builtin "len") [.str v] H Q := ⟨_, fun _ _ => call_len_str, v, rfl, hz, q⟩
theorem k_int (q : Q (.int i) H) : sC P w K (.type "int") [.int i] H Q := ⟨_, fun _ _ => call_int1, .inl ⟨i, rfl, q⟩⟩
theorem k_intb {c : Bool} (q : Q (.int (if c then 1 else 0)) H) : sC P w K (.type "int") [.bl c] H Q := ⟨_, fun _ _ => call_int1, .inr ⟨c, rfl, q⟩⟩
theorem k_max (q : Q (.int (if j > i then j else i)) H) : sC P w K (.builtin "max") [.int i, .int j] H Q := ⟨_, fun X L => call_max2 L.calm, i, j, rfl, q⟩
theorem k_min (q : Q (.int (if j < i then j else i)) H) : sC P w K (.builtin "min") [.int i, .int j] H Q := ⟨_, fun X L => call_min2 L.calm, i, j, rfl, q⟩
theorem k_all {bs : List Bool} (h : SqL K H a (bs.map V.bl)) (q : Q (.bl (bs.all id)) H) : sC P w K (.builtin "all") [.ref a] H Q := ⟨rAll K, fun X L => L.K ▸ cr_all L.calm, a, bs, rfl, h, q⟩
theorem k_any {bs : List Bool} (h : SqL K H a (bs.map V.bl)) (q : Q (.bl (bs.any id)) H) : sC P w K (.builtin "any") [.ref a] H Q := ⟨rAny K, fun X L => L.K ▸ cr_any L.calm, a, bs, rfl, h, q⟩
theorem k_tupL (h : SqL K H a xs) (q : ∀ p, H p = none → Q (.ref p) (upd H p (.tup xs))) : sC P w K (.type "tuple") [.ref a] H Q := ⟨_, fun X L => L.K ▸ call_tuple_of, a, xs, rfl, .inl ⟨h, q⟩⟩
theorem k_tupT (h : SqT K H a xs) (q : Q (.ref a) H) : sC P w K (.type "tuple") [.ref a] H Q := ⟨_, fun X L => L.K ▸ call_tuple_of, a, xs, rfl, .inr ⟨h, q⟩⟩
theorem k_lst (h : SqL K H a xs ∨ SqT K H a xs) (q : ∀ p, H p = none → Q (.ref p) (upd H p (.lst xs))) : sC P w K (.type "list") [.ref a] H Q := ⟨_, fun X L => L.K ▸ call_list_of, a, xs, rfl, h, q⟩
theorem k_isi {t t' : Value} {c : Bool} (hc : ClsV y t') (ht : TyX K H x t) (hk : PySem.W.kitOne K t t' = some c) (q : Q (.bl c) H) : sC P w K (.builtin "isinstance") [x, y] H Q := ⟨rIsi K, fun X L => L.K ▸ call_isi, x, y, t, t', c, rfl, hc, ht, hk, q⟩
theorem m_join {p : Addr} {zs : List Str} (h : SqL K H p (zs.map V.str) ∨ SqT K H p (zs.map V.str)) (hz : (zs.map (·.length)).sum + zs.length * v.length ≤ 16777216) (q : Q (.str (Txt.join v zs)) H) : sM P w K "str.join" (.str v) [.ref p] H Q :=
  ⟨_, fun X L => L.K ▸ mt_join, v, p, zs, rfl, rfl, h, hz, q⟩
theorem m_split (h1 : (u.length == 0) = false) (h2 : v.length + 2 ≤ sizeLine) (q : rNewStrs (Txt.split v u) H Q) : sM P w K "str.split" (.str v) [.str u] H Q := ⟨_, fun _ _ => mt_split, v, u, rfl, rfl, h1, h2, q⟩
theorem u_neg (q : Q (.int (-i)) H) : sU P w K (unaryOp .USub) (.int i) H Q := ⟨_, fun _ _ => un_neg, i, rfl, q⟩
/-! ### combinators -/
variable {σ : L2.St} {ta tb : TE} {t : TT}
theorem r_var {n : Nat} (h : σ[n]? = some (some x)) (q : Q x H) : tVar n σ H Q := ⟨x, h, q⟩
theorem r_c (q : Q x H) : tC x σ H Q := q
theorem r_op {r : R2} (q : ta σ H fun x H1 => tb σ H1 fun y H2 => r x y H2 Q) : tOp r ta tb σ H Q := q
theorem r_un {r : V → Hp → VK → Prop} (q : ta σ H fun x H1 => r x H1 Q) : tUn r ta σ H Q := q
theorem r_cons {tr : TA} {Q : List V → Hp → Prop} (q : ta σ H fun x H1 => tr σ H1 fun xs H2 => Q (x :: xs) H2) : tCons ta tr σ H Q := q
theorem r_nil {Q : List V → Hp → Prop} (q : Q [] H) : tNil σ H Q := q
theorem r_cb {r : List V → Hp → VK → Prop} {tr : TA} (q : tr σ H fun vs H1 => r vs H1 Q) : tCB r tr σ H Q := q
theorem r_tup {tr : TA} (q : tr σ H fun xs H1 => xs.length ≤ sizeLine ∧ ∀ p, H1 p = none → Q (.ref p) (upd H1 p (.tup xs))) : tTup tr σ H Q := q
theorem r_lst {tr : TA} (q : tr σ H fun xs H1 => xs.length ≤ sizeLine ∧ ∀ p, H1 p = none → Q (.ref p) (upd H1 p (.lst xs))) : tLst tr σ H Q := q
theorem r_call {sp : Sp} {dvs : List V} {E : XK} {tr : TA} (q : tr σ H fun vs H1 => sp (vs ++ dvs) H1 Q E) : tCall sp dvs E tr σ H Q := q
theorem r_test {Q : Bool → Hp → Prop} (q : ta σ H fun x H1 => ∃ k, x = .bl k ∧ Q k H1) : tTest ta σ H Q := q
theorem r_if (q : t σ H fun c H1 => if c = true then ta σ H1 Q else tb σ H1 Q) : tIf t ta tb σ H Q := q
theorem r_not {Q : Bool → Hp → Prop} (q : t σ H fun c H1 => Q (!c) H1) : tNot t σ H Q := q
theorem r_bm {T : String} {r : V → List V → Hp → VK → Prop} {tr : TA} (q : ta σ H fun x H1 => tyV K T x H1 ∧ tr σ H1 fun xs H2 => r x xs H2 Q) : tBM K T r ta tr σ H Q := q
theorem r_sl {r : V → Option Int → Option Int → Hp → VK → Prop} {tl th : TO} (q : ta σ H fun x H1 => tl σ H1 fun l H2 => th σ H2 fun u H3 => r x l u H3 Q) : tSl r ta tl th σ H Q := q
theorem r_np {Q : Option Int → Hp → Prop} (q : Q none H) : tNoPart σ H Q := q
theorem r_part {Q : Option Int → Hp → Prop} (q : ta σ H fun x H1 => ∃ i, x = .int i ∧ Q (some i) H1) : tPart ta σ H Q := q
variable {D : Ends} {s1 s2 : TS} {g : TG} {nx bk ct : L2.St → Hp → Prop} {rt : VK}
theorem r_seq (q : s1 ⟨s2 ⟨nx, rt, bk, ct⟩, rt, bk, ct⟩ σ H) : tSeq s1 s2 ⟨nx, rt, bk, ct⟩ σ H := q
theorem r_asg (q : ta σ H fun x H1 => g x σ H1 nx) : tAsg ta g ⟨nx, rt, bk, ct⟩ σ H := q
theorem r_name {n : Nat} {Q : L2.St → Hp → Prop} (q : Q (σ.set n (some x)) H) : gName n x σ H Q := q
theorem r_ifs (q : t σ H fun b H1 => if b = true then s1 D σ H1 else s2 D σ H1) : tIfS t s1 s2 D σ H := q
theorem r_ret (q : ta σ H rt) : tRet ta ⟨nx, rt, bk, ct⟩ σ H := q
theorem r_next (q : nx σ H) : tNext ⟨nx, rt, bk, ct⟩ σ H := q
theorem r_brk (q : bk σ H) : tBreak ⟨nx, rt, bk, ct⟩ σ H := q
theorem r_cnt (q : ct σ H) : tCont ⟨nx, rt, bk, ct⟩ σ H := q
theorem r_par {n m : Nat} {tr : TA} (q : tr σ H fun vs H1 => ∃ v w, vs = [v, w] ∧ nx ((σ.set n (some v)).set m (some w)) H1) : tPar n m tr ⟨nx, rt, bk, ct⟩ σ H := q
theorem r_par3 {n m l : Nat} {tr : TA} (q : tr σ H fun vs H1 => ∃ u v w, vs = [u, v, w] ∧ nx (((σ.set n (some u)).set m (some v)).set l (some w)) H1) : tPar3 n m l tr ⟨nx, rt, bk, ct⟩ σ H := q
theorem r_sub {to ti : TE} {t : TSet} {v : V} {Q : L2.St → Hp → Prop} (q : to σ H fun o H1 => ti σ H1 fun i H2 => t o i v H2 fun H3 => Q σ H3) : gSub to ti t v σ H Q := q
theorem tru_b {c : Bool} {C : Bool → Prop} (q : C c) : ∃ k, TruV K (.bl c) H k ∧ C k := ⟨c, rfl, q⟩
end
/-! ### a def of the text -/
/-- it stands in the module under its name, its arguments bind -/
def Fn0 (K : PySem.W.Frag) (mg : Str → Option Value) (x : Str) (st : Stmt) (ps : List Str) : Prop := ∃ a fd, Fun K x x st a fd ∧ mg x = some (.ref a) ∧ Binds K fd ps []
/-- .. and keeps its promise -/
def FnG (P : Program) (w : World) (K : PySem.W.Frag) (mg : Str → Option Value) (base : Heap) (k : Nat) (x : Str) (ps : List Str) (sp : Sp) : Prop :=
  ∃ a fd, mg x = some (.ref a) ∧ PySem.W.keepIn K (.ref a) = true ∧ Binds K fd ps [] ∧ (∃ ob : Obj, K.lookup a = some ob ∧ ob.data = .func fd) ∧ FnOk P w K mg base CX0 k a fd ps sp
section
variable {P : Program} {w : World} {K : PySem.W.Frag} {mg : Str → Option Value} {base : Heap}
theorem Fn0.ok {x : Str} {st : Stmt} {N ps : List Str} {k : Nat} {sp : Sp} (F : Fn0 K mg x st ps) (S : FnScope N ps (defScope st)) (len : ∀ vs H Q E, sp vs H Q E → vs.length = ps.length)
    (body : ∀ (a : Addr) (cdv : Value) (A : Around) (outer : List Env) (s : Shared) (H : Hp) (vs : List V) (Q : VK) (E : XK), LX P w K (cxOf CX0 P w K mg base N x (defScope st) a cdv A outer s H E).nox →
      Room k (A.deeper (envOfC x (defScope st) s.heap.objs.size a cdv)) → sp vs H Q E →
      ∃ t, PSs (cxOf CX0 P w K mg base N x (defScope st) a cdv A outer s H E).nox (defBody st) t ∧ t { nx := fun _ H' => Q .non H', rt := Q } (start N vs) H) : FnG P w K mg base (k + 1) x ps sp := by
  obtain ⟨a, fd, F, hg, hb⟩ := F
  obtain ⟨oc, od, kV, doc, pm, an, cdv, ct, osl, _, lk, _⟩ := F.ex
  exact ⟨a, fd, hg, F.kp, hb, ⟨_, lk, rfl⟩, F.ok S len fun cdv A outer s H vs Q E hr h => body a cdv A outer s H vs Q E ⟨rfl, rfl, rfl, rfl, hr.units⟩ hr h⟩
end
section
variable {X : Cx} {k : Nat} {x : Str} {ps : List Str} {sp : Sp} {p pos : Pos} {e : Expr} {es : List Expr} {t : TA}
theorem pe_callG (F : FnG X.prog X.w X.K X.mg X.base k x ps sp) (hr : Room k X.A) (hg : Gl X x) (ha : PA X (e :: es) t) (hdb : (x == ("__debug__" : Str)) = false := by decide)
    (he : starEach (e :: es) X.env = (false, eval e X.env) :: starEach es X.env := by rfl) (hpl : (backTo pos (starEach es X.env)).any (·.1) = false := by rfl) : PE X (.Call (.Name x p) (e :: es) [] pos) (tCall sp [] E0 t) := by
  obtain ⟨a, fd, h1, h2, h3, _, h4⟩ := F
  exact pe_call h4 hr hg h1 h2 h3 .nil pass0 ha hdb he hpl
theorem pe_callG0 (F : FnG X.prog X.w X.K X.mg X.base k x ps sp) (hr : Room k X.A) (hg : Gl X x) (hdb : (x == ("__debug__" : Str)) = false := by decide) : PE X (.Call (.Name x p) [] [] pos) (tCall sp [] E0 tNil) := by
  obtain ⟨a, fd, h1, h2, h3, _, h4⟩ := F
  exact pe_call0 h4 hr hg h1 h2 h3 .nil pass0 hdb
end
end Lay

set_option Elab.async false
set_option linter.all false
set_option maxRecDepth 100000
set_option maxHeartbeats 4000000
namespace LayE
open PySem
open AutoSeq1 (wpAny_loadPart')
/-- enumerate made of a tuple -/
theorem made_tup (l : Addr) (items : Array Value) (n : Nat) (dd : Option Addr) (sl : Array (Option Value)) :
    Meets (Builtin.«enumerate.__new__» ⟨[.type "enumerate", .ref l], []⟩)
      (fun _ R s => s.heap.get? l = some { cls := .type "tuple", dict := dd, data := .seq items n, slots := sl } ∧
        R (.ok (.ret (.ref (s.heap.push { cls := .type "tuple_iterator", data := .fields #[.ref l, .int 0 0] }).objs.size)))
          { s with heap := (s.heap.push { cls := .type "tuple_iterator", data := .fields #[.ref l, .int 0 0] }).push { cls := .type "enumerate", data := .fields #[.none, .bool false, .ref s.heap.objs.size, rawInt 0, .none, .none] } }) :=
  .of_wp fun prog w A R s h => by
    obtain ⟨hp, g, d, tk, os⟩ := s
    obtain ⟨hl, h⟩ := h
    have hs := sub_enumerate
    have hT : Heap.IsTuple (Shared.heap ⟨hp, g, d, tk, os⟩) l items := ⟨_, hl, rfl, n, rfl⟩
    wp_walk using wpAny_loadPart' hl
    refine wpAny_stack_any fun st => wpAny_pure ?_
    split
    · rename_i c _ _ _ _ _
      cases (c == Value.type "enumerate") <;>
        (wp_walk using wpAny_loadPart' hl, wpAny_pyIter_tuple hT
         exact ⟨_, rfl, h⟩)
    · wp_walk using wpAny_loadPart' hl, wpAny_pyIter_tuple hT
      exact ⟨_, rfl, h⟩
section
variable {prog : Program} {w : World} {A : Around} {E : Value → Shared → Prop} {s : Shared}
theorem call_enum_tup {l : Addr} {items : Array Value} {Q : Value → Shared → Prop} (hL : s.heap.IsTuple l items)
    (h : ∀ h', IsEnum h' (s.heap.objs.size + 1) s.heap.objs.size 0 .none → h'.IsTupleIter s.heap.objs.size l 0 → (∀ b o, s.heap.get? b = some o → h'.get? b = some o) → Q (.ref (s.heap.objs.size + 1)) { s with heap := h' }) :
    wpAny (model prog w) A (call (.type "enumerate") [.ref l]) Q E s := by
  obtain ⟨⟨c, dct, dt, sl⟩, hl, hc, n, hd⟩ := hL
  obtain rfl : c = .type "tuple" := hc
  obtain rfl : dt = .seq items n := hd
  refine callType_new F.called_enumerate (by decide) (F.typeCall_enumerate_1 _) (F.newCall_enumerate_1 _) (fun obj => F.args_object_init_2 obj _) F.entry_enumerate_new (made_tup l items n dct sl) ⟨hl, ?_⟩
  generalize e1 : s.heap.push { cls := .type "tuple_iterator", data := .fields #[.ref l, .int 0 0] } = h1
  have z1 : h1.objs.size = s.heap.objs.size + 1 := by rw [← e1, Heap.size_push]
  have g1 : h1.get? s.heap.objs.size = some { cls := .type "tuple_iterator", data := .fields #[.ref l, .int 0 0] } := by
    rw [← e1]
    exact Heap.get?_push_size _ rfl
  have k1 : ∀ b o, s.heap.get? b = some o → h1.get? b = some o := fun b o q => by
    rw [← e1]
    exact Heap.get?_push_of_some _ q
  rw [z1]
  have he : IsEnum (h1.push { cls := .type "enumerate", data := .fields #[.none, .bool false, .ref s.heap.objs.size, rawInt 0, .none, .none] }) (s.heap.objs.size + 1) s.heap.objs.size 0 .none := by
    rw [← z1]
    exact Heap.get?_push_size _ rfl
  exact ⟨⟨_, he, rfl⟩, h _ he ⟨_, Heap.get?_push_of_some _ g1, rfl, rfl⟩ fun b o q => Heap.get?_push_of_some _ (k1 b o q)⟩
end
end LayE
namespace Lay
open PySem PySem.Spec PyProof.Rows L2
/-- enumerate(tuple): the items in new pairs -/
def Itet (K : PySem.W.Frag) (a : Addr) : It :=
  ⟨fun i H => ∃ (xs : List V) (x : V), SqT K H a xs ∧ xs[i]? = some x,
   fun i H v H' => ∃ T x, v = .ref T ∧ H T = none ∧ H' = upd H T (.tup [.int (i : Nat), x]) ∧ ∀ xs, SqT K H a xs → xs[i]? = some x,
   fun i H => ∃ xs : List V, SqT K H a xs ∧ xs.length ≤ i⟩
theorem turn_enumT {P : Program} {w : World} {K : PySem.W.Frag} {elts : List Expr} {kk : Nat} {tpos : Pos} (a e it : Addr) :
    Turn P w K (.Tuple elts kk tpos) (Itet K a) [e, it] e (fun i h => (∃ old, IsEnum h e it ((i : Nat) : Int) old) ∧ h.IsTupleIter it a i ∧ e ≠ it) where
  mem := List.mem_cons_self
  obj := by
    intro i h st b hb
    obtain ⟨⟨old, he⟩, ⟨o, ho, _, hd⟩, _⟩ := st
    rcases List.mem_cons.mp hb with rfl | hb
    · exact ⟨_, he, fun v q => nomatch q⟩
    · obtain rfl := List.mem_singleton.mp hb
      exact ⟨o, ho, fun v q => by
        rw [hd] at q
        cases q⟩
  keep := by
    intro i h h' st k
    obtain ⟨⟨old, he⟩, hi, hne⟩ := st
    exact ⟨⟨old, k e List.mem_cons_self _ he⟩, hi.at fun o q => k it (List.mem_cons_of_mem _ List.mem_cons_self) o q, hne⟩
  item := by
    intro X hP hw hK hc i pins s σ H E I hf st hg
    subst hP hw hK
    obtain ⟨⟨old, he⟩, hit, hne⟩ := st
    obtain ⟨xs, x, hq, hx⟩ := hg
    obtain ⟨its, rv, p, hz⟩ := I.tuple hq
    obtain ⟨u, hu, ru⟩ := rv.get hx
    have pt : s.heap.IsTuple a its.toArray := p
    have hea : e ≠ a := by
      rintro rfl
      obtain ⟨o, ho, hoc, _⟩ := pt
      rw [he] at ho
      cases ho
      exact absurd (show Value.type "enumerate" = Value.type "tuple" from hoc) (by decide +kernel)
    have hia : a ≠ it := by
      rintro rfl
      obtain ⟨o, ho, hoc, _⟩ := pt
      obtain ⟨o2, ho2, hc2, _⟩ := hit
      rw [ho] at ho2
      cases ho2
      rw [hoc] at hc2
      exact absurd hc2 (by decide +kernel)
    have hel : e < s.heap.objs.size := Heap.lt_size he
    have hil : it < s.heap.objs.size := by
      obtain ⟨_, q, _⟩ := hit
      exact Heap.lt_size q
    have hlt : i < its.toArray.size := by
      obtain ⟨z, _⟩ := List.getElem?_eq_some_iff.mp hu
      simpa using z
    refine wpAny_pyNext_enum_itemD (Draws.tuple (prog := X.prog) (w := X.w) (A := X.A.in1) (show X.A.in1.handled = none from I.ok.hd hc) it a hia its.toArray) he ⟨hit, pt⟩ hlt hne (by simp [hne, hea]) fun y h' tk hy ho hst' hT hsz hk => ?_
    have ey : u = y := by
      have e1 : its.toArray[i]? = some u := by simpa using hu
      exact Option.some.inj (e1.symm.trans hy)
    subst ey
    refine ⟨_, rfl, wpAny_letOwnedTupleGo_enum (s := { s with heap := h', toks := tk + 1 }) ho fun h'' he' sb => ?_⟩
    have hT2 : h''.get? s.heap.objs.size = some { cls := .type "tuple", data := .seq #[.int i tk, u] } := (sb.2 _ (Nat.ne_of_gt hel)).trans hT
    have new : ObjOk X.prog X.w (upd H s.heap.objs.size (.tup [.int (i : Nat), x])) h'' s.heap.objs.size (.tup [.int (i : Nat), x]) :=
      ⟨by
        show 2 ≤ sizeLine
        decide, [.int i tk, u], .cons ⟨_, rfl⟩ (.cons ru .nil), ⟨_, hT2, rfl, _, rfl⟩⟩
    have I1 : Inv X pins σ (upd H s.heap.objs.size (.tup [.int (i : Nat), x])) { s with heap := h'', toks := tk + 1 } := by
      refine I.turnedNew (ch := [e, it]) (fun b ob hb q => ?_) hf (Nat.le_refl _) new
      have b1 : b ≠ e := fun z => hb (by simp [z])
      have b2 : b ≠ it := fun z => hb (by simp [z])
      exact (sb.2 b b1).trans (hk b ob b1 b2 q)
    refine ⟨.ref s.heap.objs.size, _, I1, rfl, ⟨_, x, rfl, I.hok.fresh (Nat.le_refl _), rfl, fun ys hy2 => ?_⟩, ⟨⟨u, ?_⟩, hst'.1.at fun o q => (sb.2 it (Ne.symm hne)).trans q, hne⟩, fun b hb => ?_⟩
    · rw [I.tuple_inj hy2 hq]
      exact hx
    · have e1 : ((i + 1 : Nat) : Int) = (i : Int) + 1 := by omega
      rw [e1]
      exact he'
    · have hb' : b < s.heap.objs.size := by
        rcases List.mem_cons.mp hb with rfl | hb2
        · exact hel
        · obtain rfl := List.mem_singleton.mp hb2
          exact hil
      rw [upd_ne (Nat.ne_of_lt hb')]
      exact (hf b hb).1
  done := by
    intro X hP hw hK hc i pins s σ H E I hf st hg
    subst hP hw hK
    obtain ⟨⟨old, he⟩, hit, hne⟩ := st
    obtain ⟨xs, hq, hx⟩ := hg
    obtain ⟨its, rv, p, hz⟩ := I.tuple hq
    have pt : s.heap.IsTuple a its.toArray := p
    obtain ⟨f0, f1, f2, f3, f4, f5⟩ := hf it (by simp)
    have hl := rv.length
    -- the inner iterator stands at its end
    have hT : s.TypeIs (.ref e) "enumerate" := ⟨_, he, rfl⟩
    unfold pyNext
    refine wpAny_bind (wpAny_attempt (wpAny_callSpecial?_slot (name := Str.ofString "__next__") hT F.slot_enumerate_next
      (wpAny_call_entry F.slot_enumerate_next hT F.entry_enumerate_next ?_ (F.args_enumerate_next_1 _))))
    show wpAny _ _ (field (.ref e) 2 >>= _) _ _ _
    refine wpAny_bind (wpAny_field he rfl (x := .ref it) rfl ?_)
    refine wpAny_bind (wpAny_nextOf_tuple_end (I.ok.hd hc) hit pt (by simp; omega) fun h' y hey hy => ?_)
    obtain ⟨o, ho, hoc⟩ := hy
    refine wpAny_bind (wpAny_isInstance (T := "StopIteration") (b := true) ⟨o, ho, hoc⟩ isSubtype_stop ?_)
    exact wpAny_pure ⟨rfl, I.turned (t' := s.toks) (fun b o hb q => hey b o hb q) f0 f1 f3 f4 f5⟩
  self := by
    intro A i s Q E st h
    obtain ⟨⟨_, he⟩, _⟩ := st
    exact wpAny_pyIter_enum he h
/-- enumerate of a list or a tuple -/
def iEnumA (K : PySem.W.Frag) (ta : TA) : TI := fun σ H R => ta σ H fun vs H1 => ∃ a xs, vs = [.ref a] ∧ ((SqL K H1 a xs ∧ R (Ite K a) H1) ∨ (SqT K H1 a xs ∧ R (Itet K a) H1))
theorem pi_enumA {X : Cx} {e : Expr} {ta : TA} {p pos tpos : Pos} {elts : List Expr} {kk : Nat} (hg : Gl X "enumerate") (hm : X.mg "enumerate" = none) (ha : PA X [e] ta) (hs : starEach [e] X.env = [(false, eval e X.env)] := by rfl) :
    PI X (.Tuple elts kk tpos) (.Call (.Name "enumerate" p) [e] [] pos) (iEnumA X.K ta) := by
  refine ⟨fun pins s σ H R I h => ?_⟩
  refine Call_ (ld_blt I hg hm boot_enumerate (PyProof.Rows.callWith_type1 (thn (ha.run pos pins s σ H _ I h) fun us s1 ⟨vs, H1, I1, r1, q1⟩ => ?_) hs rfl))
  obtain ⟨a, xs, ex, q⟩ := q1
  subst ex
  cases r1 with
  | cons r rr =>
    cases rr
    cases r
    have fp : ∀ b ∈ [s1.heap.objs.size + 1, s1.heap.objs.size], FpOk X pins H1 b := fun b hb => by
      have hle : s1.heap.objs.size ≤ b := by
        rcases List.mem_cons.mp hb with rfl | hb
        · exact Nat.le_add_right _ _
        · exact Nat.le_of_eq (List.mem_singleton.mp hb).symm
      exact I1.fpOk hle (I1.hok.fresh hle)
    rcases q with ⟨hq, q⟩ | ⟨hq, q⟩
    · obtain ⟨its, rv, p', hz⟩ := I1.list hq
      refine call_enumerate_list p'.isList fun h' he hit hsz hk => wpAny_pyIter_enum he ?_
      exact ⟨s1.heap.objs.size + 1, _, _, _, H1, rfl, I1.kept (t' := s1.toks) hk, turn_enum a (s1.heap.objs.size + 1) s1.heap.objs.size, ⟨⟨.none, he⟩, hit, Nat.succ_ne_self _⟩, fp, q⟩
    · obtain ⟨its, rv, p', hz⟩ := I1.tuple hq
      refine LayE.call_enum_tup (show s1.heap.IsTuple a its.toArray from p') fun h' he hit hk => wpAny_pyIter_enum he ?_
      exact ⟨s1.heap.objs.size + 1, _, _, _, H1, rfl, I1.kept (t' := s1.toks) hk, turn_enumT a (s1.heap.objs.size + 1) s1.heap.objs.size, ⟨⟨.none, he⟩, hit, Nat.succ_ne_self _⟩, fp, q⟩
theorem walk_enumT {K : PySem.W.Frag} {a : Addr} {xs : List V} : Walk (Itet K a) xs.length (fun H => SqT K H a xs) (YPair (fun i => some (.int (i : Nat))) (fun i => xs[i]?)) := by
  refine ⟨fun i _ hi q => ⟨xs, xs[i], q, by simp [hi]⟩, fun _ q => ⟨xs, q, Nat.le_refl _⟩, fun i H v H' _ q y => ?_⟩
  obtain ⟨T, x, h1, h2, h3, h4⟩ := y
  exact ⟨T, _, x, h1, h2, h3, rfl, h4 xs q⟩
/-- a list, a tuple or a text walked -/
def iSeq (K : PySem.W.Frag) (te : TE) : TI := fun σ H R => te σ H fun x H1 => (∃ a xs, x = .ref a ∧ SqL K H1 a xs ∧ R (Itl K a) H1) ∨ (∃ a xs, x = .ref a ∧ SqT K H1 a xs ∧ R (Itt K a) H1) ∨ ∃ z, x = .str z ∧ R (Its z) H1
theorem pi_seq {X : Cx} {tg e : Expr} {te : TE} (he : PE X e te) : PI X tg e (iSeq X.K te) := by
  refine ⟨fun pins s σ H R I h => ?_⟩
  refine thn (he.run pins s σ H _ I h) fun v s1 hh => ?_
  obtain ⟨x, H1, I1, r1, q1⟩ := hh
  have fp : ∀ b ∈ [s1.heap.objs.size], FpOk X pins H1 b := fun b hb => by
    obtain rfl := List.mem_singleton.mp hb
    exact I1.fpOk (Nat.le_refl _) (I1.hok.fresh (Nat.le_refl _))
  rcases q1 with ⟨a, xs, rfl, hq, q⟩ | ⟨a, xs, rfl, hq, q⟩ | ⟨z, rfl, q⟩
  · cases r1
    obtain ⟨its, rv, p, _⟩ := I1.list hq
    exact wpAny_pyIter_list p.isList ⟨_, _, _, _, H1, rfl, I1.kept (t' := s1.toks) fun b o e => Heap.get?_push_of_some _ e, turn_list a _, ⟨_, Heap.get?_push_size _ rfl, rfl, rfl⟩, fp, q⟩
  · cases r1
    obtain ⟨its, rv, p, _⟩ := I1.tuple hq
    exact wpAny_pyIter_tuple (show s1.heap.IsTuple a its.toArray from p) ⟨_, _, _, _, H1, rfl, I1.kept (t' := s1.toks) fun b o e => Heap.get?_push_of_some _ e, turn_tuple a _, ⟨_, Heap.get?_push_size _ rfl, rfl, rfl⟩, fp, q⟩
  · obtain ⟨t, rfl⟩ := r1
    by_cases ha : z.cps.all (· < 128) = true
    · exact wpAny_pyIter_ascii ha (pi_one (tk := s1.toks) I1 _ (turn_str _ z t "str_ascii_iterator" (.inl rfl)) ⟨_, Heap.get?_push_size _ rfl, rfl, rfl⟩ q)
    · exact wpAny_pyIter_wide (by simpa using ha) (pi_one (tk := s1.toks) I1 _ (turn_str _ z t "str_iterator" (.inr rfl)) ⟨_, Heap.get?_push_size _ rfl, rfl, rfl⟩ q)
end Lay

set_option Elab.async false
set_option linter.all false
set_option maxRecDepth 100000
set_option maxHeartbeats 4000000
namespace Lay
open PySem PySem.Spec PyProof.Rows L2
/-! ### type(x) == T -/
/-! ### a class of the text beside a built-in type -/
theorem eq_cls {prog : Program} {w : World} {A : Around} {E : Value → Shared → Prop} {s : Shared} {C : Addr} {T : String} {o : Obj} {Q : Value → Shared → Prop} (hu : A.units < cLine) (hC : s.heap.get? C = some o) (hc : o.cls = .type "type")
    (hT : ∀ s' : Shared, s'.TypeIs (.type T) "type") (q : Q (.bool false) s) : wpAny (model prog w) A (compareOp .Eq (.ref C) (.type T)) Q E s := by
  have ha : s.TypeIs (.ref C) "type" := ⟨o, hC, hc⟩
  have hne : (Value.ref C == Value.type T) = false := rfl
  have hne' : (Value.type T == Value.ref C) = false := rfl
  have one : wpAny (model prog w) A (tryCompare (.ref C) "__eq__" (.type T)) (fun r s' => r = none ∧ s' = s) E s :=
    wpAny_tryCompare_declines ha TypeEq.slot_type_eq (call_gives TypeEq.slot_type_eq ha F.entry_object_eq (F.args_object_eq_2 _ _) (TypeEq.object_eq_other rfl hne) ⟨rfl, rfl, rfl⟩)
  have two : wpAny (model prog w) A (tryCompare (.type T) "__eq__" (.ref C)) (fun r s' => r = none ∧ s' = s) E s :=
    wpAny_tryCompare_declines (hT s) TypeEq.slot_type_eq_refl (call_gives TypeEq.slot_type_eq_refl (hT s) F.entry_object_eq (F.args_object_eq_2 _ _) (TypeEq.object_eq_other rfl hne') ⟨rfl, rfl, rfl⟩)
  show wpAny _ A (richCompare .Eq _ _) Q E s
  simp only [richCompare, cmpInfo_Eq, oneThing_ref]
  refine wpAny_holding (wpAny_bind (wpAny_cRoomFor hu ?_))
  refine wpAny_bind (wpAny_typeOf ha ?_)
  refine wpAny_bind (wpAny_typeOf (hT s) ?_)
  simp only [bne_self_eq_false, Bool.false_eq_true, if_false, pure_bind, Bool.not_false, if_true]
  refine wpAny_bind (m := tryCompare (.ref C) _ (.type T)) (wpAny_mono one (fun r s1 z => ?_) fun _ _ e => e)
  obtain ⟨z1, z2⟩ := z
  subst z1
  subst z2
  refine wpAny_bind (m := tryCompare (.type T) _ (.ref C)) (wpAny_mono two (fun r s2 z => ?_) fun _ _ e => e)
  obtain ⟨z1, z2⟩ := z
  subst z1
  subst z2
  exact wpAny_bind (wpAny_rule (wpAny_bind (wpAny_of_eq (PySem.isSame_plain rfl) (wpAny_pure q))))
/-- a class of the text whose objects are no text, no tuple, no truth value -/
structure OwnC (K : PySem.W.Frag) (C : Addr) : Prop where
  cls : Cls K C
  cl : PySem.W.findIn K (.ref C) "__class__" = some (some (.builtin "object.__class__"))
  gt : PySem.W.specialIn K (.builtin "object.__class__") "__get__" = some (some (.builtin "getset_descriptor.__get__"))
  tk : PySem.W.takesIn K (.builtin "object.__class__") = some true
  ob : PySem.W.mroIn K C (.type "object") = some true
  ty : ∃ o : Obj, K.lookup C = some o ∧ o.cls = .type "type"
  ks : PySem.W.kitOne K (.ref C) (.type "str") = some false
  kt : PySem.W.kitOne K (.ref C) (.type "tuple") = some false
  kb : PySem.W.kitOne K (.ref C) (.type "bool") = some false

/-- a value's built-in type -/
inductive Tyb (K : PySem.W.Frag) (H : Hp) : V → String → Prop
  | non : Tyb K H .non "NoneType"
  | bl (b : Bool) : Tyb K H (.bl b) "bool"
  | int (i : Int) : Tyb K H (.int i) "int"
  | str (x : Str) : Tyb K H (.str x) "str"
  | lst {a : Addr} {xs : List V} (e : SqL K H a xs) : Tyb K H (.ref a) "list"
  | tup {a : Addr} {xs : List V} (e : SqT K H a xs) : Tyb K H (.ref a) "tuple"
  | dic {a : Addr} {kvs : List (Key × V)} (e : H a = some (.dK kvs)) : Tyb K H (.ref a) "dict"
  | own {a C dx : Addr} {fs : List (Str × V)} (e : H a = some (.ins C dx fs)) (c : OwnC K C) : Tyb K H (.ref a) "?own"
theorem Tyb.is {X : Cx} {pins : List (Addr × Obj)} {σ : L2.St} {H : Hp} {s : Shared} {x : V} {u : Value} {T : String} (t : Tyb X.K H x T) (I : Inv X pins σ H s) (r : RelV x u) (hT : T ≠ "?own") :
    s.TypeIs u T ∧ (Value.type T == Value.type "builtin_function_or_method") = false := by
  cases t with
  | non =>
    cases r
    exact ⟨rfl, by decide +kernel⟩
  | bl b =>
    cases r
    exact ⟨rfl, by decide +kernel⟩
  | int i =>
    obtain ⟨k, rfl⟩ := r
    exact ⟨rfl, by decide +kernel⟩
  | str z =>
    obtain ⟨k, rfl⟩ := r
    exact ⟨rfl, by decide +kernel⟩
  | lst e =>
    cases r
    obtain ⟨_, _, p, _⟩ := I.list e
    exact ⟨p.isList.typeIs, by decide +kernel⟩
  | tup e =>
    cases r
    obtain ⟨_, _, p, _⟩ := I.tuple e
    exact ⟨p.typeIs, by decide +kernel⟩
  | dic e =>
    cases r
    obtain ⟨_, _, vs, _, d⟩ := I.hok _ _ e
    exact ⟨d.typeIs, by decide +kernel⟩
  | own e c => exact absurd rfl hT
theorem Tyb.kx {K : PySem.W.Frag} {H : Hp} {x : V} {T : String} (t : Tyb K H x T) (hT : T ≠ "?own") : TyX K H x (.type T) := by
  cases t with
  | non => exact .base .non
  | bl b => exact .base (.bl b)
  | int i => exact .base (.int i)
  | str z => exact .base (.str z)
  | lst e =>
    rcases e with (e | ⟨o, e⟩) | ⟨o, its, n, h1, h2, _⟩
    · exact .base (.lst e)
    · exact .base (.frz e)
    · exact .kList h1 h2
  | tup e =>
    rcases e with (e | ⟨o, e⟩) | ⟨o, its, n, h1, h2, _⟩
    · exact .base (.tup e)
    · exact .fTuple e
    · exact .kTuple h1 h2
  | dic e => exact .base (.dK e)
  | own e c => exact absurd rfl hT
/-- what type(x) gives -/
def TyV (K : PySem.W.Frag) (v : V) (T : String) : Prop := (v = .ty T ∧ ∀ s' : Shared, s'.TypeIs (.type T) "type") ∨ (T = "?own" ∧ ∃ (C : Addr) (o : Obj), v = .ref C ∧ K.lookup C = some o ∧ o.cls = .type "type")
section
variable {P : Program} {w : World} {K : PySem.W.Frag} {H : Hp} {Q : VK} {x : V} {T U : String}
/-- a type whose own type is `type` -/
def Meta (T : String) : Prop := ∀ s' : Shared, s'.TypeIs (.type T) "type"
theorem meta_of {T : String} (t : Tyb K H x T) (hT : T ≠ "?own") : Meta T := by
  cases t with
  | non => exact TypeEq.meta_NoneType
  | bl b => exact TypeEq.meta_bool
  | int i => exact TypeEq.meta_int
  | str z => exact TypeEq.meta_str
  | lst e => exact TypeEq.meta_list
  | tup e => exact TypeEq.meta_tuple
  | dic e => exact TypeEq.meta_dict
  | own e c => exact absurd rfl hT
theorem k_type (t : Tyb K H x T) (q : ∀ v, TyV K v T → Q v H) : sC P w K (.type "type") [x] H Q := by
  by_cases hT : T = "?own"
  · subst hT
    have : ∃ (a C dx : Addr) (fs : List (Str × V)), x = .ref a ∧ H a = some (.ins C dx fs) ∧ OwnC K C := by
      generalize hU : "?own" = U at t
      cases t with
      | own e c => exact ⟨_, _, _, _, rfl, e, c⟩
      | _ => exact absurd hU (by decide)
    obtain ⟨a, C, dx, fs, rfl, e, c⟩ := this
    obtain ⟨o, o1, o2⟩ := c.ty
    have q2 := q (.ref C) (.inr ⟨rfl, C, o, rfl, o1, o2⟩)
    refine ⟨fun xs H Q => ∃ (a C dx : Addr) (fs : List (Str × V)), xs = [.ref a] ∧ H a = some (.ins C dx fs) ∧ Q (.ref C) H, fun X L => ?_, a, C, dx, fs, rfl, e, q2⟩
    intro pins s σ H xs us Q I r h
    obtain ⟨a, C, dx, fs, rfl, e, q⟩ := h
    obtain ⟨u, rfl, rx⟩ := vals1 r
    obtain rfl : u = Value.ref a := rx
    obtain ⟨_, _, _, ho, _⟩ := I.hok _ _ e
    obtain ⟨hh, g, d, t, os⟩ := s
    exact call_type_obj ho rfl ⟨.ref C, H, I, rfl, q⟩
  · refine ⟨fun xs H Q => ∃ x T, xs = [x] ∧ Tyb K H x T ∧ T ≠ "?own" ∧ Q (.ty T) H, fun X L => ?_, x, T, rfl, t, hT, q _ (.inl ⟨rfl, meta_of t hT⟩)⟩
    intro pins s σ H xs us Q I r h
    obtain ⟨x, T, rfl, t, hT, q⟩ := h
    obtain ⟨u, rfl, rx⟩ := vals1 r
    obtain ⟨h1, h2⟩ := (L.K ▸ t : Tyb X.K H x T).is I rx hT
    exact call_type_of h1 h2 ⟨.ty T, H, I, rfl, q⟩
theorem c_eqty {v : V} (h1 : TyV K v T) (h2 : Meta U) (hU : (U == "?own") = false) (q : Q (.bl (T == U)) H) : sB P w K (compareOp .Eq) v (.ty U) H Q := by
  rcases h1 with ⟨rfl, h1⟩ | ⟨rfl, C, o, rfl, hC, hc⟩
  · refine ⟨fun x y H Q => ∃ T U, x = .ty T ∧ y = .ty U ∧ Meta T ∧ Meta U ∧ Q (.bl (T == U)) H, fun X L => ?_, T, U, rfl, rfl, h1, h2, q⟩
    intro pins s σ H x y v u Q I rx ry h
    obtain ⟨T, U, rfl, rfl, h1, h2, q⟩ := h
    obtain rfl : v = Value.type T := rx
    obtain rfl : u = Value.type U := ry
    by_cases e : T = U
    · subst e
      refine TypeEq.eq_type_same h1 ⟨.bl true, H, I, rfl, ?_⟩
      rw [beq_self_eq_true] at q
      exact q
    · refine TypeEq.eq_type_other h1 h2 (beq_eq_false_iff_ne.mpr fun z => e (Value.type.inj z)) ⟨.bl false, H, I, rfl, ?_⟩
      rw [beq_eq_false_iff_ne.mpr e] at q
      exact q
  · have e : ("?own" == U) = false := beq_eq_false_iff_ne.mpr fun z => (beq_eq_false_iff_ne.mp hU) z.symm
    rw [e] at q
    refine ⟨fun x y H Q => ∃ C o U, x = .ref C ∧ y = .ty U ∧ K.lookup C = some o ∧ o.cls = .type "type" ∧ Meta U ∧ Q (.bl false) H, fun X L => ?_, C, o, U, rfl, rfl, hC, hc, h2, q⟩
    intro pins s σ H x y v u Q I rx ry h
    obtain ⟨C, o, U, rfl, rfl, hC, hc, h2, q⟩ := h
    obtain rfl : v = Value.ref C := rx
    obtain rfl : u = Value.type U := ry
    have := L.un
    exact eq_cls (by omega) (I.kIn _ _ (L.K ▸ hC)) hc h2 ⟨.bl false, H, I, rfl, q⟩
end
/-! ### text * number -/
theorem foldl_app (l : List Nat) : ∀ (n : Nat) (acc : Array Nat), ((List.replicate n l.toArray).foldl (· ++ ·) acc) = acc ++ (List.replicate n l).flatten.toArray
  | 0, acc => by simp
  | n + 1, acc => by
    rw [List.replicate_succ, List.replicate_succ, List.foldl_cons, foldl_app l n]
    simp [Array.append_assoc]
/-- z, n times -/
def repS (z : Str) (n : Nat) : Str := ⟨(List.replicate n z.cps.toList).flatten.toArray⟩
theorem repS_length (z : Str) (n : Nat) : (repS z n).length = n * z.length := by
  unfold repS Str.length
  simp
section
variable {P : Program} {w : World} {K : PySem.W.Frag} {H : Hp} {Q : VK}
theorem b_mulS {z : Str} {n : Int} (hn : n < 1000000) (hz : z.length ≤ 1000) (hl : -1000000 < n) (hm : z.length * n.toNat ≤ sizeLine) (q : Q (.str (repS z n.toNat)) H) : sB P w K (binaryOp .Mult) (.str z) (.int n) H Q := by
  refine ⟨fun x y H Q => ∃ (z : Str) (n : Int), x = .str z ∧ y = .int n ∧ n < 1000000 ∧ z.length ≤ 1000 ∧ -1000000 < n ∧ z.length * n.toNat ≤ sizeLine ∧ Q (.str (repS z n.toNat)) H, fun X L => ?_, z, n, rfl, rfl, hn, hz, hl, hm, q⟩
  intro pins s σ H x y v u Q I rx ry h
  obtain ⟨z, n, rfl, rfl, hn, hz, hl, hm, q⟩ := h
  obtain ⟨t, rfl⟩ := rx
  obtain ⟨t', rfl⟩ := ry
  have e0 : n < 1 → repS z n.toNat = Str.empty := fun h => by
    have : n.toNat = 0 := by omega
    rw [this]
    rfl
  refine PySem.P.mul_str ?_ ?_ ?_ ?_
  · rw [decide_eq_false (by omega), decide_eq_false (by omega)]
    rfl
  · intro h1 _ h2
    have h3 : (1000 : Int) ≤ (2 ^ 63 - 1) / n := Int.le_ediv_of_mul_le (by omega) (by omega)
    omega
  · intro _ _
    show decide (z.length * n.toNat > sizeLine) = false
    exact decide_eq_false (by omega)
  · by_cases h1 : n < 1
    · rw [if_pos h1]
      rw [e0 h1] at q
      exact ⟨by decide, .str Str.empty, H, I.tok _, ⟨_, rfl⟩, q⟩
    · rw [if_neg h1]
      by_cases h2 : (n == 1 || z.length == 0) = true
      · rw [if_pos h2]
        have e : repS z n.toNat = z := by
          have hz0 : z.length = 0 → repS z n.toNat = z := fun h => by
            have h3 : z.cps.toList = [] := by
              have : z.cps.toList.length = 0 := by simpa [Str.length] using h
              exact List.length_eq_zero_iff.mp this
            have h4 : z = ⟨#[]⟩ := by
              cases z with
              | mk c =>
                have : c = #[] := by simpa using h3
                rw [this]
            rw [h4]
            unfold repS
            simp
          rw [Bool.or_eq_true] at h2
          rcases h2 with h2 | h2
          · have : n = 1 := by simpa using h2
            subst this
            unfold repS
            simp
          · exact hz0 (by simpa using h2)
        rw [e] at q
        exact ⟨.str z, H, I, ⟨_, rfl⟩, q⟩
      · rw [if_neg h2]
        have e : (⟨(List.replicate n.toNat z.cps).foldl (· ++ ·) #[]⟩ : Str) = repS z n.toNat := by
          unfold repS
          have := foldl_app z.cps.toList n.toNat #[]
          simp only [Array.toArray_toList] at this
          rw [this]
          simp
        rw [e]
        refine ⟨?_, .str (repS z n.toNat), H, I.tok _, ⟨_, rfl⟩, q⟩
        rw [repS_length]
        rw [Nat.mul_comm] at hm
        exact hm
end
/-! ### calls with keywords alone, defaults -/
/-- n values by place, keywords ks: the parameters get gV of both -/
def FnGK (P : Program) (w : World) (K : PySem.W.Frag) (mg : Str → Option Value) (base : Heap) (k : Nat) (x : Str) (n : Nat) (ks : List Str) (gV : List V → List V → List V) (sp : Sp) : Prop :=
  ∃ a fd ps g, mg x = some (.ref a) ∧ PySem.W.keepIn K (.ref a) = true ∧ KBn K fd ps n ks g gV ∧ FnOk P w K mg base CX0 k a fd ps sp
/-- values by place, the defaults dvs behind -/
def FnGD (P : Program) (w : World) (K : PySem.W.Frag) (mg : Str → Option Value) (base : Heap) (k : Nat) (x : Str) (dvs : List V) (sp : Sp) : Prop :=
  ∃ a fd ps ds, mg x = some (.ref a) ∧ PySem.W.keepIn K (.ref a) = true ∧ Vals dvs ds ∧ Binds K fd ps ds ∧ FnOk P w K mg base CX0 k a fd ps sp
section
variable {X : Cx} {k n : Nat} {x : Str} {ks : List Str} {gV : List V → List V → List V} {dvs : List V} {sp : Sp} {p pos : Pos} {e : Expr} {es : List Expr} {kws : List Keyword} {t tk : TA}
theorem pe_callKw0 (F : FnGK X.prog X.w X.K X.mg X.base k x 0 ks gV sp) (hr : Room k X.A) (hg : Gl X x) (hkw : PK X kws tk) (hall : (backToKw pos (keywordEach kws X.env)).all (·.1.isSome) = true := by rfl)
    (hks : (backToKw pos (keywordEach kws X.env)).filterMap (·.1) = ks := by rfl) (hdb : (x == ("__debug__" : Str)) = false := by decide)
    (hpl : ((backTo pos (starEach [] X.env)).any (·.1) || (backToKw pos (keywordEach kws X.env)).any (·.1.isNone)) = false := by rfl) :
    PE X (.Call (.Name x p) [] kws pos) (tCallN 0 ks.length sp gV E0 tNil tk) := by
  obtain ⟨a, fd, ps, g, h1, h2, h3, h4⟩ := F
  refine ⟨fun pins s σ H Q I h => ?_⟩
  refine wpAny_Call_Name_kw (ld_glob I hg h1 ?_ hdb)
  refine PySem.W.callWith_KW0 (h₀ := X.base) I.ok.mod.kin h2 hall (thn (hkw.run pos pins s σ H _ I h) fun ws s2 hh => ?_) hpl
  obtain ⟨zs, H2, I2, rz, _, l2, q⟩ := hh
  refine ⟨I2.kIn, ?_⟩
  rw [hks]
  exact run_fnN (us := []) h4 hr h3 pass0 I2 .nil rz rfl l2 q
theorem pe_callKw (F : FnGK X.prog X.w X.K X.mg X.base k x n ks gV sp) (hr : Room k X.A) (hg : Gl X x) (ha : PA X (e :: es) t) (hkw : PK X kws tk) (hall : (backToKw pos (keywordEach kws X.env)).all (·.1.isSome) = true := by rfl)
    (hks : (backToKw pos (keywordEach kws X.env)).filterMap (·.1) = ks := by rfl) (hdb : (x == ("__debug__" : Str)) = false := by decide) (he : starEach (e :: es) X.env = (false, eval e X.env) :: starEach es X.env := by rfl)
    (hpl : ((backTo pos (starEach (e :: es) X.env)).any (·.1) || (backToKw pos (keywordEach kws X.env)).any (·.1.isNone)) = false := by rfl) :
    PE X (.Call (.Name x p) (e :: es) kws pos) (tCallN n ks.length sp gV E0 t tk) := by
  obtain ⟨a, fd, ps, g, h1, h2, h3, h4⟩ := F
  exact pe_callN h4 hr hg h1 h2 h3 pass0 ha hkw hall hks hdb he hpl
theorem pe_callD (F : FnGD X.prog X.w X.K X.mg X.base k x dvs sp) (hr : Room k X.A) (hg : Gl X x) (ha : PA X (e :: es) t) (hdb : (x == ("__debug__" : Str)) = false := by decide)
    (he : starEach (e :: es) X.env = (false, eval e X.env) :: starEach es X.env := by rfl) (hpl : (backTo pos (starEach es X.env)).any (·.1) = false := by rfl) : PE X (.Call (.Name x p) (e :: es) [] pos) (tCall sp dvs E0 t) := by
  obtain ⟨a, fd, ps, ds, h1, h2, h3, h4, h5⟩ := F
  exact pe_call h5 hr hg h1 h2 h4 h3 pass0 ha hdb he hpl
/-! ### names of the module -/
/-- it holds this value -/
def Gv (mg : Str → Option Value) (x : Str) (v : V) : Prop := ∃ u, mg x = some u ∧ RelV v u
theorem pe_gv {v : V} (h : Gv X.mg x v) (hg : Gl X x) (hd : (x == ("__debug__" : Str)) = false := by decide) : PE X (.Name x pos) (tC v) := by
  obtain ⟨u, h1, h2⟩ := h
  exact pe_glob hg h1 h2 hd
/-- it holds a tuple of these -/
def Gt (K : PySem.W.Frag) (mg : Str → Option Value) (x : Str) (xs : List V) : Prop := ∃ a, mg x = some (.ref a) ∧ ∀ H, SqT K H a xs
def tGt (K : PySem.W.Frag) (xs : List V) : TE := fun _ H Q => ∀ a, (∀ H, SqT K H a xs) → Q (.ref a) H
theorem pe_gt {xs : List V} (h : Gt X.K X.mg x xs) (hg : Gl X x) (hd : (x == ("__debug__" : Str)) = false := by decide) : PE X (.Name x pos) (tGt X.K xs) := by
  obtain ⟨a, h1, h2⟩ := h
  refine ⟨fun pins s σ H Q I q => ?_⟩
  exact (pe_glob (v := .ref a) hg h1 rfl hd).run pins s σ H Q I (q a h2)
/-- it holds a dict with text keys -/
def KD (K : PySem.W.Frag) (w : World) (d : Addr) (kv : List (Str × V)) : Prop := ∃ es n, KDict K w d es n ∧ ∀ p ∈ kv, ∃ u, PySem.W.nsIn K d p.1 = some (some u) ∧ RelV p.2 u
def KDno (K : PySem.W.Frag) (d : Addr) (z : Str) : Prop := PySem.W.nsIn K d z = some none
def Gd (K : PySem.W.Frag) (w : World) (mg : Str → Option Value) (x : Str) (kv : List (Str × V)) (no : List Str) : Prop := ∃ d, mg x = some (.ref d) ∧ KD K w d kv ∧ ∀ z ∈ no, KDno K d z
def tGd (K : PySem.W.Frag) (w : World) (kv : List (Str × V)) (no : List Str) : TE := fun _ H Q => ∀ d, KD K w d kv → (∀ z ∈ no, KDno K d z) → Q (.ref d) H
theorem pe_gd {kv : List (Str × V)} {no : List Str} (h : Gd X.K X.w X.mg x kv no) (hg : Gl X x) (hd : (x == ("__debug__" : Str)) = false := by decide) : PE X (.Name x pos) (tGd X.K X.w kv no) := by
  obtain ⟨d, h1, h2, h3⟩ := h
  refine ⟨fun pins s σ H Q I q => ?_⟩
  exact (pe_glob (v := .ref d) hg h1 rfl hd).run pins s σ H Q I (q d h2 h3)
end
section
variable {P : Program} {w : World} {K : PySem.W.Frag} {H : Hp} {Q : VK} {d : Addr} {kv : List (Str × V)} {z : Str} {v : V}
def rInD (K : PySem.W.Frag) (d : Addr) (neg : Bool) : R2 := fun x y H Q => ∃ (z : Str) (r : Option Value), x = .str z ∧ y = .ref d ∧ PySem.W.nsIn K d z = some r ∧ Q (.bl (if neg then !r.isSome else r.isSome)) H
theorem c_inkd (h : KD K w d kv) (m : (z, v) ∈ kv) (q : Q (.bl true) H) : sB P w K (compareOp .In) (.str z) (.ref d) H Q := by
  obtain ⟨es, n, D, f⟩ := h
  obtain ⟨u, e, _⟩ := f _ m
  refine ⟨rInD K d false, fun X L => ?_, z, some u, rfl, rfl, e, q⟩
  obtain ⟨rfl, rfl, rfl, _, _⟩ := L
  exact op_in_kd D
theorem c_notinkd (h : KD K w d kv) (m : (z, v) ∈ kv) (q : Q (.bl false) H) : sB P w K (compareOp .NotIn) (.str z) (.ref d) H Q := by
  obtain ⟨es, n, D, f⟩ := h
  obtain ⟨u, e, _⟩ := f _ m
  refine ⟨rInD K d true, fun X L => ?_, z, some u, rfl, rfl, e, q⟩
  obtain ⟨rfl, rfl, rfl, _, _⟩ := L
  exact op_notIn_kd D
theorem c_inkdF (h : KD K w d kv) (m : KDno K d z) (q : Q (.bl false) H) : sB P w K (compareOp .In) (.str z) (.ref d) H Q := by
  obtain ⟨es, n, D, f⟩ := h
  refine ⟨rInD K d false, fun X L => ?_, z, none, rfl, rfl, m, q⟩
  obtain ⟨rfl, rfl, rfl, _, _⟩ := L
  exact op_in_kd D
theorem c_notinkdT (h : KD K w d kv) (m : KDno K d z) (q : Q (.bl true) H) : sB P w K (compareOp .NotIn) (.str z) (.ref d) H Q := by
  obtain ⟨es, n, D, f⟩ := h
  refine ⟨rInD K d true, fun X L => ?_, z, none, rfl, rfl, m, q⟩
  obtain ⟨rfl, rfl, rfl, _, _⟩ := L
  exact op_notIn_kd D
theorem i_kd (h : KD K w d kv) (m : (z, v) ∈ kv) (q : Q v H) : sI P w K (.ref d) (.str z) H Q := by
  obtain ⟨es, n, D, f⟩ := h
  obtain ⟨u, e, r⟩ := f _ m
  refine ⟨rIxD K w, fun X L => ?_, d, z, v, rfl, rfl, ⟨es, n, u, D.at_, D.lit, e, r⟩, q⟩
  obtain ⟨rfl, rfl, rfl, _, _⟩ := L
  exact ix_kdict
end
end Lay

set_option Elab.async false
set_option linter.all false
set_option maxRecDepth 100000
set_option maxHeartbeats 4000000
namespace Lay
open PySem PySem.Spec PyProof.Rows L2
/-! ### built-ins by their names -/
theorem bt_len : bootBuiltins "len" = some (.builtin "len") := by decide +kernel
theorem bt_all : bootBuiltins "all" = some (.builtin "all") := by decide +kernel
theorem bt_any : bootBuiltins "any" = some (.builtin "any") := by decide +kernel
theorem bt_isinstance : bootBuiltins "isinstance" = some (.builtin "isinstance") := by decide +kernel
theorem bt_max : bootBuiltins "max" = some (.builtin "max") := by decide +kernel
theorem bt_min : bootBuiltins "min" = some (.builtin "min") := by decide +kernel
theorem bt_repr : bootBuiltins "repr" = some (.builtin "repr") := by decide +kernel
theorem bt_sorted : bootBuiltins "sorted" = some (.builtin "sorted") := by decide +kernel
theorem bt_sum : bootBuiltins "sum" = some (.builtin "sum") := by decide +kernel
theorem bt_str : bootBuiltins "str" = some (.type "str") := by decide +kernel
theorem bt_tuple : bootBuiltins "tuple" = some (.type "tuple") := by decide +kernel
theorem bt_list : bootBuiltins "list" = some (.type "list") := by decide +kernel
theorem bt_int : bootBuiltins "int" = some (.type "int") := by decide +kernel
theorem bt_bool : bootBuiltins "bool" = some (.type "bool") := by decide +kernel
theorem bt_dict : bootBuiltins "dict" = some (.type "dict") := by decide +kernel
theorem bt_type : bootBuiltins "type" = some (.type "type") := by decide +kernel
/-- the module has no names of its own for these -/
structure Md (mg : Str → Option Value) : Prop where
  len_ : mg "len" = none
  all_ : mg "all" = none
  any_ : mg "any" = none
  isinstance_ : mg "isinstance" = none
  max_ : mg "max" = none
  min_ : mg "min" = none
  repr_ : mg "repr" = none
  sorted_ : mg "sorted" = none
  sum_ : mg "sum" = none
  str_ : mg "str" = none
  tuple_ : mg "tuple" = none
  list_ : mg "list" = none
  int_ : mg "int" = none
  bool_ : mg "bool" = none
  dict_ : mg "dict" = none
  type_ : mg "type" = none
  range_ : mg "range" = none
  enumerate_ : mg "enumerate" = none
  zip_ : mg "zip" = none
structure MdK (K : PySem.W.Frag) : Prop where
  len_ : PySem.W.nsIn K mainGlobals "len" = some none
  all_ : PySem.W.nsIn K mainGlobals "all" = some none
  any_ : PySem.W.nsIn K mainGlobals "any" = some none
  isinstance_ : PySem.W.nsIn K mainGlobals "isinstance" = some none
  max_ : PySem.W.nsIn K mainGlobals "max" = some none
  min_ : PySem.W.nsIn K mainGlobals "min" = some none
  repr_ : PySem.W.nsIn K mainGlobals "repr" = some none
  sorted_ : PySem.W.nsIn K mainGlobals "sorted" = some none
  sum_ : PySem.W.nsIn K mainGlobals "sum" = some none
  str_ : PySem.W.nsIn K mainGlobals "str" = some none
  tuple_ : PySem.W.nsIn K mainGlobals "tuple" = some none
  list_ : PySem.W.nsIn K mainGlobals "list" = some none
  int_ : PySem.W.nsIn K mainGlobals "int" = some none
  bool_ : PySem.W.nsIn K mainGlobals "bool" = some none
  dict_ : PySem.W.nsIn K mainGlobals "dict" = some none
  type_ : PySem.W.nsIn K mainGlobals "type" = some none
  range_ : PySem.W.nsIn K mainGlobals "range" = some none
  enumerate_ : PySem.W.nsIn K mainGlobals "enumerate" = some none
  zip_ : PySem.W.nsIn K mainGlobals "zip" = some none
section
variable {K : PySem.W.Frag} {mg : Str → Option Value} {h : Heap}
theorem MdK.md (t : MdK K) (X : K.In h) (G : h.Ns mainGlobals mg) : Md mg := by
  obtain ⟨a1, a2, a3, a4, a5, a6, a7, a8, a9, a10, a11, a12, a13, a14, a15, a16, a17, a18, a19⟩ := t
  have f : ∀ {x : Str}, PySem.W.nsIn K mainGlobals x = some none → mg x = none := fun {x} q => PySem.W.mg_none_of X G q
  exact ⟨f a1, f a2, f a3, f a4, f a5, f a6, f a7, f a8, f a9, f a10, f a11, f a12, f a13, f a14, f a15, f a16, f a17, f a18, f a19⟩
/-! ### a def as the top leaves it -/
def FnK (K : PySem.W.Frag) (x : Str) (st : Stmt) : Prop := ∃ (f : Addr) (oc : Value) (od : Option Addr) (kV doc pm : Value) (an : Option Addr) (cd ct : Value) (sl : Array (Option Value)),
  PySem.W.nsIn K mainGlobals x = some (some (.ref f)) ∧ K.lookup f = some ⟨oc, od, .func (PySem.W.fnOf x x (defArgs st) (defBody st) (defScope st) .none kV doc pm an cd ct), sl⟩ ∧ PySem.W.codeIn K cd x = true ∧ PySem.W.keepIn K (.ref f) = true
theorem FnK.mk {x : Str} {st : Stmt} {f : Addr} {oc : Value} {od : Option Addr} {kV doc pm : Value} {an : Option Addr} {cd ct : Value} {sl : Array (Option Value)} (h1 : PySem.W.nsIn K mainGlobals x = some (some (.ref f)))
    (h2 : K.lookup f = some ⟨oc, od, .func (PySem.W.fnOf x x (defArgs st) (defBody st) (defScope st) .none kV doc pm an cd ct), sl⟩) (h3 : PySem.W.codeIn K cd x = true) (h4 : PySem.W.keepIn K (.ref f) = true) : FnK K x st :=
  ⟨f, oc, od, kV, doc, pm, an, cd, ct, sl, h1, h2, h3, h4⟩
theorem FnK.fn0 {x : Str} {st : Stmt} {ps : List Str} (t : FnK K x st) (X : K.In h) (G : h.Ns mainGlobals mg)
    (hb : ∀ (kV doc pm : Value) (an : Option Addr) (cdv ct : Value) (us : List Value), us.length = ps.length → bindArgs (PySem.W.fnOf x x (defArgs st) (defBody st) (defScope st) .none kV doc pm an cdv ct) ⟨us, []⟩ = pure (ps.zip us)) : Fn0 K mg x st ps := by
  obtain ⟨f, oc, od, kV, doc, pm, an, cd, ct, sl, h1, h2, h3, h4⟩ := t
  have F := fun_mk h2 h3 h4
  exact ⟨f, _, F, PySem.W.mg_of X G h1, F.binds hb⟩
/-- a constant of the module -/
def GvK (K : PySem.W.Frag) (x : Str) (v : V) : Prop := ∃ u, PySem.W.nsIn K mainGlobals x = some (some u) ∧ RelV v u
theorem GvK.mk {x : Str} {v : V} {u : Value} (h1 : PySem.W.nsIn K mainGlobals x = some (some u)) (h2 : RelV v u) : GvK K x v := ⟨u, h1, h2⟩
theorem GvK.gv {x : Str} {v : V} (t : GvK K x v) (X : K.In h) (G : h.Ns mainGlobals mg) : Gv mg x v := by
  obtain ⟨u, h1, h2⟩ := t
  exact ⟨u, PySem.W.mg_of X G h1, h2⟩
/-- a tuple of the module -/
def GtK (K : PySem.W.Frag) (x : Str) (xs : List V) : Prop := ∃ (a : Addr) (o : Obj) (its : Array Value) (n : Nat), PySem.W.nsIn K mainGlobals x = some (some (.ref a)) ∧ K.lookup a = some o ∧ o.cls = .type "tuple" ∧ o.data = .seq its n ∧ its.size ≤ sizeLine ∧ Vals xs its.toList
theorem GtK.mk {x : Str} {xs : List V} {a : Addr} {o : Obj} {its : Array Value} {n : Nat} (h1 : PySem.W.nsIn K mainGlobals x = some (some (.ref a))) (h2 : K.lookup a = some o) (h3 : o.cls = .type "tuple") (h4 : o.data = .seq its n) (h5 : its.size ≤ sizeLine) (h6 : Vals xs its.toList) : GtK K x xs :=
  ⟨a, o, its, n, h1, h2, h3, h4, h5, h6⟩
theorem GtK.gt {x : Str} {xs : List V} (t : GtK K x xs) (X : K.In h) (G : h.Ns mainGlobals mg) : Gt K mg x xs := by
  obtain ⟨a, o, its, n, h1, h2⟩ := t
  exact ⟨a, PySem.W.mg_of X G h1, fun H => .inr ⟨o, its, n, h2⟩⟩
def GdK (K : PySem.W.Frag) (w : World) (x : Str) (kv : List (Str × V)) (no : List Str) : Prop := ∃ d, PySem.W.nsIn K mainGlobals x = some (some (.ref d)) ∧ KD K w d kv ∧ ∀ z ∈ no, KDno K d z
theorem GdK.mk {w : World} {x : Str} {kv : List (Str × V)} {no : List Str} {d : Addr} {es : Array DictEntry} {n : Nat} (h1 : PySem.W.nsIn K mainGlobals x = some (some (.ref d))) (h2 : K.lookup d = some ⟨.type "dict", none, .dict es n, #[]⟩) (h3 : PySem.W.KeysLit w.params es.toList) (h4 : (d == sysModules) = false)
    (h5 : ∀ p ∈ kv, ∃ u, PySem.W.nsIn K d p.1 = some (some u) ∧ RelV p.2 u) (h6 : ∀ z ∈ no, PySem.W.nsIn K d z = some none) : GdK K w x kv no := ⟨d, h1, ⟨es, n, ⟨h2, h3, h4⟩, h5⟩, h6⟩
theorem kvs_nil {d : Addr} : ∀ p ∈ ([] : List (Str × V)), ∃ u, PySem.W.nsIn K d p.1 = some (some u) ∧ RelV p.2 u := fun _ h => nomatch h
theorem kvs_cons {d : Addr} {z : Str} {v : V} {u : Value} {kv : List (Str × V)} (h : PySem.W.nsIn K d z = some (some u)) (r : RelV v u) (t : ∀ p ∈ kv, ∃ u, PySem.W.nsIn K d p.1 = some (some u) ∧ RelV p.2 u) : ∀ p ∈ (z, v) :: kv, ∃ u, PySem.W.nsIn K d p.1 = some (some u) ∧ RelV p.2 u := fun p hp => by
  rcases List.mem_cons.mp hp with rfl | hp
  · exact ⟨u, h, r⟩
  · exact t p hp
theorem nos_nil {d : Addr} : ∀ z ∈ ([] : List Str), PySem.W.nsIn K d z = some none := fun _ h => nomatch h
theorem nos_cons {d : Addr} {z : Str} {no : List Str} (h : PySem.W.nsIn K d z = some none) (t : ∀ z ∈ no, PySem.W.nsIn K d z = some none) : ∀ y ∈ z :: no, PySem.W.nsIn K d y = some none := fun y hy => by
  rcases List.mem_cons.mp hy with rfl | hy
  · exact h
  · exact t y hy
theorem GdK.gd {w : World} {x : Str} {kv : List (Str × V)} {no : List Str} (t : GdK K w x kv no) (X : K.In h) (G : h.Ns mainGlobals mg) : Gd K w mg x kv no := by
  obtain ⟨d, h1, h2, h3⟩ := t
  exact ⟨d, PySem.W.mg_of X G h1, h2, h3⟩
/-- the law's own def -/
theorem law_end {P : Program} {w : World} {fa : Addr} {x y : Str} {st : Stmt} {k : Nat} {sp : Sp} (t : FnK K x st) (X : K.In h) (G : h.Ns mainGlobals mg) (hfa : mg x = some (.ref fa))
    (hb : ∀ (kV doc pm : Value) (an : Option Addr) (cdv ct : Value) (u : Value), bindArgs (PySem.W.fnOf x x (defArgs st) (defBody st) (defScope st) .none kV doc pm an cdv ct) ⟨[u], []⟩ = pure [(y, u)])
    (hok : ∀ (base : Heap) (mg : Str → Option Value) (fd : FuncData), K.In base → base.Ns mainGlobals mg → Fun K x x st fa fd → FnOk P w K mg base CX0 k fa fd [y] sp) :
    ∃ fd : FuncData, (∀ (s : Shared) (u : Value), BindsTo s fd ⟨[u], []⟩ [(y, u)]) ∧ ∀ base : Heap, K.In base → base.Ns mainGlobals mg → FnOk P w K mg base CX0 k fa fd [y] sp := by
  obtain ⟨f, oc, od, kV, doc, pm, an, cd, ct, sl, h1, h2, h3, h4⟩ := t
  have e := hfa.symm.trans (PySem.W.mg_of X G h1)
  cases e
  exact ⟨_, fun s u => .of_eq (hb kV doc pm an cd ct u), fun base B1 B2 => hok base mg _ B1 B2 (fun_mk h2 h3 h4)⟩
end
/-! ### many written texts -/
section
variable {X : Cx} {K : PySem.W.Frag} {H : Hp}
def tVals (vs : List V) : TA := fun _ H Q => Q vs H
def strE (ps : List (Nat × Pos)) (xs : List Str) : List Expr := (xs.zip ps).map fun p => .Constant (.str p.1) p.2.1 p.2.2
end
end Lay

set_option Elab.async false
set_option linter.all false
set_option maxRecDepth 100000
set_option maxHeartbeats 4000000
namespace Lay
open PySem PySem.Spec PyProof.Rows L2
/-! ### more combinators -/
section
variable {P : Program} {w : World} {K : PySem.W.Frag} {H : Hp} {Q : VK} {x y : V} {σ : L2.St} {ta tb tc : TE} {t : TT}
theorem r_andT (q : ta σ H fun x H1 => ∃ k, TruV K x H1 k ∧ if k = true then tb σ H1 Q else Q x H1) : tAndT K ta tb σ H Q := q
theorem r_orT (q : ta σ H fun x H1 => ∃ k, TruV K x H1 k ∧ if k = true then Q x H1 else tb σ H1 Q) : tOrT K ta tb σ H Q := q
theorem r_notT (q : ta σ H fun x H1 => ∃ k, TruV K x H1 k ∧ Q (.bl (!k)) H1) : tNotT K ta σ H Q := q
theorem r_or {t u : TT} {Q : Bool → Hp → Prop} (q : t σ H fun c H1 => if c = true then Q true H1 else u σ H1 Q) : tOr t u σ H Q := q
theorem r_and {t u : TT} {Q : Bool → Hp → Prop} (q : t σ H fun c H1 => if c = true then u σ H1 Q else Q false H1) : tAnd t u σ H Q := q
theorem r_tB {Q : Bool → Hp → Prop} (q : ta σ H fun x H1 => ∃ c, x = .bl c ∧ Q c H1) : tB ta σ H Q := q
theorem r_chain {r r' : R2} (q : ta σ H fun x H1 => tb σ H1 fun y H2 => r x y H2 fun z H3 => ∃ k, z = .bl k ∧ if k = true then tc σ H3 fun u H4 => r' y u H4 Q else Q (.bl false) H3) : tChain r r' ta tb tc σ H Q := q
theorem ty_s {z : Str} {C : Prop} (q : C) : tyV K "str" (.str z) H ∧ C := ⟨rfl, q⟩
theorem ty_l {a : Addr} {xs : List V} {C : Prop} (h : SqL K H a xs) (q : C) : tyV K "list" (.ref a) H ∧ C := ⟨.inl ⟨rfl, xs, h⟩, q⟩
theorem r_gt {xs : List V} (q : ∀ a, (∀ H, SqT K H a xs) → Q (.ref a) H) : tGt K xs σ H Q := q
theorem r_gd {kv : List (Str × V)} {no : List Str} (q : ∀ d, KD K w d kv → (∀ z ∈ no, KDno K d z) → Q (.ref d) H) : tGd K w kv no σ H Q := q
theorem r_drop {nx bk ct : L2.St → Hp → Prop} {rt : VK} (q : ta σ H fun _ H1 => nx σ H1) : tDrop ta ⟨nx, rt, bk, ct⟩ σ H := q
theorem r_callN {n m : Nat} {sp : Sp} {gV : List V → List V → List V} {E : XK} {tr tk : TA} (q : tr σ H fun vs H1 => tk σ H1 fun zs H2 => vs.length = n ∧ zs.length = m ∧ sp (gV vs zs) H2 Q E) : tCallN n m sp gV E tr tk σ H Q := q
/-- a for's reading: J what is walked -/
def Fo (J : It) (g : TG) (tb : TS) (nx bk ct : L2.St → Hp → Prop) (rt : VK) (σ : L2.St) (H1 : Hp) : Prop := ∃ W : Nat → Nat → L2.St → Hp → Prop, (∃ m, W 0 m σ H1) ∧ ∀ i m σ H, W i m σ H →
  (J.stop i H ∧ nx σ H) ∨ (J.go i H ∧ ∃ N : L2.St → Hp → Prop, (∀ σ' H', N σ' H' → ∃ m', m' < m ∧ W (i + 1) m' σ' H') ∧ ∀ x H', J.yld i H x H' → g x σ H' fun σ2 H2 => tb ⟨N, rt, nx, N⟩ σ2 H2)
theorem r_for {wi : TI} {g : TG} {tb : TS} {nx bk ct : L2.St → Hp → Prop} {rt : VK} (q : wi σ H fun J H1 => Fo J g tb nx bk ct rt σ H1) : tFor wi g tb ⟨nx, rt, bk, ct⟩ σ H := q
theorem fo_it {J : It} {n : Nat} {G : Hp → Prop} {Y : Nat → Hp → V → Hp → Prop} (w : Walk J n G Y) {g : TG} {tb : TS} {nx bk ct : L2.St → Hp → Prop} {rt : VK} (Pv : Nat → L2.St → Hp → Prop) (h0 : Pv 0 σ H) (hG : ∀ i σ H, i ≤ n → Pv i σ H → G H)
    (hs : ∀ i x σ H H', i < n → Pv i σ H → Y i H x H' → g x σ H' fun σ2 H2 => tb ⟨Pv (i + 1), rt, nx, Pv (i + 1)⟩ σ2 H2) (hd : ∀ σ H, Pv n σ H → nx σ H) : Fo J g tb nx bk ct rt σ H :=
  for_it (D := ⟨nx, rt, bk, ct⟩) w Pv h0 hG hs hd
/-- a comprehension's reading -/
def Lc (J : It) (g : TG) (tt : TT) (te : TE) (vs : List Nat) (σ : L2.St) (D : Addr) (Qd : Hp → Prop) (H1 : Hp) : Prop := ∃ W : Nat → Nat → Hp → Prop, (∃ m, W 0 m (upd H1 D (.lst []))) ∧ ∀ i m H, W i m H →
  (J.stop i H ∧ Qd H) ∨ (J.go i H ∧ ∃ Nx : Hp → Prop, (∀ H', Nx H' → ∃ m', m' < m ∧ W (i + 1) m' H') ∧ ∀ x H', J.yld i H x H' → g x (wipe σ vs) H' fun σ2 H2 => wipe σ2 vs = wipe σ vs ∧ tt σ2 H2 fun b H3 =>
    if b = true then te σ2 H3 fun y H4 => ∃ acc, H4 D = some (.lst acc) ∧ acc.length < sizeLine ∧ Nx (upd H4 D (.lst (acc ++ [y]))) else Nx H3)
theorem r_lc {wi : TI} {g : TG} {tt : TT} {vs : List Nat} (q : wi σ H fun J H1 => ∀ D, H1 D = none → Lc J g tt ta vs σ D (fun H => Q (.ref D) H) H1) : tLc wi g tt ta vs σ H Q := q
theorem r_iseq {R : It → Hp → Prop} (q : ta σ H fun x H1 => (∃ a xs, x = .ref a ∧ SqL K H1 a xs ∧ R (Itl K a) H1) ∨ (∃ a xs, x = .ref a ∧ SqT K H1 a xs ∧ R (Itt K a) H1) ∨ ∃ z, x = .str z ∧ R (Its z) H1) : iSeq K ta σ H R := q
theorem r_rng1 {tr : TA} {R : It → Hp → Prop} (q : tr σ H fun vs H1 => ∃ j : Int, vs = [.int j] ∧ -(2 ^ 62) ≤ j ∧ j < 2 ^ 62 ∧ R (Itr 0 j.toNat) H1) : iRng1 tr σ H R := q
theorem r_enum {tr : TA} {R : It → Hp → Prop} (q : tr σ H fun vs H1 => ∃ a xs, vs = [.ref a] ∧ ((SqL K H1 a xs ∧ R (Ite K a) H1) ∨ (SqT K H1 a xs ∧ R (Itet K a) H1))) : iEnumA K tr σ H R := q
theorem r_yes {Q : Bool → Hp → Prop} (q : Q true H) : tYes σ H Q := q
theorem r_gtup {n : Nat} {g : TGs} {v : V} {Q : L2.St → Hp → Prop} (q : ∃ a xs, v = .ref a ∧ SqT K H a xs ∧ xs.length = n ∧ g xs σ H Q) : gTup K n g v σ H Q := q
theorem r_gcons {g : TG} {gs : TGs} {v : V} {r : List V} {Q : L2.St → Hp → Prop} (q : g v σ H fun σ' H' => gs r σ' H' Q) : gCons g gs (v :: r) σ H Q := ⟨v, r, rfl, q⟩
theorem r_gnil {Q : L2.St → Hp → Prop} (q : Q σ H) : gNil [] σ H Q := ⟨rfl, q⟩
theorem tru_s {z : Str} {C : Bool → Prop} (hz : z.length ≤ sizeLine) (q : C (decide (z.length ≠ 0))) : ∃ k, TruV K (.str z) H k ∧ C k := by
  refine ⟨_, ⟨hz, rfl⟩, ?_⟩
  have e : ((z.length : Int) != 0) = decide (z.length ≠ 0) := by
    by_cases h : z.length = 0
    · rw [h]
      rfl
    · rw [decide_eq_true h]
      exact bne_iff_ne.mpr fun z => h (by omega)
  rw [e]
  exact q
end
theorem itnT {A B : Prop} (h : B) : if (!true) = true then A else B := h
theorem itnF {A B : Prop} (h : A) : if (!false) = true then A else B := h
/-! ### which context is meant -/
theorem inE {P : Program} {w : World} {K : PySem.W.Frag} {X : Cx} {e : Expr} {t : TE} (_ : LX P w K X) (h : PE X e t) : PE X e t := h
theorem inT {P : Program} {w : World} {K : PySem.W.Frag} {X : Cx} {e : List Expr} {t : TT} (_ : LX P w K X) (h : PTs X e t) : PTs X e t := h
section
variable {P : Program} {w : World} {K : PySem.W.Frag} {X : Cx} {a b o e : Expr} {ta tb to te : TE} {t : TA} {rest es : List Expr} {pos apos cpos : Pos} {x : Str} {name : Str} {T id : String} {tg : Expr}
def tTru (K : PySem.W.Frag) (ta : TE) : TT := fun σ H Q => ta σ H fun x H' => ∃ k, TruV K x H' k ∧ Q k H'
theorem r_tru {H : Hp} {σ : L2.St} {Q : Bool → Hp → Prop} (q : ta σ H fun x H' => ∃ k, TruV K x H' k ∧ Q k H') : tTru K ta σ H Q := q
theorem pt_truthL (L : LX P w K X) (ha : PE X a ta) (he : ∀ whole, isTrue a X.env whole = (do let v ← whole; standAt a.pos; holding [v] (truthy v)) := by intro _; rfl) : PT X a (tTru K ta) := by
  obtain ⟨_, _, rfl, _, _⟩ := L
  exact pt_truth ha he
theorem pe_andL (L : LX P w K X) (ha : PE X a ta) (hb : PE X (.BoolOp .And (b :: rest) pos) tb) : PE X (.BoolOp .And (a :: b :: rest) pos) (tAndT K ta tb) := by
  obtain ⟨_, _, rfl, _, _⟩ := L
  exact pe_andT ha hb
theorem pe_orL (L : LX P w K X) (ha : PE X a ta) (hb : PE X (.BoolOp .Or (b :: rest) pos) tb) : PE X (.BoolOp .Or (a :: b :: rest) pos) (tOrT K ta tb) := by
  obtain ⟨_, _, rfl, _, _⟩ := L
  exact pe_orT ha hb
theorem pe_notL (L : LX P w K X) (ha : PE X a ta) : PE X (.UnaryOp .Not a pos) (tNotT K ta) := by
  obtain ⟨_, _, rfl, _, _⟩ := L
  exact pe_notT ha
theorem pe_bmL (L : LX P w K X) (pa : PlainAttrs T) (slot : Slot T name id) (hty : typeOf (.builtin id) = pure (.type "method_descriptor")) (ho : PE X o to) (ha : PA X (e :: es) t)
    (hbase : attributeBase o name X.env (eval o X.env) = eval o X.env := by rfl)
    (hfew : ((backTo cpos (starEach (e :: es) X.env)).all (fun x => !x.1) && (backToKw cpos (keywordEach [] X.env)).all (fun x => x.1.isSome) && decide ((e :: es).length + ([] : List Keyword).length + (if ([] : List Keyword).isEmpty then 0 else 1) < 30)) = true := by rfl)
    (hline : (apos.endLine == cpos.line) = true := by rfl) (hs : starEach (e :: es) X.env = (false, eval e X.env) :: starEach es X.env := by rfl) (hplain : (backTo cpos (starEach es X.env)).any (·.1) = false := by rfl) :
    PE X (.Call (.Attribute o name apos) (e :: es) [] cpos) (tBM K T (sM P w K id) to t) := by
  have hm : MtR X id (sM P w K id) := om L
  obtain ⟨_, _, rfl, _, _⟩ := L
  exact pe_bm pa slot hty hm ho ha hbase hfew hline hs hplain
theorem pe_bm0L (L : LX P w K X) (pa : PlainAttrs T) (slot : Slot T name id) (hty : typeOf (.builtin id) = pure (.type "method_descriptor")) (ho : PE X o to)
    (hbase : attributeBase o name X.env (eval o X.env) = eval o X.env := by rfl) (hline : (apos.endLine == cpos.line) = true := by rfl) : PE X (.Call (.Attribute o name apos) [] [] cpos) (tBM0 K T (sM P w K id) to) := by
  have hm : MtR X id (sM P w K id) := om L
  obtain ⟨_, _, rfl, _, _⟩ := L
  exact pe_bm0 pa slot hty hm ho hbase hline
theorem pi_seqL (L : LX P w K X) (he : PE X e te) : PI X tg e (iSeq K te) := by
  obtain ⟨_, _, rfl, _, _⟩ := L
  exact pi_seq he
theorem pi_enumL {tpos p : Pos} {elts : List Expr} {kk : Nat} (L : LX P w K X) (hg : Gl X "enumerate") (hm : X.mg "enumerate" = none) (ha : PA X [e] t) (hs : starEach [e] X.env = [(false, eval e X.env)] := by rfl) :
    PI X (.Tuple elts kk tpos) (.Call (.Name "enumerate" p) [e] [] pos) (iEnumA K t) := by
  obtain ⟨_, _, rfl, _, _⟩ := L
  exact pi_enumA hg hm ha hs
theorem pe_gtL {xs : List V} (L : LX P w K X) (h : Gt K X.mg x xs) (hg : Gl X x) (hd : (x == ("__debug__" : Str)) = false := by decide) : PE X (.Name x pos) (tGt K xs) := by
  obtain ⟨_, _, rfl, _, _⟩ := L
  exact pe_gt h hg hd
theorem pe_gdL {kv : List (Str × V)} {no : List Str} (L : LX P w K X) (h : Gd K w X.mg x kv no) (hg : Gl X x) (hd : (x == ("__debug__" : Str)) = false := by decide) : PE X (.Name x pos) (tGd K w kv no) := by
  obtain ⟨_, rfl, rfl, _, _⟩ := L
  exact pe_gd h hg hd
theorem pg_tupL {k n : Nat} {t : TGs} (L : LX P w K X) (h : PGs X es t) (hn : (assignEach es X.env).length = n := by rfl) (hst : (assignEach es X.env).findIdx? (·.1) = none := by rfl) : PG X (.Tuple es k pos) (gTup K n t) := by
  obtain ⟨_, _, rfl, hc, _⟩ := L
  exact pg_tup hc h hn hst
end
/-! ### heaps -/
/-- all but p is as it was -/
def But (p : Addr) (H H' : Hp) : Prop := ∀ a o, a ≠ p → H a = some o → H' a = some o
theorem But.refl {p : Addr} {H : Hp} : But p H H := fun _ _ _ h => h
theorem But.trans {p : Addr} {H H1 H2 : Hp} (a : But p H H1) (b : But p H1 H2) : But p H H2 := fun c o n h => b c o n (a c o n h)
theorem Same.but {p : Addr} {H H' : Hp} (a : Same H H') : But p H H' := fun c o _ h => a c o h
theorem Same.new {H : Hp} {p : Addr} {o : HO} (h : H p = none) : Same H (upd H p o) := fun a u e => by
  rw [upd_ne (ne_of_none e h)]
  exact e
/-- an object that H does not know may change -/
theorem Same.mut {H H' : Hp} {p : Addr} {o : HO} (e : Same H H') (h : H p = none) : Same H (upd H' p o) := fun a u ha => by
  rw [upd_ne (ne_of_none ha h)]
  exact e a u ha
theorem But.new {q : Addr} {H : Hp} {p : Addr} {o : HO} (h : H p = none) : But q H (upd H p o) := Same.but (Same.new h)
theorem But.mut {q : Addr} {H H' : Hp} {p : Addr} {o : HO} (e : But q H H') (h : H p = none) : But q H (upd H' p o) := fun a u n ha => by
  rw [upd_ne (ne_of_none ha h)]
  exact e a u n ha
theorem Same.sqt {K : PySem.W.Frag} {H H' : Hp} {a : Addr} {xs : List V} (e : Same H H') (h : SqT K H a xs) : SqT K H' a xs := by
  rcases h with (h | ⟨o, h⟩) | h
  · exact .inl (.inl (e _ _ h))
  · exact .inl (.inr ⟨o, e _ _ h⟩)
  · exact .inr h
theorem But.sqt {K : PySem.W.Frag} {H H' : Hp} {p a : Addr} {xs : List V} (e : But p H H') (hp : ∀ ys, H p ≠ some (.tup ys)) (hf : ∀ o u, H p ≠ some (.frz o u)) (h : SqT K H a xs) : SqT K H' a xs := by
  rcases h with (h | ⟨o, h⟩) | h
  · exact .inl (.inl (e _ _ (fun z => hp xs (z ▸ h)) h))
  · exact .inl (.inr ⟨o, e _ _ (fun z => hf _ _ (z ▸ h)) h⟩)
  · exact .inr h
theorem But.sql {K : PySem.W.Frag} {H H' : Hp} {p a : Addr} {xs : List V} (e : But p H H') (hne : a ≠ p) (h : SqL K H a xs) : SqL K H' a xs := by
  rcases h with (h | ⟨o, h⟩) | h
  · exact .inl (.inl (e _ _ hne h))
  · exact .inl (.inr ⟨o, e _ _ hne h⟩)
  · exact .inr h
theorem free_of {H H' : Hp} {p : Addr} (e : Same H H') (h : H' p = none) : H p = none := e.free h
/-! ### lists by places -/
theorem range_getD {α : Type} (l : List α) (d : α) : (List.range l.length).map (fun i => l.getD i d) = l := by
  refine List.ext_getElem (by simp) fun i h1 h2 => ?_
  rw [List.getElem_map, List.getElem_range, List.getD_eq_getElem?_getD, List.getElem?_eq_getElem h2]
  rfl
theorem range_fm {α β : Type} (l : List α) (d : α) (p : α → Bool) (f : α → β) : ((List.range l.length).filter fun i => p (l.getD i d)).map (fun i => f (l.getD i d)) = (l.filter p).map f := by
  have e := range_getD l d
  have h : (l.filter p).map f = (((List.range l.length).map fun i => l.getD i d).filter p).map f := by rw [e]
  rw [h, List.filter_map, List.map_map]
  rfl
theorem getD_of {α : Type} {l : List α} {i : Nat} {x d : α} (h : l[i]? = some x) : l.getD i d = x := by
  rw [List.getD_eq_getElem?_getD, h]
  rfl
/-! ### comprehensions that only make -/
section
variable {J : It} {n : Nat} {G : Hp → Prop} {Y : Nat → Hp → V → Hp → Prop} {g : TG} {tt : TT} {te : TE} {vs : List Nat} {σ : L2.St} {H1 : Hp} {D : Addr} {Qd : Hp → Prop}
theorem range_step (p : Nat → Bool) (f : Nat → V) (i : Nat) : ((List.range (i + 1)).filter p).map f = if p i = true then ((List.range i).filter p).map f ++ [f i] else ((List.range i).filter p).map f := by
  rw [List.range_succ, List.filter_append, List.map_append]
  by_cases h : p i = true
  · rw [if_pos h]
    simp [h]
  · rw [if_neg h]
    simp [h]
theorem range_len (p : Nat → Bool) (f : Nat → V) (i : Nat) : (((List.range i).filter p).map f).length ≤ i := by
  rw [List.length_map]
  refine Nat.le_trans (List.length_filter_le _ _) ?_
  rw [List.length_range]
  exact Nat.le_refl _
/-- [e for x in .. if t], e and t make at most; what comes is told by places -/
theorem lc_pure (w : Walk J n G Y) (p : Nat → Bool) (f : Nat → V) (hn : n < sizeLine) (hD : H1 D = none) (hG : ∀ H, Same H1 H → G H)
    (hs : ∀ i x H H', i < n → Same H1 H → Y i H x H' → ∀ (C1 : VK) (C0 : Hp → Prop), (p i = true → ∀ H4, Same H H4 → C1 (f i) H4) → (p i = false → ∀ H3, Same H H3 → C0 H3) →
      g x (wipe σ vs) H' fun σ2 H2 => wipe σ2 vs = wipe σ vs ∧ tt σ2 H2 fun b H3 => if b = true then te σ2 H3 C1 else C0 H3)
    (hd : ∀ H, Same H1 H → H D = some (.lst (((List.range n).filter p).map f)) → Qd H) :
    Lc J g tt te vs σ D Qd H1 := by
  refine lc_it w (fun i H => Same H1 H ∧ H D = some (.lst (((List.range i).filter p).map f))) ⟨Same.new hD, upd_same⟩ (fun i H _ q => hG H q.1) (fun i x H H' hi q y => ?_) fun H q => hd H q.1 q.2
  refine hs i x H H' hi q.1 y _ _ (fun h H4 s4 => ?_) (fun h H3 s3 => ?_)
  · refine ⟨_, s4 _ _ q.2, Nat.lt_of_le_of_lt (range_len p f i) (Nat.lt_trans hi hn), Same.mut (q.1.trans s4) hD, ?_⟩
    rw [upd_same, range_step, if_pos h]
  · refine ⟨q.1.trans s3, ?_⟩
    rw [range_step, if_neg (by rw [h]; exact Bool.false_ne_true)]
    exact s3 _ _ q.2
/-- .. told by the items of a list -/
theorem lc_pureL {α : Type} (l : List α) (d : α) (w : Walk J l.length G Y) (p : α → Bool) (f : α → V) (hn : l.length < sizeLine) (hD : H1 D = none) (hG : ∀ H, Same H1 H → G H)
    (hs : ∀ i a x H H', l[i]? = some a → Same H1 H → Y i H x H' → ∀ (C1 : VK) (C0 : Hp → Prop), (p a = true → ∀ H4, Same H H4 → C1 (f a) H4) → (p a = false → ∀ H3, Same H H3 → C0 H3) →
      g x (wipe σ vs) H' fun σ2 H2 => wipe σ2 vs = wipe σ vs ∧ tt σ2 H2 fun b H3 => if b = true then te σ2 H3 C1 else C0 H3)
    (hd : ∀ H, Same H1 H → H D = some (.lst ((l.filter p).map f)) → Qd H) :
    Lc J g tt te vs σ D Qd H1 := by
  refine lc_pure w (fun i => p (l.getD i d)) (fun i => f (l.getD i d)) hn hD hG (fun i x H H' hi sm y C1 C0 h1 h0 => ?_) fun H sm h => ?_
  · have e : l[i]? = some (l.getD i d) := by
      rw [List.getD_eq_getElem?_getD, List.getElem?_eq_getElem hi]
      rfl
    exact hs i _ x H H' e sm y C1 C0 h1 h0
  · rw [range_fm] at h
    exact hd H sm h
theorem filter_yes {α : Type} (l : List α) : l.filter (fun _ => true) = l := List.filter_eq_self.mpr fun _ _ => rfl
theorem walk_strL {z : Str} : Walk (Its z) z.cps.toList.length (fun _ => True) (fun i H v H' => H' = H ∧ ∃ c, z.cps.toList[i]? = some c ∧ v = .str ⟨#[c]⟩) := by
  refine Walk.mono (show Walk (Its z) z.cps.toList.length _ _ from walk_str) (fun _ h => h) fun i H x H' _ _ y => ?_
  obtain ⟨e, c, h, q⟩ := y
  exact ⟨e, c, by rw [Array.getElem?_toList]; exact h, q⟩
/-- [e for x in ..], e draws from what stands at pu: so many, each as R tells -/
theorem lc_draw {pu : Addr} {Pu : Hp → Prop} (w : Walk J n G Y) (R : V → Prop) (hn : n < sizeLine) (hD : H1 D = none) (hP : Pu H1) (hpu : H1 pu ≠ none) (hG : ∀ H, But pu H1 H → G H) (hPm : ∀ H o, D ≠ pu → Pu H → Pu (upd H D o))
    (hs : ∀ i x H H', i < n → But pu H1 H → Pu H → Y i H x H' → ∀ C1 : VK, (∀ y H4, But pu H H4 → Pu H4 → R y → C1 y H4) →
      g x (wipe σ vs) H' fun σ2 H2 => wipe σ2 vs = wipe σ vs ∧ tt σ2 H2 fun b H3 => b = true ∧ te σ2 H3 C1)
    (tm : ∀ σ2 H2 (Q Q' : Bool → Hp → Prop), (∀ b H, Q b H → Q' b H) → tt σ2 H2 Q → tt σ2 H2 Q') (gm : ∀ x σ2 H2 (Q Q' : L2.St → Hp → Prop), (∀ b H, Q b H → Q' b H) → g x σ2 H2 Q → g x σ2 H2 Q')
    (hd : ∀ H ys, But pu H1 H → Pu H → H D = some (.lst ys) → ys.length = n → (∀ y ∈ ys, R y) → Qd H) :
    Lc J g tt te vs σ D Qd H1 := by
  have hne : D ≠ pu := fun z => hpu (z ▸ hD)
  refine lc_it w (fun i H => But pu H1 H ∧ Pu H ∧ ∃ ys, H D = some (.lst ys) ∧ ys.length = i ∧ ∀ y ∈ ys, R y) ⟨But.new hD, hPm _ _ hne hP, [], upd_same, rfl, fun _ h => nomatch h⟩ (fun i H _ q => hG H q.1)
    (fun i x H H' hi q y => ?_) fun H q => ?_
  · obtain ⟨q1, q2, ys, q3, q4, q5⟩ := q
    refine gm _ _ _ _ _ (fun σ2 H2 q6 => ⟨q6.1, tm _ _ _ _ (fun b H3 q7 => ?_) q6.2⟩) (hs i x H H' hi q1 q2 y (fun y H4 => ∃ acc, H4 D = some (.lst acc) ∧ acc.length < sizeLine ∧ (But pu H1 (upd H4 D (.lst (acc ++ [y]))) ∧ Pu (upd H4 D (.lst (acc ++ [y]))) ∧ ∃ ys, (upd H4 D (.lst (acc ++ [y]))) D = some (.lst ys) ∧ ys.length = i + 1 ∧ ∀ y ∈ ys, R y)) fun y H4 s4 p4 r4 => ?_)
    · rw [q7.1, if_pos rfl]
      exact q7.2
    · refine ⟨ys, s4 _ _ hne q3, by omega, But.mut (q1.trans s4) hD, hPm _ _ hne p4, _, upd_same, by rw [List.length_append, q4]; rfl, fun z hz => ?_⟩
      rcases List.mem_append.mp hz with hz | hz
      · exact q5 z hz
      · rw [List.mem_singleton.mp hz]
        exact r4
  · obtain ⟨q1, q2, ys, q3, q4, q5⟩ := q
    exact hd H ys q1 q2 q3 q4 q5
theorem yes_m : ∀ (σ2 : L2.St) H2 (Q Q' : Bool → Hp → Prop), (∀ b H, Q b H → Q' b H) → tYes σ2 H2 Q → tYes σ2 H2 Q' := fun _ _ _ _ h q => h _ _ q
theorem name_m {i : Nat} : ∀ x (σ2 : L2.St) H2 (Q Q' : L2.St → Hp → Prop), (∀ b H, Q b H → Q' b H) → gName i x σ2 H2 Q → gName i x σ2 H2 Q' := fun _ _ _ _ _ h q => h _ _ q
end
end Lay
namespace Lay
open PySem PySem.Spec PyProof.Rows L2
/-! ### written texts in a row -/
def strCs : List Expr → Option (List Str)
  | [] => some []
  | .Constant (.str x) _ _ :: r => (strCs r).map (x :: ·)
  | _ => none
theorem strCs_cons {e : Expr} {r : List Expr} {zs : List Str} (h : strCs (e :: r) = some zs) : ∃ x k p ys, e = .Constant (.str x) k p ∧ zs = x :: ys ∧ strCs r = some ys := by
  unfold strCs at h
  split at h
  · rename_i q
    cases q
  · rename_i x k p r2 q
    cases q
    cases hr : strCs r with
    | none =>
      rw [hr] at h
      cases h
    | some ys =>
      rw [hr] at h
      cases h
      exact ⟨x, k, p, ys, rfl, rfl, rfl⟩
  · cases h
theorem pa_strs {X : Cx} : ∀ {es : List Expr} (zs : List Str) (_ : strCs es = some zs := by rfl), PA X es (tVals (zs.map V.str)) := fun {es} => by
  induction es with
  | nil =>
    intro zs h
    cases h
    exact ⟨fun _ _ _ _ H Q I h => Calls.spliced_nil ⟨[], H, I, .nil, h⟩⟩
  | cons e r ih =>
    intro zs h
    obtain ⟨x, k, p, ys, rfl, rfl, hr⟩ := strCs_cons h
    have := pa_cons (X := X) (e := .Constant (.str x) k p) (es := r) pe_str (ih ys hr) rfl
    exact ⟨fun pos pins s σ H Q I q => this.run pos pins s σ H Q I q⟩
theorem r_vals {vs : List V} {H : Hp} {σ : L2.St} {Q : List V → Hp → Prop} (q : Q vs H) : tVals vs σ H Q := q
/-! ### places -/
theorem atI_ex {α : Type} {xs : List α} {i : Int} (h0 : 0 ≤ i) (h1 : i < xs.length) : ∃ x, atI xs i = some x ∧ x ∈ xs := by
  have e : i = ((i.toNat : Nat) : Int) := by omega
  have hl : i.toNat < xs.length := by omega
  refine ⟨xs[i.toNat], ?_, List.getElem_mem hl⟩
  have := atI_nat (List.getElem?_eq_getElem hl)
  rw [← e] at this
  exact this
theorem sz1000 {n : Nat} (h : n ≤ 1000) : n ≤ sizeLine := Nat.le_trans h (by decide)
theorem strs_ex {P : Str → Prop} : ∀ {ys : List V}, (∀ y ∈ ys, ∃ z, y = V.str z ∧ P z) → ∃ zs : List Str, ys = zs.map V.str ∧ ∀ z ∈ zs, P z
  | [], _ => ⟨[], rfl, fun _ h => nomatch h⟩
  | y :: r, h => by
    obtain ⟨z, rfl, hz⟩ := h y List.mem_cons_self
    obtain ⟨zs, e, hr⟩ := strs_ex (ys := r) fun u hu => h u (List.mem_cons_of_mem _ hu)
    refine ⟨z :: zs, by rw [e]; rfl, fun u hu => ?_⟩
    rcases List.mem_cons.mp hu with rfl | hu
    · exact hz
    · exact hr u hu
theorem cutV_to (xs : List V) {n : Nat} (h : n ≤ xs.length) : cutV xs none (some (n : Int)) = xs.take n := by
  unfold cutV
  rw [HT.sIx_none, HT.sIx_nat, Nat.min_eq_left h, List.drop_zero, Nat.sub_zero]
theorem cutV_to' (xs : List V) (n : Nat) : cutV xs none (some (n : Int)) = xs.take n := by
  unfold cutV
  rw [HT.sIx_none, HT.sIx_nat, List.drop_zero, Nat.sub_zero]
  by_cases h : n ≤ xs.length
  · rw [Nat.min_eq_left h]
  · rw [Nat.min_eq_right (by omega), List.take_length, List.take_of_length_le (by omega)]
theorem cutV_from (xs : List V) (n : Nat) : cutV xs (some (n : Int)) none = xs.drop n := by
  unfold cutV
  rw [HT.sIx_none, HT.sIx_nat]
  by_cases h : n ≤ xs.length
  · rw [Nat.min_eq_left h, List.take_of_length_le (by rw [List.length_drop]; exact Nat.le_refl _)]
  · rw [Nat.min_eq_right (by omega), Nat.sub_self, List.take_zero, List.drop_eq_nil_of_le (by omega)]
/-! ### a purse: three numbers -/
def Pu (H : Hp) (p : Addr) : Prop := ∃ a b c, H p = some (.lst [.int a, .int b, .int c])
theorem Pu.ne {H : Hp} {p a : Addr} (h : Pu H p) (n : H a = none) : a ≠ p := fun z => by
  obtain ⟨_, _, _, e⟩ := h
  rw [← z, n] at e
  cases e
theorem Pu.some {H : Hp} {p : Addr} (h : Pu H p) : H p ≠ none := fun z => by
  obtain ⟨_, _, _, e⟩ := h
  rw [z] at e
  cases e
theorem Pu.up {H : Hp} {p a : Addr} {o : HO} (h : Pu H p) (n : a ≠ p) : Pu (upd H a o) p := by
  obtain ⟨x, y, z, e⟩ := h
  exact ⟨x, y, z, by rw [upd_ne (Ne.symm n)]; exact e⟩
theorem Pu.same {H H' : Hp} {p : Addr} (h : Pu H p) (s : Same H H') : Pu H' p := by
  obtain ⟨x, y, z, e⟩ := h
  exact ⟨x, y, z, s _ _ e⟩
theorem But.sqtP {K : PySem.W.Frag} {H H' : Hp} {p a : Addr} {xs : List V} (e : But p H H') (hp : Pu H p) (h : SqT K H a xs) : SqT K H' a xs := by
  obtain ⟨x, y, z, q⟩ := hp
  exact e.sqt (fun ys h => by rw [q] at h; cases h) (fun o u h => by rw [q] at h; cases h) h
theorem But.freeP {H H' : Hp} {p a : Addr} (e : But p H H') (hp : Pu H' p) (n : H' a = none) : H a = none := by
  cases h : H a with
  | none => rfl
  | some o =>
    have := e a o (hp.ne n) h
    rw [n] at this
    cases this
theorem ite_i {p : Prop} [Decidable p] (h : p) {α : Type} {a b : α} : (if decide p = true then a else b) = a := if_pos (decide_eq_true h)
end Lay
namespace Lay
open PySem PySem.Spec PyProof.Rows L2
section
variable {P : Program} {w : World} {K : PySem.W.Frag} {H : Hp} {Q : VK} {l : Addr} {xs : List V} {r : Int}
/-- an item at a drawn place -/
theorem i_draw (h : SqL K H l xs) (h0 : 0 ≤ r) (h1 : r < xs.length) (q : ∀ x ∈ xs, Q x H) : sI P w K (.ref l) (.int r) H Q := by
  obtain ⟨x, hx, hm⟩ := atI_ex h0 h1
  exact i_lst h hx (q x hm)
theorem i_drawT (h : SqT K H l xs) (h0 : 0 ≤ r) (h1 : r < xs.length) (q : ∀ x ∈ xs, Q x H) : sI P w K (.ref l) (.int r) H Q := by
  obtain ⟨x, hx, hm⟩ := atI_ex h0 h1
  exact i_tup h hx (q x hm)
/-- a sign at a drawn place -/
theorem i_sign {z : Str} (hz : z.length ≤ sizeLine) (h0 : 0 ≤ r) (h1 : r < z.length) (q : ∀ c ∈ z.cps.toList, Q (.str ⟨#[c]⟩) H) : sI P w K (.str z) (.int r) H Q := by
  obtain ⟨c, hx, hm⟩ := atI_ex (xs := z.cps.toList) h0 (by simpa [Str.length] using h1)
  exact i_str hz hx (q c hm)
end
end Lay

set_option Elab.async false
set_option linter.all false
set_option maxRecDepth 100000
set_option maxHeartbeats 4000000
namespace Lay
open PySem PySem.Spec PyProof.Rows L2
/-! ### texts in a row, compared -/
section
variable {P : Program} {w : World} {K : PySem.W.Frag} {H : Hp} {Q : VK} {a b : Addr} {xs ys : List Str}
theorem dp_strs : ∀ xs : List Str, DpAll K H (xs.map V.str) (xs.map PyData.str)
  | [] => .nil
  | x :: r => .cons (.str x) (dp_strs r)
def SOk (xs : List Str) : Prop := ∀ x ∈ xs, PyData.strOk x = true
theorem lay_strs : ∀ {xs : List Str}, SOk xs → PyData.canLayAll0 (xs.map PyData.str) = true
  | [], _ => rfl
  | x :: r, h => by
    show ((PyData.str x).canLay0 && PyData.canLayAll0 (r.map PyData.str)) = true
    rw [lay_strs (xs := r) fun y hy => h y (List.mem_cons_of_mem _ hy), Bool.and_true, PyData.canLay0]
    exact h x List.mem_cons_self
theorem dep_strs : ∀ xs : List Str, PyData.depthAll (xs.map PyData.str) ≤ 1
  | [] => by decide
  | x :: r => by
    have := dep_strs r
    simp [PyData.depthAll, PyData.depth] at this ⊢
    try omega
theorem shT (h : SOk xs) : SeqAt.shaped (.tuple (xs.map PyData.str)) = true := by
  unfold SeqAt.shaped
  have h1 := lay_strs h
  have h2 := dep_strs xs
  simp [PyData.canLay0, PyData.depth, h1]
  omega
theorem shL (h : SOk xs) : SeqAt.shaped (.list (xs.map PyData.str)) = true := by
  unfold SeqAt.shaped
  have h1 := lay_strs h
  have h2 := dep_strs xs
  simp [PyData.canLay0, PyData.depth, h1]
  omega
theorem eqv_strs : ∀ xs ys : List Str, PyData.eqvAll (xs.map PyData.str) (ys.map PyData.str) = decide (xs = ys)
  | [], [] => rfl
  | [], _ :: _ => rfl
  | _ :: _, [] => rfl
  | x :: r, y :: t => by
    show (PyData.eqv (.str x) (.str y) && PyData.eqvAll (r.map PyData.str) (t.map PyData.str)) = _
    rw [eqv_strs r t]
    by_cases h : x = y
    · subst h
      simp [PyData.eqv]
    · simp [PyData.eqv, h]
theorem c_eqT (o1 : SOk xs) (o2 : SOk ys) (h1 : SqT K H a (xs.map V.str)) (h2 : SqT K H b (ys.map V.str)) (q : Q (.bl (decide (xs = ys))) H) : sB P w K (compareOp .Eq) (.ref a) (.ref b) H Q :=
  ⟨rEqD K, fun X L => L.K ▸ op_eqD L.un, _, _, .tup h1 (dp_strs xs), .tup h2 (dp_strs ys), shT o1, shT o2, by
    rw [PyData.eqv, eqv_strs]
    exact q⟩
theorem c_neT (o1 : SOk xs) (o2 : SOk ys) (h1 : SqT K H a (xs.map V.str)) (h2 : SqT K H b (ys.map V.str)) (q : Q (.bl (!decide (xs = ys))) H) : sB P w K (compareOp .NotEq) (.ref a) (.ref b) H Q :=
  ⟨rNeD K, fun X L => L.K ▸ op_neD L.un, _, _, .tup h1 (dp_strs xs), .tup h2 (dp_strs ys), shT o1, shT o2, by
    rw [PyData.eqv, eqv_strs]
    exact q⟩
theorem c_neL (o1 : SOk xs) (o2 : SOk ys) (h1 : SqL K H a (xs.map V.str)) (h2 : SqL K H b (ys.map V.str)) (q : Q (.bl (!decide (xs = ys))) H) : sB P w K (compareOp .NotEq) (.ref a) (.ref b) H Q :=
  ⟨rNeD K, fun X L => L.K ▸ op_neD L.un, _, _, .lst h1 (dp_strs xs), .lst h2 (dp_strs ys), shL o1, shL o2, by
    rw [PyData.eqv, eqv_strs]
    exact q⟩
end
/-! ### pieces between blanks -/
open TL (tl spl spl_hit spl_miss spl_nil pre)
theorem pre1 (c d : Nat) (r : List Nat) : pre [c] (d :: r) = decide (d = c) := by
  show ((d :: r).take 1 == [c]) = _
  by_cases h : d = c
  · subst h
    simp
  · simp [h]
/-- the pieces that hold a sign -/
def pcs (l : List Nat) : List (List Nat) := (spl [32] 0 [] l).filter fun p => decide (p ≠ [])
theorem spl_app (s : Nat) : ∀ (l acc r : List Nat), s ∉ l → spl [s] 0 acc (l ++ s :: r) = (acc ++ l) :: spl [s] 0 [] r
  | [], acc, r, _ => by
    rw [List.nil_append, spl_hit (by rw [pre1]; simp), List.append_nil]
    rfl
  | c :: l, acc, r, h => by
    rw [List.cons_append, spl_miss (by rw [pre1]; exact decide_eq_false fun e => h (e ▸ List.mem_cons_self)), spl_app s l _ r fun z => h (List.mem_cons_of_mem _ z), List.append_assoc]
    rfl
theorem spl_fin (s : Nat) : ∀ (l acc : List Nat), s ∉ l → spl [s] 0 acc l = [acc ++ l]
  | [], acc, _ => by rw [spl_nil, List.append_nil]
  | c :: l, acc, h => by
    rw [spl_miss (by rw [pre1]; exact decide_eq_false fun e => h (e ▸ List.mem_cons_self)), spl_fin s l _ fun z => h (List.mem_cons_of_mem _ z), List.append_assoc]
    rfl
theorem pcs_nil : pcs [] = [] := by
  unfold pcs
  rw [spl_nil]
  rfl
theorem pcs_blank (r : List Nat) : pcs (32 :: r) = pcs r := by
  unfold pcs
  rw [spl_hit (by rw [pre1]; simp)]
  rfl
theorem pcs_blanks : ∀ (n : Nat) (r : List Nat), pcs (List.replicate n 32 ++ r) = pcs r
  | 0, _ => rfl
  | n + 1, r => by
    rw [List.replicate_succ, List.cons_append, pcs_blank, pcs_blanks n r]
theorem pcs_word {p : List Nat} (r : List Nat) (h : 32 ∉ p) (h0 : p ≠ []) : pcs (p ++ 32 :: r) = p :: pcs r := by
  unfold pcs
  rw [spl_app 32 p [] r h, List.nil_append, List.filter_cons, if_pos (by simpa using h0)]
theorem pcs_last {p : List Nat} (h : 32 ∉ p) (h0 : p ≠ []) : pcs p = [p] := by
  unfold pcs
  rw [spl_fin 32 p [] h, List.nil_append, List.filter_cons, if_pos (by simpa using h0)]
  rfl
/-- blanks may follow -/
theorem pcs_words {ps : List (List Nat)} (h : ∀ p ∈ ps, 32 ∉ p ∧ p ≠ []) : pcs (TL.joinL [32] ps) = ps := by
  induction ps with
  | nil => exact pcs_nil
  | cons p r ih =>
    have hp := h p List.mem_cons_self
    cases r with
    | nil => exact pcs_last hp.1 hp.2
    | cons q r =>
      show pcs (p ++ ([32] ++ TL.joinL [32] (q :: r))) = _
      rw [List.singleton_append, pcs_word _ hp.1 hp.2, ih fun z hz => h z (List.mem_cons_of_mem _ hz)]
/-- pieces, each with a blank and more behind it -/
theorem pcs_wide (n : Nat) : ∀ (ps : List (List Nat)) (ks : List Nat) (r : List Nat), (∀ p ∈ ps, 32 ∉ p ∧ p ≠ []) → ps.length = ks.length →
    pcs ((List.zipWith (fun p k => p ++ List.replicate (k + 1) 32) ps ks).flatten ++ r) = ps ++ pcs r
  | [], _, r, _, e => by simp
  | _ :: _, [], _, _, e => by simp at e
  | p :: ps, k :: ks, r, h, e => by
    have hp := h p List.mem_cons_self
    rw [List.zipWith_cons_cons, List.flatten_cons, List.replicate_succ]
    have e2 : (p ++ 32 :: List.replicate k 32 ++ (List.zipWith (fun p k => p ++ List.replicate (k + 1) 32) ps ks).flatten ++ r) = p ++ 32 :: (List.replicate k 32 ++ ((List.zipWith (fun p k => p ++ List.replicate (k + 1) 32) ps ks).flatten ++ r)) := by simp
    rw [e2, pcs_word _ hp.1 hp.2, pcs_blanks, pcs_wide n ps ks r (fun z hz => h z (List.mem_cons_of_mem _ hz)) (by simpa using e)]
    rfl
theorem spl_len (s : Nat) : ∀ (l acc : List Nat), (spl [s] 0 acc l).length ≤ l.length + 1
  | [], acc => by rw [spl_nil]; simp
  | c :: l, acc => by
    by_cases h : pre [s] (c :: l) = true
    · rw [spl_hit h]
      have := spl_len s l []
      simp only [List.length_cons] at *
      show (spl [s] 0 [] l).length + 1 ≤ _
      omega
    · rw [spl_miss (by simpa using h)]
      have := spl_len s l (acc ++ [c])
      simp only [List.length_cons] at *
      omega
theorem spl_each (s : Nat) : ∀ (l acc : List Nat), ∀ p ∈ spl [s] 0 acc l, p.length ≤ acc.length + l.length
  | [], acc => by
    intro p hp
    rw [spl_nil] at hp
    rw [List.mem_singleton.mp hp]
    simp
  | c :: l, acc => by
    intro p hp
    by_cases h : pre [s] (c :: l) = true
    · rw [spl_hit h] at hp
      rcases List.mem_cons.mp hp with rfl | hp
      · simp
      · have := spl_each s l [] p hp
        simp only [List.length_cons, List.length_nil] at *
        omega
    · rw [spl_miss (by simpa using h)] at hp
      have := spl_each s l (acc ++ [c]) p hp
      simp only [List.length_cons, List.length_append, List.length_nil] at *
      omega
theorem split_tl {y : Str} {s : Nat} (ey : tl y = [s]) (hk : y.cps.all (· < 256) = true) (z : Str) : (Txt.split z y).map tl = spl [s] 0 [] (tl z) := by
  rw [TL.split_spl z y (by rw [ey]; simp) (TL.kind_ok hk), ey]
theorem ex_par {a b : V} {C : V → V → Prop} (q : C a b) : ∃ v w, [a, b] = [v, w] ∧ C v w := ⟨a, b, rfl, q⟩
theorem ex_par3 {a b c : V} {C : V → V → V → Prop} (q : C a b c) : ∃ u v w, [a, b, c] = [u, v, w] ∧ C u v w := ⟨a, b, c, rfl, q⟩
theorem itE {α : Type} {a : α} [Decidable (a = a)] {A B : Prop} (h : B) : if (!decide (a = a)) = true then A else B := by
  rw [if_neg (by simp)]
  exact h
/-- isinstance(x, T) by the type's name -/
def kitT (T U : String) : Option Bool := if T = "?own" then (if U = "str" ∨ U = "tuple" ∨ U = "bool" then some false else none) else kitB T U
theorem k_isT {P : Program} {w : World} {K : PySem.W.Frag} {H : Hp} {Q : VK} {x : V} {T U : String} {c : Bool} (t : Tyb K H x T) (h : kitT T U = some c) (q : Q (.bl c) H) : sC P w K (.builtin "isinstance") [x, .ty U] H Q := by
  unfold kitT at h
  by_cases hT : T = "?own"
  · rw [if_pos hT] at h
    subst hT
    have : ∃ (a C dx : Addr) (fs : List (Str × V)), x = .ref a ∧ H a = some (.ins C dx fs) ∧ OwnC K C := by
      generalize hU : "?own" = V at t
      cases t with
      | own e c => exact ⟨_, _, _, _, rfl, e, c⟩
      | _ => exact absurd hU (by decide)
    obtain ⟨a, C, dx, fs, rfl, e, o⟩ := this
    split at h
    · rename_i hU
      cases h
      refine k_isi (.ty U) (.base (.ins e o.cls o.cl o.gt o.tk o.ob)) ?_ q
      rcases hU with rfl | rfl | rfl
      · exact o.ks
      · exact o.kt
      · exact o.kb
    · cases h
  · rw [if_neg hT] at h
    exact k_isi (.ty U) (t.kx hT) (kit_ty h) q
/-- what comes next is cut off -/
theorem r_cut {s : TS} {nx bk ct : L2.St → Hp → Prop} {rt : VK} {σ : L2.St} {H : Hp} (Pm : L2.St → Hp → Prop) (q : ∀ nx' : L2.St → Hp → Prop, (∀ σ' H', Pm σ' H' → nx' σ' H') → s ⟨nx', rt, bk, ct⟩ σ H) (k : ∀ σ' H', Pm σ' H' → nx σ' H') : s ⟨nx, rt, bk, ct⟩ σ H := q nx k
theorem Same.via {H H1 H2 : Hp} {p : Addr} (s : Same H H1) (n : H p = none) (b : But p H1 H2) : Same H H2 := fun a o h => b a o (ne_of_none h n) (s a o h)
theorem ixN_at {n j : Nat} (h : j < n) : ixN n (j : Int) = some j := by
  unfold ixN
  rw [if_pos (by omega), if_pos (by omega), Int.toNat_natCast]
end Lay

set_option Elab.async false
set_option linter.all false
set_option maxRecDepth 100000
set_option maxHeartbeats 4000000
namespace Lay
open PySem PySem.Spec PyProof.Rows L2
section
variable {K : PySem.W.Frag} {h : Heap} {mg : Str → Option Value} {P : Program} {w : World} {base : Heap}
/-- called by keywords alone -/
theorem FnK.kw {x : Str} {st : Stmt} {ps ks : List Str} {k : Nat} {sp : Sp} (t : FnK K x st) (X : K.In h) (G : h.Ns mainGlobals mg) (F : FnG P w K mg base k x ps sp)
    (hb : ∀ (kV doc pm : Value) (an : Option Addr) (cdv ct : Value) (ws : List Value), ws.length = ks.length → bindArgs (PySem.W.fnOf x x (defArgs st) (defBody st) (defScope st) .none kV doc pm an cdv ct) ⟨[], ks.zip ws⟩ = pure (ps.zip ws)) : FnGK P w K mg base k x 0 ks (fun _ zs => zs) sp := by
  obtain ⟨f, oc, od, kV, doc, pm, an, cd, ct, sl, h1, h2, h3, h4⟩ := t
  obtain ⟨a, fd, e1, e2, e3, ⟨ob, e4, e5⟩, e6⟩ := F
  have ea := (PySem.W.mg_of X G h1).symm.trans e1
  cases ea
  have eo := h2.symm.trans e4
  cases eo
  cases e5
  refine ⟨f, _, ps, fun _ ws => ws, e1, e2, ⟨fun s us ws _ l1 l2 => ?_, fun _ r => r⟩, e6⟩
  rw [List.length_eq_zero_iff.mp l1]
  exact .of_eq (hb kV doc pm an cd ct ws l2)
/-- a def with keyword-only defaults -/
def FnKD (K : PySem.W.Frag) (x : Str) (st : Stmt) (kws : List (Str × V)) : Prop := ∃ (f : Addr) (oc : Value) (od : Option Addr) (D : Addr) (doc pm : Value) (an : Option Addr) (cd ct : Value) (sl : Array (Option Value)),
  PySem.W.nsIn K mainGlobals x = some (some (.ref f)) ∧ K.lookup f = some ⟨oc, od, .func (PySem.W.fnOf x x (defArgs st) (defBody st) (defScope st) .none (.ref D) doc pm an cd ct), sl⟩ ∧ PySem.W.codeIn K cd x = true ∧ PySem.W.keepIn K (.ref f) = true ∧ ∀ q ∈ kws, ∃ u, PySem.W.nsIn K D q.1 = some (some u) ∧ RelV q.2 u
theorem FnKD.mk {x : Str} {st : Stmt} {kws : List (Str × V)} {f : Addr} {oc : Value} {od : Option Addr} {D : Addr} {doc pm : Value} {an : Option Addr} {cd ct : Value} {sl : Array (Option Value)} (h1 : PySem.W.nsIn K mainGlobals x = some (some (.ref f)))
    (h2 : K.lookup f = some ⟨oc, od, .func (PySem.W.fnOf x x (defArgs st) (defBody st) (defScope st) .none (.ref D) doc pm an cd ct), sl⟩) (h3 : PySem.W.codeIn K cd x = true) (h4 : PySem.W.keepIn K (.ref f) = true) (h5 : ∀ q ∈ kws, ∃ u, PySem.W.nsIn K D q.1 = some (some u) ∧ RelV q.2 u) : FnKD K x st kws :=
  ⟨f, oc, od, D, doc, pm, an, cd, ct, sl, h1, h2, h3, h4, h5⟩
/-- .. called with its keyword-only parameters left out -/
theorem FnKD.fnD {x : Str} {st : Stmt} {kws : List (Str × V)} {ps : List Str} {k n : Nat} {sp : Sp} (t : FnKD K x st kws) (X : K.In h) (G : h.Ns mainGlobals mg) (hk : kws ≠ []) (hn : n + kws.length = ps.length)
    (hb : ∀ (D : Addr) (doc pm : Value) (an : Option Addr) (cdv ct : Value) (us ks : List Value), us.length = n → ks.length = kws.length →
      KwChain D ((kws.map (·.1)).zip ks) (bindArgs (PySem.W.fnOf x x (defArgs st) (defBody st) (defScope st) .none (.ref D) doc pm an cdv ct) ⟨us, []⟩) (ps.zip (us ++ ks)))
    (F : ∀ a fd, Fun K x x st a fd → FnOk P w K mg base CX0 k a fd ps sp) : FnGD P w K mg base k x (kws.map (·.2)) sp := by
  obtain ⟨f, oc, od, D, doc, pm, an, cd, ct, sl, h1, h2, h3, h4, h5⟩ := t
  have F1 := fun_mk h2 h3 h4
  have FD : FunD K x x (defArgs st) (defBody st) (defScope st) [] kws f (PySem.W.fnOf x x (defArgs st) (defBody st) (defScope st) .none (.ref D) doc pm an cd ct) := ⟨⟨oc, od, .none, .ref D, doc, pm, an, cd, ct, sl, rfl, h2, h3, .inl ⟨rfl, rfl⟩, .inr ⟨D, rfl, h5⟩⟩, h4⟩
  obtain ⟨ds, r, b⟩ := FD.binds0 n hk hn hb
  exact ⟨f, _, ps, ds, PySem.W.mg_of X G h1, h4, r, b, F _ _ F1⟩
/-- .. called by n places and the keywords ks, no parameter left out -/
theorem FnKD.kwAll {x : Str} {st : Stmt} {kws : List (Str × V)} {ps ks : List Str} {k n : Nat} {gV : List V → List V → List V} {g : List Value → List Value → List Value} {sp : Sp} (t : FnKD K x st kws) (X : K.In h) (G : h.Ns mainGlobals mg)
    (rel : ∀ {vs : List V} {us : List Value} {zs : List V} {ws : List Value}, Vals vs us → Vals zs ws → Vals (gV vs zs) (g us ws))
    (hb : ∀ (D : Addr) (doc pm : Value) (an : Option Addr) (cdv ct : Value) (us ws : List Value), us.length = n → ws.length = ks.length →
      bindArgs (PySem.W.fnOf x x (defArgs st) (defBody st) (defScope st) .none (.ref D) doc pm an cdv ct) ⟨us, ks.zip ws⟩ = pure (ps.zip (g us ws)))
    (F : ∀ a fd, Fun K x x st a fd → FnOk P w K mg base CX0 k a fd ps sp) : FnGK P w K mg base k x n ks gV sp := by
  obtain ⟨f, oc, od, D, doc, pm, an, cd, ct, sl, h1, h2, h3, h4, h5⟩ := t
  exact ⟨f, _, ps, g, PySem.W.mg_of X G h1, h4, ⟨fun s us ws _ l1 l2 => .of_eq (hb D doc pm an cd ct us ws l1 l2), rel⟩, F _ _ (fun_mk h2 h3 h4)⟩
end
end Lay

set_option Elab.async false
set_option linter.all false
set_option maxRecDepth 100000
set_option maxHeartbeats 4000000
namespace Lay
open PySem PySem.Spec PyProof.Rows L2
/-! ### a dict of the heap -/
section
variable {P : Program} {w : World} {K : PySem.W.Frag} {H : Hp} {Q : VK} {x v : V} {a : Addr} {o : Option V}
theorem LX.un1 {X : Cx} (L : LX P w K X) : X.A.units + 1 < cLine := by
  have := L.un
  omega
theorem c_ind (g : DGet H a x o) (q : Q (.bl o.isSome) H) : sB P w K (compareOp .In) x (.ref a) H Q := by
  refine ⟨fun x y H Q => ∃ a o, y = .ref a ∧ DGet H a x o ∧ Q (.bl o.isSome) H, fun X L => ?_, a, o, rfl, g, q⟩
  intro pins s σ H x y v u Q I rx ry h
  obtain ⟨a, o, rfl, g, q⟩ := h
  obtain rfl : u = Value.ref a := ry
  exact d_in L.un1 I g rx fun s3 I3 => ⟨.bl o.isSome, H, I3, rfl, q⟩
theorem i_d (g : DGet H a x (some v)) (q : Q v H) : sI P w K (.ref a) x H Q := by
  refine ⟨fun x y H Q => ∃ a v, x = .ref a ∧ DGet H a y (some v) ∧ Q v H, fun X L => ?_, a, v, rfl, g, q⟩
  intro value slice pins s σ H x y u i Q I rx ry h hs
  obtain ⟨a, v, rfl, g, q⟩ := h
  obtain rfl : u = Value.ref a := rx
  exact tail_any (dict_typeIs I g) PySem.F.slot_dict_getitem.lookup (d_getItem L.un1 I g ry fun w' s3 I3 rw' => ⟨v, H, I3, rw', q⟩) hs
/-- two texts name two texts -/
theorem dg2 {k1 k2 z : Str} {v1 v2 : V} (e : H a = some (.dK [(.inr k1, v1), (.inr k2, v2)])) (n : k1 ≠ k2) : DGet H a (.str z) (if z = k1 then some v1 else if z = k2 then some v2 else none) := by
  have := DGet.k (k := .inr z) e
  have e2 : valV [((Sum.inr k1 : Key), v1), (.inr k2, v2)] (.inr z) = if z = k1 then some v1 else if z = k2 then some v2 else none := by
    unfold valV
    by_cases h1 : z = k1
    · subst h1
      simp
    · by_cases h2 : z = k2
      · subst h2
        have h3 : ¬ k1 = z := fun q => n q
        simp [h1, h3]
      · have h3 : ¬ k1 = z := fun q => h1 q.symm
        have h4 : ¬ k2 = z := fun q => h2 q.symm
        simp [h1, h2, h3, h4]
  rw [e2] at this
  exact this
theorem c_isN0 {k : Bool} (h : decide (x = .non) = k) (q : Q (.bl k) H) : sB P w K (compareOp .Is) x .non H Q := c_isN (h ▸ q)
end
section
variable {H : Hp} {Q : VK} {σ : L2.St}
theorem r_disp {trs : List (TE × TE)} (q : ∀ p, H p = none → tPairs trs σ (upd H p (.dK [])) fun ps H2 => H2 p = some (.dK []) ∧ ∃ kvs : List (Key × V), ps = kvs.map (fun kv => (kV kv.1, kv.2)) ∧ kvs.length ≤ 15 ∧ Q (.ref p) (upd H2 p (.dK (mergeK [] kvs)))) : tDisp trs σ H Q := q
theorem r_pnil {Q : List (V × V) → Hp → Prop} (q : Q [] H) : tPairs [] σ H Q := q
theorem r_pcons {tk tv : TE} {r : List (TE × TE)} {Q : List (V × V) → Hp → Prop} (q : tk σ H fun x H1 => tv σ H1 fun y H2 => tPairs r σ H2 fun ps H3 => Q ((x, y) :: ps) H3) : tPairs ((tk, tv) :: r) σ H Q := q
end
end Lay
namespace Lay
open PySem PySem.Spec PyProof.Rows L2 HT
/-! ### a tuple turned round -/
theorem adj_back (n : Nat) : Builtin.Slice.sliceAdjust none none (-1) (n : Int) = ((n : Int) - 1, -1) := by
  simp [Builtin.Slice.sliceAdjust]
theorem places_back (n : Nat) : Builtin.Slice.slicePlaces ((n : Int) - 1) (-1) (-1) = n := by
  simp [Builtin.Slice.slicePlaces]
  split <;> omega
theorem fm_some {α β : Type} {f : α → Option β} {g : α → β} : ∀ {l : List α}, (∀ m ∈ l, f m = some (g m)) → l.filterMap f = l.map g
  | [], _ => rfl
  | x :: r, h => by
    rw [List.filterMap_cons_some (h x List.mem_cons_self), fm_some fun m hm => h m (List.mem_cons_of_mem _ hm), List.map_cons]
theorem back_items (xs : Array Value) : ((List.range xs.size).filterMap fun (m : Nat) => xs[((xs.size : Int) - 1 + (m : Int) * (-1)).toNat]?).toArray = xs.toList.reverse.toArray := by
  congr 1
  have e : ∀ m ∈ List.range xs.size, xs[((xs.size : Int) - 1 + (m : Int) * (-1)).toNat]? = some (xs.toList.reverse.getD m .none) := fun m hm => by
    have h1 := List.mem_range.mp hm
    have h2 : ((xs.size : Int) - 1 + (m : Int) * (-1)).toNat = xs.size - 1 - m := by omega
    rw [h2, List.getD_eq_getElem?_getD, List.getElem?_reverse (by rw [Array.length_toList]; exact h1), Array.length_toList, Array.getElem?_toList, Array.getElem?_eq_getElem (by omega)]
    rfl
  rw [fm_some e]
  have := range_getD xs.toList.reverse Value.none
  rw [List.length_reverse, Array.length_toList] at this
  exact this
theorem slice_back {prog : Program} {w : World} {A : Around} {E : Value → Shared → Prop} {s : Shared} {sl : Addr} {vs : Value} {n : Nat} {Q : Int × Int × Nat → Shared → Prop} (hs : s.heap.IsSliceOf sl .none .none vs) (ps : IsPart vs (some (-1)))
    (h : Q ((n : Int) - 1, -1, n) s) : wpAny (model prog w) A (Builtin.Slice.sliceApplied (.ref sl) (pure (n : Int))) Q E s := by
  obtain ⟨o, o1, o2, o3⟩ := id hs
  unfold Builtin.Slice.sliceApplied Builtin.Slice.sliceFields
  refine wpAny_bind (wpAny_bind (wpAny_field o1 o3 (x := .none) rfl (wpAny_bind (wpAny_field o1 o3 (x := .none) rfl (wpAny_bind (wpAny_field o1 o3 (x := vs) rfl (wpAny_pure ?_)))))))
  refine wpAny_bind (slicePart_ ps ?_)
  show wpAny _ _ (if ((-1 : Int) == 0) = true then _ else _) _ _ s
  rw [if_neg (by decide)]
  refine wpAny_bind (slicePart_none (wpAny_bind (slicePart_none (wpAny_bind (wpAny_pure ?_)))))
  show wpAny _ _ (match Builtin.Slice.sliceAdjust none none (-1) (n : Int) with | (lo, hi) => pure (lo, (-1 : Int), Builtin.Slice.slicePlaces lo hi (-1))) _ _ s
  rw [adj_back]
  show wpAny _ _ (pure ((n : Int) - 1, (-1 : Int), Builtin.Slice.slicePlaces ((n : Int) - 1) (-1) (-1))) _ _ s
  rw [places_back]
  exact wpAny_pure h
theorem getItem_back {prog : Program} {w : World} {A : Around} {E : Value → Shared → Prop} {s : Shared} {t sl : Addr} {items : Array Value} {vs : Value} {Q : Value → Shared → Prop} (ht : IsTup s.heap t items) (hs : s.heap.IsSliceOf sl .none .none vs) (ps : IsPart vs (some (-1)))
    (h : Q (.ref s.heap.objs.size) { s with heap := s.heap.push { cls := .type "tuple", data := .seq items.toList.reverse.toArray } }) (hz : items.size ≤ sizeLine) : wpAny (model prog w) A (getItem (.ref t) (.ref sl)) Q E s := by
  have fits : sizeOk (.seq items.toList.reverse.toArray) := by
    show items.toList.reverse.toArray.size ≤ sizeLine
    rw [List.size_toArray, List.length_reverse, Array.length_toList]
    exact hz
  obtain ⟨o, o1, o2, o3⟩ := id hs
  have hT : s.TypeIs (.ref sl) "slice" := ⟨o, o1, o2⟩
  unfold getItem
  try with_reducible refine wpAny_holding ?_
  try refine wpAny_bind (wpAny_pure ?_)
  refine wpAny_bind (wpAny_sequenceKey ht.typeIs (by decide) ?_)
  refine wpAny_bind (wpAny_callSpecial?_slot (name := Str.ofString "__getitem__") ht.typeIs PyProof.Rows.slot_tuple_getitem (wpAny_call_entry PyProof.Rows.slot_tuple_getitem ht.typeIs entry_tuple_getitem ?_ (args_tuple_getitem _ _)))
  show wpAny _ _ (Builtin.Tuple.tupleItemsOf (.ref t) >>= _) _ _ s
  refine wpAny_bind (tupleItemsOf_ ht (wpAny_bind (wpAny_typeOf hT ?_)))
  rw [if_pos (by decide)]
  refine wpAny_bind (slice_back hs ps ?_)
  show wpAny _ _ (if (((items.size : Int) - 1) == 0 && (-1 : Int) == 1 && items.size == items.size) = true then _ else _) _ _ s
  rw [if_neg (by simp), back_items]
  first
    | exact wpAny_bind (m := Builtin.Tuple.tupleExact _) (wpAny_newObj_type (wpAny_pure ⟨_, rfl, wpAny_pure h⟩) fits)
    | exact wpAny_bind (m := Builtin.Tuple.tupleExact _) (wpAny_newObj_type (wpAny_bind (wpAny_pure (wpAny_pure ⟨_, rfl, wpAny_pure h⟩))) fits)
    | exact wpAny_bind (wpAny_bind (m := Builtin.Tuple.tupleExact _) (wpAny_newObj_type (wpAny_pure (wpAny_pure ⟨_, rfl, wpAny_pure h⟩)) fits))
    | exact wpAny_bind (wpAny_bind (m := Builtin.Tuple.tupleExact _) (wpAny_newObj_type (wpAny_pure ⟨_, rfl, wpAny_pure h⟩) fits))
/-- t[::-1] -/
def tBack (K : PySem.W.Frag) (te : TE) : TE := fun σ H Q => te σ H fun x H1 => ∃ a xs, x = .ref a ∧ SqT K H1 a xs ∧ ∀ p, H1 p = none → Q (.ref p) (upd H1 p (.tup xs.reverse))
theorem pe_revA {P : Program} {w : World} {K : PySem.W.Frag} {X : Cx} {e : Expr} {te : TE} {k : Nat} {p1 p2 p3 pos : Pos} (L : LX P w K X) (he : PE X e te) : PE X (.Subscript e (.Slice none none (some (.UnaryOp .USub (.Constant (.int 1) k p1) p2)) p3) pos) (tBack K te) := by
  obtain ⟨_, _, rfl, _, _⟩ := L
  refine ⟨fun pins s σ H Q I h => Subscript_ (thn (he.run pins s σ H _ I h) fun v s1 ⟨x, H1, I1, r1, a, xs, ex, hx, q⟩ => ?_)⟩
  subst ex
  cases r1
  have hst : PO X (some (.UnaryOp .USub (.Constant (.int 1) k p1) p2)) (tPart (tUn (rU fun i => .int (-i)) (tC (.int 1)))) := po_some (pe_un un_neg pe_int)
  refine wpAny_Slice (thn (po_none.run pins s1 σ H1 (fun o H2 => o = none ∧ H2 = H1) I1 ⟨rfl, rfl⟩) fun vl s2 ⟨l, H2, I2, pl, el, e2⟩ => ?_)
  subst el e2
  refine thn (po_none.run pins s2 σ H2 (fun o H3 => o = none ∧ H3 = H2) I2 ⟨rfl, rfl⟩) fun vu s3 ⟨u, H3, I3, pu, eu, e3⟩ => ?_
  subst eu e3
  cases pl
  cases pu
  refine thn (hst.run pins s3 σ H3 (fun o H4 => o = some (-1) ∧ H4 = H3) I3 ⟨1, rfl, -1, rfl, rfl, rfl⟩) fun vs s4 ⟨o, H4, I4, ps, eo, e4⟩ => ?_
  subst eo e4
  have I5 : Inv X pins σ H4 { s4 with heap := s4.heap.push { cls := .type "slice", data := .fields #[.none, .none, vs] } } := I4.kept (t' := s4.toks) fun b ob q => Heap.get?_push_of_some _ q
  obtain ⟨its, r, ht, hz⟩ := I5.tuple hx
  have hl := r.length
  show wpAny (model X.prog X.w) X.A (subscriptTail e (.Slice none none (some (.UnaryOp .USub (.Constant (.int 1) k p1) p2)) p3) (.ref a) (.ref s4.heap.objs.size)) (EP X pins σ Q) X.xe { s4 with heap := s4.heap.push { cls := .type "slice", data := .fields #[.none, .none, vs] } }
  refine tail_any (ops := [.ref a, .ref s4.heap.objs.size]) ht.typeIs PyProof.Rows.slot_tuple_getitem.lookup ?_ (by with_unfolding_all rfl)
  refine getItem_back ht (Heap.IsSliceOf.new _ .none .none vs) ps ?_ (by rw [List.size_toArray]; omega)
  refine ⟨.ref _, _, I5.laid (t' := s4.toks) (o := .tup xs.reverse) (fun b ob q => Heap.get?_push_of_some _ q) (Nat.le_refl _) ?_, rfl, q _ (I5.hok.fresh (Nat.le_refl _))⟩
  exact ⟨by rw [List.length_reverse]; exact hz, _, r.reverse, IsTup.new _ _⟩
theorem r_back {K : PySem.W.Frag} {te : TE} {σ : L2.St} {H : Hp} {Q : VK} (q : te σ H fun x H1 => ∃ a xs, x = .ref a ∧ SqT K H1 a xs ∧ ∀ p, H1 p = none → Q (.ref p) (upd H1 p (.tup xs.reverse))) : tBack K te σ H Q := q
end Lay

set_option Elab.async false
set_option linter.all false
set_option maxRecDepth 100000
set_option maxHeartbeats 4000000
namespace Lay
open PySem PySem.Spec PyProof.Rows L2
/-! ### fields of an object -/
theorem pf_nil {f : Str} {v : V} : putF f v [] = [(f, v)] := rfl
theorem pf_ne {f g : Str} {v x : V} {r r' : List (Str × V)} (h : ¬ g = f) (q : putF f v r = r') : putF f v ((g, x) :: r) = (g, x) :: r' := by
  show (if g = f then (g, v) :: r else (g, x) :: putF f v r) = _
  rw [if_neg h, q]
theorem pf_eq {f : Str} {v x : V} {r : List (Str × V)} : putF f v ((f, x) :: r) = (f, v) :: r := by
  show (if f = f then (f, v) :: r else (f, x) :: putF f v r) = _
  rw [if_pos rfl]
theorem lf_nil {f : Str} : ([] : List (Str × V)).lookup f = none := rfl
theorem lf_eq {f : Str} {v : V} {r : List (Str × V)} : List.lookup f ((f, v) :: r) = some v := by
  unfold List.lookup
  rw [beq_self_eq_true]
theorem lf_ne {f g : Str} {x : V} {o : Option V} {r : List (Str × V)} (h : (f == g) = false) (q : r.lookup f = o) : List.lookup f ((g, x) :: r) = o := by
  unfold List.lookup
  rw [h]
  exact q
theorem itnT' {A B : Prop} {b : Bool} (e : b = true) (h : B) : if (!b) = true then A else B := by
  rw [e]
  exact itnT h
/-! ### methods, classes -/
/-- a method as it stands behind the top -/
def Mt0 (K : PySem.W.Frag) (C : Addr) (m qual : Str) (st : Stmt) (ps : List Str) : Prop := ∃ f fd, Fun K m qual st f fd ∧ Meth K C m f ∧ Binds K fd ps []
/-- .. and keeps its promise -/
def MtG (P : Program) (w : World) (K : PySem.W.Frag) (mg : Str → Option Value) (base : Heap) (k : Nat) (C : Addr) (m : Str) (sp : Sp) : Prop :=
  ∃ f fd ps, Meth K C m f ∧ Binds K fd ps [] ∧ FnOk P w K mg base CX0 k f fd ps sp
/-- a class, made by its name with the defaults dvs -/
def MkG (P : Program) (w : World) (K : PySem.W.Frag) (mg : Str → Option Value) (base : Heap) (k : Nat) (x : Str) (C : Addr) (dvs : List V) (sp : Sp) : Prop :=
  ∃ f fd ps ds, Mk K C f ∧ mg x = some (.ref C) ∧ Vals dvs ds ∧ Binds K fd ps ds ∧ FnOk P w K mg base CX0 k f fd ps sp
/-- an __init__ without defaults -/
def In0 (K : PySem.W.Frag) (mg : Str → Option Value) (x : Str) (C : Addr) (qual : Str) (st : Stmt) (ps : List Str) : Prop := ∃ f fd, Fun K "__init__" qual st f fd ∧ Mk K C f ∧ mg x = some (.ref C) ∧ Binds K fd ps []
/-- an __init__ with defaults dvs -/
def InD (K : PySem.W.Frag) (mg : Str → Option Value) (x : Str) (C : Addr) (qual : Str) (st : Stmt) (ps : List Str) (dvs : List V) : Prop :=
  ∃ f fd ds, FunD K "__init__" qual (defArgs st) (defBody st) (defScope st) dvs [] f fd ∧ Mk K C f ∧ mg x = some (.ref C) ∧ Vals dvs ds ∧ Binds K fd ps ds
section
variable {P : Program} {w : World} {K : PySem.W.Frag} {mg : Str → Option Value} {base : Heap} {C : Addr} {x m qual : Str} {st : Stmt} {N ps : List Str} {k : Nat} {sp : Sp}
abbrev BodyOk (P : Program) (w : World) (K : PySem.W.Frag) (mg : Str → Option Value) (base : Heap) (qual : Str) (st : Stmt) (N : List Str) (k : Nat) (sp : Sp) : Prop :=
  ∀ (a : Addr) (cdv : Value) (A : Around) (outer : List Env) (s : Shared) (H : Hp) (vs : List V) (Q : VK) (E : XK), LX P w K (cxOf CX0 P w K mg base N qual (defScope st) a cdv A outer s H E).nox →
      Room k (A.deeper (envOfC qual (defScope st) s.heap.objs.size a cdv)) → sp vs H Q E →
      ∃ t, PSs (cxOf CX0 P w K mg base N qual (defScope st) a cdv A outer s H E).nox (defBody st) t ∧ t { nx := fun _ H' => Q .non H', rt := Q } (start N vs) H
theorem Mt0.ok (F : Mt0 K C m qual st ps) (S : FnScope N ps (defScope st)) (len : ∀ vs H Q E, sp vs H Q E → vs.length = ps.length) (body : BodyOk P w K mg base qual st N k sp) : MtG P w K mg base (k + 1) C m sp := by
  obtain ⟨f, fd, F, h, b⟩ := F
  exact ⟨f, fd, ps, h, b, F.ok S len fun cdv A outer s H vs Q E hr h => body f cdv A outer s H vs Q E ⟨rfl, rfl, rfl, rfl, hr.units⟩ hr h⟩
theorem In0.ok (F : In0 K mg x C qual st ps) (S : FnScope N ps (defScope st)) (len : ∀ vs H Q E, sp vs H Q E → vs.length = ps.length) (body : BodyOk P w K mg base qual st N k sp) : MkG P w K mg base (k + 1) x C [] sp := by
  obtain ⟨f, fd, F, h, hm, b⟩ := F
  exact ⟨f, fd, ps, [], h, hm, .nil, b, F.ok S len fun cdv A outer s H vs Q E hr h => body f cdv A outer s H vs Q E ⟨rfl, rfl, rfl, rfl, hr.units⟩ hr h⟩
/-- .. called with its defaults -/
theorem InD.ok {dvs : List V} (F : InD K mg x C qual st ps dvs) (S : FnScope N ps (defScope st)) (len : ∀ vs H Q E, sp vs H Q E → vs.length = ps.length) (body : BodyOk P w K mg base qual st N k sp) : MkG P w K mg base (k + 1) x C dvs sp := by
  obtain ⟨f, fd, ds, F, h, hm, hv, b⟩ := F
  refine ⟨f, fd, ps, ds, h, hm, hv, b, F.ok S len fun cdv A outer s H vs Q E hr h => ?_⟩
  obtain ⟨t, h1, h2⟩ := body f cdv A outer s H vs Q E ⟨rfl, rfl, rfl, rfl, hr.units⟩ hr h
  exact ⟨t, h1.nox, h2⟩
theorem MtG.mono {j : Nat} (F : MtG P w K mg base j C m sp) (h : j ≤ k) : MtG P w K mg base k C m sp := by
  obtain ⟨f, fd, ps, h1, h2, h3⟩ := F
  exact ⟨f, fd, ps, h1, h2, h3.mono h⟩
end
section
variable {P : Program} {w : World} {K : PySem.W.Frag} {X : Cx} {k : Nat} {C : Addr} {x m f : Str} {dvs : List V} {sp : Sp} {p pos apos pos' : Pos} {e o value : Expr} {es : List Expr} {ta tv : TE} {t : TA}
theorem pe_mkG0 (F : MkG X.prog X.w X.K X.mg X.base k x C dvs sp) (hr : Room (k + 1) X.A) (hg : Gl X x) (hdb : (x == ("__debug__" : Str)) = false := by decide) : PE X (.Call (.Name x p) [] [] pos) (tMake C sp dvs E0 tNil) := by
  obtain ⟨f, fd, ps, ds, h1, h2, h3, h4, h5⟩ := F
  exact pe_make0 h1 h5 hr hg h2 h4 h3 pass0 hdb
theorem pe_mkG (F : MkG X.prog X.w X.K X.mg X.base k x C dvs sp) (hr : Room (k + 1) X.A) (hg : Gl X x) (ha : PA X (e :: es) t) (hdb : (x == ("__debug__" : Str)) = false := by decide)
    (he : starEach (e :: es) X.env = (false, eval e X.env) :: starEach es X.env := by rfl) (hpl : (backTo pos (starEach es X.env)).any (·.1) = false := by rfl) : PE X (.Call (.Name x p) (e :: es) [] pos) (tMake C sp dvs E0 t) := by
  obtain ⟨f, fd, ps, ds, h1, h2, h3, h4, h5⟩ := F
  exact pe_make h1 h5 hr hg h2 h4 h3 pass0 ha hdb he hpl
theorem pe_mtG {pl : Sem Bool} (c : Cls X.K C) (F : MtG X.prog X.w X.K X.mg X.base k C m sp) (hr : Room k X.A) (he : PE X o ta) (ha : PA X (e :: es) t)
    (hst : starEach (e :: es) X.env = (false, eval e X.env) :: starEach es X.env := by rfl) (hpl : (backTo pos (starEach es X.env)).any (·.1) = false := by rfl)
    (ht : eval (.Call (.Attribute o m apos) (e :: es) [] pos) X.env = (do
      let ov ← eval o X.env
      standAt apos.atName
      let (f, first) ← holding [ov] (getMethod ov m pl)
      callWith pos f first (backTo pos (starEach (e :: es) X.env)) (backToKw pos (keywordEach [] X.env))) := by rfl) :
    PE X (.Call (.Attribute o m apos) (e :: es) [] pos) (tMeth C m sp [] E0 ta t) := by
  obtain ⟨f, fd, ps, h1, h2, h3⟩ := F
  exact pe_meth (pl := pl) he c h1 h3 hr h2 .nil pass0 ha hst hpl ht
theorem pe_mtG0 {pl : Sem Bool} (c : Cls X.K C) (F : MtG X.prog X.w X.K X.mg X.base k C m sp) (hr : Room k X.A) (he : PE X o ta)
    (ht : eval (.Call (.Attribute o m apos) [] [] pos) X.env = (do
      let ov ← eval o X.env
      standAt apos.atName
      let (f, first) ← holding [ov] (getMethod ov m pl)
      callWith pos f first (backTo pos (starEach [] X.env)) (backToKw pos (keywordEach [] X.env))) := by rfl) :
    PE X (.Call (.Attribute o m apos) [] [] pos) (tMeth C m sp [] E0 ta tNil) := by
  obtain ⟨f, fd, ps, h1, h2, h3⟩ := F
  exact pe_meth0 (pl := pl) he c h1 h3 hr h2 .nil pass0 ht
theorem pe_fldL (L : LX P w K X) (he : PE X e ta) (hb : attributeBase e f X.env (eval e X.env) = eval e X.env := by rfl) : PE X (.Attribute e f pos) (tFld K ta f) := by
  obtain ⟨_, _, rfl, _, _⟩ := L
  exact pe_fld he hb
theorem ps_fldL (L : LX P w K X) (ha : PE X o ta) (hv : PE X value tv) (hs : swapsWith value (some (.Attribute o f pos')) pos.line X.env = pure false := by rfl) : PS X (.Assign [.Attribute o f pos'] value pos) (sFld K ta tv f) := by
  obtain ⟨_, _, rfl, _, _⟩ := L
  exact ps_fld ha hv hs
end
/-! ### readings -/
section
variable {P : Program} {w : World} {K : PySem.W.Frag} {H : Hp} {Q : VK} {σ : L2.St} {ta tv : TE} {t : TA} {C a dx : Addr} {fs fs' : List (Str × V)} {f m : Str} {v y : V} {sp : Sp} {dvs : List V}
theorem r_fld (q : ta σ H fun x H1 => ∃ a C dx fs v, x = .ref a ∧ H1 a = some (.ins C dx fs) ∧ Cls K C ∧ NoAttr K C f ∧ fs.lookup f = some v ∧ Q v H1) : tFld K ta f σ H Q := q
theorem f_get {R : V → Prop} (e : H a = some (.ins C dx fs)) (c : Cls K C) (n : NoAttr K C f) (l : fs.lookup f = some v) (q : R v) : ∃ a' C dx fs v, V.ref a = .ref a' ∧ H a' = some (.ins C dx fs) ∧ Cls K C ∧ NoAttr K C f ∧ fs.lookup f = some v ∧ R v := ⟨a, C, dx, fs, v, rfl, e, c, n, l, q⟩
theorem r_sfld {nx bk ct : L2.St → Hp → Prop} {rt : VK} (q : tv σ H fun y H1 => ta σ H1 fun x H2 => ∃ a C dx fs, x = .ref a ∧ H2 a = some (.ins C dx fs) ∧ Cls K C ∧ NoAttr K C f ∧ fs.length < 1000 ∧ nx σ (upd H2 a (.ins C dx (putF f y fs)))) : sFld K ta tv f ⟨nx, rt, bk, ct⟩ σ H := q
theorem f_put {R : Hp → Prop} (e : H a = some (.ins C dx fs)) (c : Cls K C) (n : NoAttr K C f) (p : putF f y fs = fs') (l : fs.length < 1000) (q : R (upd H a (.ins C dx fs'))) : ∃ a' C dx fs, V.ref a = .ref a' ∧ H a' = some (.ins C dx fs) ∧ Cls K C ∧ NoAttr K C f ∧ fs.length < 1000 ∧ R (upd H a' (.ins C dx (putF f y fs))) :=
  ⟨a, C, dx, fs, rfl, e, c, n, l, by rw [p]; exact q⟩
theorem r_make (q : t σ H fun vs H1 => ∀ x dx, H1 x = none → H1 dx = none → dx ≠ x → sp (.ref x :: (vs ++ dvs)) (upd (upd H1 dx (.own x)) x (.ins C dx [])) (fun v H2 => v = .non ∧ Q (.ref x) H2) E0) : tMake C sp dvs E0 t σ H Q := q
theorem r_meth (q : ta σ H fun x H1 => ∃ a dx fs, x = .ref a ∧ H1 a = some (.ins C dx fs) ∧ fs.lookup m = none ∧ t σ H1 fun vs H2 => sp (x :: (vs ++ dvs)) H2 Q E0) : tMeth C m sp dvs E0 ta t σ H Q := q
theorem m_on {R : V → Prop} (e : H a = some (.ins C dx fs)) (l : fs.lookup m = none) (q : R (.ref a)) : ∃ a' dx fs, V.ref a = .ref a' ∧ H a' = some (.ins C dx fs) ∧ fs.lookup m = none ∧ R (.ref a) := ⟨a, dx, fs, rfl, e, l, q⟩
theorem r_dnewK (q : ∀ p, H p = none → Q (.ref p) (upd H p (.dK []))) : tDNewK σ H Q := q
/-- a new object -/
theorem same_made {x dx : Addr} {o o' : HO} (n : H x = none) (n' : H dx = none) : Same H (upd (upd H dx o) x o') := fun b u e => by
  rw [upd_ne (ne_of_none e n), upd_ne (ne_of_none e n')]
  exact e
end
/-! ### what the top has written of classes -/
section
variable {K : PySem.W.Frag} {mg : Str → Option Value} {h : Heap} {cn m qual f : Str} {st : Stmt} {C : Addr}
def ClK (K : PySem.W.Frag) (cn : Str) : Prop := ∃ C, PySem.W.nsIn K mainGlobals cn = some (some (.ref C)) ∧ Cls K C
theorem ClK.mk (h1 : PySem.W.nsIn K mainGlobals cn = some (some (.ref C))) (h2 : PySem.W.plainGet K C Str.empty = true) (h3 : PySem.W.hasDictIn K C = true) (h4 : PySem.W.plainOver K C = true) (h5 : PySem.W.findIn K (.ref C) "__setattr__" = some (some (.builtin "object.__setattr__"))) : ClK K cn := ⟨C, h1, h2, h3, h4, h5⟩
def NoK (K : PySem.W.Frag) (cn f : Str) : Prop := ∃ C, PySem.W.nsIn K mainGlobals cn = some (some (.ref C)) ∧ NoAttr K C f
theorem NoK.mk (h1 : PySem.W.nsIn K mainGlobals cn = some (some (.ref C))) (h2 : PySem.W.findIn K (.ref C) f = some none) : NoK K cn f := ⟨C, h1, h2⟩
theorem NoK.at (t : NoK K cn f) (e : PySem.W.nsIn K mainGlobals cn = some (some (.ref C))) : NoAttr K C f := by
  obtain ⟨C', e', n⟩ := t
  cases e.symm.trans e'
  exact n
theorem kit_own {T : String} (h : PySem.W.subIn K (.ref C) (.type T) = some false) (m : PySem.W.kitMeta T = true := by decide +kernel) : PySem.W.kitOne K (.ref C) (.type T) = some false := by
  unfold PySem.W.kitOne PySem.W.kitCls
  rw [if_neg (by simp)]
  show (if PySem.W.kitMeta T = true then _ else _) = _
  rw [if_pos m]
  exact h
def OwnK (K : PySem.W.Frag) (cn : Str) : Prop := ∃ C, PySem.W.nsIn K mainGlobals cn = some (some (.ref C)) ∧ OwnC K C
theorem OwnK.mk {o : Obj} (h1 : PySem.W.nsIn K mainGlobals cn = some (some (.ref C))) (h2 : PySem.W.plainGet K C Str.empty = true) (h3 : PySem.W.hasDictIn K C = true) (h4 : PySem.W.plainOver K C = true) (h5 : PySem.W.findIn K (.ref C) "__setattr__" = some (some (.builtin "object.__setattr__")))
    (a1 : PySem.W.findIn K (.ref C) "__class__" = some (some (.builtin "object.__class__"))) (a2 : PySem.W.specialIn K (.builtin "object.__class__") "__get__" = some (some (.builtin "getset_descriptor.__get__"))) (a3 : PySem.W.takesIn K (.builtin "object.__class__") = some true)
    (a4 : PySem.W.mroIn K C (.type "object") = some true) (a5 : K.lookup C = some o) (a6 : o.cls = .type "type") (a7 : PySem.W.subIn K (.ref C) (.type "str") = some false) (a8 : PySem.W.subIn K (.ref C) (.type "tuple") = some false) (a9 : PySem.W.subIn K (.ref C) (.type "bool") = some false) : OwnK K cn :=
  ⟨C, h1, ⟨h2, h3, h4, h5⟩, a1, a2, a3, a4, ⟨o, a5, a6⟩, kit_own a7, kit_own a8, kit_own a9⟩
theorem OwnK.at (t : OwnK K cn) (e : PySem.W.nsIn K mainGlobals cn = some (some (.ref C))) : OwnC K C := by
  obtain ⟨C', e', n⟩ := t
  cases e.symm.trans e'
  exact n
/-- a method (or __init__) without defaults -/
def MtK (K : PySem.W.Frag) (cn m qual : Str) (st : Stmt) : Prop := ∃ (C f : Addr) (oc : Value) (od : Option Addr) (kV doc pm : Value) (an : Option Addr) (cd ct : Value) (sl : Array (Option Value)),
  PySem.W.nsIn K mainGlobals cn = some (some (.ref C)) ∧ PySem.W.findIn K (.ref C) m = some (some (.ref f)) ∧ PySem.W.isFn K (.ref f) = true ∧ K.lookup f = some ⟨oc, od, .func (PySem.W.fnOf m qual (defArgs st) (defBody st) (defScope st) .none kV doc pm an cd ct), sl⟩ ∧ PySem.W.codeIn K cd qual = true ∧ PySem.W.keepIn K (.ref f) = true
theorem MtK.mk {f : Addr} {oc : Value} {od : Option Addr} {kV doc pm : Value} {an : Option Addr} {cd ct : Value} {sl : Array (Option Value)} (h1 : PySem.W.nsIn K mainGlobals cn = some (some (.ref C))) (h2 : PySem.W.findIn K (.ref C) m = some (some (.ref f))) (h3 : PySem.W.isFn K (.ref f) = true)
    (h4 : K.lookup f = some ⟨oc, od, .func (PySem.W.fnOf m qual (defArgs st) (defBody st) (defScope st) .none kV doc pm an cd ct), sl⟩) (h5 : PySem.W.codeIn K cd qual = true) (h6 : PySem.W.keepIn K (.ref f) = true) : MtK K cn m qual st := ⟨C, f, oc, od, kV, doc, pm, an, cd, ct, sl, h1, h2, h3, h4, h5, h6⟩
theorem MtK.mt0 {ps : List Str} (t : MtK K cn m qual st) (e : PySem.W.nsIn K mainGlobals cn = some (some (.ref C)))
    (hb : ∀ (kV doc pm : Value) (an : Option Addr) (cdv ct : Value) (us : List Value), us.length = ps.length → bindArgs (PySem.W.fnOf m qual (defArgs st) (defBody st) (defScope st) .none kV doc pm an cdv ct) ⟨us, []⟩ = pure (ps.zip us)) : Mt0 K C m qual st ps := by
  obtain ⟨C', f, oc, od, kV, doc, pm, an, cd, ct, sl, h1, h2, h3, h4, h5, h6⟩ := t
  cases e.symm.trans h1
  have F := fun_mk h4 h5 h6
  exact ⟨f, _, F, ⟨h2, h3, h6⟩, F.binds hb⟩
def MakesK (K : PySem.W.Frag) (cn : Str) : Prop := ∃ C, PySem.W.nsIn K mainGlobals cn = some (some (.ref C)) ∧ PySem.W.makesIn K C = true ∧ PySem.W.keepIn K (.ref C) = true
theorem MakesK.mk (h1 : PySem.W.nsIn K mainGlobals cn = some (some (.ref C))) (h2 : PySem.W.makesIn K C = true) (h3 : PySem.W.keepIn K (.ref C) = true) : MakesK K cn := ⟨C, h1, h2, h3⟩
theorem MtK.in0 {ps : List Str} (t : MtK K cn "__init__" qual st) (k : MakesK K cn) (X : K.In h) (G : h.Ns mainGlobals mg) (e : PySem.W.nsIn K mainGlobals cn = some (some (.ref C)))
    (hb : ∀ (kV doc pm : Value) (an : Option Addr) (cdv ct : Value) (us : List Value), us.length = ps.length → bindArgs (PySem.W.fnOf "__init__" qual (defArgs st) (defBody st) (defScope st) .none kV doc pm an cdv ct) ⟨us, []⟩ = pure (ps.zip us)) : In0 K mg cn C qual st ps := by
  obtain ⟨C', f, oc, od, kV, doc, pm, an, cd, ct, sl, h1, h2, h3, h4, h5, h6⟩ := t
  cases e.symm.trans h1
  obtain ⟨C', k1, k2, k3⟩ := k
  cases e.symm.trans k1
  have F := fun_mk h4 h5 h6
  exact ⟨f, _, F, ⟨k2, h2, h3, k3⟩, PySem.W.mg_of X G e, F.binds hb⟩
/-- an __init__ with one default: a tuple of nothing -/
def InEK (K : PySem.W.Frag) (cn qual : Str) (st : Stmt) : Prop := ∃ (C f T t : Addr) (oc : Value) (od : Option Addr) (kV doc pm : Value) (an : Option Addr) (cd ct : Value) (sl : Array (Option Value)) (o o2 : Obj) (its its2 : Array Value) (n n2 : Nat),
  PySem.W.nsIn K mainGlobals cn = some (some (.ref C)) ∧ PySem.W.findIn K (.ref C) "__init__" = some (some (.ref f)) ∧ PySem.W.isFn K (.ref f) = true ∧ K.lookup f = some ⟨oc, od, .func (PySem.W.fnOf "__init__" qual (defArgs st) (defBody st) (defScope st) (.ref T) kV doc pm an cd ct), sl⟩ ∧ PySem.W.codeIn K cd qual = true ∧ PySem.W.keepIn K (.ref f) = true ∧
  K.lookup T = some o ∧ o.data = .seq its n ∧ its.toList = [.ref t] ∧ K.lookup t = some o2 ∧ o2.cls = .type "tuple" ∧ o2.data = .seq its2 n2 ∧ its2.toList = []
theorem InEK.mk {f T t : Addr} {oc : Value} {od : Option Addr} {kV doc pm : Value} {an : Option Addr} {cd ct : Value} {sl : Array (Option Value)} {o o2 : Obj} {its its2 : Array Value} {n n2 : Nat} (h1 : PySem.W.nsIn K mainGlobals cn = some (some (.ref C))) (h2 : PySem.W.findIn K (.ref C) "__init__" = some (some (.ref f))) (h3 : PySem.W.isFn K (.ref f) = true)
    (h4 : K.lookup f = some ⟨oc, od, .func (PySem.W.fnOf "__init__" qual (defArgs st) (defBody st) (defScope st) (.ref T) kV doc pm an cd ct), sl⟩) (h5 : PySem.W.codeIn K cd qual = true) (h6 : PySem.W.keepIn K (.ref f) = true) (a1 : K.lookup T = some o) (a2 : o.data = .seq its n) (a3 : its.toList = [.ref t]) (a4 : K.lookup t = some o2)
    (a5 : o2.cls = .type "tuple") (a6 : o2.data = .seq its2 n2) (a7 : its2.toList = []) : InEK K cn qual st := ⟨C, f, T, t, oc, od, kV, doc, pm, an, cd, ct, sl, o, o2, its, its2, n, n2, h1, h2, h3, h4, h5, h6, a1, a2, a3, a4, a5, a6, a7⟩
theorem InEK.inD {ps : List Str} (t : InEK K cn qual st) (k : MakesK K cn) (X : K.In h) (G : h.Ns mainGlobals mg) (e : PySem.W.nsIn K mainGlobals cn = some (some (.ref C))) (hn : 1 + 1 = ps.length)
    (hb : ∀ (T : Addr) (kV doc pm : Value) (an : Option Addr) (cdv ct : Value) (us its : List Value), us.length = 1 → its.length = 1 →
      ∃ k, bindArgs (PySem.W.fnOf "__init__" qual (defArgs st) (defBody st) (defScope st) (.ref T) kV doc pm an cdv ct) ⟨us, []⟩ = seqItems? (.ref T) >>= k ∧ k (some its.toArray) = pure (ps.zip (us ++ its.drop 0))) :
    ∃ r : Addr, (∀ H, SqT K H r []) ∧ InD K mg cn C qual st ps [.ref r] := by
  obtain ⟨C', f, T, t, oc, od, kV, doc, pm, an, cd, ct, sl, o, o2, its, its2, n, n2, h1, h2, h3, h4, h5, h6, a1, a2, a3, a4, a5, a6, a7⟩ := t
  cases e.symm.trans h1
  obtain ⟨C', k1, k2, k3⟩ := k
  cases e.symm.trans k1
  have hv : Vals [V.ref t] its.toList := by
    rw [a3]
    exact .cons rfl .nil
  have FD : FunD K "__init__" qual (defArgs st) (defBody st) (defScope st) [.ref t] [] f (PySem.W.fnOf "__init__" qual (defArgs st) (defBody st) (defScope st) (.ref T) kV doc pm an cd ct) :=
    ⟨⟨oc, od, .ref T, kV, doc, pm, an, cd, ct, sl, rfl, h4, h5, .inr ⟨by simp, T, o, its.toList, n, rfl, a1, by rw [Array.toArray_toList]; exact a2, hv⟩, .inl rfl⟩, h6⟩
  obtain ⟨ds, hv2, hb2⟩ := FD.binds1 1 0 (by simp) hn hb
  refine ⟨t, fun H => .inr ⟨o2, its2, n2, a4, a5, a6, ?_, ?_⟩, f, _, ds, FD, ⟨k2, h2, h3, k3⟩, PySem.W.mg_of X G e, hv2, hb2⟩
  · have : its2.size = 0 := by rw [← Array.length_toList, a7]; rfl
    rw [this]
    exact Nat.zero_le _
  · rw [a7]
    exact .nil
end
/-- a def called by keywords alone, its keyword-only parameters left out -/
theorem FnKD.kwD {P : Program} {w : World} {K : PySem.W.Frag} {mg : Str → Option Value} {base h : Heap} {x : Str} {st : Stmt} {kws : List (Str × V)} {ps ks : List Str} {k : Nat} {sp : Sp} (t : FnKD K x st kws) (X : K.In h) (G : h.Ns mainGlobals mg)
    (hb : ∀ (D : Addr) (doc pm : Value) (an : Option Addr) (cdv ct : Value) (mv ws : List Value), mv.length = kws.length → ws.length = ks.length →
      KwChain D ((kws.map (·.1)).zip mv) (bindArgs (PySem.W.fnOf x x (defArgs st) (defBody st) (defScope st) .none (.ref D) doc pm an cdv ct) ⟨[], ks.zip ws⟩) (ps.zip (ws ++ mv)))
    (F : ∀ a fd, Fun K x x st a fd → FnOk P w K mg base CX0 k a fd ps sp) (hk : kws ≠ [] := by simp) : FnGK P w K mg base k x 0 ks (fun _ zs => zs ++ kws.map (·.2)) sp := by
  obtain ⟨f, oc, od, D, doc, pm, an, cd, ct, sl, h1, h2, h3, h4, h5⟩ := t
  have F1 := fun_mk h2 h3 h4
  have FD : FunD K x x (defArgs st) (defBody st) (defScope st) [] kws f (PySem.W.fnOf x x (defArgs st) (defBody st) (defScope st) .none (.ref D) doc pm an cd ct) := ⟨⟨oc, od, .none, .ref D, doc, pm, an, cd, ct, sl, rfl, h2, h3, .inl ⟨rfl, rfl⟩, .inr ⟨D, rfl, h5⟩⟩, h4⟩
  obtain ⟨mv, b⟩ := FD.kbinds0 (ps := ps) 0 ks kws (fun us mv ws => ws ++ mv) hk (fun q hq => hq) (fun a b c => c.append b) (fun D doc pm an cdv ct us mv ws l1 l2 l3 => by
    rw [List.length_eq_zero_iff.mp l1]
    exact hb D doc pm an cdv ct mv ws l2 l3)
  exact ⟨f, _, ps, _, PySem.W.mg_of X G h1, h4, b, F _ _ F1⟩
end Lay

set_option Elab.async false
set_option linter.all false
set_option maxRecDepth 100000
set_option maxHeartbeats 4000000
namespace LayX
open PySem PySem.W PySem.Calls PyProof.Rows
/-- an own exception class (own classes above it, ValueError at last) whose __init__ says super().__init__('..') and keeps one field -/
structure XcK (P : Program) (K : Frag) (C fI : Addr) (fld qual : Str) (body : List Stmt) : Prop where
  init : ∃ (oc : Value) (od : Option Addr) (params : Arguments) (scope : Scope) (kV doc pm : Value) (an : Option Addr) (cda cc : Addr) (ct : Value) (osl : Array (Option Value)) (ccl cl : Value) (cdd cld : Option Addr) (ccs csl : Array (Option Value)) (vs : Array Value) (file : Str) (tf : Tok) (ar : Arg),
    K.lookup fI = some ⟨oc, od, .func (ksFn "__init__" qual params body scope .none kV doc pm an (.ref cda) ct cc), osl⟩ ∧ codeIn K (.ref cda) qual = true ∧ K.lookup cda = some ⟨ccl, cdd, .fields vs, ccs⟩ ∧ vs[2]? = some (.str file tf) ∧ ((P.main.file : Str) == file) = true ∧
    K.lookup cc = some ⟨cl, cld, .cell (some (.ref C)), csl⟩ ∧ (params.posonlyargs ++ params.args).head? = some ar ∧ ar.arg = "self" ∧
    (∀ us : List Value, us.length = 2 → bindArgs (ksFn "__init__" qual params body scope .none kV doc pm an (.ref cda) ct cc) ⟨us, []⟩ = pure ([("self" : Str), fld].zip us)) ∧
    scope.kind = .function ∧ scope.isCoroutine = false ∧ scope.isGenerator = false ∧ (∀ x ∈ scope.names, x.2 ≠ .cell) ∧ scope.names.lookup ("super" : Str) = some .globalImplicit ∧ scope.names.lookup ("__class__" : Str) = some .free ∧
    scope.names.lookup ("self" : Str) = some .local ∧ scope.names.lookup fld = some .local
  top : (P.main.scope.names.lookup ("super" : Str)).isSome = false
  cls : ∃ nm q N bs bm sn sub ab col dd k0 k1 k2 k3 k5, K.lookup C = some (excClassObj nm q C N bs bm true sn sub ab col dd k0 k1 k2 k3 k5 "ValueError.__new__") ∧ PySem.HandSPX.refsVE bm = true
  find : findIn K (.ref C) "__init__" = some (some (.ref fI))
  tI : typeIn K (.ref fI) = some (.type "function")
  own : mroIn K C (.ref C) = some true
  sup : nsIn K mainGlobals "super" = some none
  opq : nsIn K cStatics "thirdparty.any" = some none
  ks : ks_superIn K C C "__init__" = some (some (.builtin "ValueError.__init__"))
  ve : subIn K (.ref C) (.type "ValueError") = some true
  xi : excInitIn K C PySem.HandSPX.veTail "ValueError.__new__" = true
  sa : findIn K (.ref C) "__setattr__" = some (some (.builtin "object.__setattr__"))
  no : findIn K (.ref C) fld = some none
  exC : subIn K (.ref C) (.type "BaseException") = some true
  tyC : typeIn K (.ref C) = some (.type "type")
  kC : keepIn K (.ref C) = true
  hd : (fld == ("__debug__" : Str)) = false
/-- its body -/
def XcBody (fld : Str) (body : List Stmt) : Prop := ∃ (msg : Str) (j : Nat) (p0 p1 p2 p3 p4 p5 p6 p7 p8 p9 : Pos) (pl : Sem Bool),
  body = [.Expr (.Call (.Attribute (.Call (.Name "super" p0) [] [] p1) "__init__" p2) [.Constant (.str msg) j p3] [] p4) p5, .Assign [.Attribute (.Name "self" p6) fld p7] (.Name fld p8) p9] ∧
  (∀ env : Env, eval (.Call (.Attribute (.Call (.Name "super" p0) [] [] p1) "__init__" p2) [.Constant (.str msg) j p3] [] p4) env = (do
    let ov ← attributeBase (.Call (.Name "super" p0) [] [] p1) "__init__" env (eval (.Call (.Name "super" p0) [] [] p1) env)
    standAt p2.atName
    let (f, first) ← holding [ov] (getMethod ov "__init__" pl)
    callWith p4 f first (backTo p4 (starEach [.Constant (.str msg) j p3] env)) [])) ∧
  (∀ env : Env, swapsWith (.Call (.Attribute (.Call (.Name "super" p0) [] [] p1) "__init__" p2) [.Constant (.str msg) j p3] [] p4) none p5.line env = pure false) ∧ ∀ env : Env, swapsWith (.Name fld p8) (some (.Attribute (.Name "self" p6) fld p7)) p9.line env = pure false
section
variable {P : Program} {w : World} {K : Frag} {A : Around} {s : Shared} {R : Result → Shared → Prop} {C fI e t0 : Addr} {fld qual : Str} {body : List Stmt} {u : Value} {mg : Str → Option Value}
open PySem.HandSPX in
theorem xinit {hp0 : Heap} (T : XcK P K C fI fld qual body) (B : XcBody fld body) (X₀ : K.In hp0) (hk0 : ∀ b o, hp0.get? b = some o → s.heap.get? b = some o) (ne : hp0.get? e = none) (hz : hp0.objs.size ≤ s.heap.objs.size) (lim : s.heap.NoLimit)
    (gl : s.heap.Ns mainGlobals mg) (bl : ∃ mb, s.heap.Ns builtinsNs mb ∧ ∀ x : Str, x ≠ "__name__" → mb x = bootBuiltins x) (room : A.depth < recursionLimit)
    (he : s.heap.get? e = some (excObj C t0 none .none)) (sn : fld ≠ "self")
    (hq : ∀ h' tk' dx t1, (∀ b o, hp0.get? b = some o → h'.get? b = some o) → hp0.objs.size ≤ dx → dx ≠ e → h'.get? e = some ({ cls := .ref C, dict := some dx, data := .fields #[.ref t1, .none, .none, .none, .bool false, .none] } : Obj) →
      h'.Ns1 dx (fun y => if y = fld then some u else none) → R (.ok (.ret .none)) { s with heap := h', toks := tk' }) : codeAny (model P w) A (.call (.ref fI) ⟨[.ref e, u], []⟩) R s := by
  have X : K.In s.heap := X₀.keeps hk0
  obtain ⟨oc, od, params, scope, kV, doc, pm, an, cda, cc, ct, osl, ccl, cl, cdd, cld, ccs, csl, vs, file, tf, ar, lk, hcd, hcode, hvs, hfile, hcell, hp_, har, hb, hk, hco, hgen, hnc, hks, hkc, hkself, hkf⟩ := T.init
  obtain ⟨nm, q, N, bs, bm, sn', sub, ab, col, dd, k0, k1, k2, k3, k5, hC, hbm⟩ := T.cls
  obtain ⟨msg, j, p0, p1, p2, p3, p4, p5, p6, p7, p8, p9, pl, rfl, hev, hs1, hs2⟩ := B
  refine ks_codeAny_call_defAt (fd := ksFn "__init__" qual params _ scope .none kV doc pm an (.ref cda) ct cc) (binds := [("self", .ref e), (fld, u)]) room (X _ _ lk) rfl lim (codeRec_of X hcd) rfl (.of_eq (hb [.ref e, u] rfl)) hnc ?_ (fun h1 hns hk1 => ?_) hco hgen hk
  · intro y hy
    rcases List.mem_cons.mp hy with rfl | hy
    · exact hkself
    · obtain rfl := List.mem_singleton.mp hy
      exact hkf
  obtain ⟨hp, g, d, t, os⟩ := s
  dsimp only at *
  have F1 : Fr hp0 hp.objs.size h1 (fun x => ([("self", Value.ref e), (fld, u)] : List (Str × Value)).reverse.lookup x) := ⟨hns, fun b o z => hk1 b o (hk0 b o z), hz⟩
  have N1 : News hp0 hp.objs.size h1 [(e, excObj C t0 none .none)] := fun p hp => by
    obtain rfl := List.mem_singleton.mp hp
    exact ⟨hk1 _ _ he, Nat.ne_of_lt (Heap.lt_size he), ne⟩
  have vself : ([("self", Value.ref e), (fld, u)] : List (Str × Value)).reverse.lookup ("self" : Str) = some (.ref e) := by
    show List.lookup _ [(fld, u), (("self" : Str), Value.ref e)] = _
    rw [List.lookup_cons, show (("self" : Str) == fld) = false from beq_eq_false_iff_ne.mpr (Ne.symm sn)]
    simp
  have vfld : ([("self", Value.ref e), (fld, u)] : List (Str × Value)).reverse.lookup fld = some u := by
    show List.lookup _ [(fld, u), (("self" : Str), Value.ref e)] = _
    simp
  obtain ⟨mb, bl1, bl2⟩ := bl
  have hcl : clsIn K C = some { name := nm, bases := bs, mro := .ref C :: bm, ns := N, qualname := q, hasDict := true, slotNames := sn', subclasses := sub, abstract := ab, collection := col, hasDel := false } := by
    unfold clsIn
    rw [hC] <;> rfl
  have hee : (e ≠ C) := fun z => by
    have := X₀ _ _ hC
    rw [← z, ne] at this
    cases this
  have hC1 : h1.get? C = some (excClassObj nm q C N bs bm true sn' sub ab col dd k0 k1 k2 k3 k5 "ValueError.__new__") := hk1 _ _ (X _ _ hC)
  have key : ∀ (A : Around) (E' : Value → Shared → Prop), _root_.PySem.wpAt (model P w) A (.func [.Expr (.Call (.Attribute (.Call (.Name "super" p0) [] [] p1) "__init__" p2) [.Constant (.str msg) j p3] [] p4) p5, .Assign [.Attribute (.Name "self" p6) fld p7] (.Name fld p8) p9] (ksEnv qual scope hp.objs.size fI (.ref cda) cc)) (execs [.Expr (.Call (.Attribute (.Call (.Name "super" p0) [] [] p1) "__init__" p2) [.Constant (.str msg) j p3] [] p4) p5, .Assign [.Attribute (.Name "self" p6) fld p7] (.Name fld p8) p9] (ksEnv qual scope hp.objs.size fI (.ref cda) cc))
      (fun f s' => R (.ok (.ret (match f with | .ret v => v | _ => .none))) s') E' { heap := h1, gens := g, drawn := d, toks := t + 2, os := os } := fun A E' => by
    refine ks_wpAt_execs_cons (ks_wpAt_Expr_any (ks_wpAt_MethodCall (pl := pl) ?ba (hev _)) ?hi (hs1 _))
    case hi =>
      unfold interactive
      rw [show (ksEnv qual scope hp.objs.size fI (.ref cda) cc).scope.kind = .function from hk]
      rfl
    case ba =>
      refine ks_wpAt_super_base (env := ksEnv qual scope hp.objs.size fI (.ref cda) cc) hks hkc (by decide) rfl (hk1 _ _ (X _ _ lk)) rfl hp_ rfl (hk1 _ _ (X _ _ hcode)) rfl hvs hfile T.top ?_
      refine ks_loadName_global hk hks (loadGlobal_builtin (env := ksEnv qual scope hp.objs.size fI (.ref cda) cc) (gl.keeps hk1) (mg_none_of X gl T.sup) (bl1.keeps hk1) ((bl2 _ (by decide +kernel)).trans (by decide +kernel)) ⟨rfl, ?_⟩)
      refine wpAny_loadName_free hk hkc rfl ⟨_, hk1 _ _ (X _ _ hcell), rfl⟩ ?_
      rw [har]
      refine wpAny_loadName_local hk hkself F1.ns vself ?_
      refine ks_wpAny_isType_cls hC1 rfl ⟨rfl, ?_⟩
      refine ks_wpAny_call_super hC1 rfl (hk1 _ _ he) rfl (fun c z => by cases z) (looks_mroIn (X.keeps hk1) T.own) (fun h2 e2 k2 => ?_)
      have F2 : Fr hp0 hp.objs.size h2 _ := ⟨F1.ns.keeps k2, fun b o z => k2 b o (F1.keep b o z), hz⟩
      have X2 : K.In h2 := (X.keeps hk1).keeps k2
      have lt1 : hp.objs.size < h1.objs.size := by
        obtain ⟨o, _, _, z, _⟩ := hns
        exact Heap.lt_size z
      have N2 : News hp0 hp.objs.size h2 [(h1.objs.size, ks_superObj C e C), (e, excObj C t0 none .none)] := fun p hp => by
        rcases List.mem_cons.mp hp with rfl | hp
        · refine ⟨e2, Nat.ne_of_gt lt1, ?_⟩
          cases z : hp0.get? h1.objs.size with
          | none => rfl
          | some o =>
            exact absurd (Nat.lt_of_lt_of_le (Heap.lt_size z) (Nat.le_trans hz (Nat.le_of_lt lt1))) (Nat.lt_irrefl _)
        · obtain ⟨a1, a2, a3⟩ := N1 p hp
          exact ⟨k2 _ _ a1, a2, a3⟩
      refine kxs_method kxs_ValueError F2 X₀ N2 (List.mem_cons_self) (InstAt.of_exc0 N2 (List.mem_cons_of_mem _ List.mem_cons_self)) T.opq T.ks T.ve (by decide) (fun q3 h3 F3 N3 l3 => ?_)
      refine kxs_callWith1 N3 List.mem_cons_self ?_
      show wpAny _ _ (spliced [(false, eval (.Constant (.str msg) j p3) (ksEnv qual scope hp.objs.size fI (.ref cda) cc))]) _ _ _
      refine spliced_cons (Constant_str (spliced_nil ⟨kxs_at N3 List.mem_cons_self, ?_⟩))
      have lq : e < q3 := l3 (e, _) (List.mem_cons_of_mem _ List.mem_cons_self)
      have le1 : e < h1.objs.size := Heap.lt_size (hk1 _ _ he)
      refine kxs_call (dv := none) (c2 := .none) (t := t0) F3 X₀ N3 PySem.F.excBase_ValueError T.xi List.mem_cons_self (.tail (Nat.ne_of_gt lq) (.tail (Nat.ne_of_gt le1) (.head fun _ z => nomatch z))) (by show 1 ≤ sizeLine; decide) (fun t4 h4 F4 N4 l4 => ?_)
      have X4 : K.In h4 := X₀.keeps F4.keep
      have m4 : (e, excObj C t4 none .none) ∈ [(t4, excTup [.str msg (t + 2 + 1)]), (q3, kxs_mw "ValueError.__init__" e), (h1.objs.size, ks_superObj C e C), (e, excObj C t4 none .none)] := by simp
      refine ks_wpAt_execs_cons (ks_wpAt_Assign_Attr (wpAt_of_wpAny (wpAny_Name (wpAny_loadName_local hk hkf F4.ns vfld (wpAny_Name (wpAny_loadName_local hk hkself F4.ns vself ?_))) T.hd)) (hs2 _))
      refine set_plain X4 (InstAt.of_exc0 N4 m4) T.sa ?_
      refine exc_osa X4 (N4 _ m4).1 hcl (show refsVE (.ref C :: bm) = true from hbm) rfl T.no (fun h5 tk5 dx k5 dn dne hx hn => ?_)
      refine wpAt_of_wpAny (wpAny_execs_nil ?_)
      have l4 : hp0.objs.size ≤ h4.objs.size := by
        obtain ⟨o, _, _, z, _⟩ := F4.ns
        exact Nat.le_trans hz (Nat.le_of_lt (Heap.lt_size z))
      refine hq h5 tk5 dx t4 (fun b o z => k5 b o (fun y => ?_) (F4.keep b o z)) (Nat.le_trans l4 dn) dne hx hn
      rw [y, ne] at z
      cases z
  exact key _ _
end
end LayX
namespace Lay
open PySem PySem.Spec PyProof.Rows L2
open LayX (XcK XcBody)
/-- C(e), an own exception that keeps e -/
def tXc (C : Addr) (fld : Str) (te : TE) : L2.St → Hp → XK → Prop := fun σ H Q => te σ H fun x H1 => ∃ v, [x] = [v] ∧ ∀ d, H1 d = none → Q (.ref C) (some d) (upd H1 d (.xd [(fld, v)]))
theorem pmk_xc {X : Cx} {C fI : Addr} {x fld qual : Str} {body : List Stmt} {e : Expr} {te : TE} {p pos : Pos} (T : XcK X.prog X.K C fI fld qual body) (B : XcBody fld body) (sn : fld ≠ "self") (hr : Room 1 X.A) (hg : Gl X x) (hm : X.mg x = some (.ref C)) (he : PE X e te)
    (hdb : (x == ("__debug__" : Str)) = false := by decide) (hs : starEach [e] X.env = (false, eval e X.env) :: starEach [] X.env := by rfl) (hpl : (backTo pos (starEach [] X.env)).any (·.1) = false := by rfl) : L2N.PMk X (.Call (.Name x p) [e] [] pos) (tXc C fld te) := by
  intro pins s σ H Q I h
  obtain ⟨nm, q, N, bs, bm, sn', sub, ab, col, dd, k0, k1, k2, k3, k5, hC, hbm⟩ := T.cls
  refine wpAny_Call_Name_kw (ld_glob I hg hm ?_ hdb)
  have ha : PA X [e] (tCons te tNil) := pa_cons he pa_nil hs
  refine PySem.W.callWith_K (h₀ := X.base) I.ok.mod.kin T.kC (thn (ha.run pos pins s σ H (fun vs H1 => ∃ v, vs = [v] ∧ ∀ d, H1 d = none → Q (.ref C) (some d) (upd H1 d (.xd [(fld, v)]))) I h) fun us s1 ⟨vs, H1, I1, r1, q1⟩ => ⟨I1.kIn, ?_⟩) hs hpl
  obtain ⟨v, rfl, q1⟩ := q1
  obtain ⟨u, rfl, ru⟩ := vals1 r1
  obtain ⟨m, fr⟩ := I1.fr
  have M := I1.ok.mod
  obtain ⟨hp, g, dr, tk, os⟩ := s1
  have ne : hp.get? (hp.objs.size + 1) = none := by
    cases z : hp.get? (hp.objs.size + 1) with
    | none => rfl
    | some o => exact absurd (Heap.lt_size z) (Nat.not_lt.mpr (Nat.le_succ _))
  have kk : ∀ b o, hp.get? b = some o → ((hp.push (PySem.W.kdv_tup [u])).push (PySem.HandSPX.excO C hp.objs.size)).get? b = some o := fun b o e => Heap.get?_push_of_some _ (Heap.get?_push_of_some _ e)
  have hget : ((hp.push (PySem.W.kdv_tup [u])).push (PySem.HandSPX.excO C hp.objs.size)).get? (hp.objs.size + 1) = some (PySem.HandSPX.excO C hp.objs.size) := by heap_get
  have kb : ∀ b o, X.base.get? b = some o → ((hp.push (PySem.W.kdv_tup [u])).push (PySem.HandSPX.excO C hp.objs.size)).get? b = some o := fun b o e => kk b o (fr.keep b o e)
  refine wpAny_call (PySem.HandSPX.call_own F.excBase_ValueError (fun Y => PySem.HandSPX.refsVE_contains Y bm hbm) (I1.kIn _ _ hC) (PySem.W.looks_findIn I1.kIn T.find) (fun self => PySem.W.bind_fn I1.kIn self T.tI) (by show 1 ≤ sizeLine; decide) ?_)
  obtain ⟨mb, b1, b2⟩ := M.blt
  refine LayX.xinit (hp0 := hp) (mg := X.mg) T B I1.kIn kk ne (by rw [Heap.size_push, Heap.size_push]; omega) (M.nolimit.keeps kb) (M.glob.keeps kb) ⟨mb, b1.keeps kb, b2⟩ (hr.make C [u] []).depth hget sn (fun h' tk' dx t1 k dn dne he' hn => ?_)
  obtain ⟨G, g1, g2⟩ := restrict h' fun b => decide (b ≠ hp.objs.size + 1)
  have gk : ∀ b, b ≠ hp.objs.size + 1 → G.get? b = h'.get? b := fun b hb => g1 b (decide_eq_true hb)
  have ge : G.get? (hp.objs.size + 1) = none := g2 _ (by simp)
  have kG : ∀ b o, hp.get? b = some o → G.get? b = some o := fun b o z => by
    rw [gk b (fun y => by rw [y, ne] at z; cases z)]
    exact k b o z
  have hd1 : H1 dx = none := I1.hok.fresh dn
  have J := I1.laid (t' := tk') (a := dx) (o := .xd [(fld, v)]) (h' := G) kG dn ⟨_, hn.at fun o z => (gk dx dne).trans z, relO_put (fs := []) ru fun _ => True.intro⟩
  refine ⟨rfl, _, _, _, ⟨G, g, dr, tk', os⟩, _, .ref C, some dx, rfl, J, fun b o z => ?_, ge, he', ⟨rfl, rfl, fun vs z => by cases z; rfl⟩, rfl, rfl, ?_, rfl, I1.bare, raises_own T.exC T.tyC, q1 dx hd1⟩
  · by_cases hb : b = hp.objs.size + 1
    · rw [hb, ge] at z
      cases z
    · exact (gk b hb).symm.trans z
  · rw [upd_ne (Ne.symm dne)]
    exact I1.hok.fresh (Nat.le_succ _)
end Lay

set_option Elab.async false
set_option linter.all false
set_option maxRecDepth 100000
set_option maxHeartbeats 4000000
namespace Lay
open PySem PySem.Spec PyProof.Rows L2
/-! ### try: .. except (A, B, C) as n: .. -/
theorem flying_kept {B : Heap} {l : List Env} {a : Addr} {Z : Obj → Prop} {h h' : Heap} (f : HandSPX.FlyingZ B l a Z h) (k : ∀ b o, h.get? b = some o → h'.get? b = some o) : HandSPX.FlyingZ B l a Z h' := by
  obtain ⟨f1, f2, f3, oe, vs, T, oT, ts, g1, g2, g3, g4, g5, g6, g7, g8⟩ := f
  exact ⟨fun b o z => k b o (f1 b o z), f2, Heap.FunFrames.of_keeps (fun b o z _ => ⟨o, k b o z, rfl⟩) f3, oe, vs, T, oT, ts, k _ _ g1, g2, g3, g4, g5, g6, k _ _ g7, g8⟩
/-- what the clause wishes of an exception of the body: slot i is the name's -/
def wTup (K : PySem.W.Frag) (cs : List Value) (i : Nat) (ts : Addr → Obj → Value → Option Addr → TS) (Wout : WX) (D : Ends) : WX := fun cls d σ H =>
  ∃ b, PySem.W.exmAny K cls cs = some b ∧ (b = true → ∀ a oe, L2N.Zn cls d oe → (∃ vs, oe.data = .fields vs) → H a = none → ts a oe cls d ⟨fun σ' H' => D.nx (σ'.set i none) H', D.rt, fun σ' H' => D.bk (σ'.set i none) H', fun σ' H' => D.ct (σ'.set i none) H'⟩ (σ.set i (some (.ref a))) H) ∧ (b = false → Wout cls d σ H)
section
variable {X : Cx} {x1 x2 x3 n : Str} {c1 c2 c3 : Value} {i kk : Nat} {body suite : List Stmt} {b₀ : Stmt} {q1 q2 q3 qt pos pos' : Pos} {tb : WX → TS} {ts : Addr → Obj → Value → Option Addr → TS} {Wout : WX}
theorem ps_try_tup3 (hs : X.stack = X.env :: X.outer) (hf : X.env.frame = some X.env.locals) (hN : X.N.Nodup) (hi : X.N[i]? = some n) (hln : X.env.kindOf n = some .local) (hc1 : Names X x1 c1) (hc2 : Names X x2 c2) (hc3 : Names X x3 c3) (tk : L2N.Takes X Wout)
    (hb : ∀ (W : WX) (pn : List (Addr × Obj)) (xe : Value → Shared → Prop), L2N.Takes (X.tr pn xe) W → PassesOwn (model X.prog X.w) X.A X.env xe → PSs (X.tr pn xe) body (tb W))
    (hsu : ∀ (a : Addr) (oe : Obj) (cls : Value) (d : Option Addr) (pn : List (Addr × Obj)), L2N.Zn cls d oe → (∃ vs, oe.data = .fields vs) → PSs (X.suite a ((a, oe) :: pn)) (b₀ :: suite) (ts a oe cls d)) :
    PS X (.Try body [.ExceptHandler (some (.Tuple [.Name x1 q1, .Name x2 q2, .Name x3 q3] kk qt)) (some n) (b₀ :: suite) pos'] [] [] pos) (fun D σ H => tb (wTup X.K [c1, c2, c3] i ts Wout D) D σ H) := by
  refine ⟨fun pins s σ H D I h => ?_⟩
  have ok := I.ok
  have fr : X.A.frames = some (X.env :: X.outer) := ok.frames.trans (congrArg some hs)
  let hd : List ExceptHandler := [.ExceptHandler (some (.Tuple [.Name x1 q1, .Name x2 q2, .Name x3 q3] kk qt)) (some n) (b₀ :: suite) pos']
  let caught : Value → Shared → Prop := fun e s₁ => wpAny (model X.prog X.w) X.A (noteFrame e X.env) (fun _ s₂ => wpAny (model X.prog X.w) X.A (setFlight e none) (fun _ s₃ => wpAny (model X.prog X.w) X.A (handleBy e X.env hd) (SP X pins D) X.xe s₃) X.xe s₂) X.xe s₁
  have taken : L2N.Takes (X.tr (X.pn ++ pins) caught) (wTup X.K [c1, c2, c3] i ts Wout D) := by
    intro u s' xx
    obtain ⟨a, B, sI, pins', σ', H', cls, d, rfl, J', nb, up, sky, na, os, ag, b, hx, yes, no⟩ := xx
    have J : Inv X pins σ' H' sI := J'.ofTry ok
    have sky2 : Sky B (X.env :: X.outer) a (L2N.Zn cls d) X.env.locals s'.heap := by
      rw [← hs]
      exact sky
    show wpAny (model X.prog X.w) X.A (noteFrame (.ref a) X.env) _ _ _
    refine L2N.Sky.land L2N.Zn.steady fr hf sky2 fun h3 fl up3 => ?_
    have J3 : Inv X pins σ' H' { s' with heap := h3 } := J.landed nb fl.1 (up.trans up3) os ag
    obtain ⟨oe, vs, ge, ze, de⟩ := fl.there
    -- the exception is no frame
    have away : a ∉ frs (X.env :: X.outer) := fun hm => by
      obtain ⟨_, o', z1, z2⟩ := fl.2.2.1.mem hm
      cases ge.symm.trans z1
      exact z2 _ de
    have nL : a ≠ X.env.locals := fun z => away (List.mem_filterMap.mpr ⟨X.env, List.mem_cons_self, by rw [hf, z]⟩)
    have nF : a ∉ X.fs := fun hm => by
      obtain ⟨e, m1, m2⟩ := List.mem_filterMap.mp hm
      exact away (List.mem_filterMap.mpr ⟨e, List.mem_cons_of_mem _ m1, m2⟩)
    have S3 := J3.suite ge de na nL nF
    refine wpAny_handleBy_cons (codeAny_handlers_test ?_) (by intro z; cases z)
    -- the names
    have name : ∀ {x : Str} {c : Value} {np : Pos} {Q : Value → Shared → Prop} {E : Value → Shared → Prop}, Names X x c → Q c { s' with heap := h3 } → wpAny (model X.prog X.w) (X.A.mark (some (.ref a))) (eval (.Name x np) X.env) Q E { s' with heap := h3 } := fun {x c np Q E} hc q => by
      obtain ⟨hg, hdbg, hm | ⟨hm, hv, hnn⟩⟩ := hc
      · exact ld_glob (X := X.suite a ((a, oe) :: (X.pn ++ pins))) S3 hg hm q hdbg
      · exact ld_blt (X := X.suite a ((a, oe) :: (X.pn ++ pins))) S3 hg hm hv q hnn hdbg
    refine wpAny_Tuple (wpAny_items_cons (name hc1 (wpAny_items_cons (name hc2 (wpAny_items_cons (name hc3 (wpAny_items_nil ⟨by show 3 ≤ sizeLine; decide, ?_⟩)))))))
    generalize hh4 : h3.push { cls := .type "tuple", data := .seq [c1, c2, c3].toArray } = h4
    have k4 : ∀ b o, h3.get? b = some o → h4.get? b = some o := fun b o z => by
      rw [← hh4]
      exact Heap.get?_push_of_some _ z
    have gt : h4.get? h3.objs.size = some { cls := .type "tuple", data := .seq [c1, c2, c3].toArray } := by
      rw [← hh4]
      exact Heap.get?_push_size _ rfl
    have J4 : Inv X pins σ' H' { s' with heap := h4 } := J3.kept (t' := s'.toks) k4
    have fl4 := flying_kept fl k4
    have LT : PySem.W.Looks (model X.prog X.w) h4 (typeOf (.ref a)) cls := fun A Q E s k q => wpAny_typeOf_ref (k _ _ (k4 _ _ ge)) (by rw [ze.1]; exact q)
    refine (PySem.W.exm_tup3 (M := model X.prog X.w) J4.kIn LT gt hx).here ?_
    cases b with
    | true =>
      refine codeAny_handlers_suite_as (HandSPX.lands_againZ fl4 fun h5 fl5 up5 => ?_)
      have J5 : Inv X pins σ' H' { s' with heap := h5 } := J.landed nb fl5.1 (((up.trans up3).trans (Heap.UpToSlots.of_keeps k4)).trans up5) os ag
      obtain ⟨oe5, vs5, ge5, ze5, de5⟩ := fl5.there
      have S5 := J5.suite ge5 de5 na nL nF
      refine store_ok (X := X.suite a ((a, oe5) :: (X.pn ++ pins))) (v := .ref a) S5 hN hi (.inl hln) rfl (fun s6 S6 => ?_) (.inr hln)
      refine wpAny_mono ((hsu a oe5 cls d (X.pn ++ pins) ze5 ⟨_, de5⟩).run [] s6 _ H' _ S6 (yes rfl a oe5 ze5 ⟨_, de5⟩ na)) (fun fw s7 hsp => ?_) (fun _ _ z => z.elim)
      have leave : ∀ {σ7 : L2.St} {H7 : Hp} {Q : Shared → Prop}, Inv (X.suite a ((a, oe5) :: (X.pn ++ pins))) [] σ7 H7 s7 → (∀ s8, Inv X pins (σ7.set i none) H7 s8 → Q s8) →
          wpAny (model X.prog X.w) X.A (do bindName X.env n .none; unbindBehindTheSuite X.env n pos') (fun _ s8 => Q s8) X.xe s7 := fun S7 hq => gone_ok (S7.unsuite ok) hN hi hln hq
      rcases fw with _ | _ | _ | u
      all_goals first
        | (obtain ⟨v7, σ7, H7, S7, r7, p7⟩ := hsp; exact leave S7 fun s8 J8 => ⟨_, _, _, J8, r7, p7⟩)
        | (obtain ⟨σ7, H7, S7, p7⟩ := hsp; exact leave S7 fun s8 J8 => ⟨_, _, J8, p7⟩)
    | false =>
      show wpAny _ X.A (handleBy (.ref a) X.env []) _ _ _
      refine wpAny_handleBy_nil ?_
      obtain ⟨_, _, _, oe6, vs6, T6, oT6, ts6, a1, a2, a3, a4, _⟩ := id fl4
      have again : wpAny (model X.prog X.w) X.A (setFlight (.ref a) X.env.frame) (fun _ s5 => wpAny (model X.prog X.w) X.A (throw (.ref a) : Sem Flow) (SP X pins D) X.xe s5) X.xe { s' with heap := h4 } := by
        rw [hf]
        refine HandSPX.setFlight_upZ fl4 fun h5 held up5 => wpAny_throw (tk _ _ ?_)
        exact ⟨a, B, sI, pins, σ', H', cls, d, rfl, J, nb, ((up.trans up3).trans (Heap.UpToSlots.of_keeps k4)).trans up5, .inr (.inr (by rw [hs]; exact held)), na, os, ag, no rfl⟩
      unfold PySem.passOn
      refine wpAny_bind (wpAny_field a1 a3 a4 ?_)
      rw [if_neg (by simp)]
      first
        | exact wpAny_bind again
        | exact wpAny_bind (wpAny_pure (wpAny_bind again))
  refine wpAny_Try_except (wpAny_mono ((hb _ (X.pn ++ pins) caught taken PassesOwn.looking).run [] s σ H D (I.toTry _) h) (fun fw s1 hsp => ?_) fun _ _ z => z)
  rcases fw with _ | _ | _ | u
  all_goals first
    | (obtain ⟨v, σ', H', J', r, p⟩ := hsp; exact ⟨v, σ', H', J'.ofTry ok, r, p⟩)
    | (obtain ⟨σ', H', J', p⟩ := hsp; exact wpAny_execs_nil ⟨σ', H', J'.ofTry ok, p⟩)
    | (obtain ⟨σ', H', J', p⟩ := hsp; exact ⟨σ', H', J'.ofTry ok, p⟩)
end
end Lay

set_option Elab.async false
set_option linter.all false
set_option maxRecDepth 100000
set_option maxHeartbeats 4000000
namespace Lay
open PySem PySem.Spec PyProof.Rows L2
open L2H (RoomH Hot1 PinOk HotC cxH inv_startH)
/-! ### defs called while an exception is handled: p is that exception -/
structure FnZ (P : Program) (w : World) (K : PySem.W.Frag) (mg : Str → Option Value) (base : Heap) (k : Nat) (f : Addr) (fd : FuncData) (ps : List Str) (sp : Addr × Obj → Sp) : Prop where
  len : ∀ p vs H Q E, sp p vs H Q E → vs.length = ps.length
  run : ∀ (A : Around) (outer : List Env) (s : Shared) (H : Hp) (args : Args) (us : List Value) (vs : List V) (Q : VK) (E : XK) (p : Addr × Obj), RoomH k A → Hot1 A p → PinOk outer H s p → Env0 P w K mg base A outer s H → BindsTo s fd args (ps.zip us) → Vals vs us → sp p vs H Q E →
    codeAny (model P w) A (.call (.ref f) args) (CR CX0 outer P w H s Q E) s
section
variable {P : Program} {w : World} {K : PySem.W.Frag} {mg : Str → Option Value} {base : Heap} {k : Nat} {f : Addr} {fd : FuncData} {x qual : Str} {st : Stmt} {N ps : List Str} {sp : Addr × Obj → Sp}
theorem Fun.okZ (F : Fun K x qual st f fd) (S : FnScope N ps (defScope st)) (len : ∀ p vs H Q E, sp p vs H Q E → vs.length = ps.length)
    (body : ∀ (cdv : Value) (A : Around) (outer : List Env) (s : Shared) (H : Hp) (vs : List V) (Q : VK) (E : XK) (p : Addr × Obj), Hot1 A p → RoomH k (A.deeper (envOfC qual (defScope st) s.heap.objs.size f cdv)) → sp p vs H Q E →
      ∃ t, PSs (cxH CX0 P w K mg base N qual (defScope st) f cdv A outer s H E p).nox (defBody st) t ∧ t { nx := fun _ H' => Q .non H', rt := Q } (L2.start N vs) H) : FnZ P w K mg base (k + 1) f fd ps sp := by
  obtain ⟨oc, od, kV, doc, pm, an, cdv, ct, osl, rfl, lk, hcd⟩ := F.ex
  refine ⟨len, fun A outer s H args us vs Q E p hr hot pin e0 hb r hsp => ?_⟩
  have hl := len _ _ _ _ _ hsp
  have keep : ∀ b o, base.get? b = some o → s.heap.get? b = some o := fun b o e => (e0.bs b o e).1
  have KX : K.In s.heap := e0.mod.kin.keeps keep
  have kinds : ∀ y ∈ ps.zip us, (defScope st).names.lookup y.1 = some .local ∨ ((defScope st).names.lookup y.1 = some .cell ∧ ((cellsFrom (s.heap.objs.size + 1) (defScope st).names []).lookup y.1).isSome = true) := by
    intro ⟨n, v⟩ hy
    exact (S.par n (List.of_mem_zip hy).1).imp id fun q => ⟨q, PySem.W.cellsFrom_some _ _ _ (.inl q)⟩
  refine codeAny_call_function hr.depth (KX _ _ lk) rfl S.co S.gen rfl (PySem.W.codeRec_of KX hcd) (hb _ _ _ _ (wpAny_newFunctionEnv_cells S.kind kinds fun env he s1 x1 => ?_))
  subst he
  refine ⟨(e0.mod.nolimit.keeps keep).keeps x1.toInCall.keep, codeAny_func ?_⟩
  obtain ⟨t, ht, hq⟩ := body cdv A outer s H vs Q E p hot (hr.deeper _) hsp
  have I := inv_startH (CX := CX0) (E := E) S pin e0 hl r x1
  have done : ∀ {σ' : L2.St} {H' : Hp} {v : V} {u : Value} {s' : Shared}, Inv (cxH CX0 P w K mg base N qual (defScope st) f cdv A outer s H E p) [] σ' H' s' → RelV v u → Q v H' → CE outer P w H s Q u s' := fun J rv q => ⟨_, _, J.os, J.bare, J.base, J.hok, rv, q⟩
  refine wpAny_mono (ht.nox.run [] s1 (L2.start N vs) H _ I hq) (fun fl s' hs => ?_) fun _ _ z => z
  rcases fl with _ | _ | _ | u
  · obtain ⟨_, _, J, q⟩ := hs
    exact done (v := V.non) (u := Value.none) J rfl q
  · obtain ⟨_, _, _, q⟩ := hs
    exact q.elim
  · obtain ⟨_, _, _, q⟩ := hs
    exact q.elim
  · obtain ⟨_, _, _, J, rv, q⟩ := hs
    exact done J rv q
end
/-- .. by its name -/
def FnY (P : Program) (w : World) (K : PySem.W.Frag) (mg : Str → Option Value) (base : Heap) (k : Nat) (x : Str) (ps : List Str) (sp : Addr × Obj → Sp) : Prop :=
  ∃ a fd, mg x = some (.ref a) ∧ PySem.W.keepIn K (.ref a) = true ∧ Binds K fd ps [] ∧ FnZ P w K mg base k a fd ps sp
section
variable {X : Cx} {k : Nat} {x : Str} {ps : List Str} {sp : Addr × Obj → Sp} {p : Addr × Obj} {p1 pos : Pos} {e : Expr} {es : List Expr} {t : TA}
theorem pe_callY (F : FnY X.prog X.w X.K X.mg X.base k x ps sp) (hr : RoomH k X.A) (hot : Hot1 X.A p) (hp : p ∈ X.pn) (hg : Gl X x) (ha : PA X (e :: es) t) (hdb : (x == ("__debug__" : Str)) = false := by decide)
    (he : starEach (e :: es) X.env = (false, eval e X.env) :: starEach es X.env := by rfl) (hpl : (backTo pos (starEach es X.env)).any (·.1) = false := by rfl) : PE X (.Call (.Name x p1) (e :: es) [] pos) (tCall (sp p) [] E0 t) := by
  obtain ⟨f, fd, hm, hk, hb, F⟩ := F
  refine ⟨fun pins s σ H Q I h => wpAny_Call_Name_kw (ld_glob I hg hm ?_ hdb)⟩
  refine PySem.W.callWith_K (h₀ := X.base) I.ok.mod.kin hk (thn (ha.run pos pins s σ H _ I h) fun us s1 ⟨vs, H1, I1, r, q⟩ => ⟨I1.kIn, ?_⟩) he hpl
  replace q : sp p (vs ++ []) H1 Q E0 := q
  rw [List.append_nil] at q
  have hl : us.length = ps.length := r.length.symm.trans (F.len _ _ _ _ _ q)
  have b := hb s1 us I1.kIn (by rw [List.append_nil]; exact hl)
  rw [List.append_nil] at b
  have pn := I1.pin p (List.mem_append_left _ hp)
  have pin : PinOk X.stack H1 s1 p := ⟨pn.1, pn.2.1, fun hm => (List.mem_cons.mp (I1.stkSub p.1 hm)).elim pn.2.2.1 pn.2.2.2.1, pn.2.2.2.2⟩
  refine wpAny_call (codeAny_mono (F.run X.A X.stack s1 H1 ⟨us, []⟩ us vs Q E0 p hr hot pin I1.env0 b r q) fun r s' hq => ?_)
  rcases r with e | (_ | _ | _ | u)
  · exact hq.elim
  · exact hq.elim
  · exact hq.elim
  · exact hq.elim
  · exact I1.after hq
end
/-! ### isinstance of the exception -/
/-- isinstance(e, c), e the exception p, an instance of D, its dict at d -/
def rIsP (K : PySem.W.Frag) (D d : Addr) (a : Addr) : List V → Hp → VK → Prop := fun xs H Q => ∃ (c : V) (cv : Value) (b : Bool) (fs : List (Str × V)), xs = [.ref a, c] ∧ (∀ u, RelV c u → u = cv) ∧ PySem.W.kitOne K (.ref D) cv = some b ∧ H d = some (.xd fs) ∧ Q (.bl b) H
theorem call_isP {X : Cx} {a D d : Addr} {oe : Obj} (C : ExcC X.K D) (hz : L2N.Zn (.ref D) (some d) oe) (hf : ∃ vs, oe.data = .fields vs) (hp : (a, oe) ∈ X.pn) : CallR X (.builtin "isinstance") (rIsP X.K D d a) := by
  intro pins s σ H xs us Q I r h
  obtain ⟨c, cv, b, fs, rfl, hcv, e, hd, q⟩ := h
  obtain ⟨u1, u2, rfl, rx, rt⟩ : ∃ u1 u2, us = [u1, u2] ∧ RelV (.ref a) u1 ∧ RelV c u2 := by
    cases r with
    | cons r1 rr =>
      cases rr with
      | cons r2 rr =>
        cases rr
        exact ⟨_, _, rfl, r1, r2⟩
  obtain rfl : u1 = Value.ref a := rx
  obtain rfl := hcv _ rt
  have hget := (I.pin (a, oe) (List.mem_append_left _ hp)).1
  obtain ⟨vs, hv⟩ := hf
  have hx : ObjOk X.prog X.w H s.heap d (.xd fs) := I.hok d _ hd
  obtain ⟨mA, hns, _⟩ := hx
  obtain ⟨od, ho, _⟩ := lookIn_ns hns
  have J : PySem.W.InstAt s.heap a oe D (some od) := ⟨hget, hz.1, by unfold PySem.W.notCls; rw [hv] <;> rfl, by rw [hz.2.1]; exact ho⟩
  obtain ⟨cd, hcd, _⟩ := PySem.W.any_some C.hd
  exact PySem.W.kia_one (PySem.W.kitx_exc (by rw [hcd]; rfl) C.hg C.hk C.hs C.ha C.hn C.ht C.hm) I.kIn J e (fun z => nomatch z) fun tk => ⟨.bl b, H, I.kept (t' := tk) fun _ _ z => z, rfl, q⟩
end Lay

set_option Elab.async false
set_option linter.all false
set_option maxRecDepth 100000
set_option maxHeartbeats 4000000
namespace Lay
open PySem PySem.Spec PyProof.Rows L2
open L2H (RoomH Hot1 PinOk HotC cxH PIH TurnH)
/-! ### [e for x in ..] while the exception p is handled -/
abbrev blkP (X : Cx) (p : Addr × Obj) (s : Shared) (H : Hp) (scope : Scope) (cenv : Env) (fp : List Addr) : Cx := { X.blk s H scope cenv fp with pn := [p] }
theorem inv_blkP {X : Cx} {p : Addr × Obj} {s0 s : Shared} {H0 H : Hp} {scope : Scope} {ce : Env} {fp : List Addr} {σ : L2.St} (I : Inv (X.blk s0 H0 scope ce fp) [] σ H s)
    (h : s.heap.get? p.1 = some p.2 ∧ H p.1 = none ∧ p.1 ≠ ce.locals ∧ p.1 ∉ frs X.stack ∧ ∀ v, p.2.data ≠ .cell v) : Inv (blkP X p s0 H0 scope ce fp) [] σ H s := by
  obtain ⟨⟨a1, a2, a3, a4, a5, a6, a7, a8, a9, a10, a11, a12, a13, a14, a15, a16, a17, a18⟩, b2, b3, b4, b5, b6, b7, b8, _, b10, b11⟩ := I
  refine ⟨⟨a1, a2, a3, a4, a5, a6, a7, a8, a9, a10, a11, a12, a13, a14, a15, a16, a17, a18⟩, b2, b3, b4, b5, b6, b7, b8, fun q hq => ?_, b10, b11⟩
  obtain rfl : q = p := by simpa using hq
  exact h
section
variable {X : Cx} {p : Addr × Obj} {elt tg iter : Expr} {scope : Scope} {own : List (Str × Nat)} {pos : Pos} {wi : TI} {g : TG} {te : TE}
theorem pe_lcH (hot : Hot1 X.A p) (hp : p ∈ X.pn) (hN : X.N.Nodup) (hi : PIH X tg iter wi) (ok : BlkOk X.N X.env.scope scope own)
    (hg : ∀ (s : Shared) (H : Hp) (C : Addr) (cl : List (Str × Addr)) (fp : List Addr), PG (blkP X p s H scope (compEnvC scope cl C X.env) fp) tg g) (he : ∀ (s : Shared) (H : Hp) (C : Addr) (cl : List (Str × Addr)) (fp : List Addr), PE (blkP X p s H scope (compEnvC scope cl C X.env) fp) elt te)
    (hs : ∀ x, foldedSetIterable iter X.env x = pure x := by intro _; rfl) : PE X (.ListComp elt [⟨tg, iter, [], 0⟩] scope pos) (tLc wi g tYes te (own.map (·.2))) := by
  refine ⟨fun pins s σ H Q I h => ?_⟩
  rw [eval_ListComp]
  have cells : ∀ y ∈ scope.names, y.2 = .free → ∃ c, X.env.cells.lookup y.1 = some c := fun y hy e => (ok.free y hy e).elim (fun k => I.ok.has _ (.inl k)) fun k => I.ok.has _ (.inr k)
  refine wpAny_comprehension_free rfl hs (closure_ok cells) ok.kind (fun y hy e => (ok.uniq y hy).trans (congrArg some e)) (thn (hi.run pins s σ H _ I h) fun xv s1 hx => thn hx fun itv s2 h2 => ?_)
  obtain ⟨it, fp, tn, J, Hb, rfl, I2, T, st2, f2, q⟩ := h2
  refine wpAny_newObj_type (newEnv_comp ?_) (show 0 ≤ sizeLine from Nat.zero_le _)
  generalize hD : s2.heap.objs.size = D
  have freeD : Hb D = none := I2.hok.fresh (Nat.le_of_eq hD)
  obtain ⟨W, ⟨m0, w0⟩, turn⟩ := q D freeD
  generalize e3 : ({ s2 with heap := s2.heap.push { cls := .type "list", data := .seq ([] : List Value).toArray } } : Shared) = s3
  have heap3 : s3.heap = s2.heap.push { cls := .type "list", data := .seq ([] : List Value).toArray } := by rw [← e3]
  have k23 : ∀ b o, s2.heap.get? b = some o → s3.heap.get? b = some o := fun b o z => by
    rw [heap3]
    exact Heap.get?_push_of_some _ z
  have I3 : Inv X pins σ (upd Hb D (.lst [])) s3 := by
    rw [← e3]
    refine I2.laid (t' := s2.toks) (fun b o z => Heap.get?_push_of_some _ z) (Nat.le_of_eq hD) ⟨Nat.zero_le _, [], 0, .nil, ?_⟩
    rw [← hD]
    exact Heap.get?_push_size _ rfl
  have below : ∀ b ∈ fp, b < s2.heap.objs.size := fun b hb => by
    obtain ⟨o, z, _⟩ := T.obj _ _ st2 b hb
    exact Heap.lt_size z
  have f3 : ∀ b ∈ fp, FpOk X pins (upd Hb D (.lst [])) b ∧ b < s3.heap.objs.size := fun b hb => by
    refine ⟨⟨?_, (f2 b hb).2⟩, ?_⟩
    · rw [upd_ne (by rw [← hD]; exact Nat.ne_of_lt (below b hb))]
      exact (f2 b hb).1
    · rw [heap3, Heap.size_push]
      exact Nat.lt_succ_of_lt (below b hb)
  have st3 : tn 0 s3.heap := T.keep _ _ _ st2 fun b _ o z => k23 b o z
  have I4 := block_start I3 ok hN f3
  generalize hcl : cellsFrom (s3.heap.objs.size + 1) scope.names (cloFrom X.env.cells scope.names []) = cl at I4
  have G := hg s3 (upd Hb D (.lst [])) s3.heap.objs.size cl fp
  have EL := he s3 (upd Hb D (.lst [])) s3.heap.objs.size cl fp
  generalize e4 : ({ s3 with heap := pushCells (s3.heap.push { cls := .type "dict", data := .dict #[] }) scope.names } : Shared) = s4 at I4
  have k34 : ∀ b o, s3.heap.get? b = some o → s4.heap.get? b = some o := fun b o z => by
    rw [← e4]
    exact pushCells_keeps _ _ _ _ (Heap.get?_push_of_some _ z)
  show codeAny (model X.prog X.w) X.A (.compStart (.ListComp elt [⟨tg, iter, [], 0⟩] scope pos) 0 (.ref it) (.ref D) (compEnvC scope cl s3.heap.objs.size X.env)) (compPost (model X.prog X.w) X.A X.xe none (EP X pins σ Q) (.ref D) s3.heap.objs.size) s4
  generalize ece : compEnvC scope cl s3.heap.objs.size X.env = ce at I4 G EL ⊢
  have eL : ce.locals = s3.heap.objs.size := by
    subst ece
    rfl
  generalize e5 : upd Hb D (.lst []) = H3 at I3 f3 I4 G EL w0
  have pin3 := I3.pin p (List.mem_append_left _ hp)
  have lp3 : p.1 < s3.heap.objs.size := Heap.lt_size pin3.1
  -- the exception among what the block bears
  have bear : ∀ {s' : Shared} {H' : Hp}, (∀ b o, s3.heap.get? b = some o → p.1 = b → s'.heap.get? b = some o ∧ H' b = none) → s'.heap.get? p.1 = some p.2 ∧ H' p.1 = none ∧ p.1 ≠ ce.locals ∧ p.1 ∉ frs X.stack ∧ ∀ v, p.2.data ≠ .cell v := fun hk =>
    ⟨(hk _ _ pin3.1 rfl).1, (hk _ _ pin3.1 rfl).2, by rw [eL]; exact Nat.ne_of_lt lp3, fun hm => (List.mem_cons.mp (I3.stkSub p.1 hm)).elim pin3.2.2.1 pin3.2.2.2.1, pin3.2.2.2.2⟩
  have I4' : Inv (blkP X p s3 H3 scope ce fp) [] (wipe σ (own.map (·.2))) H3 s4 := inv_blkP I4 (bear fun b o z e => ⟨k34 b o z, by rw [← e]; exact pin3.2.1⟩)
  have hotB : HotC (blkP X p s3 H3 scope ce fp) := ⟨p, hot, List.mem_cons_self⟩
  have st4 : tn 0 s4.heap := T.keep _ _ _ st3 fun b _ o z => k34 b o z
  have stat : ∀ {σ' : L2.St} {H' : Hp} {s' : Shared}, Inv (blkP X p s3 H3 scope ce fp) [] σ' H' s' → (∀ b ∈ fp, H' b = none) → ∀ b ∈ fp, FpOk (blkP X p s3 H3 scope ce fp) [] H' b := fun I' hn b hb =>
    ⟨hn b hb, (I'.ok.exf b hb).1, I'.ok.exfs b hb, .inl hb, fun x c z => (I'.ok.exf b hb).2 x c z, fun q hq => by
      obtain rfl : q = p := by simpa using hq
      exact (f3 b hb).1.2.2.2.2.2 q (List.mem_append_left _ hp)⟩
  have loop : codeAny (model X.prog X.w) X.A (.compLoop (.ListComp elt [⟨tg, iter, [], 0⟩] scope pos) 0 (.ref it) (.ref D) ce) (compPost (model X.prog X.w) X.A X.xe none (EP X pins σ Q) (.ref D) s3.heap.objs.size) s4 := by
    refine compLoop_any (fun n s' => ∃ i H', Inv (blkP X p s3 H3 scope ce fp) [] (wipe σ (own.map (·.2))) H' s' ∧ tn i s'.heap ∧ (∀ b ∈ fp, H' b = none) ∧ W i n H') ?_ m0 ⟨0, H3, I4', st4, fun b hb => (f3 b hb).1.1, w0⟩
    intro n s5 hI
    obtain ⟨i, H5, I5, st5, n5, w5⟩ := hI
    rcases turn i n H5 w5 with ⟨stop, last⟩ | ⟨go, Nx, hNx, step⟩
    · refine thnF (T.done (blkP X p s3 H3 scope ce fp) rfl rfl rfl hotB i [] s5 _ H5 (fun _ _ => False) I5 (stat I5 n5) st5 stop) fun r s6 hr => ?_
      obtain ⟨rfl, I6⟩ := hr
      have I7 : Inv X pins σ H5 s6 := I3.call' (ch := fp) I6.os I6.base I6.hok I6.bare fun b hb => ⟨(f3 b hb).1.2.2.2.1, (f3 b hb).1.2.1, (f3 b hb).1.2.2.2.2.1, (f3 b hb).1.2.2.2.2.2⟩
      have nC : H5 s3.heap.objs.size = none := by
        have z : H5 ce.locals = none := I6.free
        rwa [eL] at z
      obtain ⟨m, hn, _⟩ := I6.loc
      replace hn : s6.heap.Ns ce.locals m := hn
      rw [eL] at hn
      obtain ⟨g0, g1, g2, g3, g4, g5⟩ := I3.fpOk (Nat.le_refl _) nC
      exact ⟨m, hn, fun h'' sb => ⟨.ref D, H5, I7.turned (t' := s6.toks) (fun b o hb z => (sb.2 b hb).trans z) g0 g1 g3 g4 g5, rfl, last⟩⟩
    · refine thnF (T.item (blkP X p s3 H3 scope ce fp) rfl rfl rfl hotB i [] s5 _ H5 (fun _ _ => False) I5 (stat I5 n5) st5 go) fun r s6 hr => ?_
      obtain ⟨u, rfl, h6⟩ := hr
      refine thnF h6 fun _ s7 ⟨x, H7, I7, r7, y7, st7, n7⟩ => ?_
      refine thnF (G.run _ s7 _ H7 x u _ (I7.pinned (stat I7 n7) (T.obj _ _ st7)) r7 (step x H7 y7)) fun _ s8 ⟨σ8, H8, I8, hw8, q8⟩ => ?_
      refine wpAny_tests_nil ?_
      refine thnF (EL.run _ s8 σ8 H8 _ I8 q8) fun z s10 ⟨yv, H10, I10, r10, acc, hD10, hz10, nx⟩ => ?_
      refine app_ok (X := blkP X p s3 H3 scope ce fp) I10 hD10 hz10 r10 fun s11 I11 => ?_
      obtain ⟨m', hm, w'⟩ := hNx _ nx
      have pinned : ∀ b ∈ fp, ∀ o, s7.heap.get? b = some o → s11.heap.get? b = some o ∧ (upd H10 D (.lst (acc ++ [yv]))) b = none := fun b hb o z =>
        have zz := I11.pin (b, o) (List.mem_append_right _ (List.mem_append_right _ (mem_pinsAt hb z)))
        ⟨zz.1, zz.2.1⟩
      refine ⟨m', hm, i + 1, _, (I11.unpinned (pins := [])).weak (by rw [← hw8, wipe_length]) (fun j v z => ?_), T.keep _ _ _ st7 fun b hb o z => (pinned b hb o z).1, fun b hb => ?_, w'⟩
      · rw [← hw8] at z
        exact (wipe_some z).1
      · obtain ⟨o, z, _⟩ := T.obj _ _ st7 b hb
        exact (pinned b hb o z).2
  exact codeAny_compStart_list loop (T.self X.A 0 _ _ _ st4 loop)
end
end Lay

set_option Elab.async false
set_option linter.all false
set_option maxRecDepth 100000
set_option maxHeartbeats 4000000
namespace Lay
open PySem PySem.Spec PyProof.Rows L2
open L2H (RoomH Hot1 PinOk HotC cxH PIH TurnH)
/-! ### leaves where the exception p is handled -/
structure LH (P : Program) (w : World) (K : PySem.W.Frag) (p : Addr × Obj) (X : Cx) : Prop where
  prog : X.prog = P
  w : X.w = w
  K : X.K = K
  un : X.A.units + 64 < cLine
  hot : Hot1 X.A p
  pn : p ∈ X.pn
section
variable {P : Program} {w : World} {K : PySem.W.Frag} {p : Addr × Obj} {X : Cx}
theorem LH.b (L : LH P w K p X) {s : Shared} {H : Hp} {sc : Scope} {ce : Env} {fp : List Addr} : LH P w K p (blkP X p s H sc ce fp) := ⟨L.prog, L.w, L.K, L.un, L.hot, List.mem_cons_self⟩
def hB (P : Program) (w : World) (K : PySem.W.Frag) (p : Addr × Obj) (f : Value → Value → Sem Value) : R2 := fun x y H Q => ∃ r : R2, (∀ X, LH P w K p X → OpR X f r) ∧ r x y H Q
theorem obH {f : Value → Value → Sem Value} (L : LH P w K p X) : OpR X f (hB P w K p f) := by
  intro pins s σ H x y v u Q I rx ry h
  obtain ⟨r, hr, q⟩ := h
  exact hr X L pins s σ H x y v u Q I rx ry q
abbrev op_H {f : Value → Value → Sem Value} (L : LH P w K p X) := @obH P w K p X f L
def hC (P : Program) (w : World) (K : PySem.W.Frag) (p : Addr × Obj) (f : Value) : List V → Hp → VK → Prop := fun xs H Q => ∃ r : List V → Hp → VK → Prop, (∀ X, LH P w K p X → CallR X f r) ∧ r xs H Q
theorem ocH {f : Value} (L : LH P w K p X) : CallR X f (hC P w K p f) := by
  intro pins s σ H xs us Q I rx h
  obtain ⟨r, hr, q⟩ := h
  exact hr X L pins s σ H xs us Q I rx q
def hM (P : Program) (w : World) (K : PySem.W.Frag) (p : Addr × Obj) (id : String) : V → List V → Hp → VK → Prop := fun x xs H Q => ∃ r : V → List V → Hp → VK → Prop, (∀ X, LH P w K p X → MtR X id r) ∧ r x xs H Q
theorem omH {id : String} (L : LH P w K p X) : MtR X id (hM P w K p id) := by
  intro pins s σ H x xs v us Q I rx rs h
  obtain ⟨r, hr, q⟩ := h
  exact hr X L pins s σ H x xs v us Q I rx rs q
def hI (P : Program) (w : World) (K : PySem.W.Frag) (p : Addr × Obj) : R2 := fun x y H Q => ∃ r : R2, (∀ X, LH P w K p X → IxR X r) ∧ r x y H Q
theorem oiH (L : LH P w K p X) : IxR X (hI P w K p) := by
  intro value slice pins s σ H x y v u Q I rx ry h hs
  obtain ⟨r, hr, q⟩ := h
  exact hr X L value slice pins s σ H x y v u Q I rx ry q hs
end
section
variable {P : Program} {w : World} {K : PySem.W.Frag} {p : Addr × Obj} {X : Cx} {a b o e tg : Expr} {ta tb to te : TE} {t : TA} {es : List Expr} {pos apos cpos : Pos} {name : Str} {T id : String} {x : Str}
theorem pe_notLH (L : LH P w K p X) (ha : PE X a ta) : PE X (.UnaryOp .Not a pos) (tNotT K ta) := by
  obtain ⟨_, _, rfl, _, _, _⟩ := L
  exact pe_notT ha
theorem pe_bmLH (L : LH P w K p X) (pa : PlainAttrs T) (slot : Slot T name id) (hty : typeOf (.builtin id) = pure (.type "method_descriptor")) (ho : PE X o to) (ha : PA X (e :: es) t)
    (hbase : attributeBase o name X.env (eval o X.env) = eval o X.env := by rfl)
    (hfew : ((backTo cpos (starEach (e :: es) X.env)).all (fun x => !x.1) && (backToKw cpos (keywordEach [] X.env)).all (fun x => x.1.isSome) && decide ((e :: es).length + ([] : List Keyword).length + (if ([] : List Keyword).isEmpty then 0 else 1) < 30)) = true := by rfl)
    (hline : (apos.endLine == cpos.line) = true := by rfl) (hs : starEach (e :: es) X.env = (false, eval e X.env) :: starEach es X.env := by rfl) (hplain : (backTo cpos (starEach es X.env)).any (·.1) = false := by rfl) :
    PE X (.Call (.Attribute o name apos) (e :: es) [] cpos) (tBM K T (hM P w K p id) to t) := by
  have hm : MtR X id (hM P w K p id) := omH L
  obtain ⟨_, _, rfl, _, _, _⟩ := L
  exact pe_bm pa slot hty hm ho ha hbase hfew hline hs hplain
theorem pt_truthLH (L : LH P w K p X) (ha : PE X a ta) (he : ∀ whole, isTrue a X.env whole = (do let v ← whole; standAt a.pos; holding [v] (truthy v)) := by intro _; rfl) : PT X a (tTru K ta) := by
  obtain ⟨_, _, rfl, _, _, _⟩ := L
  exact pt_truth ha he
end
/-! ### list.count of flat items -/
def rCntF (K : PySem.W.Frag) : V → List V → Hp → VK → Prop := fun x xs H Q => ∃ (a : Addr) (ys : List V) (y : V), x = V.ref a ∧ xs = [y] ∧ SqL K H a ys ∧ flatV y = true ∧ ys.all flatV = true ∧ Q (.int (ys.countP (fun z => eqV z y) : Nat)) H
theorem count_vals {y : V} : ∀ {ys : List V} {us : List Value}, Vals ys us → ys.all flatV = true → us.countP (eqU y) = ys.countP (fun z => eqV z y)
  | _, _, .nil, _ => rfl
  | z :: zs, u :: us, .cons r rr, f => by
    rw [List.all_cons, Bool.and_eq_true] at f
    rw [List.countP_cons, List.countP_cons, count_vals rr f.2, eqU_of r f.1]
theorem mt_countF {X : Cx} : MtR X "list.count" (rCntF X.K) := by
  intro pins s σ H x xs v us Q I rx rxs h
  obtain ⟨a, ys, y, rfl, rfl, hs, fy, fys, q⟩ := h
  cases rx
  obtain ⟨uy, rfl, ry⟩ := rxs.one
  obtain ⟨its, rv, ⟨⟨cls, dd, data, sl⟩, n, ho, hc, hdn, hd⟩, hlen⟩ := I.list hs
  simp only at hc hd
  subst hc hd
  have ec := count_vals (y := y) rv fys
  refine call_meets PySem.F.slot_list_count ⟨_, ho, rfl⟩ PySem.F.entry_list_count (PySem.F.args_list_count_2 _ _) (SeqAt.list_countAt a its.toArray n dd sl uy (eqU y)) ⟨ho, fun u' hu' => mem_eqAt ry fy rv fys u' (by simpa using hu'), ?_⟩
  refine ⟨.int (ys.countP (fun z => eqV z y) : Nat), H, I.tok _, ⟨s.toks, ?_⟩, q⟩
  show Value.int ((its.toArray.toList.countP (eqU y) : Nat) : Int) s.toks = _
  rw [show its.toArray.toList = its by simp, ec]
section
variable {P : Program} {w : World} {K : PySem.W.Frag} {p : Addr × Obj} {H : Hp} {Q : VK} {i j : Int} {x y : V} {a b : Addr} {xs ys : List V}
theorem bh_add (q : Q (.int (i + j)) H) : hB P w K p (binaryOp .Add) (.int i) (.int j) H Q := ⟨_, fun _ _ => op_add, i, j, rfl, rfl, q⟩
theorem bh_cat (h1 : H a = some (.lst xs)) (h2 : H b = some (.lst ys)) (hz : xs.length + ys.length ≤ sizeLine) (q : ∀ c, H c = none → Q (.ref c) (upd H c (.lst (xs ++ ys)))) : hB P w K p (binaryOp .Add) (.ref a) (.ref b) H Q := ⟨_, fun _ _ => op_cat, a, b, xs, ys, rfl, rfl, h1, h2, hz, q⟩
theorem ch_gt (q : Q (.bl (decide (j < i))) H) : hB P w K p (compareOp .Gt) (.int i) (.int j) H Q := ⟨_, fun _ _ => op_gt, i, j, rfl, rfl, q⟩
theorem ch_eq (h : scal x y = true) (q : Q (.bl (decide (x = y))) H) : hB P w K p (compareOp .Eq) x y H Q := ⟨_, fun _ _ => op_eq, h, q⟩
theorem ch_ne (h : scal x y = true) (q : Q (.bl (!decide (x = y))) H) : hB P w K p (compareOp .NotEq) x y H Q := ⟨_, fun _ _ => op_ne, h, q⟩
theorem ih_lst (h : SqL K H a xs) (hi : atI xs i = some x) (q : Q x H) : hI P w K p (.ref a) (.int i) H Q := ⟨rIxL K, fun X L => L.K ▸ ix_list, a, xs, i, x, rfl, rfl, h, hi, q⟩
theorem kh_intb {c : Bool} (q : Q (.int (if c then 1 else 0)) H) : hC P w K p (.type "int") [.bl c] H Q := ⟨_, fun _ _ => call_int1, .inr ⟨c, rfl, q⟩⟩
theorem kh_isi {t t' : Value} {c : Bool} (hc : ClsV y t') (ht : TyX K H x t) (hk : PySem.W.kitOne K t t' = some c) (q : Q (.bl c) H) : hC P w K p (.builtin "isinstance") [x, y] H Q := ⟨rIsi K, fun X L => L.K ▸ call_isi, x, y, t, t', c, rfl, hc, ht, hk, q⟩
theorem kh_isP {D d : Addr} {cv : Value} {c : Bool} {fs : List (Str × V)} (C : ExcC K D) (hz : L2N.Zn (.ref D) (some d) p.2) (hf : ∃ vs, p.2.data = .fields vs) (hv : ∀ u, RelV y u → u = cv) (hk : PySem.W.kitOne K (.ref D) cv = some c) (hd : H d = some (.xd fs)) (q : Q (.bl c) H) : hC P w K p (.builtin "isinstance") [.ref p.1, y] H Q := by
  refine ⟨rIsP K D d p.1, fun X L => ?_, y, cv, c, fs, rfl, hv, hk, hd, q⟩
  obtain ⟨rfl, rfl, rfl, _, _, hp⟩ := L
  exact call_isP C hz hf hp
theorem mh_count (h : SqL K H a ys) (fy : flatV y = true) (f : ys.all flatV = true) (q : Q (.int (ys.countP (fun z => eqV z y) : Nat)) H) : hM P w K p "list.count" (.ref a) [y] H Q := ⟨rCntF K, fun X L => L.K ▸ mt_countF, a, ys, y, rfl, rfl, h, fy, f, q⟩
theorem mh_index {n : Nat} {z : V} (h : SqL K H a ys) (fy : flatV y = true) (f : ys.all flatV = true) (hj : ys[n]? = some z) (hz : eqV z y = true) (hn : ∀ (m : Nat) (z' : V), m < n → ys[m]? = some z' → eqV z' y = false) (q : Q (.int (n : Nat)) H) : hM P w K p "list.index" (.ref a) [y] H Q :=
  ⟨rIndex K, fun X L => L.K ▸ mt_index, a, ys, y, n, z, rfl, rfl, h, fy, f, hj, hz, hn, q⟩
theorem dp_bls : ∀ bs : List Bool, DpAll K H (bs.map V.bl) (bs.map PyData.bool)
  | [] => .nil
  | b :: r => .cons (.bl b) (dp_bls r)
theorem lay_bls : ∀ bs : List Bool, PyData.canLayAll0 (bs.map PyData.bool) = true
  | [] => rfl
  | b :: r => by
    show ((PyData.bool b).canLay0 && PyData.canLayAll0 (r.map PyData.bool)) = true
    rw [lay_bls r]
    rfl
theorem dep_bls : ∀ bs : List Bool, PyData.depthAll (bs.map PyData.bool) ≤ 1
  | [] => by decide
  | b :: r => by
    have z := dep_bls r
    simp [PyData.depthAll, PyData.depth] at z ⊢
    try omega
theorem eqv_bls : ∀ bs cs : List Bool, PyData.eqvAll (bs.map PyData.bool) (cs.map PyData.bool) = decide (bs = cs)
  | [], [] => rfl
  | [], _ :: _ => rfl
  | _ :: _, [] => rfl
  | b :: r, c :: t => by
    show (PyData.eqv (.bool b) (.bool c) && PyData.eqvAll (r.map PyData.bool) (t.map PyData.bool)) = _
    rw [eqv_bls r t]
    cases b <;> cases c <;> simp [PyData.eqv]
theorem sh_bls (bs : List Bool) : SeqAt.shaped (.list (bs.map PyData.bool)) = true := by
  unfold SeqAt.shaped
  have z1 := lay_bls bs
  have z2 := dep_bls bs
  simp [PyData.canLay0, PyData.depth, z1]
  omega
theorem ch_neBL {bs cs : List Bool} (h1 : SqL K H a (bs.map V.bl)) (h2 : SqL K H b (cs.map V.bl)) (q : Q (.bl (!decide (bs = cs))) H) : hB P w K p (compareOp .NotEq) (.ref a) (.ref b) H Q :=
  ⟨rNeD K, fun X L => L.K ▸ op_neD L.un, _, _, .lst h1 (dp_bls bs), .lst h2 (dp_bls cs), sh_bls bs, sh_bls cs, by
    rw [PyData.eqv, eqv_bls]
    exact q⟩
end
end Lay

set_option Elab.async false
set_option linter.all false
set_option maxRecDepth 100000
set_option maxHeartbeats 4000000
namespace Lay
open PySem PySem.Spec PyProof.Rows L2
open L2H (RoomH Hot1 PinOk HotC cxH PIH TurnH)
open LayX (XcK XcBody)
/-! ### defs that may raise -/
def FnE (P : Program) (w : World) (K : PySem.W.Frag) (mg : Str → Option Value) (base : Heap) (k : Nat) (x : Str) (ps : List Str) (sp : Sp) : Prop :=
  ∃ a fd, mg x = some (.ref a) ∧ PySem.W.keepIn K (.ref a) = true ∧ Binds K fd ps [] ∧ (∃ ob : Obj, K.lookup a = some ob ∧ ob.data = .func fd) ∧ FnOk P w K mg base (L2N.CX P w) k a fd ps sp
/-- .. called by keywords alone -/
def FnEK (P : Program) (w : World) (K : PySem.W.Frag) (mg : Str → Option Value) (base : Heap) (k : Nat) (x : Str) (ks : List Str) (sp : Sp) : Prop :=
  ∃ a fd ps g, mg x = some (.ref a) ∧ PySem.W.keepIn K (.ref a) = true ∧ KBn K fd ps 0 ks g (fun _ zs => zs) ∧ FnOk P w K mg base (L2N.CX P w) k a fd ps sp
/-- an own exception class under its name -/
def XcG (P : Program) (K : PySem.W.Frag) (mg : Str → Option Value) (x : Str) (C : Addr) (fld : Str) : Prop := ∃ fI qual body, XcK P K C fI fld qual body ∧ XcBody fld body ∧ fld ≠ "self" ∧ mg x = some (.ref C)
abbrev BodyE (P : Program) (w : World) (K : PySem.W.Frag) (mg : Str → Option Value) (base : Heap) (x : Str) (st : Stmt) (N : List Str) (k : Nat) (sp : Sp) : Prop :=
  ∀ (a : Addr) (cdv : Value) (A : Around) (outer : List Env) (s : Shared) (H : Hp) (vs : List V) (Q : VK) (E : XK), LX P w K (cxOf (L2N.CX P w) P w K mg base N x (defScope st) a cdv A outer s H E) → Room k (A.deeper (envOfC x (defScope st) s.heap.objs.size a cdv)) →
      L2N.Takes (cxOf (L2N.CX P w) P w K mg base N x (defScope st) a cdv A outer s H E) (fun cls d _ H => E cls d H) → sp vs H Q E →
      ∃ t, PSs (cxOf (L2N.CX P w) P w K mg base N x (defScope st) a cdv A outer s H E) (defBody st) t ∧ t { nx := fun _ H' => Q .non H', rt := Q } (start N vs) H
section
variable {P : Program} {w : World} {K : PySem.W.Frag} {mg : Str → Option Value} {base : Heap} {x : Str} {st : Stmt} {N ps : List Str} {k : Nat} {sp : Sp}
theorem Fn0.okE (F : Fn0 K mg x st ps) (S : FnScope N ps (defScope st)) (len : ∀ vs H Q E, sp vs H Q E → vs.length = ps.length) (body : BodyE P w K mg base x st N k sp) : FnE P w K mg base (k + 1) x ps sp := by
  obtain ⟨a, fd, F, hg, hb⟩ := F
  obtain ⟨oc, od, kV, doc, pm, an, cdv, ct, osl, rfl, lk, hcd⟩ := F.ex
  exact ⟨a, _, hg, F.kp, hb, ⟨_, lk, rfl⟩, fn_of lk hcd S len fun A outer s H vs Q E hr h => body a cdv A outer s H vs Q E ⟨rfl, rfl, rfl, rfl, hr.units⟩ hr (L2N.takes_of rfl rfl rfl rfl) h⟩
end
theorem takes0N {X : Cx} : L2N.Takes X (fun _ _ _ _ => False) := fun _ _ x => by
  obtain ⟨_, _, _, _, _, _, _, _, _, _, _, _, _, _, _, _, z⟩ := x
  exact z.elim
def tCallE (sp : Sp) (W : WX) (t : TA) : TE := fun σ H Q => t σ H fun vs H1 => sp vs H1 Q (fun cls d H' => W cls d σ H')
def tCallEK (m : Nat) (sp : Sp) (W : WX) (tk : TA) : TE := fun σ H Q => tk σ H fun zs H1 => zs.length = m ∧ sp zs H1 Q (fun cls d H' => W cls d σ H')
def sRz (C : Addr) (fld : Str) (te : TE) (W : WX) : TS := fun _ σ H => te σ H fun x H1 => ∃ v, [x] = [v] ∧ ∀ d, H1 d = none → W (.ref C) (some d) σ (upd H1 d (.xd [(fld, v)]))
section
variable {P : Program} {w : World} {K : PySem.W.Frag} {X : Cx} {k : Nat} {x fld : Str} {C : Addr} {ps ks : List Str} {sp : Sp} {W : WX} {p pos : Pos} {e : Expr} {es : List Expr} {kws : List Keyword} {t tk : TA} {te : TE}
theorem pe_callE (F : FnE X.prog X.w X.K X.mg X.base k x ps sp) (hr : Room k X.A) (hg : Gl X x) (tk : L2N.Takes X W) (ha : PA X (e :: es) t) (hdb : (x == ("__debug__" : Str)) = false := by decide)
    (he : starEach (e :: es) X.env = (false, eval e X.env) :: starEach es X.env := by rfl) (hpl : (backTo pos (starEach es X.env)).any (·.1) = false := by rfl) : PE X (.Call (.Name x p) (e :: es) [] pos) (tCallE sp W t) := by
  obtain ⟨a, fd, h1, h2, h3, _, h4⟩ := F
  exact pe_callS h4 hr hg h1 h2 h3 (fun σ => L2N.passAt tk σ) ha hdb he hpl
theorem pe_callEK (F : FnEK X.prog X.w X.K X.mg X.base k x ks sp) (hr : Room k X.A) (hg : Gl X x) (tx : L2N.Takes X W) (hkw : PK X kws tk) (hall : (backToKw pos (keywordEach kws X.env)).all (·.1.isSome) = true := by rfl)
    (hks : (backToKw pos (keywordEach kws X.env)).filterMap (·.1) = ks := by rfl) (hdb : (x == ("__debug__" : Str)) = false := by decide)
    (hpl : ((backTo pos (starEach [] X.env)).any (·.1) || (backToKw pos (keywordEach kws X.env)).any (·.1.isNone)) = false := by rfl) : PE X (.Call (.Name x p) [] kws pos) (tCallEK ks.length sp W tk) := by
  obtain ⟨a, fd, ps, g, h1, h2, h3, h4⟩ := F
  refine ⟨fun pins s σ H Q I h => wpAny_Call_Name_kw (ld_glob I hg h1 ?_ hdb)⟩
  refine PySem.W.callWith_KW0 (h₀ := X.base) I.ok.mod.kin h2 hall (thn (hkw.run pos pins s σ H _ I h) fun ws s2 hh => ?_) hpl
  obtain ⟨zs, H2, I2, rz, l2, q⟩ := hh
  refine ⟨I2.kIn, ?_⟩
  rw [hks]
  refine wpAny_call (codeAny_mono (h4.run X.A X.stack s2 H2 ⟨[], ks.zip ws⟩ (g [] ws) zs Q _ hr I2.env0 (h3.to s2 [] ws I2.kIn rfl (rz.length.symm.trans l2)) (h3.rel .nil rz) q) fun r s' hq => ?_)
  rcases r with e | (_ | _ | _ | u)
  · exact L2N.passAt tx σ pins H2 s2 e s' I2 hq
  · exact hq.elim
  · exact hq.elim
  · exact hq.elim
  · exact I2.after hq
theorem ps_raiseE (L : LX P w K X) (tk : L2N.Takes X W) (T : XcG X.prog X.K X.mg x C fld) (hr : Room 1 X.A) (hg : Gl X x) (he : PE X e te) (hdb : (x == ("__debug__" : Str)) = false := by decide)
    (hs : starEach [e] X.env = (false, eval e X.env) :: starEach [] X.env := by rfl) (hpl : (backTo pos (starEach [] X.env)).any (·.1) = false := by rfl) {rpos : Pos} : PS X (.Raise (some (.Call (.Name x p) [e] [] pos)) none rpos) (sRz C fld te W) := by
  obtain ⟨fI, qual, body, T, B, sn, hm⟩ := T
  exact L2N.ps_raise L.calm tk (pmk_xc T B sn hr hg hm he hdb hs hpl)
theorem nm_own (h : X.mg x = some (.ref C)) (hg : Gl X x) (hdb : (x == ("__debug__" : Str)) = false := by decide) : Names X x (.ref C) := ⟨hg, hdb, .inl h⟩
/-- the contexts of a try's body and of an except clause's suite -/
theorem LX.try_ (L : LX P w K X) {pn : List (Addr × Obj)} {xe : Value → Shared → Prop} : LX P w K (X.tr pn xe) := ⟨L.prog, L.w, L.K, L.calm, L.un⟩
theorem LX.suite_ (L : LX P w K X) {a : Addr} {oe : Obj} {cls : Value} {d : Option Addr} {pn : List (Addr × Obj)} (hz : L2N.Zn cls d oe) (hf : ∃ vs, oe.data = .fields vs) : LH P w K (a, oe) (X.suite a ((a, oe) :: pn)) := by
  obtain ⟨vs, hv⟩ := hf
  exact ⟨L.prog, L.w, L.K, L.un, ⟨rfl, vs, hv, hz.2.2 vs hv⟩, List.mem_cons_self⟩
theorem room_s (hr : Room k X.A) {a : Addr} {pn : List (Addr × Obj)} : RoomH k (X.suite a pn).A := ⟨hr.dp, hr.un⟩
end
section
variable {P : Program} {w : World} {K : PySem.W.Frag} {H : Hp} {Q : VK} {σ : L2.St} {sp : Sp} {W : WX} {t tk : TA} {te : TE} {D : Ends} {C : Addr} {fld : Str}
theorem r_callE (q : t σ H fun vs H1 => sp vs H1 Q (fun cls d H' => W cls d σ H')) : tCallE sp W t σ H Q := q
theorem r_callEK {m : Nat} (q : tk σ H fun zs H1 => zs.length = m ∧ sp zs H1 Q (fun cls d H' => W cls d σ H')) : tCallEK m sp W tk σ H Q := q
theorem r_rz (q : te σ H fun x H1 => ∃ v, [x] = [v] ∧ ∀ d, H1 d = none → W (.ref C) (some d) σ (upd H1 d (.xd [(fld, v)]))) : sRz C fld te W D σ H := q
end
/-- what a class must have for its instances' field n to be read -/
structure XfG (K : PySem.W.Frag) (C : Addr) (n : Str) : Prop where
  xf : XfC K C
  no : PySem.W.findIn K (.ref C) n = some none
theorem pe_xfH {X : Cx} {a C : Addr} {oe : Obj} {cls : Value} {d : Option Addr} {pn : List (Addr × Obj)} {e : Expr} {te : TE} {pos : Pos} {n : Str} (T : XfG X.K C n) (hz : L2N.Zn cls d oe) (hf : ∃ vs, oe.data = .fields vs) (he : PE (X.suite a ((a, oe) :: pn)) e te)
    (hb : attributeBase e n X.env (eval e X.env) = eval e X.env := by rfl) : PE (X.suite a ((a, oe) :: pn)) (.Attribute e n pos) (tXf a cls d C n te) := pe_xf T.xf T.no hz.zc hf he hb
theorem r_xf {a C : Addr} {cls : Value} {d : Option Addr} {f : Str} {te : TE} {σ : L2.St} {H : Hp} {Q : VK} (q : te σ H fun x H1 => x = .ref a ∧ cls = .ref C ∧ ∃ (dd : Addr) (fs : List (Str × V)) (v : V), d = some dd ∧ H1 dd = some (.xd fs) ∧ fs.lookup f = some v ∧ Q v H1) : tXf a cls d C f te σ H Q := q
theorem r_never {H : Hp} {σ : L2.St} {D : Ends} (h : False) : tNever D σ H := h.elim
/-- the rest of the block stands aside while a statement is walked -/
theorem r_seqH {s1 s2 : TS} {nx bk ct : L2.St → Hp → Prop} {rt : VK} {σ : L2.St} {H : Hp} (q : ∀ N : L2.St → Hp → Prop, (∀ σ' H', s2 ⟨nx, rt, bk, ct⟩ σ' H' → N σ' H') → s1 ⟨N, rt, bk, ct⟩ σ H) : tSeq s1 s2 ⟨nx, rt, bk, ct⟩ σ H := q _ fun _ _ h => h
theorem un_of {A : Around} {k : Nat} (hr : RoomH k A) : A.units + 64 < cLine := by
  have := hr.un
  omega
/-! ### isinstance of classes -/
/-- the class D of the module is (not) above C -/
def IsK (K : PySem.W.Frag) (mg : Str → Option Value) (C : Addr) (x : Str) (b : Bool) : Prop := ∃ D, mg x = some (.ref D) ∧ PySem.W.kitOne K (.ref C) (.ref D) = some b
end Lay

set_option Elab.async false
set_option linter.all false
set_option maxRecDepth 100000
set_option maxHeartbeats 4000000
namespace Lay
open PySem PySem.Spec PyProof.Rows L2
/-! ### data without lists, told again and again -/
mutual
def nlD : PyData → Bool
  | .list _ => false
  | .dict _ => false
  | .tuple ds => nlA ds
  | _ => true
def nlA : List PyData → Bool
  | [] => true
  | d :: r => nlD d && nlA r
end
section
variable {K : PySem.W.Frag} {H H' : Hp} {D : Addr} {l : List V}
mutual
theorem Dp.stay (b : But D H H') (e : H D = some (.lst l)) : ∀ (d : PyData) (v : V), nlD d = true → Dp K H v d → Dp K H' v d
  | .none, _, _, h => by
    cases h
    exact .non
  | .bool _, _, _, h => by
    cases h
    exact .bl _
  | .int _, _, _, h => by
    cases h
    exact .int _
  | .str _, _, _, h => by
    cases h
    exact .str _
  | .list _, _, n, _ => absurd n (by simp [nlD])
  | .dict _, _, n, _ => absurd n (by simp [nlD])
  | .tuple ds, _, n, h => by
    cases h with
    | tup hs ha => exact .tup (b.sqt (fun ys z => by rw [e] at z; cases z) (fun o u z => by rw [e] at z; cases z) hs) (Dp.stayA b e ds _ (by simpa [nlD] using n) ha)
theorem Dp.stayA (b : But D H H') (e : H D = some (.lst l)) : ∀ (ds : List PyData) (vs : List V), nlA ds = true → DpAll K H vs ds → DpAll K H' vs ds
  | [], _, _, h => by
    cases h
    exact .nil
  | d :: ds, _, n, h => by
    have n2 : nlD d = true ∧ nlA ds = true := by simpa [nlA] using n
    cases h with
    | cons h1 h2 => exact .cons (Dp.stay b e d _ n2.1 h1) (Dp.stayA b e ds _ n2.2 h2)
end
theorem DpAll.push {d : PyData} {v : V} (h : Dp K H v d) : ∀ {n : Nat} {vs : List V}, DpAll K H vs (List.replicate n d) → DpAll K H (vs ++ [v]) (List.replicate (n + 1) d)
  | 0, _, g => by
    cases g
    exact .cons h .nil
  | n + 1, _, g => by
    rw [List.replicate_succ] at g
    cases g with
    | cons g1 g2 => exact .cons g1 (DpAll.push h g2)
theorem nlA_rep {d : PyData} (h : nlD d = true) : ∀ n, nlA (List.replicate n d) = true
  | 0 => rfl
  | n + 1 => by
    rw [List.replicate_succ, nlA, h, nlA_rep h n]
    rfl
/-- what can be held against itself -/
structure DGd (d : PyData) : Prop where
  nl : nlD d = true
  lay : d.canLay0 = true
  dep : d.depth ≤ 9
theorem lay_rep {d : PyData} (h : d.canLay0 = true) : ∀ n, PyData.canLayAll0 (List.replicate n d) = true
  | 0 => rfl
  | n + 1 => by
    rw [List.replicate_succ, PyData.canLayAll0, h, lay_rep h n]
    rfl
theorem dep_rep {d : PyData} (h : d.depth ≤ 9) : ∀ n, PyData.depthAll (List.replicate n d) ≤ 9
  | 0 => by simp [PyData.depthAll]
  | n + 1 => by
    have := dep_rep h n
    rw [List.replicate_succ, PyData.depthAll]
    omega
theorem sh_rep {d : PyData} (g : DGd d) (n : Nat) : SeqAt.shaped (.list (List.replicate n d)) = true := by
  unfold SeqAt.shaped
  have h1 := lay_rep g.lay n
  have h2 := dep_rep g.dep n
  simp [PyData.canLay0, PyData.depth, h1]
  omega
section
variable {P : Program} {w : World} {Q : VK} {a b : Addr} {xs ys : List V} {d : PyData} {n : Nat}
theorem eqR (g : DGd d) : PyData.eqv (.list (List.replicate n d)) (.list (List.replicate n d)) = true := SeqAt.eqv_refl _ (by rw [PyData.canLay0]; exact lay_rep g.lay n)
theorem c_eqR (g : DGd d) (h1 : SqL K H a xs) (a1 : DpAll K H xs (List.replicate n d)) (h2 : SqL K H b ys) (a2 : DpAll K H ys (List.replicate n d)) (q : Q (.bl true) H) : sB P w K (compareOp .Eq) (.ref a) (.ref b) H Q :=
  ⟨rEqD K, fun X L => L.K ▸ op_eqD L.un, _, _, .lst h1 a1, .lst h2 a2, sh_rep g n, sh_rep g n, by rw [eqR g]; exact q⟩
theorem c_neR (g : DGd d) (h1 : SqL K H a xs) (a1 : DpAll K H xs (List.replicate n d)) (h2 : SqL K H b ys) (a2 : DpAll K H ys (List.replicate n d)) (q : Q (.bl false) H) : sB P w K (compareOp .NotEq) (.ref a) (.ref b) H Q :=
  ⟨rNeD K, fun X L => L.K ▸ op_neD L.un, _, _, .lst h1 a1, .lst h2 a2, sh_rep g n, sh_rep g n, by rw [eqR g]; exact q⟩
/-- [x] * n, of a thing with such data -/
theorem b_repD {x : V} {k : Int} (e : H a = some (.lst [x])) (hk : k = (n : Int)) (hn : n ≤ 100) (g : DGd d) (h : Dp K H x d) (q : ∀ b ys H', Same H H' → SqL K H' b ys → DpAll K H' ys (List.replicate n d) → Q (.ref b) H') : sB P w K (binaryOp .Mult) (.ref a) (.int k) H Q := by
  subst hk
  refine b_rep e (by omega) (by omega) ?_ fun p np => ?_
  · rw [Int.toNat_natCast, sizeLine_eq]
    simp only [List.length_cons, List.length_nil]
    omega
  refine q p _ _ (Same.new np) (SqL.of upd_same) ?_
  rw [Int.toNat_natCast]
  have h2 : Dp K (upd H p (.lst (List.replicate n [x]).flatten)) x d := Dp.stay (D := a) (l := [x]) (Same.but (Same.new np)) e d x g.nl h
  generalize upd H p (.lst (List.replicate n [x]).flatten) = H2 at h2 ⊢
  clear q np e
  induction n with
  | zero => exact .nil
  | succ n ih =>
    rw [List.replicate_succ, List.flatten_cons, List.replicate_succ]
    exact .cons h2 (ih (by omega))
end
/-! ### a list of tellings -/
section
variable {J : It} {n : Nat} {G : Hp → Prop} {Y : Nat → Hp → V → Hp → Prop} {g : TG} {tt : TT} {te : TE} {vs : List Nat} {σ : L2.St} {H1 : Hp} {Qd : Hp → Prop} {d : PyData}
theorem lc_tell (w : Walk J n G Y) (gd : DGd d) (hn : n < sizeLine) (hD : H1 D = none) (hG : ∀ H, Same H1 H → G H)
    (hs : ∀ i x H H', i < n → Same H1 H → Y i H x H' → ∀ (C1 : VK) (C0 : Hp → Prop), (∀ y H4, Same H H4 → Dp K H4 y d → C1 y H4) →
      g x (wipe σ vs) H' fun σ2 H2 => wipe σ2 vs = wipe σ vs ∧ tt σ2 H2 fun b H3 => if b = true then te σ2 H3 C1 else C0 H3)
    (hd : ∀ H ys, Same H1 H → H D = some (.lst ys) → DpAll K H ys (List.replicate n d) → Qd H) :
    Lc J g tt te vs σ D Qd H1 := by
  refine lc_it w (fun i H => Same H1 H ∧ ∃ ys, H D = some (.lst ys) ∧ ys.length = i ∧ DpAll K H ys (List.replicate i d)) ⟨Same.new hD, [], upd_same, rfl, .nil⟩ (fun i H _ q => hG H q.1) (fun i x H H' hi q y => ?_) fun H q => ?_
  · obtain ⟨q1, ys, q2, q3, q4⟩ := q
    refine hs i x H H' hi q1 y _ _ (fun y H4 s4 h4 => ?_)
    have e4 := s4 _ _ q2
    refine ⟨ys, e4, by omega, Same.mut (q1.trans s4) hD, ys ++ [y], upd_same, by rw [List.length_append, q3]; rfl, ?_⟩
    have b4 : But D H4 (upd H4 D (.lst (ys ++ [y]))) := fun c o nc ec => by
      rw [upd_ne nc]
      exact ec
    exact DpAll.push (Dp.stay b4 e4 d y gd.nl h4) (Dp.stayA b4 e4 _ _ (nlA_rep gd.nl i) (Dp.stayA (Same.but s4) q2 _ _ (nlA_rep gd.nl i) q4))
  · obtain ⟨q1, ys, q2, q3, q4⟩ := q
    exact hd H ys q1 q2 q4
end
end
end Lay

set_option Elab.async false
set_option linter.all false
set_option maxRecDepth 100000
set_option maxHeartbeats 4000000
namespace L2
open PySem PySem.Spec PyProof.Rows
theorem tuple_mul0W (l : Addr) (items : Array Value) (n : Nat) (dd : Option Addr) (sl : Array (Option Value)) (u : Tok) (hi : items.isEmpty = false) :
    Meets (Builtin.«tuple.__mul__» ⟨[.ref l, .int 0 u], []⟩) (fun _ R s => s.heap.get? l = some { cls := .type "tuple", dict := dd, data := .seq items n, slots := sl } ∧
      R (.ok (.ret (Value.ref s.heap.objs.size))) { s with heap := s.heap.push { cls := Value.type "tuple", data := Data.seq #[] }, toks := s.toks }) :=
  .of_wp fun prog w A R s h => by
    obtain ⟨hp, g, d, tk, os⟩ := s
    obtain ⟨hl, h⟩ := h
    have f1 := AutoSeq1.idx_int
    have c1 : (items.isEmpty || (0 : Int) == 1) = false := by rw [hi]; rfl
    wp_walk using wpAny_loadPart' hl
    repeat (first
      | (refine wpAny_ite_false (decide_eq_false (by rw [c1]; exact Bool.false_ne_true)) ?_; wp_walk using wpAny_loadPart' hl)
      | (refine wpAny_ite_true (decide_eq_true (by rfl)) ?_; wp_walk using wpAny_loadPart' hl))
    exact ⟨_, rfl, h⟩
theorem tuple_mul1W (l : Addr) (items : Array Value) (n : Nat) (dd : Option Addr) (sl : Array (Option Value)) (u : Tok) :
    Meets (Builtin.«tuple.__mul__» ⟨[.ref l, .int 1 u], []⟩) (fun _ R s => s.heap.get? l = some { cls := .type "tuple", dict := dd, data := .seq items n, slots := sl } ∧
      R (.ok (.ret (Value.ref l))) s) :=
  .of_wp fun prog w A R s h => by
    obtain ⟨hp, g, d, tk, os⟩ := s
    obtain ⟨hl, h⟩ := h
    have f1 := AutoSeq1.idx_int
    have c1 : (items.isEmpty || (1 : Int) == 1) = true := by cases items.isEmpty <;> rfl
    wp_walk using wpAny_loadPart' hl
    repeat (first
      | (refine wpAny_ite_true (decide_eq_true (by rw [c1])) ?_; wp_walk using wpAny_loadPart' hl))
    exact ⟨_, rfl, h⟩
def rRepTA (K : PySem.W.Frag) : R2 := fun x y H Q => ∃ l k xs, x = .ref l ∧ y = .int k ∧ SqT K H l xs ∧ xs ≠ [] ∧ 0 ≤ k ∧ k ≤ 1000 ∧ xs.length ≤ 1000 ∧ (k = 1 → Q (.ref l) H) ∧ (k ≠ 1 → ∀ p, H p = none → Q (.ref p) (upd H p (.tup (List.replicate k.toNat xs).flatten)))
section
variable {X : Cx}
theorem op_repTA : OpR X (binaryOp .Mult) (rRepTA X.K) := by
  intro pins s σ H x y v u Q I rx ry h
  obtain ⟨l, k, xs, rfl, rfl, hT, hne, h1, h2, hz, q1, q2⟩ := h
  by_cases h3 : 2 ≤ k
  · exact op_repT pins s σ H _ _ v u Q I rx ry ⟨l, k, xs, rfl, rfl, hT, hne, h3, h2, hz, q2 (by omega)⟩
  cases rx
  obtain ⟨t, rfl⟩ := ry
  obtain ⟨its, r, ⟨⟨cls, dd, data, sl⟩, ho, hc, n, hd⟩, hs⟩ := I.tuple hT
  simp only at hc hd
  subst hc hd
  have hle : its.length = xs.length := r.length.symm
  have hn : its ≠ [] := fun e => hne (by
    rw [e] at hle
    exact List.eq_nil_of_length_eq_zero hle.symm)
  have hi : its.toArray.isEmpty = false := by
    cases its with
    | nil => exact absurd rfl hn
    | cons a b => rfl
  have hk : k = 0 ∨ k = 1 := by omega
  rcases hk with rfl | rfl
  · refine wpAny_binaryOp_repeat_ref (T := "tuple") (U := "int") (by decide) ⟨_, ho, rfl⟩ (fun s' => typeIs_int s' 0 t) noFill_tuple_mul F.fills_int_mul F.slot_int_rmul repeat_tuple F.slot_int_index.lookup
      (call_meets F.slot_int_rmul (typeIs_int s 0 t) F.entry_int_rmul (F.args_int_rmul_2 _ _) (int_rmul_tuple 0 t l its.toArray n dd sl)
        ⟨ho, rfl, ⟨_, ho, rfl⟩, call_meets F.slot_tuple_mul ⟨_, ho, rfl⟩ F.entry_tuple_mul (F.args_tuple_mul_2 _ _) (tuple_mul0W l its.toArray n dd sl t hi) ⟨ho, ?_⟩⟩)
    refine ⟨.ref s.heap.objs.size, _, I.laid (t' := s.toks) (o := .tup []) (fun b ob q => Heap.get?_push_of_some _ q) (Nat.le_refl _) ?_, rfl, q2 (by decide) _ (I.hok.fresh (Nat.le_refl _))⟩
    exact ⟨by rw [sizeLine_eq]; decide, _, .nil, IsTup.new _ _⟩
  · refine wpAny_binaryOp_repeat_ref (T := "tuple") (U := "int") (by decide) ⟨_, ho, rfl⟩ (fun s' => typeIs_int s' 1 t) noFill_tuple_mul F.fills_int_mul F.slot_int_rmul repeat_tuple F.slot_int_index.lookup
      (call_meets F.slot_int_rmul (typeIs_int s 1 t) F.entry_int_rmul (F.args_int_rmul_2 _ _) (int_rmul_tuple 1 t l its.toArray n dd sl)
        ⟨ho, rfl, ⟨_, ho, rfl⟩, call_meets F.slot_tuple_mul ⟨_, ho, rfl⟩ F.entry_tuple_mul (F.args_tuple_mul_2 _ _) (tuple_mul1W l its.toArray n dd sl t) ⟨ho, ?_⟩⟩)
    exact ⟨.ref l, H, I, rfl, q1 rfl⟩
end
end L2
namespace Lay
open PySem PySem.Spec PyProof.Rows L2
section
variable {P : Program} {w : World} {K : PySem.W.Frag} {H : Hp} {Q : VK} {a : Addr} {x : V} {n : Int}
/-- (x,) * n -/
theorem b_rep1 (h : SqT K H a [x]) (h0 : 0 ≤ n) (h1 : n ≤ 1000) (q : ∀ c H', Same H H' → SqT K H' c (List.replicate n.toNat x) → Q (.ref c) H') : sB P w K (binaryOp .Mult) (.ref a) (.int n) H Q := by
  refine ⟨rRepTA K, fun X L => L.K ▸ op_repTA, a, n, [x], rfl, rfl, h, List.cons_ne_nil _ _, h0, h1, by simp, fun e => ?_, fun _ p np => ?_⟩
  · subst e
    exact q a H (Same.refl H) h
  · refine q p _ (Same.new np) ?_
    have e : (List.replicate n.toNat [x]).flatten = List.replicate n.toNat x := by
      generalize n.toNat = k
      induction k with
      | zero => rfl
      | succ k ih => rw [List.replicate_succ, List.flatten_cons, ih, List.replicate_succ]; rfl
    rw [← e]
    exact SqT.of upd_same
end
end Lay

set_option Elab.async false
set_option linter.all false
set_option maxRecDepth 100000
set_option maxHeartbeats 4000000
namespace Lay
open PySem PySem.Spec PyProof.Rows L2
open LayX (XcK XcBody)
/-! ### what the written part tells of an own exception -/
section
variable {K : PySem.W.Frag} {h : Heap} {mg : Str → Option Value} {P : Program} {w : World} {base : Heap}
/-- a def that may raise, called by keywords alone -/
theorem FnK.kwE {x : Str} {st : Stmt} {ps ks : List Str} {k : Nat} {sp : Sp} (t : FnK K x st) (X : K.In h) (G : h.Ns mainGlobals mg) (F : FnE P w K mg base k x ps sp)
    (hb : ∀ (kV doc pm : Value) (an : Option Addr) (cdv ct : Value) (ws : List Value), ws.length = ks.length → bindArgs (PySem.W.fnOf x x (defArgs st) (defBody st) (defScope st) .none kV doc pm an cdv ct) ⟨[], ks.zip ws⟩ = pure (ps.zip ws)) : FnEK P w K mg base k x ks sp := by
  obtain ⟨f, oc, od, kV, doc, pm, an, cd, ct, sl, h1, h2, h3, h4⟩ := t
  obtain ⟨a, fd, e1, e2, e3, ⟨ob, e4, e5⟩, e6⟩ := F
  have ea := (PySem.W.mg_of X G h1).symm.trans e1
  cases ea
  have eo := h2.symm.trans e4
  cases eo
  cases e5
  refine ⟨f, _, ps, fun _ ws => ws, e1, e2, ⟨fun s us ws _ l1 l2 => ?_, fun _ r => r⟩, e6⟩
  rw [List.length_eq_zero_iff.mp l1]
  exact .of_eq (hb kV doc pm an cd ct ws l2)
/-- the class x of the module is (not) above C -/
def IsKK (K : PySem.W.Frag) (C : Addr) (x : Str) (b : Bool) : Prop := ∃ D, PySem.W.nsIn K mainGlobals x = some (some (.ref D)) ∧ PySem.W.kitOne K (.ref C) (.ref D) = some b
theorem IsKK.mk {C D : Addr} {x : Str} {b : Bool} (h1 : PySem.W.nsIn K mainGlobals x = some (some (.ref D))) (h2 : PySem.W.kitOne K (.ref C) (.ref D) = some b) : IsKK K C x b := ⟨D, h1, h2⟩
theorem IsKK.is {C : Addr} {x : Str} {b : Bool} (t : IsKK K C x b) (X : K.In h) (G : h.Ns mainGlobals mg) : IsK K mg C x b := by
  obtain ⟨D, h1, h2⟩ := t
  exact ⟨D, PySem.W.mg_of X G h1, h2⟩
theorem ExcC.mk' {D : Addr} (h1 : PySem.W.findIn K (.ref D) "__getattribute__" = some (some (.builtin "BaseException.__getattribute__"))) (h2 : PySem.W.findIn K (.ref D) "__getattr__" = some none) (h3 : PySem.W.subIn K (.ref D) (.type "BaseException") = some true) (h4 : PySem.W.hasDictIn K D = true)
    (h5 : PySem.W.findIn K (.ref D) "__class__" = some (some (.builtin "object.__class__"))) (h6 : PySem.W.specialIn K (.builtin "object.__class__") "__get__" = some (some (.builtin "getset_descriptor.__get__"))) (h7 : PySem.W.takesIn K (.builtin "object.__class__") = some true) (h8 : PySem.W.mroIn K D (.type "object") = some true) : ExcC K D := ⟨h1, h2, h3, h4, h5, h6, h7, h8⟩
theorem XfG.mk' {D : Addr} {n : Str} (h1 : PySem.W.findIn K (.ref D) "__getattribute__" = some (some (.builtin "BaseException.__getattribute__"))) (h2 : PySem.W.findIn K (.ref D) "__getattr__" = some none) (h3 : PySem.W.subIn K (.ref D) (.type "BaseException") = some true) (h4 : PySem.W.hasDictIn K D = true) (h5 : PySem.W.findIn K (.ref D) n = some none) : XfG K D n := ⟨⟨h1, h2, h3, h4⟩, h5⟩
/-- .. with all that is to be found as implicit arguments -/
theorem xck_mk {C fI cda cc : Addr} {fld qual : Str} {body : List Stmt} {oc : Value} {od : Option Addr} {params : Arguments} {scope : Scope} {kV doc pm : Value} {an : Option Addr} {ct : Value} {osl : Array (Option Value)} {ccl cl : Value} {cdd cld : Option Addr} {ccs csl : Array (Option Value)} {vs : Array Value} {file : Str} {tf : Tok} {ar : Arg}
    {nm q : Str} {N : Addr} {bs bm : List Value} {sn : List Str} {sub : List Value} {ab : Bool} {col : Option Bool} {dd : Option Addr} {k0 k1 k2 k3 k5 : Option Value}
    (find : PySem.W.findIn K (.ref C) "__init__" = some (some (.ref fI)))
    (l1 : K.lookup fI = some ⟨oc, od, .func (PySem.W.ksFn "__init__" qual params body scope .none kV doc pm an (.ref cda) ct cc), osl⟩) (l2 : PySem.W.codeIn K (.ref cda) qual = true) (l3 : K.lookup cda = some ⟨ccl, cdd, .fields vs, ccs⟩) (l4 : vs[2]? = some (.str file tf)) (l5 : ((P.main.file : Str) == file) = true)
    (l6 : K.lookup cc = some ⟨cl, cld, .cell (some (.ref C)), csl⟩) (l7 : (params.posonlyargs ++ params.args).head? = some ar) (l8 : ar.arg = "self")
    (l9 : ∀ us : List Value, us.length = 2 → bindArgs (PySem.W.ksFn "__init__" qual params body scope .none kV doc pm an (.ref cda) ct cc) ⟨us, []⟩ = pure ([("self" : Str), fld].zip us))
    (m1 : scope.kind = .function) (m2 : scope.isCoroutine = false) (m3 : scope.isGenerator = false) (m4 : ∀ x ∈ scope.names, x.2 ≠ .cell) (m5 : scope.names.lookup ("super" : Str) = some .globalImplicit) (m6 : scope.names.lookup ("__class__" : Str) = some .free)
    (m7 : scope.names.lookup ("self" : Str) = some .local) (m8 : scope.names.lookup fld = some .local)
    (top : (P.main.scope.names.lookup ("super" : Str)).isSome = false)
    (c1 : K.lookup C = some (excClassObj nm q C N bs bm true sn sub ab col dd k0 k1 k2 k3 k5 "ValueError.__new__")) (c2 : PySem.HandSPX.refsVE bm = true)
    (tI : PySem.W.typeIn K (.ref fI) = some (.type "function")) (own : PySem.W.mroIn K C (.ref C) = some true) (sup : PySem.W.nsIn K mainGlobals "super" = some none) (opq : PySem.W.nsIn K PySem.cStatics "thirdparty.any" = some none)
    (ks : PySem.W.ks_superIn K C C "__init__" = some (some (.builtin "ValueError.__init__"))) (ve : PySem.W.subIn K (.ref C) (.type "ValueError") = some true) (xi : PySem.W.excInitIn K C PySem.HandSPX.veTail "ValueError.__new__" = true)
    (sa : PySem.W.findIn K (.ref C) "__setattr__" = some (some (.builtin "object.__setattr__"))) (no : PySem.W.findIn K (.ref C) fld = some none) (exC : PySem.W.subIn K (.ref C) (.type "BaseException") = some true) (tyC : PySem.W.typeIn K (.ref C) = some (.type "type"))
    (kC : PySem.W.keepIn K (.ref C) = true) (hd : (fld == ("__debug__" : Str)) = false) : XcK P K C fI fld qual body :=
  ⟨⟨oc, od, params, scope, kV, doc, pm, an, cda, cc, ct, osl, ccl, cl, cdd, cld, ccs, csl, vs, file, tf, ar, l1, l2, l3, l4, l5, l6, l7, l8, l9, m1, m2, m3, m4, m5, m6, m7, m8⟩, top, ⟨nm, q, N, bs, bm, sn, sub, ab, col, dd, k0, k1, k2, k3, k5, c1, c2⟩, find, tI, own, sup, opq, ks, ve, xi, sa, no, exC, tyC, kC, hd⟩
end
end Lay

set_option Elab.async false
set_option linter.all false
set_option maxRecDepth 100000
set_option maxHeartbeats 4000000
namespace Lay
open PySem PySem.Spec PyProof.Rows L2 RZ
/-! ### zip of two tuples -/
theorem walk_zipT {K : PySem.W.Frag} {a b : Addr} {xs ys : List V} {n : Nat} (hn : n = min xs.length ys.length) : Walk (ItzT K a b) n (fun H => SqT K H a xs ∧ SqT K H b ys) (YPair (fun i => xs[i]?) (fun i => ys[i]?)) := by
  subst hn
  refine ⟨fun i _ hi q => ?_, fun _ q => ⟨xs, ys, q.1, q.2, by omega⟩, fun i H v H' _ q y => ?_⟩
  · have h1 : i < xs.length := by omega
    have h2 : i < ys.length := by omega
    exact ⟨xs, ys, xs[i], ys[i], q.1, q.2, by simp [h1], by simp [h2]⟩
  · obtain ⟨T, x, z, h1, h2, h3, h4, h5⟩ := y
    exact ⟨T, x, z, h1, h2, h3, h4 xs q.1, h5 ys q.2⟩
theorem r_zipA {K : PySem.W.Frag} {σ : L2.St} {H : Hp} {ta : TA} {R : It → Hp → Prop} (q : ta σ H fun vs H1 => ∃ a b xs ys, vs = [.ref a, .ref b] ∧ ((SqL K H1 a xs ∧ SqL K H1 b ys ∧ R (Itz K a b) H1) ∨ (SqT K H1 a xs ∧ SqT K H1 b ys ∧ R (ItzT K a b) H1))) : iZipA K ta σ H R := q
/-! ### a dict of the module, words that are no key of it -/
def keysOf : List DictEntry → List Str
  | [] => []
  | e :: r => (match e.key with | .str y _ => [y] | _ => []) ++ keysOf r
theorem find_no {P : Params} {z : Str} : ∀ {l : List DictEntry}, PySem.W.KeysLit P l → z ∉ keysOf l → l.find? (·.key.isStr z) = none ∧ l.any (·.refKey) = false
  | [], _, _ => ⟨rfl, rfl⟩
  | e :: r, h, hz => by
    obtain ⟨⟨y, t, ek, _⟩, hr⟩ := h
    have hz2 : z ∉ y :: keysOf r := by
      have e1 : keysOf (e :: r) = y :: keysOf r := by
        show (match e.key with | .str y _ => [y] | _ => []) ++ keysOf r = _
        rw [ek]
        rfl
      rw [e1] at hz
      exact hz
    obtain ⟨i1, i2⟩ := find_no hr fun m => hz2 (List.mem_cons_of_mem _ m)
    have ny : e.key.isStr z = false := by
      rw [ek]
      show (y == z) = false
      exact beq_eq_false_iff_ne.mpr fun q => hz2 (q ▸ List.mem_cons_self)
    refine ⟨?_, ?_⟩
    · rw [List.find?_cons, ny]
      exact i1
    · rw [List.any_cons, i2, Bool.or_false]
      unfold DictEntry.refKey
      rw [ek]
theorem kdno_of {K : PySem.W.Frag} {P : Params} {d : Addr} {es : Array DictEntry} {n : Nat} {z : Str} (h2 : K.lookup d = some ⟨.type "dict", none, .dict es n, #[]⟩) (hl : PySem.W.KeysLit P es.toList) (hz : z ∉ keysOf es.toList) : KDno K d z := by
  show PySem.W.nsIn K d z = some none
  unfold PySem.W.nsIn
  rw [h2]
  obtain ⟨e1, e2⟩ := find_no hl hz
  simp only [e1, e2]
  rfl
end Lay

set_option Elab.async false
set_option linter.all false
set_option maxRecDepth 100000
set_option maxHeartbeats 4000000
/-! a head by a Hook of one's own: Bools of the written part, the defs' syntax, the tables' keys; the written part is read at listed addresses -/
namespace LayHd
open PySem PySem.Spec PyProof.Rows L2 He
/-- a def (closure names cl) at the address at_ -/
structure FdZ where
  at_ : PySem.W.Frag → Addr
  name : Str
  qual : Str
  params : Arguments
  body : List Stmt
  scope : Scope
  clo : List Str
abbrev FnZ : Type := Option (Str × Str × Arguments × FuncBody × Scope × Addr × List Str × Addr)
def fnZ (K : PySem.W.Frag) (a : Addr) : FnZ := match K.lookup a with
  | some ⟨_, _, .func fd, _⟩ => some (fd.name, fd.qualname, fd.params, fd.body, fd.scope, fd.globals, fd.closure.map (·.1), fd.builtins)
  | _ => none
def FdZ.val (d : FdZ) : FnZ := some (d.name, d.qual, d.params, .stmts d.body, d.scope, mainGlobals, d.clo, builtinsNs)
abbrev AlZ : Type := Bool × List FnZ × List (Option (List (Option (Str × Int))))
def allB (K : PySem.W.Frag) : List (PySem.W.Frag → Bool) → Bool
  | [] => true
  | b :: r => match b K with
    | true => allB K r
    | false => false
def obsZ (ex : List (PySem.W.Frag → Bool)) (fn : List FdZ) (ts : List Tab) (K : PySem.W.Frag) : AlZ := (allB K ex, fn.map fun d => fnZ K (d.at_ K), ts.map fun t => dicW K (t.1 K))
def valZ (fn : List FdZ) (ts : List Tab) (w : World) : AlZ := (true, fn.map FdZ.val, ts.map fun t => some (keysIn w.params t.2))
def obsZG (as : List Addr) (ex : List (PySem.W.Frag → Bool)) (fn : List FdZ) (ts : List Tab) (g : Addr → Option Obj) : AlZ := obsZ ex fn ts (frG g as)
def SaysZ (ex : List (PySem.W.Frag → Bool)) (fn : List FdZ) (ts : List Tab) (w : World) (K : PySem.W.Frag) : Prop := obsZ ex fn ts K = valZ fn ts w
def hookZ (as : List Addr) (ex : List (PySem.W.Frag → Bool)) (fn : List FdZ) (ts : List Tab) : PySem.W.Hook where
  α := AlZ
  obs := fun s => obsZG as ex fn ts s.heap.get?
  val := fun w => valZ fn ts w
  says := fun w h => ∃ K : PySem.W.Frag, K.In h ∧ SaysZ ex fn ts w K
  of := fun w s q => Exists.intro _ (And.intro frG_in q)
  keeps := fun w h h' y st => y.elim fun K z => Exists.intro K (And.intro (PySem.W.Frag.In.keeps z.1 st) z.2)
theorem obsZG_eq {as : List Addr} {ex : List (PySem.W.Frag → Bool)} {fn : List FdZ} {ts : List Tab} {g : Addr → Option Obj} {s : Shared} (h : ∀ a, g a = s.heap.get? a) : obsZG as ex fn ts g = (hookZ as ex fn ts).obs s := by
  obtain rfl : g = s.heap.get? := funext fun a => h a
  rfl
theorem allB_at {K : PySem.W.Frag} : ∀ {l : List (PySem.W.Frag → Bool)} {i : Nat} {b : PySem.W.Frag → Bool}, allB K l = true → l[i]? = some b → b K = true
  | [], i, b, _, h => by simp at h
  | c :: r, i, b, a, h => by
    have a1 : (match c K with | true => allB K r | false => false) = true := a
    cases e : c K with
    | false =>
      rw [e] at a1
      cases a1
    | true =>
      rw [e] at a1
      cases i with
      | zero =>
        cases h
        exact e
      | succ i => exact allB_at (l := r) (i := i) a1 h
section
variable {exs : List (PySem.W.Frag → Bool)} {fns : List FdZ} {ts : List Tab} {w : World} {K : PySem.W.Frag}
theorem SaysZ.ex (c : SaysZ exs fns ts w K) (i : Nat) {b : PySem.W.Frag → Bool} (h : exs[i]? = some b := by rfl) : b K = true := allB_at (congrArg (fun z : AlZ => z.1) c) h
theorem SaysZ.fn (c : SaysZ exs fns ts w K) (i : Nat) {d : FdZ} (h : fns[i]? = some d := by rfl) : fnZ K (d.at_ K) = d.val := by
  have e : fns.map (fun d => fnZ K (d.at_ K)) = fns.map FdZ.val := congrArg (fun z : AlZ => z.2.1) c
  have z := congrArg (fun l : List FnZ => l[i]?) e
  simp only [List.getElem?_map, h, Option.map_some, Option.some.injEq] at z
  exact z
theorem SaysZ.tab (c : SaysZ exs fns ts w K) (i : Nat) {t : Tab} (h : ts[i]? = some t := by rfl) : ∃ es n, KDict K w (t.1 K) es n := by
  have e : ts.map (fun t => dicW K (t.1 K)) = ts.map fun t => some (keysIn w.params t.2) := congrArg (fun z : AlZ => z.2.2) c
  have z := congrArg (fun l : List (Option (List (Option (Str × Int)))) => l[i]?) e
  simp only [List.getElem?_map, h, Option.map_some, Option.some.injEq] at z
  exact dicW_ok z
end
/-! ### the run's equation in two -/
section
open PySem.W
variable {r : OpenRow} {q : Program} {M : Nat} {loose : List PySem.Str} {w : World}
def RunA (r : OpenRow) (q : Program) (M : Nat) (loose : List PySem.Str) (w : World) : Prop := ∀ os : OsState, (HandSHeadRun.endF (HandSHeadRun.stepQ (HandSHeadRun.denQ HandSHeadRun.tabQ) r.prog w) M r.prog w os).map (fun z => (HandSHeadRun.looksF r.prog (boot_heap w.params) z.abs, HandSHeadRun.seenQ q loose (importedModules r.prog.main.body) (fun y => xlAt q [] y && recOk r.toRowW.records y) z.abs)) = some (true, openGood q loose)
def RunB (r : OpenRow) (H : Hook) (ob : SharedT → H.α) (M : Nat) (w : World) : Prop := ∀ os : OsState, (HandSHeadRun.endF (HandSHeadRun.stepQ (HandSHeadRun.denQ HandSHeadRun.tabQ) r.prog w) M r.prog w os).map ob = some (H.val w)
theorem run_two {H : Hook} {ob : SharedT → H.α} (a : RunA r q M loose w) (b : RunB r H ob M w) : HandSHeadRun.RunEq r q H ob M loose w := fun os => by
  have a := a os
  have b := b os
  cases e : HandSHeadRun.endF (HandSHeadRun.stepQ (HandSHeadRun.denQ HandSHeadRun.tabQ) r.prog w) M r.prog w os with
  | none =>
    rw [e] at a
    cases a
  | some z =>
    rw [e] at a b
    obtain ⟨a1, a2⟩ := Prod.mk.inj (Option.some.inj a)
    have b1 : ob z = H.val w := Option.some.inj b
    show some (_, _, ob z) = _
    rw [b1]
    exact congrArg some (Prod.ext a1 (Prod.ext a2 rfl))
end
end LayHd

set_option Elab.async false
set_option linter.all false
set_option maxRecDepth 100000
set_option maxHeartbeats 4000000
/-! facts of the written part, each from a Bool of it (and a def's syntax) -/
namespace Lay
open PySem PySem.Spec PyProof.Rows L2 He
open LayHd (FdZ fnZ)
open LayX (XcK XcBody)
abbrev Fg : Type := PySem.W.Frag
/-- all of a list of Bools -/
theorem al {α : Type} {p : α → Bool} {l : List α} (h : l.all p = true) {x : α} (m : x ∈ l) : p x = true := List.all_eq_true.mp h x m
/-! ### defs -/
def fz (x : Str) (st : Stmt) : FdZ := ⟨fun K => ga K x, x, x, defArgs st, defBody st, defScope st, []⟩
def fm (cn m qual : Str) (st : Stmt) : FdZ := ⟨fun K => ma K (ga K cn) m, m, qual, defArgs st, defBody st, defScope st, []⟩
def fx (cn qual : Str) (st : Stmt) : FdZ := ⟨fun K => ma K (ga K cn) "__init__", "__init__", qual, defArgs st, defBody st, defScope st, ["__class__"]⟩
def dfOf (K : Fg) (a : Addr) : Value := match K.lookup a with
  | some ⟨_, _, .func fd, _⟩ => fd.defaults
  | _ => .ellipsis
def kwOf (K : Fg) (a : Addr) : Value := match K.lookup a with
  | some ⟨_, _, .func fd, _⟩ => fd.kwdefaults
  | _ => .ellipsis
def cdOf (K : Fg) (a : Addr) : Value := match K.lookup a with
  | some ⟨_, _, .func fd, _⟩ => fd.code
  | _ => .ellipsis
def ccOf (K : Fg) (a : Addr) : Addr := match K.lookup a with
  | some ⟨_, _, .func fd, _⟩ => (match fd.closure with
    | p :: _ => p.2
    | [] => 0)
  | _ => 0
def isNone : Value → Bool
  | .none => true
  | _ => false
theorem isNone_ok {v : Value} (h : isNone v = true) : v = .none := by
  cases v with
  | none => rfl
  | _ => cases h
section
variable {K : Fg} {w : World} {x cn m qual f : Str} {st : Stmt} {a : Addr}
theorem fn_of0 {name qual : Str} {params : Arguments} {body : List Stmt} {scope : Scope} (e : fnZ K a = some (name, qual, params, .stmts body, scope, mainGlobals, [], builtinsNs)) :
    ∃ oc od doc pm an ct sl, K.lookup a = some ⟨oc, od, .func (PySem.W.fnOf name qual params body scope (dfOf K a) (kwOf K a) doc pm an (cdOf K a) ct), sl⟩ := by
  unfold fnZ at e
  cases q : K.lookup a with
  | none =>
    rw [q] at e
    cases e
  | some o =>
    obtain ⟨oc, od, dt, sl⟩ := o
    rw [q] at e
    cases dt with
    | func fd =>
      obtain ⟨m1, m2, m3, m4, m5, m6, n7, m8, m9, n10, n11, n12, m13, n14, m15⟩ := fd
      have e2 : (some (m1, m2, m3, m4, m5, m6, n7.map (·.1), m15) : LayHd.FnZ) = some (name, qual, params, .stmts body, scope, mainGlobals, [], builtinsNs) := e
      simp only [Option.some.injEq, Prod.mk.injEq, List.map_eq_nil_iff] at e2
      obtain ⟨h1, h2, h3, h4, h5, h6, h7, h8⟩ := e2
      subst h1 h2 h3 h4 h5 h6 h7 h8
      refine ⟨oc, od, n10, n11, n12, n14, sl, ?_⟩
      unfold dfOf kwOf cdOf
      rw [q]
    | _ => cases e
theorem fn_ofC {name qual : Str} {params : Arguments} {body : List Stmt} {scope : Scope} (e : fnZ K a = some (name, qual, params, FuncBody.stmts body, scope, mainGlobals, (["__class__"] : List Str), builtinsNs)) :
    ∃ oc od doc pm an ct sl, K.lookup a = some ⟨oc, od, .func (PySem.W.ksFn name qual params body scope (dfOf K a) (kwOf K a) doc pm an (cdOf K a) ct (ccOf K a)), sl⟩ := by
  unfold fnZ at e
  cases q : K.lookup a with
  | none =>
    rw [q] at e
    cases e
  | some o =>
    obtain ⟨oc, od, dt, sl⟩ := o
    rw [q] at e
    cases dt with
    | func fd =>
      obtain ⟨m1, m2, m3, m4, m5, m6, n7, m8, m9, n10, n11, n12, m13, n14, m15⟩ := fd
      have e2 : (some (m1, m2, m3, m4, m5, m6, n7.map (·.1), m15) : LayHd.FnZ) = some (name, qual, params, FuncBody.stmts body, scope, mainGlobals, (["__class__"] : List Str), builtinsNs) := e
      simp only [Option.some.injEq, Prod.mk.injEq] at e2
      obtain ⟨h1, h2, h3, h4, h5, h6, h7, h8⟩ := e2
      subst h1 h2 h3 h4 h5 h6 h8
      cases n7 with
      | nil => cases h7
      | cons p r =>
        obtain ⟨y, c⟩ := p
        cases r with
        | nil =>
          have hy : y = ("__class__" : Str) := by
            have h8 : [y] = [("__class__" : Str)] := h7
            exact (List.cons.inj h8).1
          subst hy
          refine ⟨oc, od, n10, n11, n12, n14, sl, ?_⟩
          unfold dfOf kwOf cdOf ccOf
          rw [q]
        | cons p2 r2 => cases h7
    | _ => cases e
def gaB (x : Str) (K : Fg) : Bool := eqO (PySem.W.nsIn K mainGlobals x) (some (some (.ref (ga K x))))
theorem gaB_ok (h : gaB x K = true) : PySem.W.nsIn K mainGlobals x = some (some (.ref (ga K x))) := eqO_ok h
def frB (x : Str) (K : Fg) : Bool := eqO (PySem.W.nsIn K mainGlobals x) (some none)
theorem frB_ok (h : frB x K = true) : PySem.W.nsIn K mainGlobals x = some none := eqO_ok h
/-- a def of the module, nothing left out in its calls -/
def fnB (x : Str) (K : Fg) : Bool := gaB x K && (PySem.W.keepIn K (.ref (ga K x)) && (isNone (dfOf K (ga K x)) && PySem.W.codeIn K (cdOf K (ga K x)) x))
theorem FnK.ofZ (e : fnZ K ((fz x st).at_ K) = (fz x st).val) (b : fnB x K = true) : FnK K x st := by
  obtain ⟨b1, b⟩ := ba b
  obtain ⟨b2, b⟩ := ba b
  obtain ⟨b3, b4⟩ := ba b
  obtain ⟨oc, od, doc, pm, an, ct, sl, h⟩ := fn_of0 (a := ga K x) e
  rw [isNone_ok b3] at h
  exact ⟨ga K x, oc, od, _, doc, pm, an, _, ct, sl, gaB_ok b1, h, b4, b2⟩
/-- .. with keyword-only defaults -/
def fnkB (x : Str) (kws : List (Str × V)) (K : Fg) : Bool := fnB x K && kwdB K (kwOf K (ga K x)) kws
theorem FnKD.ofZ {kws : List (Str × V)} (e : fnZ K ((fz x st).at_ K) = (fz x st).val) (b : fnkB x kws K = true) (hk : kws ≠ []) : FnKD K x st kws := by
  obtain ⟨b, b5⟩ := ba b
  obtain ⟨b1, b⟩ := ba b
  obtain ⟨b2, b⟩ := ba b
  obtain ⟨b3, b4⟩ := ba b
  obtain ⟨oc, od, doc, pm, an, ct, sl, h⟩ := fn_of0 (a := ga K x) e
  rw [isNone_ok b3] at h
  rcases kwdB_ok b5 with e5 | ⟨D, e5, q⟩
  · exact absurd e5 hk
  · rw [e5] at h
    exact ⟨ga K x, oc, od, D, doc, pm, an, _, ct, sl, gaB_ok b1, h, b4, b2, q⟩
/-! ### constants of the module -/
def gvB (x : Str) (v : V) (K : Fg) : Bool := match PySem.W.nsIn K mainGlobals x with
  | some (some u) => relB v u
  | _ => false
theorem GvK.ofZ {v : V} (h : gvB x v K = true) : GvK K x v := by
  unfold gvB at h
  cases e : PySem.W.nsIn K mainGlobals x with
  | none =>
    rw [e] at h
    cases h
  | some r =>
    rw [e] at h
    cases r with
    | none => cases h
    | some u => exact ⟨u, e, relB_ok h⟩
/-- a tuple at a -/
def tpB (a : Addr) (xs : List V) (K : Fg) : Bool := match K.lookup a with
  | some ⟨.type c, _, .seq its _, _⟩ => decide (c = "tuple") && (Nat.ble its.size 1000 && relAll xs its.toList)
  | _ => false
theorem tpB_ok {xs : List V} (h : tpB a xs K = true) : ∃ (o : Obj) (its : Array Value) (n : Nat), K.lookup a = some o ∧ o.cls = .type "tuple" ∧ o.data = .seq its n ∧ its.size ≤ sizeLine ∧ Vals xs its.toList := by
  unfold tpB at h
  cases q : K.lookup a with
  | none =>
    rw [q] at h
    cases h
  | some o =>
    obtain ⟨oc, od, dt, osl⟩ := o
    rw [q] at h
    cases oc with
    | type c =>
      cases dt with
      | seq its n =>
        obtain ⟨h1, h2⟩ := ba (show (decide (c = "tuple") && (Nat.ble its.size 1000 && relAll xs its.toList)) = true from h)
        obtain ⟨h3, h4⟩ := ba h2
        exact ⟨_, its, n, rfl, congrArg Value.type (of_decide_eq_true h1), rfl, sz1000 (Nat.le_of_ble_eq_true h3), relAll_ok h4⟩
      | _ => cases h
    | _ => cases dt <;> cases h
def gtB (x : Str) (xs : List V) (K : Fg) : Bool := gaB x K && tpB (ga K x) xs K
theorem GtK.ofZ {xs : List V} (h : gtB x xs K = true) : GtK K x xs := by
  obtain ⟨h1, h2⟩ := ba h
  obtain ⟨o, its, n, q⟩ := tpB_ok h2
  exact ⟨ga K x, o, its, n, gaB_ok h1, q⟩
def kvB (d : Addr) (kv : List (Str × V)) (K : Fg) : Bool := kv.all fun q => match PySem.W.nsIn K d q.1 with
  | some (some u) => relB q.2 u
  | _ => false
theorem kvB_ok {d : Addr} {kv : List (Str × V)} (h : kvB d kv K = true) : ∀ p ∈ kv, ∃ u, PySem.W.nsIn K d p.1 = some (some u) ∧ RelV p.2 u := fun p hp => by
  have h2 := al h hp
  cases e : PySem.W.nsIn K d p.1 with
  | none =>
    rw [e] at h2
    cases h2
  | some r =>
    rw [e] at h2
    cases r with
    | none => cases h2
    | some u => exact ⟨u, rfl, relB_ok h2⟩
def noB (d : Addr) (no : List Str) (K : Fg) : Bool := no.all fun z => eqO (PySem.W.nsIn K d z) (some none)
def gdB (x : Str) (kv : List (Str × V)) (no : List Str) (K : Fg) : Bool := gaB x K && (kvB (ga K x) kv K && noB (ga K x) no K)
/-- the table's keys are looked at apart -/
def gdT (x : Str) (ks : List Str) : Tab := (fun K => ga K x, ks)
theorem GdK.ofZ {kv : List (Str × V)} {no : List Str} (h : gdB x kv no K = true) (t : ∃ es n, KDict K w (ga K x) es n) : GdK K w x kv no := by
  obtain ⟨h1, h⟩ := ba h
  obtain ⟨h2, h3⟩ := ba h
  obtain ⟨es, n, D⟩ := t
  exact ⟨ga K x, gaB_ok h1, ⟨es, n, D, kvB_ok h2⟩, fun z hz => eqO_ok (al h3 hz)⟩
/-! ### built-ins' names -/
def mdNames : List Str := ["len", "all", "any", "isinstance", "max", "min", "repr", "sorted", "sum", "str", "tuple", "list", "int", "bool", "dict", "type", "range", "enumerate", "zip"]
def mdB (K : Fg) : Bool := mdNames.all fun x => frB x K
theorem MdK.ofZ (h : mdB K = true) : MdK K := by
  have f : ∀ i : Nat, ∀ x, mdNames[i]? = some x → PySem.W.nsIn K mainGlobals x = some none := fun i x e => frB_ok (al h (List.mem_of_getElem? e))
  exact ⟨f 0 _ rfl, f 1 _ rfl, f 2 _ rfl, f 3 _ rfl, f 4 _ rfl, f 5 _ rfl, f 6 _ rfl, f 7 _ rfl, f 8 _ rfl, f 9 _ rfl, f 10 _ rfl, f 11 _ rfl, f 12 _ rfl, f 13 _ rfl, f 14 _ rfl, f 15 _ rfl, f 16 _ rfl, f 17 _ rfl, f 18 _ rfl⟩
/-! ### classes -/
def clB (cn : Str) (K : Fg) : Bool := gaB cn K && (Fa.cls cn).ok K
theorem ClK.ofZ (h : clB cn K = true) : ClK K cn := by
  obtain ⟨h1, h2⟩ := ba h
  exact ⟨ga K cn, gaB_ok h1, cls_ok h2⟩
def naB (cn f : Str) (K : Fg) : Bool := gaB cn K && eqO (PySem.W.findIn K (.ref (ga K cn)) f) (some none)
theorem NoK.ofZ (h : naB cn f K = true) : NoK K cn f := by
  obtain ⟨h1, h2⟩ := ba h
  exact ⟨ga K cn, gaB_ok h1, eqO_ok h2⟩
def mkB (cn : Str) (K : Fg) : Bool := gaB cn K && (PySem.W.makesIn K (ga K cn) && PySem.W.keepIn K (.ref (ga K cn)))
theorem MakesK.ofZ (h : mkB cn K = true) : MakesK K cn := by
  obtain ⟨h1, h⟩ := ba h
  obtain ⟨h2, h3⟩ := ba h
  exact ⟨ga K cn, gaB_ok h1, h2, h3⟩
def mtB0 (cn m qual : Str) (K : Fg) : Bool := gaB cn K && (eqO (PySem.W.findIn K (.ref (ga K cn)) m) (some (some (.ref (ma K (ga K cn) m)))) && (PySem.W.isFn K (.ref (ma K (ga K cn) m)) && (PySem.W.keepIn K (.ref (ma K (ga K cn) m)) && PySem.W.codeIn K (cdOf K (ma K (ga K cn) m)) qual)))
def mtB (cn m qual : Str) (K : Fg) : Bool := mtB0 cn m qual K && isNone (dfOf K (ma K (ga K cn) m))
theorem MtK.ofZ (e : fnZ K ((fm cn m qual st).at_ K) = (fm cn m qual st).val) (h : mtB cn m qual K = true) : MtK K cn m qual st := by
  obtain ⟨h, h6⟩ := ba h
  obtain ⟨h1, h⟩ := ba h
  obtain ⟨h2, h⟩ := ba h
  obtain ⟨h3, h⟩ := ba h
  obtain ⟨h4, h5⟩ := ba h
  obtain ⟨oc, od, doc, pm, an, ct, sl, l⟩ := fn_of0 (a := ma K (ga K cn) m) e
  rw [isNone_ok h6] at l
  exact ⟨ga K cn, ma K (ga K cn) m, oc, od, _, doc, pm, an, _, ct, sl, gaB_ok h1, eqO_ok h2, h3, l, h5, h4⟩
def ieB (cn qual : Str) (K : Fg) : Bool := mtB0 cn "__init__" qual K && (match dfOf K (ma K (ga K cn) "__init__") with
  | .ref T => (match K.lookup T with
    | some ⟨_, _, .seq its _, _⟩ => (match its.toList with
      | [.ref t] => tpB t [] K
      | _ => false)
    | _ => false)
  | _ => false)
theorem InEK.ofZ (e : fnZ K ((fm cn "__init__" qual st).at_ K) = (fm cn "__init__" qual st).val) (h : ieB cn qual K = true) : InEK K cn qual st := by
  obtain ⟨h, h6⟩ := ba h
  obtain ⟨h1, h⟩ := ba h
  obtain ⟨h2, h⟩ := ba h
  obtain ⟨h3, h⟩ := ba h
  obtain ⟨h4, h5⟩ := ba h
  obtain ⟨oc, od, doc, pm, an, ct, sl, l⟩ := fn_of0 (a := ma K (ga K cn) "__init__") e
  split at h6
  · rename_i T eT
    rw [eT] at l
    split at h6
    · rename_i oc1 od1 its n1 sl1 lT
      split at h6
      · rename_i t et
        obtain ⟨o2, its2, n2, q1, q2, q3, _, q5⟩ := tpB_ok h6
        have e0 : its2.toList = [] := by
          cases q : its2.toList with
          | nil => rfl
          | cons v r =>
            rw [q] at q5
            cases q5
        exact ⟨ga K cn, ma K (ga K cn) "__init__", T, t, oc, od, _, doc, pm, an, _, ct, sl, _, o2, its, its2, n1, n2, gaB_ok h1, eqO_ok h2, h3, l, h5, h4, lT, rfl, et, q1, q2, q3, e0⟩
      · cases h6
    · cases h6
  · cases h6
def owB (cn : Str) (K : Fg) : Bool := clB cn K && (eqO (PySem.W.findIn K (.ref (ga K cn)) "__class__") (some (some (.builtin "object.__class__"))) && (eqO (PySem.W.specialIn K (.builtin "object.__class__") "__get__") (some (some (.builtin "getset_descriptor.__get__"))) && (decide (PySem.W.takesIn K (.builtin "object.__class__") = some true) &&
  (decide (PySem.W.mroIn K (ga K cn) (.type "object") = some true) && (decide (PySem.W.typeIn K (.ref (ga K cn)) = some (.type "type")) && (decide (PySem.W.subIn K (.ref (ga K cn)) (.type "str") = some false) && (decide (PySem.W.subIn K (.ref (ga K cn)) (.type "tuple") = some false) && decide (PySem.W.subIn K (.ref (ga K cn)) (.type "bool") = some false))))))))
theorem typeIn_lk (h : PySem.W.typeIn K (.ref a) = some (.type "type")) : ∃ o : Obj, K.lookup a = some o ∧ o.cls = .type "type" := by
  have h2 : (K.lookup a).map (·.cls) = some (.type "type") := h
  cases q : K.lookup a with
  | none =>
    rw [q] at h2
    cases h2
  | some o =>
    rw [q] at h2
    exact ⟨o, rfl, Option.some.inj h2⟩
theorem OwnK.ofZ (h : owB cn K = true) : OwnK K cn := by
  obtain ⟨h1, h⟩ := ba h
  obtain ⟨g1, g2⟩ := ba h1
  obtain ⟨h2, h⟩ := ba h
  obtain ⟨h3, h⟩ := ba h
  obtain ⟨h4, h⟩ := ba h
  obtain ⟨h5, h⟩ := ba h
  obtain ⟨h6, h⟩ := ba h
  obtain ⟨h7, h⟩ := ba h
  obtain ⟨h8, h9⟩ := ba h
  exact ⟨ga K cn, gaB_ok g1, cls_ok g2, eqO_ok h2, eqO_ok h3, of_decide_eq_true h4, of_decide_eq_true h5, typeIn_lk (of_decide_eq_true h6), kit_own (of_decide_eq_true h7), kit_own (of_decide_eq_true h8), kit_own (of_decide_eq_true h9)⟩
/-! ### own exceptions -/
def exB (cn : Str) (K : Fg) : Bool := gaB cn K && (eqO (PySem.W.findIn K (.ref (ga K cn)) "__getattribute__") (some (some (.builtin "BaseException.__getattribute__"))) && (eqO (PySem.W.findIn K (.ref (ga K cn)) "__getattr__") (some none) && (decide (PySem.W.subIn K (.ref (ga K cn)) (.type "BaseException") = some true) && (PySem.W.hasDictIn K (ga K cn) &&
  (eqO (PySem.W.findIn K (.ref (ga K cn)) "__class__") (some (some (.builtin "object.__class__"))) && (eqO (PySem.W.specialIn K (.builtin "object.__class__") "__get__") (some (some (.builtin "getset_descriptor.__get__"))) && (decide (PySem.W.takesIn K (.builtin "object.__class__") = some true) && decide (PySem.W.mroIn K (ga K cn) (.type "object") = some true))))))))
theorem ExcC.ofZ (h : exB cn K = true) : ExcC K (ga K cn) := by
  obtain ⟨_, h⟩ := ba h
  obtain ⟨h2, h⟩ := ba h
  obtain ⟨h3, h⟩ := ba h
  obtain ⟨h4, h⟩ := ba h
  obtain ⟨h5, h⟩ := ba h
  obtain ⟨h6, h⟩ := ba h
  obtain ⟨h7, h⟩ := ba h
  obtain ⟨h8, h9⟩ := ba h
  exact ⟨eqO_ok h2, eqO_ok h3, of_decide_eq_true h4, h5, eqO_ok h6, eqO_ok h7, of_decide_eq_true h8, of_decide_eq_true h9⟩
theorem XfG.ofZ (h : exB cn K = true) (n : naB cn f K = true) : XfG K (ga K cn) f := by
  have q := ExcC.ofZ h
  obtain ⟨_, h⟩ := ba h
  obtain ⟨h2, h⟩ := ba h
  obtain ⟨h3, h⟩ := ba h
  obtain ⟨h4, h⟩ := ba h
  obtain ⟨h5, h⟩ := ba h
  exact ⟨⟨eqO_ok h2, eqO_ok h3, of_decide_eq_true h4, h5⟩, eqO_ok (ba n).2⟩
def clsB (C : Addr) (K : Fg) : Bool := match K.lookup C with
  | some ⟨.type t, _, .cls cd, sl⟩ => (match cd.mro, sl.toList with
    | .ref C' :: bm, [_, _, _, _, some (.builtin n), _] => decide (t = "type") && (decide (C' = C) && (decide (n = "ValueError.__new__") && (!cd.hasDel && (cd.hasDict && PySem.HandSPX.refsVE bm))))
    | _, _ => false)
  | _ => false
theorem clsB_ok {C : Addr} (h : clsB C K = true) : ∃ nm q N bs bm sn sub ab col dd k0 k1 k2 k3 k5, K.lookup C = some (excClassObj nm q C N bs bm true sn sub ab col dd k0 k1 k2 k3 k5 "ValueError.__new__") ∧ PySem.HandSPX.refsVE bm = true := by
  unfold clsB at h
  split at h
  · rename_i t dd cd sl lk
    split at h
    · rename_i C' bm k0 k1 k2 k3 n k5 hm hs
      obtain ⟨h1, h⟩ := ba h
      obtain ⟨h2, h⟩ := ba h
      obtain ⟨h3, h⟩ := ba h
      obtain ⟨h4, h⟩ := ba h
      obtain ⟨h5, h6⟩ := ba h
      have e1 := of_decide_eq_true h1
      have e2 := of_decide_eq_true h2
      have e3 := of_decide_eq_true h3
      obtain ⟨nm, bs, mro, ns, qn, hdc, sn, sub, ab, col, del⟩ := cd
      have e4 : del = false := by
        cases del with
        | false => rfl
        | true => cases h4
      have e5 : hdc = true := h5
      dsimp only at hm
      subst e1 e2 e3 e4 e5 hm
      have hsl : sl = #[k0, k1, k2, k3, some (.builtin "ValueError.__new__"), k5] := by
        obtain ⟨l⟩ := sl
        simp only at hs
        rw [hs]
      subst hsl
      exact ⟨nm, qn, ns, bs, bm, sn, sub, ab, col, dd, k0, k1, k2, k3, k5, lk, h6⟩
    · cases h
  · cases h
def xcB (cn fld qual : Str) (file : Str) (K : Fg) : Bool :=
  gaB cn K && (eqO (PySem.W.findIn K (.ref (ga K cn)) "__init__") (some (some (.ref (ma K (ga K cn) "__init__")))) && (isNone (dfOf K (ma K (ga K cn) "__init__")) && (PySem.W.codeIn K (cdOf K (ma K (ga K cn) "__init__")) qual && ((match cdOf K (ma K (ga K cn) "__init__") with
    | .ref c => (match K.lookup c with
      | some ⟨_, _, .fields vs, _⟩ => (match vs[2]? with
        | some (Value.str z _) => file == z
        | _ => false)
      | _ => false)
    | _ => false) && ((match K.lookup (ccOf K (ma K (ga K cn) "__init__")) with
    | some ⟨_, _, .cell (some (.ref C)), _⟩ => decide (C = ga K cn)
    | _ => false) && (clsB (ga K cn) K && (decide (PySem.W.typeIn K (.ref (ma K (ga K cn) "__init__")) = some (.type "function")) && (decide (PySem.W.mroIn K (ga K cn) (.ref (ga K cn)) = some true) && (frB "super" K && (eqO (PySem.W.nsIn K PySem.cStatics "thirdparty.any") (some none) &&
    (eqO (PySem.W.ks_superIn K (ga K cn) (ga K cn) "__init__") (some (some (.builtin "ValueError.__init__"))) && (decide (PySem.W.subIn K (.ref (ga K cn)) (.type "ValueError") = some true) && (PySem.W.excInitIn K (ga K cn) PySem.HandSPX.veTail "ValueError.__new__" && (eqO (PySem.W.findIn K (.ref (ga K cn)) "__setattr__") (some (some (.builtin "object.__setattr__"))) &&
    (eqO (PySem.W.findIn K (.ref (ga K cn)) fld) (some none) && (decide (PySem.W.subIn K (.ref (ga K cn)) (.type "BaseException") = some true) && (decide (PySem.W.typeIn K (.ref (ga K cn)) = some (.type "type")) && PySem.W.keepIn K (.ref (ga K cn)))))))))))))))))))
theorem XcK.ofZ {P : Program} {fld file : Str} {ar : Arg} (e : fnZ K ((fx cn qual st).at_ K) = (fx cn qual st).val) (h : xcB cn fld qual file K = true) (hf : (P.main.file : Str) = file) (l7 : ((defArgs st).posonlyargs ++ (defArgs st).args).head? = some ar) (l8 : ar.arg = "self")
    (l9 : ∀ (kV doc pm : Value) (an : Option Addr) (cda : Addr) (ct : Value) (cc : Addr) (us : List Value), us.length = 2 → bindArgs (PySem.W.ksFn "__init__" qual (defArgs st) (defBody st) (defScope st) .none kV doc pm an (.ref cda) ct cc) ⟨us, []⟩ = pure ([("self" : Str), fld].zip us))
    (m1 : (defScope st).kind = .function) (m2 : (defScope st).isCoroutine = false) (m3 : (defScope st).isGenerator = false) (m4 : ∀ x ∈ (defScope st).names, x.2 ≠ .cell) (m5 : (defScope st).names.lookup ("super" : Str) = some .globalImplicit) (m6 : (defScope st).names.lookup ("__class__" : Str) = some .free)
    (m7 : (defScope st).names.lookup ("self" : Str) = some .local) (m8 : (defScope st).names.lookup fld = some .local)
    (top : (P.main.scope.names.lookup ("super" : Str)).isSome = false) (hd : (fld == ("__debug__" : Str)) = false) : XcK P K (ga K cn) (ma K (ga K cn) "__init__") fld qual (defBody st) := by
  obtain ⟨a1, h⟩ := ba h
  obtain ⟨a2, h⟩ := ba h
  obtain ⟨a3, h⟩ := ba h
  obtain ⟨a4, h⟩ := ba h
  obtain ⟨a5, h⟩ := ba h
  obtain ⟨a6, h⟩ := ba h
  obtain ⟨a7, h⟩ := ba h
  obtain ⟨a8, h⟩ := ba h
  obtain ⟨a9, h⟩ := ba h
  obtain ⟨b1, h⟩ := ba h
  obtain ⟨b2, h⟩ := ba h
  obtain ⟨b3, h⟩ := ba h
  obtain ⟨b4, h⟩ := ba h
  obtain ⟨b5, h⟩ := ba h
  obtain ⟨b6, h⟩ := ba h
  obtain ⟨b7, h⟩ := ba h
  obtain ⟨b8, h⟩ := ba h
  obtain ⟨b9, c1⟩ := ba h
  obtain ⟨oc, od, doc, pm, an, ct, sl, l1⟩ := fn_ofC (a := ma K (ga K cn) "__init__") e
  rw [isNone_ok a3] at l1
  obtain ⟨nm, q, N, bs, bm, sn, sub, ab, col, dd, k0, k1, k2, k3, k5, c2, c3⟩ := clsB_ok a7
  split at a5
  · rename_i c ec
    rw [ec] at l1 a4
    split at a5
    · rename_i ccl cdd vs ccs lc
      split at a5
      · rename_i z tf hz
        split at a6
        · rename_i cl cld C csl lcc
          have eC := of_decide_eq_true a6
          subst eC
          exact xck_mk (eqO_ok a2) l1 a4 lc hz (by rw [hf]; exact a5) lcc l7 l8 (fun us hl => l9 _ _ _ _ _ _ _ us hl) m1 m2 m3 m4 m5 m6 m7 m8 top c2 c3 (of_decide_eq_true a8) (of_decide_eq_true a9) (frB_ok b1) (eqO_ok b2) (eqO_ok b3) (of_decide_eq_true b4) b5 (eqO_ok b6) (eqO_ok b7) (of_decide_eq_true b8) (of_decide_eq_true b9) c1 hd
        · cases a6
      · cases a5
    · cases a5
  · cases a5
/-- which classes of the module stand above cn -/
def isB (cn : Str) (l : List (Str × Bool)) (K : Fg) : Bool := l.all fun p => gaB p.1 K && decide (PySem.W.kitOne K (.ref (ga K cn)) (.ref (ga K p.1)) = some p.2)
theorem isB_ok {l : List (Str × Bool)} (h : isB cn l K = true) (i : Nat) {y : Str} {b : Bool} (e : l[i]? = some (y, b) := by rfl) : IsKK K (ga K cn) y b := by
  obtain ⟨h1, h2⟩ := ba (al h (List.mem_of_getElem? e))
  exact ⟨ga K y, gaB_ok h1, of_decide_eq_true h2⟩
def itB (cn : Str) (l : List (String × Bool)) (K : Fg) : Bool := l.all fun p => decide (PySem.W.kitOne K (.ref (ga K cn)) (.type p.1) = some p.2)
theorem itB_ok {l : List (String × Bool)} (h : itB cn l K = true) (i : Nat) {y : String} {b : Bool} (e : l[i]? = some (y, b) := by rfl) : PySem.W.kitOne K (.ref (ga K cn)) (.type y) = some b := of_decide_eq_true (al h (List.mem_of_getElem? e))
def exmB (cn : Str) (l : List Str) (K : Fg) : Bool := decide (PySem.W.exmAny K (.ref (ga K cn)) (l.map fun x => .ref (ga K x)) = some true)
theorem exmB_ok {l : List Str} (h : exmB cn l K = true) : PySem.W.exmAny K (.ref (ga K cn)) (l.map fun x => .ref (ga K x)) = some true := of_decide_eq_true h
end
end Lay

set_option Elab.async false
set_option linter.all false
set_option maxRecDepth 100000
set_option maxHeartbeats 4000000
namespace Tk
open PySem PySem.Spec PyProof.Rows L2 Lay
open TL (tl ext_tl len_tl tl_append tl_mk mk_tl)
def topS (i : Nat) : Stmt := PySem.Challenge.pw_papertongue_k03_tokens_refused.main.body.getD i (.Pass ⟨0, 0, 0, 0⟩)
local macro_rules | `(tactic| walk_at "if") => `(tactic| refine ite2 (fun hc => ?_) (fun hc => ?_))
local macro_rules | `(tactic| walk_at "lk") => `(tactic| first | exact upd_same | assumption)
local macro_rules | `(tactic| walk_at "st") => `(tactic| first
  | with_reducible refine r_var rfl ?_ | with_reducible refine r_c ?_ | with_reducible refine r_op ?_ | with_reducible refine r_cons ?_ | with_reducible refine r_nil ?_ | with_reducible refine r_vals ?_
  | with_reducible refine r_cb ?_ | with_reducible refine r_tup ?_ | with_reducible refine r_lst ?_ | with_reducible refine r_call ?_ | with_reducible refine r_test ?_
  | with_reducible refine r_if ?_ | with_reducible refine r_not ?_ | with_reducible refine r_bm ?_ | with_reducible refine r_sl ?_ | with_reducible refine r_np ?_ | with_reducible refine r_part ?_
  | with_reducible refine r_seq ?_ | with_reducible refine r_asg ?_ | with_reducible refine r_name ?_ | with_reducible refine r_ifs ?_ | with_reducible refine r_ret ?_ | with_reducible refine r_next ?_ | with_reducible refine r_par ?_ | with_reducible refine r_par3 ?_ | with_reducible refine r_brk ?_ | with_reducible refine r_cnt ?_ | with_reducible refine r_sub ?_
  | with_reducible refine r_andT ?_ | with_reducible refine r_orT ?_ | with_reducible refine r_notT ?_ | with_reducible refine r_or ?_ | with_reducible refine r_and ?_ | with_reducible refine r_tB ?_ | with_reducible refine r_drop ?_ | with_reducible refine r_callN ?_ | with_reducible refine r_chain ?_
  | with_reducible refine r_for ?_ | with_reducible refine r_lc ?_ | with_reducible refine r_iseq ?_ | with_reducible refine r_rng1 ?_ | with_reducible refine r_enum ?_ | with_reducible refine r_yes ?_ | with_reducible refine r_tru ?_ | with_reducible refine r_gtup ?_ | with_reducible refine r_gcons ?_ | with_reducible refine r_gnil ?_
  | with_reducible refine b_add ?_ | with_reducible refine b_sub ?_ | (with_reducible refine b_mul (by unfold CMul; omega) ?_) | (with_reducible refine b_mod (by omega) ?_) | (with_reducible refine b_fdiv (by unfold CDiv; omega) ?_)
  | with_reducible refine c_lt ?_ | with_reducible refine c_le ?_ | with_reducible refine c_gt ?_ | with_reducible refine c_ge ?_ | with_reducible refine c_isN ?_ | with_reducible refine c_notN ?_ | with_reducible refine c_isB ?_ | with_reducible refine c_eq rfl ?_ | with_reducible refine c_ne rfl ?_
  | with_reducible refine c_insign ?_ | with_reducible refine k_int ?_ | with_reducible refine k_intb ?_ | with_reducible refine k_max ?_ | with_reducible refine k_min ?_
  | with_reducible refine i_lst (by first | exact SqL.of upd_same | exact SqL.of (by assumption) | assumption) rfl ?_
  | with_reducible refine st_l (by walk_at "lk") rfl ?_
  | with_reducible refine ⟨_, rfl, ?_⟩
  | with_reducible refine ex_par ?_
  | with_reducible refine r_back ?_
  | with_reducible refine ex_par3 ?_
  | with_reducible refine ty_s ?_
  | with_reducible refine tru_b ?_
  | with_reducible refine iteT ?_ | with_reducible refine iteF ?_ | with_reducible refine itnT ?_ | with_reducible refine itnF ?_)
local macro_rules | `(tactic| walk_at "go") => `(tactic| repeat walk_at "st")
local macro_rules | `(tactic| walk_at "cl") => `(tactic| try dsimp only [cxOf, Cx.nox, Cx.wish])
/-! ### the program's words -/

/-- so many signs, all of these -/
def ofL (S : List Nat) (most : Int) (l : List Nat) : Bool := decide (1 ≤ (l.length : Int)) && (decide ((l.length : Int) ≤ most) && l.all fun c => decide (c ∈ S))
def isOf (signs : Str) (most : Int) (z : Str) : Bool := ofL signs.cps.toList most z.cps.toList
theorem isOf_eq (signs : Str) (most : Int) (z : Str) : isOf signs most z = (decide (1 ≤ (z.length : Int)) && (decide ((z.length : Int) ≤ most) && z.cps.toList.all fun c => decide (c ∈ signs.cps.toList))) := by
  unfold isOf ofL
  rw [← len_tl]
def isOfV (signs : Str) (most : Int) : V → Bool
  | .str z => isOf signs most z
  | _ => false
def sSmall : Str := "abcdefghijklmnopqrstuvwxyz"
def sWord : Str := "abcdefghijklmnopqrstuvwxyzABCDEFGHIJKLMNOPQRSTUVWXYZ0123456789.,"
def spIsText (K : PySem.W.Frag) : Sp := fun vs H Q _ => ∃ x T, vs = [x] ∧ Tyb K H x T ∧ Q (.bl (T == "str")) H
def spIsTuple (K : PySem.W.Frag) : Sp := fun vs H Q _ => ∃ x T, vs = [x] ∧ Tyb K H x T ∧ Q (.bl (T == "tuple")) H
def StrOk (x : V) : Prop := ∀ z, x = .str z → z.length ≤ 1000000
def spIsOf (K : PySem.W.Frag) : Sp := fun vs H Q _ => ∃ x T signs most, vs = [x, .str signs, .int most] ∧ Tyb K H x T ∧ StrOk x ∧ ∀ H', Same H H' → Q (.bl (isOfV signs most x)) H'
def spIsA (K : PySem.W.Frag) (signs : Str) (most : Int) : Sp := fun vs H Q _ => ∃ x T, vs = [x] ∧ Tyb K H x T ∧ StrOk x ∧ ∀ H', Same H H' → Q (.bl (isOfV signs most x)) H'
section
variable {K : PySem.W.Frag} {H : Hp} {Q : VK} {x : V} {T : String} {signs : Str} {most : Int}
theorem u_is_text (t : Tyb K H x T) (q : Q (.bl (T == "str")) H) : spIsText K ([x] ++ []) H Q E0 := ⟨x, T, rfl, t, q⟩
theorem u_is_tuple (t : Tyb K H x T) (q : Q (.bl (T == "tuple")) H) : spIsTuple K ([x] ++ []) H Q E0 := ⟨x, T, rfl, t, q⟩
theorem u_is_of (t : Tyb K H x T) (s : StrOk x) (q : ∀ H', Same H H' → Q (.bl (isOfV signs most x)) H') : spIsOf K ([x, .str signs, .int most] ++ []) H Q E0 := ⟨x, T, signs, most, rfl, t, s, q⟩
theorem u_isA (t : Tyb K H x T) (s : StrOk x) (q : ∀ H', Same H H' → Q (.bl (isOfV signs most x)) H') : spIsA K signs most ([x] ++ []) H Q E0 := ⟨x, T, rfl, t, s, q⟩
end
abbrev s_is_text : Stmt := topS 26
theorem sc_is_text : FnScope ["thing"] ["thing"] (defScope s_is_text) := ⟨rfl, rfl, rfl, by decide +kernel, rfl, by decide +kernel, by decide +kernel⟩
abbrev s_is_tuple : Stmt := topS 27
theorem sc_is_tuple : FnScope ["thing"] ["thing"] (defScope s_is_tuple) := ⟨rfl, rfl, rfl, by decide +kernel, rfl, by decide +kernel, by decide +kernel⟩
abbrev s_is_name : Stmt := topS 39
theorem sc_is_name : FnScope ["thing"] ["thing"] (defScope s_is_name) := ⟨rfl, rfl, rfl, by decide +kernel, rfl, by decide +kernel, by decide +kernel⟩
abbrev s_is_word : Stmt := topS 40
theorem sc_is_word : FnScope ["thing"] ["thing"] (defScope s_is_word) := ⟨rfl, rfl, rfl, by decide +kernel, rfl, by decide +kernel, by decide +kernel⟩
abbrev s__is_of : Stmt := topS 41
theorem sc__is_of : FnScope ["thing", "signs", "most", "sign"] ["thing", "signs", "most"] (defScope s__is_of) := ⟨rfl, rfl, rfl, by decide +kernel, rfl, by decide +kernel, by decide +kernel⟩
abbrev s_is_token : Stmt := topS 42
theorem sc_is_token : FnScope ["thing"] ["thing"] (defScope s_is_token) := ⟨rfl, rfl, rfl, by decide +kernel, rfl, by decide +kernel, by decide +kernel⟩
section
variable {P : Program} {w : World} {K : PySem.W.Frag} {mg : Str → Option Value} {base : Heap}
theorem ok_is_text (F : Fn0 K mg "is_text" s_is_text ["thing"]) (m : Md mg) : FnG P w K mg base 1 "is_text" ["thing"] (spIsText K) := by
  refine F.ok sc_is_text (fun vs H Q E h => ?_) (fun a cdv A outer s H vs Q E L hr h => ?_)
  · obtain ⟨x, T, rfl, _⟩ := h
    rfl
  have nd := sc_is_text.nd
  refine ⟨_, (pss_one (ps_ret (pe_cmpR (op_ L) (pe_callTy (oc L) (by rfl) m.type_ bt_type (pa_cons (pv 0) pa_nil)) (pe_bltn (v := .ty "str") (by rfl) m.str_ bt_str rfl) (nomark _)))), ?_⟩
  walk_at "cl"
  obtain ⟨x, T, rfl, t, q⟩ := h
  walk_at "go"
  refine k_type t fun v hv => ?_
  walk_at "go"
  exact c_eqty hv TypeEq.meta_str rfl q
theorem ok_is_tuple (F : Fn0 K mg "is_tuple" s_is_tuple ["thing"]) (m : Md mg) : FnG P w K mg base 1 "is_tuple" ["thing"] (spIsTuple K) := by
  refine F.ok sc_is_tuple (fun vs H Q E h => ?_) (fun a cdv A outer s H vs Q E L hr h => ?_)
  · obtain ⟨x, T, rfl, _⟩ := h
    rfl
  have nd := sc_is_tuple.nd
  refine ⟨_, (pss_one (ps_ret (pe_cmpR (op_ L) (pe_callTy (oc L) (by rfl) m.type_ bt_type (pa_cons (pv 0) pa_nil)) (pe_bltn (v := .ty "tuple") (by rfl) m.tuple_ bt_tuple rfl) (nomark _)))), ?_⟩
  walk_at "cl"
  obtain ⟨x, T, rfl, t, q⟩ := h
  walk_at "go"
  refine k_type t fun v hv => ?_
  walk_at "go"
  exact c_eqty hv TypeEq.meta_tuple rfl q
theorem str_of {K : PySem.W.Frag} {H : Hp} {x : V} (t : Tyb K H x "str") : ∃ z, x = .str z := by
  generalize e : "str" = T at t
  cases t <;> first | exact ⟨_, rfl⟩ | exact absurd e (by decide)
theorem isOfV_no {K : PySem.W.Frag} {H : Hp} {x : V} {T : String} {signs : Str} {most : Int} (t : Tyb K H x T) (h : ¬ (T == "str") = true) : isOfV signs most x = false := by
  cases t <;> first | rfl | exact absurd (by decide) h
theorem line_of {n : Nat} (h : n ≤ 1000000) : n ≤ sizeLine := by
  rw [sizeLine_eq]
  omega
theorem ok__is_of (F : Fn0 K mg "_is_of" s__is_of ["thing", "signs", "most"]) (m : Md mg) (c_is_text : FnG P w K mg base 1 "is_text" ["thing"] (spIsText K)) : FnG P w K mg base 2 "_is_of" ["thing", "signs", "most"] (spIsOf K) := by
  refine F.ok sc__is_of (fun vs H Q E h => ?_) (fun a cdv A outer s H vs Q E L hr h => ?_)
  · obtain ⟨x, T, g, n, rfl, _⟩ := h
    rfl
  have nd := sc__is_of.nd
  refine ⟨_, (pss_one (ps_ret (pe_andL L (pe_callG c_is_text (hr.mono (by decide)) (by rfl) (pa_cons (pv 0) pa_nil)) (pe_andL L (pe_chain (op_ L) (op_ L) pe_int (pe_callB (oc L) (by rfl) m.len_ bt_len (pa_cons (pv 0) pa_nil)) (pv 2)) (pe_one (pe_callB (oc L) (by rfl) m.all_ bt_all (pa_cons (pe_lc (own := [("sign", 3)]) rfl nd (pi_seqL L (pv 0)) (blkOk_by (own := [("sign", 3)]) (N := ["thing", "signs", "most", "sign"]) (sc := defScope s__is_of) (by decide +kernel)) (fun _ _ _ _ _ => (pg_name (i := 3) nd rfl (.inl rfl))) (fun _ _ _ _ _ => inT L.b pts_nil) (fun _ _ _ _ _ => inE L.b (pe_cmpR (op_ L.b) (pv 3) (pv 1) rfl))) pa_nil))))))), ?_⟩
  walk_at "cl"
  obtain ⟨x, T, g, n, rfl, t, hx, q⟩ := h
  walk_at "go"
  refine u_is_text t ?_
  walk_at "go"
  refine ite2 (fun hc => ?_) (fun hc => ?_)
  · obtain ⟨z, rfl⟩ := str_of (eq_of_beq hc ▸ t)
    have hz := line_of (hx z rfl)
    walk_at "go"
    refine k_lens hz ?_
    walk_at "go"
    have fin : ∀ c : Bool, c = isOf g n z → ∀ H', Same H H' → Q (.bl c) H' := fun c e H' s => by
      rw [e]
      exact q H' s
    refine ite2 (fun h1 => ?_) (fun h1 => ?_)
    · walk_at "go"
      refine ite2 (fun h2 => ?_) (fun h2 => ?_)
      · walk_at "go"
        refine .inr (.inr ⟨z, rfl, fun D hD => ?_⟩)
        refine lc_pureL z.cps.toList 0 walk_strL (fun _ => true) (fun c => .bl (decide (c ∈ g.cps.toList))) (by
          refine Nat.lt_of_le_of_lt (hx z rfl) ?_
          rw [sizeLine_eq]
          decide) hD (fun _ _ => True.intro) (fun i c x H' H'' hi sm hy C1 C0 h1 h0 => ?_) (fun H' sm hd => ?_)
        · obtain ⟨rfl, c2, hc2, rfl⟩ := hy
          cases hi.symm.trans hc2
          walk_at "go"
          refine ⟨rfl, ?_⟩
          walk_at "go"
          exact h1 rfl _ (Same.refl _)
        · rw [filter_yes, ← Function.comp_def V.bl, ← List.map_map] at hd
          walk_at "go"
          refine k_all (SqL.of hd) ?_
          refine fin _ ?_ _ sm
          rw [isOf_eq, h1, h2, Bool.true_and, Bool.true_and, List.all_map]
          rfl
      · refine fin _ ?_ _ (Same.refl _)
        rw [isOf_eq, h1]
        simp at h2 ⊢
        intro h3
        omega
    · walk_at "go"
      refine fin _ ?_ _ (Same.refl _)
      rw [isOf_eq]
      simp at h1 ⊢
      omega
  · have e1 := isOfV_no (signs := g) (most := n) t hc
    have e2 : (T == "str") = false := by simpa using hc
    rw [e2]
    rw [e1] at q
    exact q H (Same.refl H)
theorem ok_is_name (F : Fn0 K mg "is_name" s_is_name ["thing"]) (m : Md mg) (g_SMALL_LETTERS : Gv mg "SMALL_LETTERS" (.str sSmall)) (g_MOST_LETTERS : Gv mg "MOST_LETTERS" (.int 8)) (c__is_of : FnG P w K mg base 2 "_is_of" ["thing", "signs", "most"] (spIsOf K)) :
    FnG P w K mg base 3 "is_name" ["thing"] (spIsA K sSmall 8) := by
  refine F.ok sc_is_name (fun vs H Q E h => ?_) (fun a cdv A outer s H vs Q E L hr h => ?_)
  · obtain ⟨x, T, rfl, _⟩ := h
    rfl
  have nd := sc_is_name.nd
  refine ⟨_, (pss_one (ps_ret (pe_callG c__is_of (hr.mono (by decide)) (by rfl) (pa_cons (pv 0) (pa_cons (pe_gv g_SMALL_LETTERS (by rfl)) (pa_cons (pe_gv g_MOST_LETTERS (by rfl)) pa_nil)))))), ?_⟩
  walk_at "cl"
  obtain ⟨x, T, rfl, t, hx, q⟩ := h
  walk_at "go"
  exact u_is_of t hx q
theorem ok_is_word (F : Fn0 K mg "is_word" s_is_word ["thing"]) (m : Md mg) (g_WORD_SIGNS : Gv mg "WORD_SIGNS" (.str sWord)) (g_MOST_SIGNS : Gv mg "MOST_SIGNS" (.int 12)) (c__is_of : FnG P w K mg base 2 "_is_of" ["thing", "signs", "most"] (spIsOf K)) :
    FnG P w K mg base 3 "is_word" ["thing"] (spIsA K sWord 12) := by
  refine F.ok sc_is_word (fun vs H Q E h => ?_) (fun a cdv A outer s H vs Q E L hr h => ?_)
  · obtain ⟨x, T, rfl, _⟩ := h
    rfl
  have nd := sc_is_word.nd
  refine ⟨_, (pss_one (ps_ret (pe_callG c__is_of (hr.mono (by decide)) (by rfl) (pa_cons (pv 0) (pa_cons (pe_gv g_WORD_SIGNS (by rfl)) (pa_cons (pe_gv g_MOST_SIGNS (by rfl)) pa_nil)))))), ?_⟩
  walk_at "cl"
  obtain ⟨x, T, rfl, t, hx, q⟩ := h
  walk_at "go"
  exact u_is_of t hx q
/-- a TOKEN, by its signs -/
def tokL : List Nat → Bool
  | [] => false
  | c :: r => if r = [] ∧ c ∈ [123, 125, 91, 93] then true else if c ∈ [64, 35, 126, 38] then ofL sSmall.cps.toList 8 r else if c = 94 then ofL sWord.cps.toList 12 r else ofL sWord.cps.toList 12 (c :: r)
theorem tokL_cons (c : Nat) (r : List Nat) : tokL (c :: r) = if r = [] ∧ c ∈ [123, 125, 91, 93] then true else if c ∈ [64, 35, 126, 38] then ofL sSmall.cps.toList 8 r else if c = 94 then ofL sWord.cps.toList 12 r else ofL sWord.cps.toList 12 (c :: r) := rfl
def isTok (z : Str) : Bool := tokL z.cps.toList
def isTokV : V → Bool
  | .str z => isTok z
  | _ => false
def brs : List V := [.str "{", .str "}", .str "[", .str "]"]
def ahd : List V := [.str "@", .str "#", .str "~", .str "&"]
theorem is_str {z : Str} {s : String} {l : List Nat} (h : tl (Str.ofString s) = l) : (Str.ofString s == z) = decide (tl z = l) := by
  subst h
  by_cases e : z = Str.ofString s
  · subst e
    simp
  · have e2 : ¬ (Str.ofString s = z) := fun q => e q.symm
    have e3 : ¬ tl z = tl (Str.ofString s) := fun q => e (ext_tl q)
    rw [decide_eq_false e3]
    exact beq_eq_false_iff_ne.mpr e2
theorem tl_ob : tl (Str.ofString "{") = [123] := by decide +kernel
theorem tl_cb : tl (Str.ofString "}") = [125] := by decide +kernel
theorem tl_os : tl (Str.ofString "[") = [91] := by decide +kernel
theorem tl_cs : tl (Str.ofString "]") = [93] := by decide +kernel
theorem tl_at : tl (Str.ofString "@") = [64] := by decide +kernel
theorem tl_nu : tl (Str.ofString "#") = [35] := by decide +kernel
theorem tl_ti : tl (Str.ofString "~") = [126] := by decide +kernel
theorem tl_am : tl (Str.ofString "&") = [38] := by decide +kernel
theorem tl_up : tl (Str.ofString "^") = [94] := by decide +kernel
theorem in_brs (z : Str) : inV (.str z) brs = decide (tl z ∈ [[123], [125], [91], [93]]) := by
  unfold inV brs
  simp only [List.any_cons, List.any_nil, Bool.or_false, eqV, is_str tl_ob, is_str tl_cb, is_str tl_os, is_str tl_cs]
  simp only [List.mem_cons, List.not_mem_nil, or_false, Bool.decide_or]
theorem in_ahd (z : Str) : inV (.str z) ahd = decide (tl z ∈ [[64], [35], [126], [38]]) := by
  unfold inV ahd
  simp only [List.any_cons, List.any_nil, Bool.or_false, eqV, is_str tl_at, is_str tl_nu, is_str tl_ti, is_str tl_am]
  simp only [List.mem_cons, List.not_mem_nil, or_false, Bool.decide_or]
theorem cut1_tl {z : Str} {c : Nat} {r : List Nat} (h : tl z = c :: r) : tl (cutS z (some 1) none) = r := by
  have e : z.length = r.length + 1 := by rw [len_tl, h, List.length_cons]
  show ((z.cps.toList.drop (HT.sIx z.length 0 (some ((1 : Nat) : Int)))).take (HT.sIx z.length z.length none - HT.sIx z.length 0 (some ((1 : Nat) : Int)))) = r
  rw [HT.sIx_nat, HT.sIx_none, show min 1 z.length = 1 by omega, show z.cps.toList = c :: r from h, e]
  simp
theorem cut_ok {z : Str} (lo hi : Option Int) (h : z.length ≤ 1000000) : StrOk (.str (cutS z lo hi)) := fun y e => by
  cases e
  exact Nat.le_trans (cutS_length z lo hi) h
def spIsToken (K : PySem.W.Frag) : Sp := fun vs H Q _ => ∃ x T, vs = [x] ∧ Tyb K H x T ∧ StrOk x ∧ ∀ H', Same H H' → Q (.bl (isTokV x)) H'
theorem u_is_token {H : Hp} {Q : VK} {x : V} {T : String} (t : Tyb K H x T) (s : StrOk x) (q : ∀ H', Same H H' → Q (.bl (isTokV x)) H') : spIsToken K ([x] ++ []) H Q E0 := ⟨x, T, rfl, t, s, q⟩
theorem isTokV_no {H : Hp} {x : V} {T : String} (t : Tyb K H x T) (h : ¬ (T == "str") = true) : isTokV x = false := by
  cases t <;> first | rfl | exact absurd (by decide) h
theorem ok_is_token (F : Fn0 K mg "is_token" s_is_token ["thing"]) (m : Md mg) (g_BRACKETS : Gt K mg "BRACKETS" brs) (g_AHEAD_OF_NAMES : Gt K mg "AHEAD_OF_NAMES" ahd) (g_AHEAD_OF_WORDS : Gv mg "AHEAD_OF_WORDS" (.str "^"))
    (c_is_text : FnG P w K mg base 1 "is_text" ["thing"] (spIsText K)) (c_is_name : FnG P w K mg base 3 "is_name" ["thing"] (spIsA K sSmall 8)) (c_is_word : FnG P w K mg base 3 "is_word" ["thing"] (spIsA K sWord 12)) :
    FnG P w K mg base 4 "is_token" ["thing"] (spIsToken K) := by
  refine F.ok sc_is_token (fun vs H Q E h => ?_) (fun a cdv A outer s H vs Q E L hr h => ?_)
  · obtain ⟨x, T, rfl, _⟩ := h
    rfl
  have nd := sc_is_token.nd
  refine ⟨_, (pss_cons (ps_if (PW.pt (pw_or (pt_not (pt_truthL L (pe_callG c_is_text (hr.mono (by decide)) (by rfl) (pa_cons (pv 0) pa_nil)))) (pw_or1 (pt_cmpR (op_ L) (pv 0) pe_str (nomark _))))) (pss_one (ps_ret pe_bl)) pss_nil) (pss_cons (ps_if (pt_cmpR (op_ L) (pv 0) (pe_gtL L g_BRACKETS (by rfl)) rfl) (pss_one (ps_ret pe_bl)) pss_nil) (pss_cons (ps_if (pt_cmpR (op_ L) (pe_ix (oi L) (pv 0) pe_int (fun _ _ => rfl)) (pe_gtL L g_AHEAD_OF_NAMES (by rfl)) rfl) (pss_one (ps_ret (pe_callG c_is_name (hr.mono (by decide)) (by rfl) (pa_cons (pe_slice (osl L) (pv 0) (po_some pe_int) po_none) pa_nil)))) pss_nil) (pss_cons (ps_if (pt_cmpR (op_ L) (pe_ix (oi L) (pv 0) pe_int (fun _ _ => rfl)) (pe_gv g_AHEAD_OF_WORDS (by rfl)) (nomark _)) (pss_one (ps_ret (pe_callG c_is_word (hr.mono (by decide)) (by rfl) (pa_cons (pe_slice (osl L) (pv 0) (po_some pe_int) po_none) pa_nil)))) pss_nil) (pss_one (ps_ret (pe_callG c_is_word (hr.mono (by decide)) (by rfl) (pa_cons (pv 0) pa_nil)))))))), ?_⟩
  walk_at "cl"
  obtain ⟨x, T, rfl, t, hx, q⟩ := h
  walk_at "go"
  refine u_is_text t ?_
  walk_at "go"
  refine ite2 (fun hc => ?_) (fun hc => ?_)
  · -- no text
    walk_at "go"
    rw [isTokV_no t (by simpa using hc)] at q
    exact q H (Same.refl H)
  have eT : T = "str" := by simpa using hc
  subst eT
  obtain ⟨z, rfl⟩ := str_of t
  walk_at "go"
  have hz := hx z rfl
  have hl := line_of hz
  refine ite2 (fun h1 => ?_) (fun h1 => ?_)
  · have e : z = Str.ofString "" := by simpa using h1
    subst e
    walk_at "go"
    exact q H (Same.refl H)
  obtain ⟨c, r, e⟩ : ∃ c r, tl z = c :: r := by
    cases e : tl z with
    | nil => exact absurd (by simpa using (ext_tl e : z = Str.ofString "")) h1
    | cons c r => exact ⟨c, r, rfl⟩
  have et : isTok z = tokL (c :: r) := by
    unfold isTok
    rw [show z.cps.toList = c :: r from e]
  walk_at "go"
  refine r_gt fun b hb => ?_
  refine c_in (.inr (hb H)) rfl rfl ?_
  walk_at "go"
  have c0 : atI z.cps.toList 0 = some c := atI_nat (j := 0) (by rw [show z.cps.toList = c :: r from e]; rfl)
  rw [in_brs, e]
  have q2 : ∀ k : Bool, tokL (c :: r) = k → ∀ H', Same H H' → Q (.bl k) H' := fun k ek H' s => by
    have := q H' s
    rw [show isTokV (.str z) = tokL (c :: r) from et, ek] at this
    exact this
  refine ite2 (fun h2 => ?_) (fun h2 => ?_)
  · walk_at "go"
    refine q2 true ?_ _ (Same.refl H)
    simp at h2
    rw [tokL_cons]
    rw [if_pos]
    rcases h2 with h2 | h2 | h2 | h2 <;> simp [h2]
  have n2 : ¬ (r = [] ∧ c ∈ [123, 125, 91, 93]) := fun ⟨z1, z2⟩ => by
    subst z1
    simp at h2 z2
    omega
  walk_at "go"
  refine i_str hl c0 ?_
  refine r_gt fun b hb => ?_
  refine c_in (.inr (hb H)) rfl rfl ?_
  walk_at "go"
  rw [in_ahd, show tl (⟨#[c]⟩ : Str) = [c] from rfl]
  refine ite2 (fun h3 => ?_) (fun h3 => ?_)
  · walk_at "go"
    refine sl_s hl ?_
    refine u_isA (.str _) (cut_ok _ _ hz) fun H' s => ?_
    refine q2 _ ?_ H' s
    rw [tokL_cons]
    rw [if_neg n2, if_pos (by simpa using h3)]
    show _ = ofL _ _ (tl (cutS z (some 1) none))
    rw [cut1_tl e]
  walk_at "go"
  refine i_str hl c0 ?_
  walk_at "go"
  have n3 : ¬ c ∈ [64, 35, 126, 38] := by simpa using h3
  refine ite2 (fun h4 => ?_) (fun h4 => ?_)
  · have ec : c = 94 := by
      have h5 : (⟨#[c]⟩ : Str) = Str.ofString "^" := by simpa using h4
      have h6 := congrArg tl h5
      rw [tl_up] at h6
      exact (List.cons.inj h6).1
    walk_at "go"
    refine sl_s hl ?_
    refine u_isA (.str _) (cut_ok _ _ hz) fun H' s => ?_
    refine q2 _ ?_ H' s
    rw [tokL_cons]
    rw [if_neg n2, if_neg n3, if_pos ec]
    show _ = ofL _ _ (tl (cutS z (some 1) none))
    rw [cut1_tl e]
  · have ec : ¬ c = 94 := fun h => h4 (by
      subst h
      have : (⟨#[94]⟩ : Str) = Str.ofString "^" := ext_tl tl_up.symm
      rw [this]
      simp)
    walk_at "go"
    refine u_isA (.str _) hx fun H' s => ?_
    refine q2 _ ?_ H' s
    rw [tokL_cons]
    rw [if_neg n2, if_neg n3, if_neg ec, ← e]
    rfl
end
end Tk

set_option Elab.async false
set_option linter.all false
set_option maxRecDepth 100000
set_option maxHeartbeats 4000000
namespace Tk
open PySem PySem.Spec PyProof.Rows L2 Lay
open TL (tl ext_tl len_tl tl_append tl_mk mk_tl)
local macro_rules | `(tactic| walk_at "if") => `(tactic| refine ite2 (fun hc => ?_) (fun hc => ?_))
local macro_rules | `(tactic| walk_at "lk") => `(tactic| first | exact upd_same | assumption)
local macro_rules | `(tactic| walk_at "st") => `(tactic| first
  | with_reducible refine r_var rfl ?_ | with_reducible refine r_c ?_ | with_reducible refine r_op ?_ | with_reducible refine r_cons ?_ | with_reducible refine r_nil ?_ | with_reducible refine r_vals ?_
  | with_reducible refine r_cb ?_ | with_reducible refine r_tup ?_ | with_reducible refine r_lst ?_ | with_reducible refine r_call ?_ | with_reducible refine r_test ?_
  | with_reducible refine r_if ?_ | with_reducible refine r_not ?_ | with_reducible refine r_bm ?_ | with_reducible refine r_sl ?_ | with_reducible refine r_np ?_ | with_reducible refine r_part ?_
  | with_reducible refine r_seq ?_ | with_reducible refine r_asg ?_ | with_reducible refine r_name ?_ | with_reducible refine r_ifs ?_ | with_reducible refine r_ret ?_ | with_reducible refine r_next ?_ | with_reducible refine r_par ?_ | with_reducible refine r_par3 ?_ | with_reducible refine r_brk ?_ | with_reducible refine r_cnt ?_ | with_reducible refine r_sub ?_
  | with_reducible refine r_andT ?_ | with_reducible refine r_orT ?_ | with_reducible refine r_notT ?_ | with_reducible refine r_or ?_ | with_reducible refine r_and ?_ | with_reducible refine r_tB ?_ | with_reducible refine r_drop ?_ | with_reducible refine r_callN ?_ | with_reducible refine r_chain ?_
  | with_reducible refine r_for ?_ | with_reducible refine r_lc ?_ | with_reducible refine r_iseq ?_ | with_reducible refine r_rng1 ?_ | with_reducible refine r_enum ?_ | with_reducible refine r_yes ?_ | with_reducible refine r_tru ?_ | with_reducible refine r_gtup ?_ | with_reducible refine r_gcons ?_ | with_reducible refine r_gnil ?_
  | with_reducible refine b_add ?_ | with_reducible refine b_sub ?_ | (with_reducible refine b_mul (by unfold CMul; omega) ?_) | (with_reducible refine b_mod (by omega) ?_) | (with_reducible refine b_fdiv (by unfold CDiv; omega) ?_)
  | with_reducible refine c_lt ?_ | with_reducible refine c_le ?_ | with_reducible refine c_gt ?_ | with_reducible refine c_ge ?_ | with_reducible refine c_isN ?_ | with_reducible refine c_notN ?_ | with_reducible refine c_isB ?_ | with_reducible refine c_eq rfl ?_ | with_reducible refine c_ne rfl ?_
  | with_reducible refine c_insign ?_ | with_reducible refine k_int ?_ | with_reducible refine k_intb ?_ | with_reducible refine k_max ?_ | with_reducible refine k_min ?_
  | with_reducible refine ⟨_, rfl, ?_⟩
  | with_reducible refine ex_par ?_
  | with_reducible refine r_back ?_
  | with_reducible refine ex_par3 ?_
  | with_reducible refine ty_s ?_
  | with_reducible refine tru_b ?_
  | with_reducible refine iteT ?_ | with_reducible refine iteF ?_ | with_reducible refine itnT ?_ | with_reducible refine itnF ?_)
local macro_rules | `(tactic| walk_at "go") => `(tactic| repeat walk_at "st")
local macro_rules | `(tactic| walk_at "cl") => `(tactic| try dsimp only [cxOf, Cx.nox, Cx.wish])
/-! ### which tokens stand together -/
/-- one more token: cl the closing sign that is waited for, 0 for none; none where it can't stand -/
def stp (cl : Nat) (x : V) : Option Nat := match x with
  | .str z => if isTok z = true then
      (if cl ≠ 0 ∧ tl z = [cl] then some 0
       else if tl z ∈ [[123], [125], [91], [93]] then (if cl ≠ 0 ∨ tl z ∉ [[123], [91]] then none else some (if tl z = [123] then 125 else 93))
       else some cl)
    else none
  | _ => none
theorem stp_str (cl : Nat) (z : Str) : stp cl (.str z) = if isTok z = true then
      (if cl ≠ 0 ∧ tl z = [cl] then some 0
       else if tl z ∈ [[123], [125], [91], [93]] then (if cl ≠ 0 ∨ tl z ∉ [[123], [91]] then none else some (if tl z = [123] then 125 else 93))
       else some cl)
    else none := rfl
theorem stp_no {cl : Nat} {x : V} (h : isTokV x = false) : stp cl x = none := by
  cases x with
  | str z =>
    rw [stp_str, if_neg]
    rw [show isTok z = false from h]
    exact Bool.false_ne_true
  | _ => rfl
def scan : Nat → Nat → List V → Sum Nat Nat
  | _, cl, [] => .inr cl
  | i, cl, x :: r => match stp cl x with
    | none => .inl i
    | some c => scan (i + 1) c r
def wrongV (xs : List V) : V := match scan 0 0 xs with
  | .inl i => .int i
  | .inr cl => if cl ≠ 0 ∨ 40 < xs.length then .int xs.length else .non
def clS (cl : Nat) : Str := if cl = 0 then Str.ofString "" else if cl = 125 then Str.ofString "}" else Str.ofString "]"
theorem scan_end {xs : List V} {i cl : Nat} (h : scan i cl (xs.drop i) = scan 0 0 xs) (hi : xs.length ≤ i) : scan 0 0 xs = .inr cl := by
  rw [List.drop_eq_nil_of_le hi] at h
  exact h.symm
theorem scan_next {xs : List V} {i cl : Nat} {x : V} (h : scan i cl (xs.drop i) = scan 0 0 xs) (hx : xs[i]? = some x) : (match stp cl x with | none => .inl i | some c => scan (i + 1) c (xs.drop (i + 1))) = scan 0 0 xs := by
  obtain ⟨hl, rfl⟩ := List.getElem?_eq_some_iff.mp hx
  rw [List.drop_eq_getElem_cons hl] at h
  exact h
def TupOk (K : PySem.W.Frag) (H : Hp) (xs : List V) : Prop := ∀ x ∈ xs, (∃ T, Tyb K H x T) ∧ StrOk x
theorem Tyb.same {K : PySem.W.Frag} {H H' : Hp} {x : V} {T : String} (s : Same H H') (t : Tyb K H x T) : Tyb K H' x T := by
  cases t with
  | non => exact .non
  | bl b => exact .bl b
  | int i => exact .int i
  | str z => exact .str z
  | lst e => exact .lst (s.seq e)
  | tup e => exact .tup (Same.sqt s e)
  | dic e => exact .dic (s _ _ e)
  | own e c => exact .own (s _ _ e) c
theorem TupOk.same {K : PySem.W.Frag} {H H' : Hp} {xs : List V} (s : Same H H') (h : TupOk K H xs) : TupOk K H' xs := fun x hx => by
  obtain ⟨⟨T, t⟩, o⟩ := h x hx
  exact ⟨⟨T, Tyb.same s t⟩, o⟩
def spWrong (K : PySem.W.Frag) : Sp := fun vs H Q _ => ∃ a xs, vs = [.ref a] ∧ SqT K H a xs ∧ TupOk K H xs ∧ ∀ H', Same H H' → Q (wrongV xs) H'
theorem u_wrong {K : PySem.W.Frag} {H : Hp} {Q : VK} {a : Addr} {xs : List V} (h : SqT K H a xs) (o : TupOk K H xs) (q : ∀ H', Same H H' → Q (wrongV xs) H') : spWrong K ([.ref a] ++ []) H Q E0 := ⟨a, xs, rfl, h, o, q⟩
abbrev s__wrong_place : Stmt := topS 48
theorem sc__wrong_place : FnScope ["tokens", "closing", "place", "token"] ["tokens"] (defScope s__wrong_place) := ⟨rfl, rfl, rfl, by decide +kernel, rfl, by decide +kernel, by decide +kernel⟩
abbrev s_is_tokens : Stmt := topS 43
theorem sc_is_tokens : FnScope ["thing", "plain", "token"] ["thing", "plain"] (defScope s_is_tokens) := ⟨rfl, rfl, rfl, by decide +kernel, rfl, by decide +kernel, by decide +kernel⟩
def prs : List (Str × V) := [("{", .str "}"), ("[", .str "]")]
def npr : List Str := ["}", "]"]
section
variable {P : Program} {w : World} {K : PySem.W.Frag} {mg : Str → Option Value} {base : Heap} {a : Addr} {fd : FuncData}
theorem ok__wrong_place (F : Fn0 K mg "_wrong_place" s__wrong_place ["tokens"]) (m : Md mg) (g_BRACKETS : Gt K mg "BRACKETS" brs) (g_PAIRS : Gd K w mg "PAIRS" prs npr) (g_MOST_TOKENS : Gv mg "MOST_TOKENS" (.int 40))
    (c_is_token : FnG P w K mg base 4 "is_token" ["thing"] (spIsToken K)) : FnG P w K mg base 5 "_wrong_place" ["tokens"] (spWrong K) := by
  refine F.ok sc__wrong_place (fun vs H Q E h => ?_) (fun a cdv A outer s H vs Q E L hr h => ?_)
  · obtain ⟨a, xs, rfl, _⟩ := h
    rfl
  have nd := sc__wrong_place.nd
  refine ⟨_, (pss_cons (ps_set (i := 1) nd rfl (.inl rfl) pe_str) (pss_cons (ps_for PassesOwn.never rfl (pi_enumL L (by rfl) m.enumerate_ (pa_cons (pv 0) pa_nil)) (pg_tupL L (pgs_cons (pg_name (i := 2) nd rfl (.inl rfl)) (pgs_cons (pg_name (i := 3) nd rfl (.inl rfl)) pgs_nil))) (pss_cons (ps_if (pt_not (pt_truthL L (pe_callG c_is_token (hr.mono (by decide)) (by rfl) (pa_cons (pv 3) pa_nil)))) (pss_one (ps_ret (pv 2))) pss_nil) (pss_one (ps_if (pt_cmpR (op_ L) (pv 3) (pv 1) (nomark _)) (pss_one (ps_set (i := 1) nd rfl (.inl rfl) pe_str)) (pss_one (ps_if (pt_cmpR (op_ L) (pv 3) (pe_gtL L g_BRACKETS (by rfl)) rfl) (pss_cons (ps_if (PW.pt (pw_or (pt_truthL L (pv 1)) (pw_or1 (pt_cmpR (op_ L) (pv 3) (pe_gdL L g_PAIRS (by rfl)) rfl)))) (pss_one (ps_ret (pv 2))) pss_nil) (pss_one (ps_set (i := 1) nd rfl (.inl rfl) (pe_ix (oi L) (pe_gdL L g_PAIRS (by rfl)) (pv 3) (fun _ _ => rfl))))) pss_nil)))))) (pss_cons (ps_if (PW.pt (pw_or (pt_truthL L (pv 1)) (pw_or1 (pt_cmpR (op_ L) (pe_callB (oc L) (by rfl) m.len_ bt_len (pa_cons (pv 0) pa_nil)) (pe_gv g_MOST_TOKENS (by rfl)) (nomark _))))) (pss_one (ps_ret (pe_callB (oc L) (by rfl) m.len_ bt_len (pa_cons (pv 0) pa_nil)))) pss_nil) (pss_one (ps_ret pe_non))))), ?_⟩
  walk_at "cl"
  obtain ⟨a, xs, rfl, hS, hO, q⟩ := h
  walk_at "go"
  refine ⟨a, xs, rfl, .inr ⟨hS, ?_⟩⟩
  refine fo_it walk_enumT (fun i σ H' => ∃ cl v2 v3, σ = [some (.ref a), some (.str (clS cl)), v2, v3] ∧ Same H H' ∧ scan i cl (xs.drop i) = scan 0 0 xs ∧ (cl = 0 ∨ cl = 125 ∨ cl = 93)) ⟨0, none, none, rfl, Same.refl H, rfl, .inl rfl⟩
    (fun i σ H' _ ⟨_, _, _, _, sm, _⟩ => Same.sqt sm hS) (fun i v σ H1 H' hi hP hY => ?_) (fun σ H1 hP => ?_)
  · obtain ⟨cl, v2, v3, rfl, sm, hsc, hcl⟩ := hP
    obtain ⟨T, x0, x, rfl, hT, rfl, e1, hx⟩ := hY
    cases e1
    have sm2 : Same H (upd H1 T (.tup [.int (i : Nat), x])) := sm.trans (Same.new hT)
    obtain ⟨⟨U, ty⟩, ok⟩ := (hO.same sm2) x (List.mem_of_getElem? hx)
    have nx := scan_next hsc hx
    walk_at "go"
    refine ⟨T, [.int (i : Nat), x], rfl, SqT.of upd_same, rfl, ?_⟩
    walk_at "go"
    refine u_is_token ty ok fun H2 sm3 => ?_
    have sm4 := sm2.trans sm3
    walk_at "go"
    refine ite2 (fun h1 => ?_) (fun h1 => ?_)
    · -- no token
      have e : stp cl x = none := stp_no (by simpa using h1)
      rw [e] at nx
      have e2 : wrongV xs = .int i := by
        unfold wrongV
        rw [← nx]
      walk_at "go"
      rw [e2] at q
      exact q H2 sm4
    obtain ⟨z, rfl⟩ : ∃ z, x = .str z := by
      cases x <;> first | exact ⟨_, rfl⟩ | exact absurd rfl h1
    have tk : isTok z = true := by
      have : isTokV (.str z) = true := by simpa using h1
      exact this
    have ne : tl z ≠ [] := fun e => by
      unfold isTok at tk
      rw [show z.cps.toList = [] from e] at tk
      exact Bool.false_ne_true tk
    rw [stp_str, if_pos tk] at nx
    have ln : (clS cl).length ≤ sizeLine := by
      rcases hcl with rfl | rfl | rfl <;> exact line_of (by decide +kernel)
    have ez : decide ((clS cl).length ≠ 0) = decide (cl ≠ 0) := by
      rcases hcl with rfl | rfl | rfl <;> decide +kernel
    have tc : tl (clS cl) = if cl = 0 then [] else [cl] := by
      rcases hcl with rfl | rfl | rfl <;> decide +kernel
    walk_at "go"
    refine ite2 (fun h2 => ?_) (fun h2 => ?_)
    · -- it closes
      have ez : z = clS cl := by simpa using h2
      have tz : tl z = if cl = 0 then [] else [cl] := by rw [ez, tc]
      have c0 : cl ≠ 0 := fun h => ne (by rw [tz, if_pos h])
      rw [if_neg c0] at tz
      rw [if_pos ⟨c0, tz⟩] at nx
      walk_at "go"
      exact ⟨0, _, _, rfl, sm4, nx, .inl rfl⟩
    have n2 : ¬ (cl ≠ 0 ∧ tl z = [cl]) := fun ⟨c0, tz⟩ => h2 (by
      rw [if_neg c0] at tc
      rw [ext_tl (tz.trans tc.symm)]
      simp)
    rw [if_neg n2] at nx
    walk_at "go"
    refine r_gt fun b hb => ?_
    refine c_in (.inr (hb H2)) rfl rfl ?_
    rw [in_brs]
    walk_at "go"
    refine ite2 (fun h3 => ?_) (fun h3 => ?_)
    · have m3 : tl z ∈ [[123], [125], [91], [93]] := by simpa using h3
      rw [if_pos m3] at nx
      walk_at "go"
      refine tru_s ln ?_
      rw [ez]
      have wr : (cl ≠ 0 ∨ tl z ∉ [[123], [91]]) → Q (.int i) H2 := fun h => by
        rw [if_pos h] at nx
        have := q H2 sm4
        unfold wrongV at this
        rw [← nx] at this
        exact this
      refine ite2 (fun h4 => ?_) (fun h4 => ?_)
      · walk_at "go"
        exact wr (.inl (by simpa using h4))
      · walk_at "go"
        refine r_gd fun d hd hn => ?_
        have c0 : cl = 0 := by simpa using h4
        have cs : tl z = [123] ∨ tl z = [125] ∨ tl z = [91] ∨ tl z = [93] := by simpa using m3
        rcases cs with e | e | e | e
        · have ze : z = Str.ofString "{" := ext_tl (e.trans tl_ob.symm)
          subst ze
          refine c_notinkd (v := .str "}") hd (by simp [prs]) ?_
          walk_at "go"
          refine r_gd fun d hd hn => ?_
          walk_at "go"
          refine i_kd (v := .str "}") hd (by simp [prs]) ?_
          walk_at "go"
          rw [if_neg (by rw [e]; simp [c0]), e, if_pos rfl] at nx
          exact ⟨125, _, _, rfl, sm4, nx, .inr (.inl rfl)⟩
        · have ze : z = Str.ofString "}" := ext_tl (e.trans tl_cb.symm)
          subst ze
          refine c_notinkdT hd (hn _ (by simp [npr])) ?_
          walk_at "go"
          exact wr (.inr (by rw [e]; decide))
        · have ze : z = Str.ofString "[" := ext_tl (e.trans tl_os.symm)
          subst ze
          refine c_notinkd (v := .str "]") hd (by simp [prs]) ?_
          walk_at "go"
          refine r_gd fun d hd hn => ?_
          walk_at "go"
          refine i_kd (v := .str "]") hd (by simp [prs]) ?_
          walk_at "go"
          rw [if_neg (by rw [e]; simp [c0]), e, if_neg (by decide)] at nx
          exact ⟨93, _, _, rfl, sm4, nx, .inr (.inr rfl)⟩
        · have ze : z = Str.ofString "]" := ext_tl (e.trans tl_cs.symm)
          subst ze
          refine c_notinkdT hd (hn _ (by simp [npr])) ?_
          walk_at "go"
          exact wr (.inr (by rw [e]; decide))
    · have m3 : tl z ∉ [[123], [125], [91], [93]] := by simpa using h3
      rw [if_neg m3] at nx
      walk_at "go"
      exact ⟨cl, _, _, rfl, sm4, nx, hcl⟩
  · obtain ⟨cl, v2, v3, rfl, sm, hsc, hcl⟩ := hP
    have fin := scan_end hsc (Nat.le_refl _)
    have ln : (clS cl).length ≤ sizeLine := by
      rcases hcl with rfl | rfl | rfl <;> exact line_of (by decide +kernel)
    have ez : decide ((clS cl).length ≠ 0) = decide (cl ≠ 0) := by
      rcases hcl with rfl | rfl | rfl <;> decide +kernel
    walk_at "go"
    refine tru_s ln ?_
    rw [ez]
    refine ite2 (fun h1 => ?_) (fun h1 => ?_)
    · walk_at "go"
      refine k_lenl (.inr (Same.sqt sm hS)) ?_
      have := q H1 sm
      unfold wrongV at this
      rw [fin] at this
      simp only at this
      rw [if_pos (.inl (by simpa using h1))] at this
      exact this
    · walk_at "go"
      refine k_lenl (.inr (Same.sqt sm hS)) ?_
      walk_at "go"
      have := q H1 sm
      unfold wrongV at this
      rw [fin] at this
      simp only at this
      have c0 : ¬ cl ≠ 0 := by simpa using h1
      refine ite2 (fun h2 => ?_) (fun h2 => ?_)
      · walk_at "go"
        refine k_lenl (.inr (Same.sqt sm hS)) ?_
        rw [if_pos (.inr (by simp at h2; omega))] at this
        exact this
      · walk_at "go"
        rw [if_neg (fun h => h.elim c0 (by simp at h2; omega))] at this
        exact this
def stS (zs : List Str) : List V := zs.map V.str
theorem TupOk.stS {H : Hp} {zs : List Str} (h : ∀ z ∈ zs, z.length ≤ 1000000) : TupOk K H (stS zs) := fun x hx => by
  obtain ⟨z, hz, rfl⟩ := List.mem_map.mp hx
  exact ⟨⟨_, .str z⟩, fun y e => by
    cases e
    exact h z hz⟩
/-- so many signs at most, together -/
def Small (zs : List Str) : Prop := zs.length ≤ 1000 ∧ ∀ z ∈ zs, z.length ≤ 1000
theorem Small.sum {zs : List Str} (h : Small zs) : (zs.map (·.length)).sum + zs.length * 1 ≤ 16777216 := by
  have : ∀ zs : List Str, (∀ z ∈ zs, z.length ≤ 1000) → (zs.map (·.length)).sum ≤ zs.length * 1000 := fun zs => by
    induction zs with
    | nil => intro _; simp
    | cons z r ih =>
      intro h
      have h1 := h z List.mem_cons_self
      have h2 := ih fun y hy => h y (List.mem_cons_of_mem _ hy)
      simp only [List.map_cons, List.sum_cons, List.length_cons]
      omega
  have h2 := this zs h.2
  have h1 := h.1
  omega
theorem scan_all : ∀ {xs : List V} {i cl c : Nat}, scan i cl xs = .inr c → ∀ x ∈ xs, ∃ z, x = .str z ∧ isTok z = true
  | [], _, _, _, _ => fun _ h => nomatch h
  | x :: r, i, cl, c, h => by
    have e : scan i cl (x :: r) = match stp cl x with | none => .inl i | some c => scan (i + 1) c r := rfl
    rw [e] at h
    cases es : stp cl x with
    | none =>
      rw [es] at h
      cases h
    | some c2 =>
      rw [es] at h
      intro y hy
      rcases List.mem_cons.mp hy with rfl | hy
      · cases y with
        | str z =>
          refine ⟨z, rfl, ?_⟩
          rw [stp_str] at es
          by_cases t : isTok z = true
          · exact t
          · rw [if_neg t] at es
            cases es
        | _ => cases es
      · exact scan_all h y hy
theorem toks_of {xs : List V} (h : wrongV xs = .non) : ∀ x ∈ xs, ∃ z, x = .str z ∧ isTok z = true := by
  unfold wrongV at h
  split at h
  · cases h
  · rename_i cl e
    exact scan_all e
def toksV (xs : List V) (plain : Bool) : Bool := decide (wrongV xs = .non) && (!plain || !xs.any fun y => inV y brs)
def spIsTokens (K : PySem.W.Frag) : Sp := fun vs H Q _ => ∃ x T plain, vs = [x, .bl plain] ∧ Tyb K H x T ∧
  ((T ≠ "tuple" ∧ ∀ H', Same H H' → Q (.bl false) H') ∨ (T = "tuple" ∧ ∃ a xs, x = .ref a ∧ SqT K H a xs ∧ TupOk K H xs ∧ ∀ H', Same H H' → Q (.bl (toksV xs plain)) H'))
theorem ok_is_tokens (F : Fun K "is_tokens" "is_tokens" s_is_tokens a fd) (m : Md mg) (g_BRACKETS : Gt K mg "BRACKETS" brs) (c_is_tuple : FnG P w K mg base 1 "is_tuple" ["thing"] (spIsTuple K)) (c__wrong_place : FnG P w K mg base 5 "_wrong_place" ["tokens"] (spWrong K)) :
    FnOk P w K mg base CX0 6 a fd ["thing", "plain"] (spIsTokens K) := by
  refine F.ok sc_is_tokens (fun vs H Q E h => ?_) (fun cdv A outer s H vs Q E hr h => ?_)
  · obtain ⟨x, T, pl, rfl, _⟩ := h
    rfl
  have nd := sc_is_tokens.nd
  have L : LX P w K (cxOf CX0 P w K mg base ["thing", "plain", "token"] "is_tokens" (defScope s_is_tokens) a cdv A outer s H E).nox := ⟨rfl, rfl, rfl, rfl, hr.units⟩
  refine ⟨_, (pss_cons (ps_if (PW.pt (pw_or (pt_not (pt_truthL L (pe_callG c_is_tuple (hr.mono (by decide)) (by rfl) (pa_cons (pv 0) pa_nil)))) (pw_or1 (pt_cmpR (op_ L) (pe_callG c__wrong_place (hr.mono (by decide)) (by rfl) (pa_cons (pv 0) pa_nil)) pe_non (nomark _))))) (pss_one (ps_ret pe_bl)) pss_nil) (pss_one (ps_ret (pe_orL L (pe_notL L (pv 1)) (pe_one (pe_notL L (pe_callB (oc L) (by rfl) m.any_ bt_any (pa_cons (pe_lc (own := [("token", 2)]) rfl nd (pi_seqL L (pv 0)) (blkOk_by (own := [("token", 2)]) (N := ["thing", "plain", "token"]) (sc := defScope s_is_tokens) (by decide +kernel)) (fun _ _ _ _ _ => (pg_name (i := 2) nd rfl (.inl rfl))) (fun _ _ _ _ _ => inT L.b pts_nil) (fun _ _ _ _ _ => inE L.b (pe_cmpR (op_ L.b) (pv 2) (pe_gtL L.b g_BRACKETS (by rfl)) rfl))) pa_nil)))))))), ?_⟩
  obtain ⟨x, T, pl, rfl, t, h⟩ := h
  walk_at "go"
  refine u_is_tuple t ?_
  walk_at "go"
  rcases h with ⟨hT, q⟩ | ⟨rfl, b, xs, rfl, hS, hO, q⟩
  · have e : (T == "tuple") = false := beq_eq_false_iff_ne.mpr hT
    rw [e]
    walk_at "go"
    exact q H (Same.refl H)
  rw [show ("tuple" == "tuple") = true from rfl]
  walk_at "go"
  refine u_wrong hS hO fun H1 s1 => ?_
  walk_at "go"
  refine ite2 (fun h => ?_) (fun h => ?_)
  · walk_at "go"
    have := q H1 s1
    unfold toksV at this
    rw [decide_eq_false (by simpa using h), Bool.false_and] at this
    exact this
  have e2 : wrongV xs = .non := by simpa using h
  have q2 := fun H' s => q H' (s1.trans s)
  unfold toksV at q2
  rw [decide_eq_true e2, Bool.true_and] at q2
  walk_at "go"
  refine ite2 (fun h => ?_) (fun h => ?_)
  · rw [h, Bool.true_or] at q2
    rw [h]
    exact q2 H1 (Same.refl _)
  have hp : pl = true := by simpa using h
  subst hp
  have tk := toks_of e2
  have hln : xs.length ≤ 40 := by
    unfold wrongV at e2
    split at e2
    · cases e2
    · split at e2
      · cases e2
      · rename_i h
        exact Nat.le_of_not_lt fun z => h (.inr z)
  walk_at "go"
  refine .inr (.inl ⟨b, xs, rfl, Same.sqt s1 hS, fun D hD => ?_⟩)
  refine lc_pureL xs .non walk_tup (fun _ => true) (fun y => .bl (inV y brs)) (by rw [sizeLine_eq]; omega) hD (fun H' s => Same.sqt (s1.trans s) hS) (fun i x y H' H'' hi sm hy C1 C0 h1 h0 => ?_) (fun H' sm hd => ?_)
  · obtain ⟨rfl, hy2⟩ := hy
    cases hi.symm.trans hy2
    obtain ⟨z, rfl, _⟩ := tk x (List.mem_of_getElem? hi)
    walk_at "go"
    refine ⟨rfl, ?_⟩
    walk_at "go"
    refine r_gt fun c hc => ?_
    refine c_in (.inr (hc _)) rfl rfl ?_
    walk_at "go"
    exact h1 rfl _ (Same.refl _)
  · rw [filter_yes, ← Function.comp_def V.bl, ← List.map_map] at hd
    walk_at "go"
    refine k_any (SqL.of hd) ?_
    walk_at "go"
    have := q2 H' sm
    rw [show (!true) = false from rfl, Bool.false_or] at this
    rw [List.any_map]
    exact this
end
end Tk

set_option Elab.async false
set_option linter.all false
set_option maxRecDepth 100000
set_option maxHeartbeats 4000000
namespace Tk
open PySem PySem.Spec PyProof.Rows L2 Lay
open TL (tl ext_tl len_tl tl_append tl_mk mk_tl)
local macro_rules | `(tactic| walk_at "if") => `(tactic| refine ite2 (fun hc => ?_) (fun hc => ?_))
local macro_rules | `(tactic| walk_at "lk") => `(tactic| first | exact upd_same | assumption)
local macro_rules | `(tactic| walk_at "st") => `(tactic| first
  | with_reducible refine r_var rfl ?_ | with_reducible refine r_c ?_ | with_reducible refine r_op ?_ | with_reducible refine r_cons ?_ | with_reducible refine r_nil ?_ | with_reducible refine r_vals ?_
  | with_reducible refine r_cb ?_ | with_reducible refine r_tup ?_ | with_reducible refine r_lst ?_ | with_reducible refine r_call ?_ | with_reducible refine r_test ?_
  | with_reducible refine r_if ?_ | with_reducible refine r_not ?_ | with_reducible refine r_bm ?_ | with_reducible refine r_sl ?_ | with_reducible refine r_np ?_ | with_reducible refine r_part ?_
  | with_reducible refine r_seq ?_ | with_reducible refine r_asg ?_ | with_reducible refine r_name ?_ | with_reducible refine r_ifs ?_ | with_reducible refine r_ret ?_ | with_reducible refine r_next ?_ | with_reducible refine r_par ?_ | with_reducible refine r_par3 ?_ | with_reducible refine r_brk ?_ | with_reducible refine r_cnt ?_ | with_reducible refine r_sub ?_
  | with_reducible refine r_andT ?_ | with_reducible refine r_orT ?_ | with_reducible refine r_notT ?_ | with_reducible refine r_or ?_ | with_reducible refine r_and ?_ | with_reducible refine r_tB ?_ | with_reducible refine r_drop ?_ | with_reducible refine r_callN ?_ | with_reducible refine r_chain ?_
  | with_reducible refine r_for ?_ | with_reducible refine r_lc ?_ | with_reducible refine r_iseq ?_ | with_reducible refine r_rng1 ?_ | with_reducible refine r_enum ?_ | with_reducible refine r_yes ?_ | with_reducible refine r_tru ?_ | with_reducible refine r_gtup ?_ | with_reducible refine r_gcons ?_ | with_reducible refine r_gnil ?_
  | with_reducible refine b_add ?_ | with_reducible refine b_sub ?_ | (with_reducible refine b_mul (by unfold CMul; omega) ?_) | (with_reducible refine b_mod (by omega) ?_) | (with_reducible refine b_fdiv (by unfold CDiv; omega) ?_)
  | with_reducible refine c_lt ?_ | with_reducible refine c_le ?_ | with_reducible refine c_gt ?_ | with_reducible refine c_ge ?_ | with_reducible refine c_isN ?_ | with_reducible refine c_notN ?_ | with_reducible refine c_isB ?_ | with_reducible refine c_eq rfl ?_ | with_reducible refine c_ne rfl ?_
  | with_reducible refine c_insign ?_ | with_reducible refine k_int ?_ | with_reducible refine k_intb ?_ | with_reducible refine k_max ?_ | with_reducible refine k_min ?_
  | with_reducible refine ⟨_, rfl, ?_⟩
  | with_reducible refine ex_par ?_
  | with_reducible refine r_back ?_
  | with_reducible refine ex_par3 ?_
  | with_reducible refine ty_s ?_
  | with_reducible refine tru_b ?_
  | with_reducible refine iteT ?_ | with_reducible refine iteF ?_ | with_reducible refine itnT ?_ | with_reducible refine itnF ?_)
local macro_rules | `(tactic| walk_at "go") => `(tactic| repeat walk_at "st")
local macro_rules | `(tactic| walk_at "cl") => `(tactic| try dsimp only [cxOf, Cx.nox, Cx.wish])
/-! ### what is refused -/
local macro_rules | `(tactic| walk_at "st") => `(tactic| first
  | with_reducible refine r_callE ?_ | with_reducible refine r_callEK ?_ | with_reducible refine r_rz ?_)
abbrev s__refuse_wrong : Stmt := topS 47
theorem sc__refuse_wrong : FnScope ["tokens", "place"] ["tokens"] (defScope s__refuse_wrong) := ⟨rfl, rfl, rfl, by decide +kernel, rfl, by decide +kernel, by decide +kernel⟩
abbrev s_show_tokens : Stmt := topS 45
theorem sc_show_tokens : FnScope ["tokens"] ["tokens"] (defScope s_show_tokens) := ⟨rfl, rfl, rfl, by decide +kernel, rfl, by decide +kernel, by decide +kernel⟩
abbrev s_read_tokens : Stmt := topS 46
theorem sc_read_tokens : FnScope ["text", "tokens", "word"] ["text"] (defScope s_read_tokens) := ⟨rfl, rfl, rfl, by decide +kernel, rfl, by decide +kernel, by decide +kernel⟩
def sp1 : Str := " "
/-- the words between blanks -/
def words (z : Str) : List Str := (Txt.split z sp1).filter fun y => decide (y.length ≠ 0)
def spRefE (K : PySem.W.Frag) (C : Addr) : Sp := fun vs H Q E => ∃ a xs, vs = [.ref a] ∧ SqT K H a xs ∧ TupOk K H xs ∧ (wrongV xs = .non → ∀ H', Same H H' → Q .non H') ∧ (wrongV xs ≠ .non → ∀ H' d, Same H H' → H' d = none → E (.ref C) (some d) (upd H' d (.xd [("place", wrongV xs)])))
def spShowE (K : PySem.W.Frag) (C : Addr) : Sp := fun vs H Q E => ∃ x T, vs = [x] ∧ Tyb K H x T ∧ ((T ≠ "tuple" ∧ ∀ H' d, Same H H' → H' d = none → E (.ref C) (some d) (upd H' d (.xd [("place", .non)]))) ∨
  (T = "tuple" ∧ ∃ a xs, x = .ref a ∧ SqT K H a xs ∧ TupOk K H xs ∧ (wrongV xs = .non → ∃ zs, xs = stS zs ∧ Small zs ∧ ∀ H', Same H H' → Q (.str (Txt.join sp1 zs)) H') ∧ (wrongV xs ≠ .non → ∀ H' d, Same H H' → H' d = none → E (.ref C) (some d) (upd H' d (.xd [("place", wrongV xs)])))))
/-- not too long for any step -/
def Big (zs : List Str) : Prop := zs.length ≤ 200000 ∧ ∀ z ∈ zs, z.length ≤ 200000
def spReadE (K : PySem.W.Frag) (C : Addr) : Sp := fun vs H Q E => ∃ x T, vs = [x] ∧ Tyb K H x T ∧ ((T ≠ "str" ∧ ∀ H' d, Same H H' → H' d = none → E (.ref C) (some d) (upd H' d (.xd [("place", .non)]))) ∨
  (T = "str" ∧ ∃ z, x = .str z ∧ z.length ≤ 100000 ∧ Big (Txt.split z sp1) ∧ (wrongV (stS (words z)) = .non → ∀ p H', Same H H' → H p = none → H' p = some (.tup (stS (words z))) → Q (.ref p) H') ∧
    (wrongV (stS (words z)) ≠ .non → ∀ H' d, Same H H' → H' d = none → E (.ref C) (some d) (upd H' d (.xd [("place", wrongV (stS (words z)))])))))
section
variable {P : Program} {w : World} {K : PySem.W.Frag} {mg : Str → Option Value} {base : Heap} {C : Addr}
theorem ok__refuse_wrong (F : Fn0 K mg "_refuse_wrong" s__refuse_wrong ["tokens"]) (m : Md mg) (x_NoTokens : XcG P K mg "NoTokens" C "place") (c__wrong_place : FnG P w K mg base 5 "_wrong_place" ["tokens"] (spWrong K)) :
    FnE P w K mg base 6 "_refuse_wrong" ["tokens"] (spRefE K C) := by
  refine F.okE sc__refuse_wrong (fun vs H Q E h => ?_) (fun a cdv A outer s H vs Q E L hr tk h => ?_)
  · obtain ⟨a, xs, rfl, _⟩ := h
    rfl
  have nd := sc__refuse_wrong.nd
  refine ⟨_, (pss_cons (ps_set (i := 1) nd rfl (.inl rfl) (pe_callG c__wrong_place (hr.mono (by decide)) (by rfl) (pa_cons (pv 0) pa_nil))) (pss_one (ps_if (pt_cmpR (op_ L) (pv 1) pe_non (nomark _)) (pss_one (ps_raiseE L tk x_NoTokens (hr.mono (by decide)) (by rfl) (pv 1))) pss_nil))), ?_⟩
  walk_at "cl"
  obtain ⟨a, xs, rfl, hS, hO, q1, q2⟩ := h
  walk_at "go"
  refine u_wrong hS hO fun H' s => ?_
  walk_at "go"
  refine ite2 (fun h => ?_) (fun h => ?_)
  · have n : wrongV xs ≠ .non := by simpa using h
    walk_at "go"
    exact fun d hd => q2 n H' d s hd
  · have e : wrongV xs = .non := by simpa using h
    walk_at "go"
    exact q1 e H' s
theorem ok_show_tokens (F : Fn0 K mg "show_tokens" s_show_tokens ["tokens"]) (m : Md mg) (x_NoTokens : XcG P K mg "NoTokens" C "place") (c_is_tuple : FnG P w K mg base 1 "is_tuple" ["thing"] (spIsTuple K)) (c__refuse_wrong : FnE P w K mg base 6 "_refuse_wrong" ["tokens"] (spRefE K C)) :
    FnE P w K mg base 7 "show_tokens" ["tokens"] (spShowE K C) := by
  refine F.okE sc_show_tokens (fun vs H Q E h => ?_) (fun a cdv A outer s H vs Q E L hr tk h => ?_)
  · obtain ⟨x, T, rfl, _⟩ := h
    rfl
  have nd := sc_show_tokens.nd
  refine ⟨_, (pss_cons (ps_if (pt_not (pt_truthL L (pe_callG c_is_tuple (hr.mono (by decide)) (by rfl) (pa_cons (pv 0) pa_nil)))) (pss_one (ps_raiseE L tk x_NoTokens (hr.mono (by decide)) (by rfl) pe_non)) pss_nil) (pss_cons (ps_expr (pe_callE c__refuse_wrong (hr.mono (by decide)) (by rfl) tk (pa_cons (pv 0) pa_nil))) (pss_one (ps_ret (pe_bmL L PySem.F.plainAttrs_str PySem.F.slot_str_join PySem.F.type_str_join pe_str (pa_cons (pv 0) pa_nil)))))), ?_⟩
  walk_at "cl"
  obtain ⟨x, T, rfl, hT, q⟩ := h
  walk_at "go"
  refine u_is_tuple hT ?_
  walk_at "go"
  rcases q with ⟨n, q⟩ | ⟨rfl, a, xs, rfl, hS, hO, q1, q2⟩
  · rw [show (T == "tuple") = false by simpa using n]
    walk_at "go"
    exact fun d hd => q H d (Same.refl H) hd
  · refine ite2 (fun h => absurd h (by decide)) (fun _ => ?_)
    walk_at "go"
    refine ⟨a, xs, rfl, hS, hO, fun e H' s => ?_, fun n H' d s hd => q2 n H' d s hd⟩
    obtain ⟨zs, rfl, sm, q1⟩ := q1 e
    walk_at "go"
    exact m_join (.inr (Same.sqt s hS)) sm.sum (q1 H' s)
theorem ok_read_tokens (F : Fn0 K mg "read_tokens" s_read_tokens ["text"]) (m : Md mg) (x_NoTokens : XcG P K mg "NoTokens" C "place") (c_is_text : FnG P w K mg base 1 "is_text" ["thing"] (spIsText K)) (c__refuse_wrong : FnE P w K mg base 6 "_refuse_wrong" ["tokens"] (spRefE K C)) :
    FnE P w K mg base 7 "read_tokens" ["text"] (spReadE K C) := by
  refine F.okE sc_read_tokens (fun vs H Q E h => ?_) (fun a cdv A outer s H vs Q E L hr tk h => ?_)
  · obtain ⟨x, T, rfl, _⟩ := h
    rfl
  have nd := sc_read_tokens.nd
  refine ⟨_, (pss_cons (ps_if (pt_not (pt_truthL L (pe_callG c_is_text (hr.mono (by decide)) (by rfl) (pa_cons (pv 0) pa_nil)))) (pss_one (ps_raiseE L tk x_NoTokens (hr.mono (by decide)) (by rfl) pe_non)) pss_nil) (pss_cons (ps_set (i := 1) nd rfl (.inl rfl) (pe_callTy (oc L) (by rfl) m.tuple_ bt_tuple (pa_cons (pe_lc (own := [("word", 2)]) rfl nd (pi_seqL L (pe_bmL L PySem.F.plainAttrs_str PySem.F.slot_str_split PySem.F.type_str_split (pv 0) (pa_cons pe_str pa_nil))) (blkOk_by (own := [("word", 2)]) (N := ["text", "tokens", "word"]) (sc := defScope s_read_tokens) (by decide +kernel)) (fun _ _ _ _ _ => (pg_name (i := 2) nd rfl (.inl rfl))) (fun _ _ _ _ _ => inT L.b (pts_one (pt_truthL L.b (pv 2)))) (fun _ _ _ _ _ => inE L.b (pv 2))) pa_nil))) (pss_cons (ps_expr (pe_callE c__refuse_wrong (hr.mono (by decide)) (by rfl) tk (pa_cons (pv 1) pa_nil))) (pss_one (ps_ret (pv 1)))))), ?_⟩
  walk_at "cl"
  obtain ⟨x, T, rfl, hT, q⟩ := h
  walk_at "go"
  refine u_is_text hT ?_
  walk_at "go"
  rcases q with ⟨n, q⟩ | ⟨rfl, z, rfl, hz, hO, q1, q2⟩
  · rw [show (T == "str") = false by simpa using n]
    walk_at "go"
    exact fun d hd => q H d (Same.refl H) hd
  refine ite2 (fun h => absurd h (by decide)) (fun _ => ?_)
  walk_at "go"
  refine m_split (by decide +kernel) (by rw [sizeLine_eq]; omega) fun S hS => ?_
  have sS : Same H (upd H S (.lst ((Txt.split z sp1).map V.str))) := Same.new hS
  refine .inl ⟨S, _, rfl, SqL.of upd_same, fun D hD => ?_⟩
  refine lc_pureL ((Txt.split z sp1).map V.str) .non walk_list (fun x => match x with | .str y => decide (y.length ≠ 0) | _ => false) (fun x => x) (by
    rw [List.length_map, sizeLine_eq]
    have := hO.1
    omega) hD (fun H' s => s.seq (SqL.of upd_same)) (fun i x y H' H'' hi sm hy C1 C0 h1 h0 => ?_) (fun H' sm hd => ?_)
  · obtain ⟨rfl, hy2⟩ := hy
    cases hi.symm.trans hy2
    obtain ⟨u, hu, rfl⟩ := List.mem_map.mp (List.mem_of_getElem? hi)
    have hl := hO.2 u hu
    walk_at "go"
    refine ⟨rfl, ?_⟩
    walk_at "go"
    refine tru_s (line_of (by omega)) ?_
    refine ite2 (fun h => ?_) (fun h => ?_)
    · walk_at "go"
      exact h1 h _ (Same.refl _)
    · exact h0 (by simpa using h) _ (Same.refl _)
  · have ew : (((Txt.split z sp1).map V.str).filter (fun x => match x with | .str y => decide (y.length ≠ 0) | _ => false)).map (fun x => x) = stS (words z) := by
      unfold stS words
      rw [List.map_id', List.filter_map]
      rfl
    rw [ew] at hd
    walk_at "go"
    refine k_tupL (SqL.of hd) fun p hp => ?_
    walk_at "go"
    have sp : Same H (upd H' p (.tup (stS (words z)))) := (sS.trans sm).trans (Same.new hp)
    refine ⟨p, stS (words z), rfl, SqT.of upd_same, TupOk.stS fun y hy => ?_, fun e H2 s2 => ?_, fun n H2 d s2 hd2 => q2 n H2 d (sp.trans s2) hd2⟩
    · have := hO.2 y (List.mem_filter.mp hy).1
      omega
    walk_at "go"
    exact q1 e p H2 (sp.trans s2) ((sS.trans sm).free hp) (s2 _ _ upd_same)
end
end Tk

set_option Elab.async false
set_option linter.all false
set_option maxRecDepth 100000
set_option maxHeartbeats 4000000
namespace Tk
open PySem PySem.Spec PyProof.Rows L2 Lay
open TL (tl ext_tl len_tl tl_append tl_mk mk_tl)
local macro_rules | `(tactic| walk_at "if") => `(tactic| refine ite2 (fun hc => ?_) (fun hc => ?_))
local macro_rules | `(tactic| walk_at "lk") => `(tactic| first | exact upd_same | assumption)
local macro_rules | `(tactic| walk_at "st") => `(tactic| first
  | with_reducible refine r_var rfl ?_ | with_reducible refine r_c ?_ | with_reducible refine r_op ?_ | with_reducible refine r_cons ?_ | with_reducible refine r_nil ?_ | with_reducible refine r_vals ?_
  | with_reducible refine r_cb ?_ | with_reducible refine r_tup ?_ | with_reducible refine r_lst ?_ | with_reducible refine r_call ?_ | with_reducible refine r_test ?_
  | with_reducible refine r_if ?_ | with_reducible refine r_not ?_ | with_reducible refine r_bm ?_ | with_reducible refine r_sl ?_ | with_reducible refine r_np ?_ | with_reducible refine r_part ?_
  | with_reducible refine r_seq ?_ | with_reducible refine r_asg ?_ | with_reducible refine r_name ?_ | with_reducible refine r_ifs ?_ | with_reducible refine r_ret ?_ | with_reducible refine r_next ?_ | with_reducible refine r_par ?_ | with_reducible refine r_par3 ?_ | with_reducible refine r_brk ?_ | with_reducible refine r_cnt ?_ | with_reducible refine r_sub ?_
  | with_reducible refine r_andT ?_ | with_reducible refine r_orT ?_ | with_reducible refine r_notT ?_ | with_reducible refine r_or ?_ | with_reducible refine r_and ?_ | with_reducible refine r_tB ?_ | with_reducible refine r_drop ?_ | with_reducible refine r_callN ?_ | with_reducible refine r_chain ?_
  | with_reducible refine r_for ?_ | with_reducible refine r_lc ?_ | with_reducible refine r_iseq ?_ | with_reducible refine r_rng1 ?_ | with_reducible refine r_enum ?_ | with_reducible refine r_yes ?_ | with_reducible refine r_tru ?_ | with_reducible refine r_gtup ?_ | with_reducible refine r_gcons ?_ | with_reducible refine r_gnil ?_
  | with_reducible refine b_add ?_ | with_reducible refine b_sub ?_ | (with_reducible refine b_mul (by unfold CMul; omega) ?_) | (with_reducible refine b_mod (by omega) ?_) | (with_reducible refine b_fdiv (by unfold CDiv; omega) ?_)
  | with_reducible refine c_lt ?_ | with_reducible refine c_le ?_ | with_reducible refine c_gt ?_ | with_reducible refine c_ge ?_ | with_reducible refine c_isN ?_ | with_reducible refine c_notN ?_ | with_reducible refine c_isB ?_ | with_reducible refine c_eq rfl ?_ | with_reducible refine c_ne rfl ?_
  | with_reducible refine c_insign ?_ | with_reducible refine k_int ?_ | with_reducible refine k_intb ?_ | with_reducible refine k_max ?_ | with_reducible refine k_min ?_
  | with_reducible refine i_lst (by first | exact SqL.of upd_same | exact SqL.of (by assumption) | assumption) rfl ?_
  | with_reducible refine st_l (by walk_at "lk") rfl ?_
  | with_reducible refine ⟨_, rfl, ?_⟩
  | with_reducible refine ex_par ?_
  | with_reducible refine r_back ?_
  | with_reducible refine ex_par3 ?_
  | with_reducible refine ty_s ?_
  | with_reducible refine tru_b ?_
  | with_reducible refine iteT ?_ | with_reducible refine iteF ?_ | with_reducible refine itnT ?_ | with_reducible refine itnF ?_)
local macro_rules | `(tactic| walk_at "go") => `(tactic| repeat walk_at "st")
local macro_rules | `(tactic| walk_at "cl") => `(tactic| try dsimp only [cxOf, Cx.nox, Cx.wish])
/-! ### the law's draws -/
abbrev s__law_cell : Stmt := topS 69
theorem sc__law_cell : FnScope ["_law_script", "_law_k", "_law_state", "_law_cell_here"] ["_law_script", "_law_k"] (defScope s__law_cell) := ⟨rfl, rfl, rfl, by decide +kernel, rfl, by decide +kernel, by decide +kernel⟩
abbrev s__law_purse : Stmt := topS 70
theorem sc__law_purse : FnScope ["_law_cell_here"] ["_law_cell_here"] (defScope s__law_purse) := ⟨rfl, rfl, rfl, by decide +kernel, rfl, by decide +kernel, by decide +kernel⟩
abbrev s__law_pick : Stmt := topS 71
theorem sc__law_pick : FnScope ["_law_purse_here", "_law_many", "_law_state", "_law_taken"] ["_law_purse_here", "_law_many"] (defScope s__law_pick) := ⟨rfl, rfl, rfl, by decide +kernel, rfl, by decide +kernel, by decide +kernel⟩
abbrev s__law_one_word : Stmt := topS 72
theorem sc__law_one_word : FnScope ["_law_purse_here", "_law_signs", "_law_k"] ["_law_purse_here"] (defScope s__law_one_word) := ⟨rfl, rfl, rfl, by decide +kernel, rfl, by decide +kernel, by decide +kernel⟩
abbrev s__law_names : Stmt := topS 73
theorem sc__law_names : FnScope ["_law_purse_here", "_law_size", "_law_some", "_law_letters", "_law_stem", "_law_first", "_law_k"] ["_law_purse_here", "_law_size"] (defScope s__law_names) := ⟨rfl, rfl, rfl, by decide +kernel, rfl, by decide +kernel, by decide +kernel⟩
abbrev s__law_tokens : Stmt := topS 74
theorem sc__law_tokens : FnScope ["_law_purse_here", "_law_upto", "_law_marks", "_law_refs", "_law_bare", "_law_k", "_law_found", "_law_sort_here", "_law_name", "_law_at"] ["_law_purse_here", "_law_upto", "_law_marks", "_law_refs", "_law_bare"] (defScope s__law_tokens) := ⟨rfl, rfl, rfl, by decide +kernel, rfl, by decide +kernel, by decide +kernel⟩
def spPick : Sp := fun vs H Q _ => ∃ (p : Addr) (n : Int), vs = [.ref p, .int n] ∧ Pu H p ∧ 0 < n ∧ n < 1000000 ∧ ∀ (r : Int) H', But p H H' → Pu H' p → 0 ≤ r → r < n → Q (.int r) H'
def spPurse : Sp := fun vs H Q _ => ∃ c : Int, vs = [.int c] ∧ ∀ p H', Same H H' → H p = none → Pu H' p → Q (.ref p) H'
def spCell (K : PySem.W.Frag) : Sp := fun vs H Q _ => ∃ (a : Addr) (ns : List Int) (k : Int), vs = [.ref a, .int k] ∧ SqL K H a (ns.map V.int) ∧ 0 ≤ k ∧ k < 1000 ∧ ∀ i H', Same H H' → Q (.int i) H'
section
variable {P : Program} {w : World} {K : PySem.W.Frag} {mg : Str → Option Value} {base : Heap} {H : Hp} {Q : VK}
theorem u_pick {p : Addr} {n : Int} (h : Pu H p) (h0 : 0 < n) (h1 : n < 1000000) (q : ∀ (r : Int) H', But p H H' → Pu H' p → 0 ≤ r → r < n → Q (.int r) H') : spPick ([.ref p, .int n] ++ []) H Q E0 := ⟨p, n, rfl, h, h0, h1, q⟩
theorem u_purse {c : Int} (q : ∀ p H', Same H H' → H p = none → Pu H' p → Q (.ref p) H') : spPurse ([.int c] ++ []) H Q E0 := ⟨c, rfl, q⟩
theorem u_cell {a : Addr} {ns : List Int} {k : Int} (h : SqL K H a (ns.map V.int)) (h0 : 0 ≤ k) (h1 : k < 1000) (q : ∀ i H', Same H H' → Q (.int i) H') : spCell K ([.ref a, .int k] ++ []) H Q E0 := ⟨a, ns, k, rfl, h, h0, h1, q⟩
theorem ok__law_pick (F : Fn0 K mg "_law_pick" s__law_pick ["_law_purse_here", "_law_many"]) : FnG P w K mg base 1 "_law_pick" ["_law_purse_here", "_law_many"] spPick := by
  refine F.ok sc__law_pick (fun vs H Q E h => ?_) (fun a cdv A outer s H vs Q E L hr h => ?_)
  · obtain ⟨p, n, rfl, _⟩ := h
    rfl
  have nd := sc__law_pick.nd
  refine ⟨_, (pss_cons (ps_asg (pe_op (ob L) (pe_ix (oi L) (pv 0) pe_int (fun _ _ => rfl)) pe_int) (pg_sub (pv 0) pe_int (ose L))) (pss_cons (ps_set (i := 2) nd rfl (.inl rfl) (pe_op (ob L) (pe_ix (oi L) (pv 0) pe_int (fun _ _ => rfl)) pe_int)) (pss_cons (ps_asg (pe_op (ob L) (pe_op (ob L) (pv 2) (pe_op (ob L) (pe_op (ob L) (pv 2) pe_int) pe_int)) (pe_op (ob L) pe_int (pe_ix (oi L) (pv 0) pe_int (fun _ _ => rfl)))) (pg_sub (pv 0) pe_int (ose L))) (pss_cons (ps_if (pt_cmpR (op_ L) (pe_ix (oi L) (pv 0) pe_int (fun _ _ => rfl)) pe_int (nomark _)) (pss_cons (ps_set (i := 3) nd rfl (.inl rfl) (pe_op (ob L) (pe_ix (oi L) (pv 0) pe_int (fun _ _ => rfl)) (pv 1))) (pss_cons (ps_asg (pe_op (ob L) (pe_ix (oi L) (pv 0) pe_int (fun _ _ => rfl)) (pv 1)) (pg_sub (pv 0) pe_int (ose L))) (pss_one (ps_ret (pv 3))))) pss_nil) (pss_one (ps_ret (pe_op (ob L) (pe_op (ob L) (pe_op (ob L) (pe_ix (oi L) (pv 0) pe_int (fun _ _ => rfl)) pe_int) pe_int) (pv 1)))))))), ?_⟩
  obtain ⟨p, n, rfl, ⟨a, b, c, hp⟩, h0, h1, q⟩ := h
  have fin : ∀ (r : Int) (H' : Hp) (x y z : Int), But p H H' → H' p = some (.lst [.int x, .int y, .int z]) → 0 ≤ r → r < n → Q (.int r) H' := fun r H' x y z b e => q r H' b ⟨x, y, z, e⟩
  walk_at "go"
  refine ite2 (fun hc => ?_) (fun hc => ?_)
  · walk_at "go"
    refine fin _ _ _ _ _ (fun a o n h => ?_) upd_same (Int.emod_nonneg _ (by omega)) (Int.emod_lt_of_pos _ h0)
    rw [upd_ne n, upd_ne n, upd_ne n]
    exact h
  · walk_at "go"
    refine fin _ _ _ _ _ (fun a o n h => ?_) upd_same (Int.emod_nonneg _ (by omega)) (Int.emod_lt_of_pos _ h0)
    rw [upd_ne n, upd_ne n]
    exact h
theorem ok__law_purse (F : Fn0 K mg "_law_purse" s__law_purse ["_law_cell_here"]) (m : Md mg) : FnG P w K mg base 1 "_law_purse" ["_law_cell_here"] spPurse := by
  refine F.ok sc__law_purse (fun vs H Q E h => ?_) (fun a cdv A outer s H vs Q E L hr h => ?_)
  · obtain ⟨c, rfl, _⟩ := h
    rfl
  have nd := sc__law_purse.nd
  refine ⟨_, (pss_one (ps_ret (pe_lst (pa_cons (pe_op (ob L) (pe_op (ob L) (pe_op (ob L) (pv 0) pe_int) pe_int) pe_int) (pa_cons (pe_ix (oi L) (pe_lst (pa_cons pe_int (pa_cons (pv 0) pa_nil))) (pe_callTy (oc L) (by rfl) m.int_ bt_int (pa_cons (pe_cmpR (op_ L) (pv 0) (pe_op (ob L) pe_int pe_int) (nomark _)) pa_nil)) (fun _ _ => rfl)) (pa_cons pe_int pa_nil)))))), ?_⟩
  obtain ⟨c, rfl, q⟩ := h
  walk_at "go"
  refine ⟨sz1000 (by simp), fun l hl => ?_⟩
  walk_at "go"
  refine b_pow (by unfold CPow; decide) ?_
  walk_at "go"
  have fin : ∀ x y z : Int, ∀ H', Same H H' → [V.int x, V.int y, V.int z].length ≤ sizeLine ∧ ∀ p, H' p = none → Q (.ref p) (upd H' p (.lst [.int x, .int y, .int z])) := fun x y z H' s =>
    ⟨sz1000 (by simp), fun p hp => q p _ (s.trans (Same.new hp)) (s.free hp) ⟨x, y, z, upd_same⟩⟩
  by_cases h : (10 : Int) ^ Int.toNat 18 ≤ c
  · rw [ite_i h]
    walk_at "go"
    exact fin _ _ _ _ (Same.new hl)
  · rw [decide_eq_false h, if_neg Bool.false_ne_true]
    walk_at "go"
    exact fin _ _ _ _ (Same.new hl)
theorem ok__law_cell (F : Fn0 K mg "_law_cell" s__law_cell ["_law_script", "_law_k"]) (m : Md mg) : FnG P w K mg base 1 "_law_cell" ["_law_script", "_law_k"] (spCell K) := by
  refine F.ok sc__law_cell (fun vs H Q E h => ?_) (fun a cdv A outer s H vs Q E L hr h => ?_)
  · obtain ⟨a, ns, k, rfl, _⟩ := h
    rfl
  have nd := sc__law_cell.nd
  refine ⟨_, (pss_cons (ps_if (pt_cmpR (op_ L) (pv 1) (pe_callB (oc L) (by rfl) m.len_ bt_len (pa_cons (pv 0) pa_nil)) (nomark _)) (pss_one (ps_ret (pe_ix (oi L) (pv 0) (pv 1) (fun _ _ => rfl)))) pss_nil) (pss_cons (ps_set (i := 2) nd rfl (.inl rfl) (pe_op (ob L) (pe_op (ob L) pe_int (pe_op (ob L) (pe_op (ob L) (pe_op (ob L) (pv 1) (pv 1)) (pe_op (ob L) pe_int (pv 1))) pe_int)) pe_int)) (pss_cons (ps_for PassesOwn.never rfl (pi_seqL L (pe_slice (osl L) (pv 0) po_none (po_some pe_int))) (pg_name (i := 3) nd rfl (.inl rfl)) (pss_one (ps_set (i := 2) nd rfl (.inl rfl) (pe_op (ob L) (pe_op (ob L) (pe_op (ob L) (pv 2) pe_int) (pv 3)) pe_int)))) (pss_one (ps_ret (pv 2)))))), ?_⟩
  obtain ⟨a, ns, k, rfl, hS, h0, h1, q⟩ := h
  walk_at "go"
  refine k_lenl (.inl hS) ?_
  rw [List.length_map]
  walk_at "go"
  refine ite2 (fun hc => ?_) (fun hc => ?_)
  · have hk : k < (ns.map V.int).length := by
      rw [List.length_map]
      simpa using hc
    obtain ⟨x, hx, hm⟩ := atI_ex h0 hk
    obtain ⟨i, _, rfl⟩ := List.mem_map.mp hm
    walk_at "go"
    refine i_lst hS hx ?_
    exact q _ _ (Same.refl H)
  walk_at "go"
  refine sl_l hS fun l hl => ?_
  refine .inl ⟨l, _, rfl, SqL.of upd_same, ?_⟩
  have hcut : cutV (ns.map V.int) none (some (4 : Int)) = (ns.take 4).map V.int := by
    rw [List.map_take]
    exact cutV_to' _ 4
  refine fo_it walk_list (fun i σ H' => ∃ (t : Int) (v : Option V), σ = [some (.ref a), some (.int k), some (.int t), v] ∧ 0 ≤ t ∧ t < 1000000093 ∧ H' = upd H l (.lst (cutV (ns.map V.int) none (some 4))))
    ⟨_, none, rfl, Int.emod_nonneg _ (by decide), Int.emod_lt_of_pos _ (by decide), rfl⟩ (fun i σ H' _ ⟨_, _, _, _, _, e⟩ => by rw [e]; exact SqL.of upd_same) (fun i x σ H' H'' hi hP hY => ?_) (fun σ H' hP => ?_)
  · obtain ⟨t, v, rfl, t0, t1, rfl⟩ := hP
    obtain ⟨rfl, hx⟩ := hY
    rw [hcut] at hx
    obtain ⟨n, _, rfl⟩ := List.mem_map.mp (List.mem_of_getElem? hx)
    walk_at "go"
    exact ⟨_, _, rfl, Int.emod_nonneg _ (by decide), Int.emod_lt_of_pos _ (by decide), rfl⟩
  · obtain ⟨t, v, rfl, t0, t1, rfl⟩ := hP
    walk_at "go"
    exact q _ _ (Same.new hl)
/-! ### drawn words -/
def isW (z : Str) : Prop := isOf sWord 12 z = true
def spWord1 : Sp := fun vs H Q _ => ∃ (p : Addr), vs = [.ref p] ∧ Pu H p ∧ ∀ (z : Str) H', But p H H' → Pu H' p → isW z → Q (.str z) H'
theorem u_word1 {p : Addr} (h : Pu H p) (q : ∀ (z : Str) H', But p H H' → Pu H' p → isW z → Q (.str z) H') : spWord1 ([.ref p] ++ []) H Q E0 := ⟨p, rfl, h, q⟩
theorem isOf_len {g : Str} {n : Int} {z : Str} (h : isOf g n z = true) : 1 ≤ z.length ∧ (z.length : Int) ≤ n := by
  rw [isOf_eq] at h
  simp only [Bool.and_eq_true, decide_eq_true_eq] at h
  omega
theorem join_signs {S : List Nat} : ∀ {zs : List Str}, (∀ z ∈ zs, ∃ c, z = ⟨#[c]⟩ ∧ c ∈ S) → (tl (Txt.join "" zs)).length = zs.length ∧ ∀ c ∈ tl (Txt.join "" zs), c ∈ S := fun {zs} h => by
  have e : tl (Txt.join "" zs) = (zs.map tl).flatten := by
    rw [TL.join_eq, TL.tl_join]
    have : tl (Str.ofString "") = [] := by decide +kernel
    rw [this]
    induction zs with
    | nil => rfl
    | cons z r ih =>
      cases r with
      | nil => simp [TL.joinL]
      | cons y r =>
        have := ih fun u hu => h u (List.mem_cons_of_mem _ hu)
        simp only [List.map_cons, TL.joinL, List.flatten_cons, List.nil_append] at this ⊢
        rw [this]
  rw [e]
  clear e
  induction zs with
  | nil => exact ⟨rfl, fun _ h => nomatch h⟩
  | cons z r ih =>
    obtain ⟨c, rfl, hc⟩ := h _ List.mem_cons_self
    obtain ⟨h1, h2⟩ := ih fun u hu => h u (List.mem_cons_of_mem _ hu)
    refine ⟨?_, fun d hd => ?_⟩
    · simp only [List.map_cons, List.flatten_cons, List.length_append, h1, List.length_cons]
      show 1 + r.length = r.length + 1
      omega
    · simp only [List.map_cons, List.flatten_cons, List.mem_append] at hd
      rcases hd with hd | hd
      · rw [show d = c from List.mem_singleton.mp hd]
        exact hc
      · exact h2 d hd
theorem ok__law_one_word (F : Fn0 K mg "_law_one_word" s__law_one_word ["_law_purse_here"]) (m : Md mg) (c__law_pick : FnG P w K mg base 1 "_law_pick" ["_law_purse_here", "_law_many"] spPick) : FnG P w K mg base 2 "_law_one_word" ["_law_purse_here"] spWord1 := by
  refine F.ok sc__law_one_word (fun vs H Q E h => ?_) (fun a cdv A outer s H vs Q E L hr h => ?_)
  · obtain ⟨p, rfl, _⟩ := h
    rfl
  have nd := sc__law_one_word.nd
  refine ⟨_, (pss_cons (ps_if (pt_cmpR (op_ L) (pe_callG c__law_pick (hr.mono (by decide)) (by rfl) (pa_cons (pv 0) (pa_cons pe_int pa_nil))) pe_int (nomark _)) (pss_one (ps_ret (pe_ix (oi L) (pe_lst (pa_strs ["head", "para", "row", "close", "above", "1.2", "Figure", "done", "a", "12"])) (pe_callG c__law_pick (hr.mono (by decide)) (by rfl) (pa_cons (pv 0) (pa_cons pe_int pa_nil))) (fun _ _ => rfl)))) pss_nil) (pss_cons (ps_set (i := 1) nd rfl (.inr rfl) pe_str) (pss_one (ps_ret (pe_bmL L PySem.F.plainAttrs_str PySem.F.slot_str_join PySem.F.type_str_join pe_str (pa_cons (pe_lc (own := [("_law_k", 2)]) rfl nd (pi_range1 (by rfl) m.range_ (pa_cons (pe_op (ob L) pe_int (pe_callG c__law_pick (hr.mono (by decide)) (by rfl) (pa_cons (pv 0) (pa_cons (pe_ix (oi L) (pe_lst (pa_cons pe_int (pa_cons pe_int (pa_cons pe_int pa_nil)))) (pe_callG c__law_pick (hr.mono (by decide)) (by rfl) (pa_cons (pv 0) (pa_cons pe_int pa_nil))) (fun _ _ => rfl)) pa_nil)))) pa_nil)) (blkOk_by (own := [("_law_k", 2)]) (N := ["_law_purse_here", "_law_signs", "_law_k"]) (sc := defScope s__law_one_word) (by decide +kernel)) (fun _ _ _ _ _ => (pg_name (i := 2) nd rfl (.inl rfl))) (fun _ _ _ _ _ => inT L.b pts_nil) (fun _ _ _ _ _ => inE L.b (pe_ix (oi L.b) (pv 1) (pe_callG c__law_pick (hr.mono (by decide)) (by rfl) (pa_cons (pv 0) (pa_cons pe_int pa_nil))) (fun _ _ => rfl)))) pa_nil)))))), ?_⟩
  obtain ⟨p, rfl, hP, q⟩ := h
  walk_at "go"
  refine u_pick hP (by decide) (by decide) fun r H1 b1 P1 _ _ => ?_
  walk_at "go"
  refine ite2 (fun hc => ?_) (fun hc => ?_)
  · walk_at "go"
    refine ⟨sz1000 (by simp), fun l hl => ?_⟩
    have lp := P1.ne hl
    walk_at "go"
    refine u_pick (P1.up lp) (by decide) (by decide) fun r H2 b2 P2 r0 r1 => ?_
    refine i_draw (SqL.of (b2 _ _ lp upd_same)) r0 (by simpa using r1) fun x hx => ?_
    obtain ⟨z, hz, rfl⟩ := List.mem_map.mp hx
    refine q z H2 ((b1.trans (But.new hl)).trans b2) P2 ?_
    exact (show ∀ z ∈ ([_, _, _, _, _, _, _, _, _, _] : List Str), isW z by unfold isW; decide +kernel) z hz
  · walk_at "go"
    refine ⟨sz1000 (by simp), fun l hl => ?_⟩
    have lp := P1.ne hl
    walk_at "go"
    refine u_pick (P1.up lp) (by decide) (by decide) fun r H2 b2 P2 r0 r1 => ?_
    refine i_draw (SqL.of (b2 _ _ lp upd_same)) r0 (by simpa using r1) fun x hx => ?_
    obtain ⟨n, rfl, n0, n1⟩ : ∃ n : Int, x = .int n ∧ 0 < n ∧ n ≤ 12 := by
      simp only [List.mem_cons, List.not_mem_nil, or_false] at hx
      rcases hx with rfl | rfl | rfl <;> exact ⟨_, rfl, by decide, by decide⟩
    walk_at "go"
    refine u_pick P2 n0 (by omega) fun k H3 b3 P3 k0 k1 => ?_
    walk_at "go"
    refine ⟨by omega, by omega, fun D hD => ?_⟩
    refine lc_draw (pu := p) (Pu := fun H => Pu H p) walk_range (fun y => ∃ c, y = .str ⟨#[c]⟩ ∧ c ∈ sWord.cps.toList) (by rw [sizeLine_eq]; omega) hD P3 P3.some (fun _ _ => True.intro) (fun H o n h => h.up n)
      (fun i x H' H'' hi bb PP hy C1 h1 => ?_) yes_m name_m (fun H4 ys b4 P4 hd hlen hall => ?_)
    · obtain ⟨rfl, rfl⟩ := hy
      walk_at "go"
      refine ⟨rfl, ?_⟩
      walk_at "go"
      refine ⟨rfl, ?_⟩
      walk_at "go"
      refine u_pick PP (by decide) (by decide) fun r H5 b5 P5 r0 r1 => ?_
      refine i_sign (line_of (by decide +kernel)) r0 (Int.lt_of_lt_of_le r1 (by decide +kernel)) fun c hc => ?_
      refine h1 _ H5 b5 P5 ⟨c, rfl, ?_⟩
      exact (show ∀ c ∈ (Str.ofString "abcdefghijklmnopqrstuvwxyzABCXYZ0189.,").cps.toList, c ∈ sWord.cps.toList by decide +kernel) c hc
    · obtain ⟨zs, rfl, hz⟩ := strs_ex (P := fun z => ∃ c, z = ⟨#[c]⟩ ∧ c ∈ sWord.cps.toList) fun y hy => by
        obtain ⟨c, rfl, hc⟩ := hall y hy
        exact ⟨_, rfl, c, rfl, hc⟩
      obtain ⟨j1, j2⟩ := join_signs hz
      rw [List.length_map] at hlen
      walk_at "go"
      refine m_join (.inl (SqL.of hd)) ?_ ?_
      · have : ∀ zs : List Str, (∀ z ∈ zs, ∃ c, z = ⟨#[c]⟩ ∧ c ∈ sWord.cps.toList) → (zs.map (·.length)).sum = zs.length := fun zs => by
          induction zs with
          | nil => intro _; rfl
          | cons z r ih =>
            intro h
            obtain ⟨c, rfl, _⟩ := h z List.mem_cons_self
            rw [List.map_cons, List.sum_cons, ih fun u hu => h u (List.mem_cons_of_mem _ hu), List.length_cons]
            show 1 + r.length = r.length + 1
            omega
        rw [this zs hz, show (Str.ofString "").length = 0 by decide +kernel]
        omega
      · refine q _ H4 ((((b1.trans (But.new hl)).trans b2).trans b3).trans b4) P4 ?_
        unfold isW
        rw [isOf_eq]
        simp only [Bool.and_eq_true, decide_eq_true_eq, List.all_eq_true]
        rw [len_tl, j1]
        exact ⟨by omega, by omega, j2⟩
end
end Tk

set_option Elab.async false
set_option linter.all false
set_option maxRecDepth 100000
set_option maxHeartbeats 4000000
namespace Tk
open PySem PySem.Spec PyProof.Rows L2 Lay
open TL (tl ext_tl len_tl tl_append tl_mk mk_tl)
local macro_rules | `(tactic| walk_at "if") => `(tactic| refine ite2 (fun hc => ?_) (fun hc => ?_))
local macro_rules | `(tactic| walk_at "lk") => `(tactic| first | exact upd_same | assumption)
local macro_rules | `(tactic| walk_at "st") => `(tactic| first
  | with_reducible refine r_var rfl ?_ | with_reducible refine r_c ?_ | with_reducible refine r_op ?_ | with_reducible refine r_cons ?_ | with_reducible refine r_nil ?_ | with_reducible refine r_vals ?_
  | with_reducible refine r_cb ?_ | with_reducible refine r_tup ?_ | with_reducible refine r_lst ?_ | with_reducible refine r_call ?_ | with_reducible refine r_test ?_
  | with_reducible refine r_if ?_ | with_reducible refine r_not ?_ | with_reducible refine r_bm ?_ | with_reducible refine r_sl ?_ | with_reducible refine r_np ?_ | with_reducible refine r_part ?_
  | with_reducible refine r_seq ?_ | with_reducible refine r_asg ?_ | with_reducible refine r_name ?_ | with_reducible refine r_ifs ?_ | with_reducible refine r_ret ?_ | with_reducible refine r_next ?_ | with_reducible refine r_par ?_ | with_reducible refine r_par3 ?_ | with_reducible refine r_brk ?_ | with_reducible refine r_cnt ?_ | with_reducible refine r_sub ?_
  | with_reducible refine r_andT ?_ | with_reducible refine r_orT ?_ | with_reducible refine r_notT ?_ | with_reducible refine r_or ?_ | with_reducible refine r_and ?_ | with_reducible refine r_tB ?_ | with_reducible refine r_drop ?_ | with_reducible refine r_callN ?_ | with_reducible refine r_chain ?_
  | with_reducible refine r_for ?_ | with_reducible refine r_lc ?_ | with_reducible refine r_iseq ?_ | with_reducible refine r_rng1 ?_ | with_reducible refine r_enum ?_ | with_reducible refine r_yes ?_ | with_reducible refine r_tru ?_ | with_reducible refine r_gtup ?_ | with_reducible refine r_gcons ?_ | with_reducible refine r_gnil ?_
  | with_reducible refine b_add ?_ | with_reducible refine b_sub ?_ | (with_reducible refine b_mul (by unfold CMul; omega) ?_) | (with_reducible refine b_mod (by omega) ?_) | (with_reducible refine b_fdiv (by unfold CDiv; omega) ?_)
  | with_reducible refine c_lt ?_ | with_reducible refine c_le ?_ | with_reducible refine c_gt ?_ | with_reducible refine c_ge ?_ | with_reducible refine c_isN ?_ | with_reducible refine c_notN ?_ | with_reducible refine c_isB ?_ | with_reducible refine c_eq rfl ?_ | with_reducible refine c_ne rfl ?_
  | with_reducible refine c_insign ?_ | with_reducible refine k_int ?_ | with_reducible refine k_intb ?_ | with_reducible refine k_max ?_ | with_reducible refine k_min ?_
  | with_reducible refine i_lst (by first | exact SqL.of upd_same | exact SqL.of (by assumption) | assumption) rfl ?_
  | with_reducible refine st_l (by walk_at "lk") rfl ?_
  | with_reducible refine ⟨_, rfl, ?_⟩
  | with_reducible refine ex_par ?_
  | with_reducible refine r_back ?_
  | with_reducible refine ex_par3 ?_
  | with_reducible refine ty_s ?_
  | with_reducible refine tru_b ?_
  | with_reducible refine iteT ?_ | with_reducible refine iteF ?_ | with_reducible refine itnT ?_ | with_reducible refine itnF ?_)
local macro_rules | `(tactic| walk_at "go") => `(tactic| repeat walk_at "st")
local macro_rules | `(tactic| walk_at "cl") => `(tactic| try dsimp only [cxOf, Cx.nox, Cx.wish])
/-! ### drawn names -/
def isN (z : Str) : Prop := isOf sSmall 8 z = true
def spNames : Sp := fun vs H Q _ => ∃ (p : Addr) (n : Int), vs = [.ref p, .int n] ∧ Pu H p ∧ 0 ≤ n ∧ n ≤ 8 ∧ ∀ l zs H', But p H H' → Pu H' p → H l = none → H' l = some (.lst (stS zs)) → (zs.length : Int) = n → (∀ z ∈ zs, isN z) → Q (.ref l) H'
section
variable {P : Program} {w : World} {K : PySem.W.Frag} {mg : Str → Option Value} {base : Heap} {H : Hp} {Q : VK}
theorem u_names {p : Addr} {n : Int} (h : Pu H p) (h0 : 0 ≤ n) (h1 : n ≤ 8) (q : ∀ l zs H', But p H H' → Pu H' p → H l = none → H' l = some (.lst (stS zs)) → (zs.length : Int) = n → (∀ z ∈ zs, isN z) → Q (.ref l) H') : spNames ([.ref p, .int n] ++ []) H Q E0 := ⟨p, n, rfl, h, h0, h1, q⟩
theorem signs_sum {S : List Nat} : ∀ {zs : List Str}, (∀ z ∈ zs, ∃ c, z = ⟨#[c]⟩ ∧ c ∈ S) → (zs.map (·.length)).sum = zs.length
  | [], _ => rfl
  | z :: r, h => by
    obtain ⟨c, rfl, _⟩ := h z List.mem_cons_self
    rw [List.map_cons, List.sum_cons, signs_sum (zs := r) fun u hu => h u (List.mem_cons_of_mem _ hu), List.length_cons]
    show 1 + r.length = r.length + 1
    omega
theorem getD_mem {α : Type} {l : List α} {i : Nat} {d : α} (h : i < l.length) : l.getD i d ∈ l := by
  rw [List.getD_eq_getElem?_getD, List.getElem?_eq_getElem h]
  exact List.getElem_mem h
def lettersL : List Nat := (Str.ofString "abcdefghijklmnopqrstuvwxyz").cps.toList
theorem ok__law_names (F : Fn0 K mg "_law_names" s__law_names ["_law_purse_here", "_law_size"]) (m : Md mg) (c__law_pick : FnG P w K mg base 1 "_law_pick" ["_law_purse_here", "_law_many"] spPick) : FnG P w K mg base 2 "_law_names" ["_law_purse_here", "_law_size"] spNames := by
  refine F.ok sc__law_names (fun vs H Q E h => ?_) (fun a cdv A outer s H vs Q E L hr h => ?_)
  · obtain ⟨p, n, rfl, _⟩ := h
    rfl
  have nd := sc__law_names.nd
  refine ⟨_, (pss_cons (ps_set (i := 2) nd rfl (.inl rfl) (pe_lst (pa_strs ["head", "para", "pages", "index", "when", "main", "row", "done"]))) (pss_cons (ps_if (pt_cmpR (op_ L) (pe_callG c__law_pick (hr.mono (by decide)) (by rfl) (pa_cons (pv 0) (pa_cons pe_int pa_nil))) pe_int (nomark _)) (pss_one (ps_ret (pe_slice (osl L) (pv 2) po_none (po_some (pv 1))))) pss_nil) (pss_cons (ps_set (i := 3) nd rfl (.inr rfl) pe_str) (pss_cons (ps_set (i := 4) nd rfl (.inr rfl) (pe_bmL L PySem.F.plainAttrs_str PySem.F.slot_str_join PySem.F.type_str_join pe_str (pa_cons (pe_lc (own := [("_law_k", 6)]) rfl nd (pi_range1 (by rfl) m.range_ (pa_cons (pe_callG c__law_pick (hr.mono (by decide)) (by rfl) (pa_cons (pv 0) (pa_cons pe_int pa_nil))) pa_nil)) (blkOk_by (own := [("_law_k", 6)]) (N := ["_law_purse_here", "_law_size", "_law_some", "_law_letters", "_law_stem", "_law_first", "_law_k"]) (sc := defScope s__law_names) (by decide +kernel)) (fun _ _ _ _ _ => (pg_name (i := 6) nd rfl (.inl rfl))) (fun _ _ _ _ _ => inT L.b pts_nil) (fun _ _ _ _ _ => inE L.b (pe_ix (oi L.b) (pv 3) (pe_callG c__law_pick (hr.mono (by decide)) (by rfl) (pa_cons (pv 0) (pa_cons pe_int pa_nil))) (fun _ _ => rfl)))) pa_nil))) (pss_cons (ps_set (i := 5) nd rfl (.inr rfl) (pe_callG c__law_pick (hr.mono (by decide)) (by rfl) (pa_cons (pv 0) (pa_cons pe_int pa_nil)))) (pss_one (ps_ret (pe_lc (own := [("_law_k", 6)]) rfl nd (pi_range1 (by rfl) m.range_ (pa_cons (pv 1) pa_nil)) (blkOk_by (own := [("_law_k", 6)]) (N := ["_law_purse_here", "_law_size", "_law_some", "_law_letters", "_law_stem", "_law_first", "_law_k"]) (sc := defScope s__law_names) (by decide +kernel)) (fun _ _ _ _ _ => (pg_name (i := 6) nd rfl (.inl rfl))) (fun _ _ _ _ _ => inT L.b pts_nil) (fun _ _ _ _ _ => inE L.b (pe_op (ob L.b) (pv 4) (pe_ix (oi L.b) (pv 3) (pe_op (ob L.b) (pe_op (ob L.b) (pv 5) (pv 6)) pe_int) (fun _ _ => rfl)))))))))))), ?_⟩
  obtain ⟨p, n, rfl, hP, n0, n1, q⟩ := h
  walk_at "go"
  refine ⟨sz1000 (by simp), fun l hl => ?_⟩
  have lp := hP.ne hl
  walk_at "go"
  refine u_pick (hP.up lp) (by decide) (by decide) fun r H1 b1 P1 _ _ => ?_
  have bb := (But.new (q := p) hl).trans b1
  have h1 := b1 _ _ lp upd_same
  walk_at "go"
  refine ite2 (fun hc => ?_) (fun hc => ?_)
  · walk_at "go"
    refine sl_l (SqL.of h1) fun l2 hl2 => ?_
    obtain ⟨k, rfl⟩ : ∃ k : Nat, n = k := ⟨n.toNat, by omega⟩
    have lp2 := P1.ne hl2
    refine q l2 _ _ (bb.trans (But.new hl2)) (P1.up lp2) (bb.freeP P1 hl2) (by rw [upd_same, cutV_to', ← List.map_take]; rfl) ?_ ?_
    · rw [List.length_take]
      show ((min k 8 : Nat) : Int) = k
      omega
    · intro z hz
      exact (show ∀ z ∈ ([_, _, _, _, _, _, _, _] : List Str), isN z by unfold isN; decide +kernel) z (List.mem_of_mem_take hz)
  walk_at "go"
  refine u_pick P1 (by decide) (by decide) fun k H2 b2 P2 k0 k1 => ?_
  walk_at "go"
  refine ⟨by omega, by omega, fun D hD => ?_⟩
  refine lc_draw (pu := p) (Pu := fun H => Pu H p) walk_range (fun y => ∃ c, y = .str ⟨#[c]⟩ ∧ c ∈ sSmall.cps.toList) (by rw [sizeLine_eq]; omega) hD P2 P2.some (fun _ _ => True.intro) (fun H o n h => h.up n)
    (fun i x H' H'' hi bb PP hy C1 h1 => ?_) yes_m name_m (fun H3 ys b3 P3 hd hlen hall => ?_)
  · obtain ⟨rfl, rfl⟩ := hy
    walk_at "go"
    refine ⟨rfl, ?_⟩
    walk_at "go"
    refine ⟨rfl, ?_⟩
    walk_at "go"
    refine u_pick PP (by decide) (by decide) fun r H5 b5 P5 r0 r1 => ?_
    refine i_sign (line_of (by decide +kernel)) r0 (Int.lt_of_lt_of_le r1 (by decide +kernel)) fun c hc => ?_
    exact h1 _ H5 b5 P5 ⟨c, rfl, hc⟩
  obtain ⟨zs, rfl, hz⟩ := strs_ex (P := fun z => ∃ c, z = ⟨#[c]⟩ ∧ c ∈ sSmall.cps.toList) fun y hy => by
    obtain ⟨c, rfl, hc⟩ := hall y hy
    exact ⟨_, rfl, c, rfl, hc⟩
  obtain ⟨j1, j2⟩ := join_signs hz
  rw [List.length_map] at hlen
  walk_at "go"
  refine m_join (.inl (SqL.of hd)) (by rw [signs_sum hz, show (Str.ofString "").length = 0 by decide +kernel]; omega) ?_
  generalize hst : Txt.join (Str.ofString "") zs = st at j1 j2
  walk_at "go"
  refine u_pick P3 (by decide) (by decide) fun f H4 b4 P4 f0 f1 => ?_
  walk_at "go"
  refine ⟨by omega, by omega, fun D2 hD2 => ?_⟩
  have stl : st.length ≤ 6 := by
    rw [len_tl]
    omega
  have at_ : ∀ i : Nat, ((f + (i : Int)) % 26).toNat < lettersL.length := fun i => by
    have h1 := Int.emod_nonneg (f + i) (show (26 : Int) ≠ 0 by decide)
    have h2 := Int.emod_lt_of_pos (f + i) (show (0 : Int) < 26 by decide)
    have h3 : lettersL.length = 26 := by decide +kernel
    omega
  refine lc_pure walk_range (fun _ => true) (fun i => .str (st ++ ⟨#[lettersL.getD ((f + (i : Int)) % 26).toNat 0]⟩)) (by rw [sizeLine_eq]; omega) hD2 (fun _ _ => True.intro) (fun i x H' H'' hi sm hy C1 C0 h1 h0 => ?_) (fun H5 s5 hd5 => ?_)
  · obtain ⟨rfl, rfl⟩ := hy
    walk_at "go"
    refine ⟨rfl, ?_⟩
    walk_at "go"
    refine i_str (c := lettersL.getD ((f + (i : Int)) % 26).toNat 0) (line_of (by decide +kernel)) ?_ ?_
    · have h1 := Int.emod_nonneg (f + i) (show (26 : Int) ≠ 0 by decide)
      have e : (f + (0 + (i : Int))) % 26 = (((f + (i : Int)) % 26).toNat : Int) := by
        rw [Int.zero_add]
        omega
      rw [e]
      refine atI_nat ?_
      show lettersL[_]? = _
      rw [List.getD_eq_getElem?_getD, List.getElem?_eq_getElem (at_ i)]
      rfl
    walk_at "go"
    refine b_adds (by rw [sizeLine_eq]; show st.length + 1 ≤ _; omega) ?_
    exact h1 rfl _ (Same.refl _)
  · rw [filter_yes] at hd5
    refine q D2 ((List.range n.toNat).map fun i => st ++ ⟨#[lettersL.getD ((f + (i : Int)) % 26).toNat 0]⟩) H5 ((((bb.trans b2).trans b3).trans b4).trans (Same.but s5)) (P4.same s5) ?_ ?_ ?_ ?_
    · exact (((bb.trans b2).trans b3).trans b4).freeP P4 hD2
    · rw [hd5]
      unfold stS
      rw [List.map_map]
      rfl
    · rw [List.length_map, List.length_range]
      omega
    · intro z hz
      obtain ⟨i, _, rfl⟩ := List.mem_map.mp hz
      unfold isN
      rw [isOf_eq]
      simp only [Bool.and_eq_true, decide_eq_true_eq, List.all_eq_true]
      rw [len_tl, tl_append]
      refine ⟨?_, ?_, fun c hc => ?_⟩
      · rw [List.length_append]
        show (1 : Int) ≤ (((tl st).length + 1 : Nat) : Int)
        omega
      · rw [List.length_append]
        show (((tl st).length + 1 : Nat) : Int) ≤ 8
        omega
      · rw [show (st ++ (⟨#[lettersL.getD ((f + (i : Int)) % 26).toNat 0]⟩ : Str)).cps.toList = tl st ++ [lettersL.getD ((f + (i : Int)) % 26).toNat 0] from tl_append _ _] at hc
        rcases List.mem_append.mp hc with hc | hc
        · exact j2 c hc
        · rw [List.mem_singleton.mp hc]
          exact getD_mem (at_ i)
end
end Tk

set_option Elab.async false
set_option linter.all false
set_option maxRecDepth 100000
set_option maxHeartbeats 4000000
namespace Tk
open PySem PySem.Spec PyProof.Rows L2 Lay
open TL (tl ext_tl len_tl tl_append tl_mk mk_tl)
local macro_rules | `(tactic| walk_at "if") => `(tactic| refine ite2 (fun hc => ?_) (fun hc => ?_))
local macro_rules | `(tactic| walk_at "lk") => `(tactic| first | exact upd_same | assumption)
local macro_rules | `(tactic| walk_at "st") => `(tactic| first
  | with_reducible refine r_var rfl ?_ | with_reducible refine r_c ?_ | with_reducible refine r_op ?_ | with_reducible refine r_cons ?_ | with_reducible refine r_nil ?_ | with_reducible refine r_vals ?_
  | with_reducible refine r_cb ?_ | with_reducible refine r_tup ?_ | with_reducible refine r_lst ?_ | with_reducible refine r_call ?_ | with_reducible refine r_test ?_
  | with_reducible refine r_if ?_ | with_reducible refine r_not ?_ | with_reducible refine r_bm ?_ | with_reducible refine r_sl ?_ | with_reducible refine r_np ?_ | with_reducible refine r_part ?_
  | with_reducible refine r_seq ?_ | with_reducible refine r_asg ?_ | with_reducible refine r_name ?_ | with_reducible refine r_ifs ?_ | with_reducible refine r_ret ?_ | with_reducible refine r_next ?_ | with_reducible refine r_par ?_ | with_reducible refine r_par3 ?_ | with_reducible refine r_brk ?_ | with_reducible refine r_cnt ?_ | with_reducible refine r_sub ?_
  | with_reducible refine r_andT ?_ | with_reducible refine r_orT ?_ | with_reducible refine r_notT ?_ | with_reducible refine r_or ?_ | with_reducible refine r_and ?_ | with_reducible refine r_tB ?_ | with_reducible refine r_drop ?_ | with_reducible refine r_callN ?_ | with_reducible refine r_chain ?_
  | with_reducible refine r_for ?_ | with_reducible refine r_lc ?_ | with_reducible refine r_iseq ?_ | with_reducible refine r_rng1 ?_ | with_reducible refine r_enum ?_ | with_reducible refine r_yes ?_ | with_reducible refine r_tru ?_ | with_reducible refine r_gtup ?_ | with_reducible refine r_gcons ?_ | with_reducible refine r_gnil ?_
  | with_reducible refine b_add ?_ | with_reducible refine b_sub ?_ | (with_reducible refine b_mul (by unfold CMul; omega) ?_) | (with_reducible refine b_mod (by omega) ?_) | (with_reducible refine b_fdiv (by unfold CDiv; omega) ?_)
  | with_reducible refine c_lt ?_ | with_reducible refine c_le ?_ | with_reducible refine c_gt ?_ | with_reducible refine c_ge ?_ | with_reducible refine c_isN ?_ | with_reducible refine c_notN ?_ | with_reducible refine c_isB ?_ | with_reducible refine c_eq rfl ?_ | with_reducible refine c_ne rfl ?_
  | with_reducible refine c_insign ?_ | with_reducible refine k_int ?_ | with_reducible refine k_intb ?_ | with_reducible refine k_max ?_ | with_reducible refine k_min ?_
  | with_reducible refine ⟨_, rfl, ?_⟩
  | with_reducible refine ex_par ?_
  | with_reducible refine r_back ?_
  | with_reducible refine ex_par3 ?_
  | with_reducible refine ty_s ?_
  | with_reducible refine tru_b ?_
  | with_reducible refine iteT ?_ | with_reducible refine iteF ?_ | with_reducible refine itnT ?_ | with_reducible refine itnF ?_)
local macro_rules | `(tactic| walk_at "go") => `(tactic| repeat walk_at "st")
local macro_rules | `(tactic| walk_at "cl") => `(tactic| try dsimp only [cxOf, Cx.nox, Cx.wish])
/-! ### drawn tokens -/
abbrev s__law_with_note : Stmt := topS 75
theorem sc__law_with_note : FnScope ["_law_purse_here", "_law_tokens_here", "_law_refs", "_law_at", "_law_pair", "_law_inside"] ["_law_purse_here", "_law_tokens_here", "_law_refs"] (defScope s__law_with_note) := ⟨rfl, rfl, rfl, by decide +kernel, rfl, by decide +kernel, by decide +kernel⟩
/-- a token that is no bracket -/
def isPl (z : Str) : Prop := isTok z = true ∧ tl z ∉ [[123], [125], [91], [93]]
theorem word_signs : ∀ c ∈ sWord.cps.toList, c ∉ [123, 125, 91, 93, 64, 35, 126, 38, 94] ∧ c ≠ 32 ∧ c < 1114112 := by decide +kernel
theorem small_signs : ∀ c ∈ sSmall.cps.toList, c ≠ 32 ∧ c < 1114112 := by decide +kernel
theorem ofL_iff {S : List Nat} {n : Int} {l : List Nat} : ofL S n l = true ↔ 1 ≤ (l.length : Int) ∧ (l.length : Int) ≤ n ∧ ∀ c ∈ l, c ∈ S := by
  unfold ofL
  simp only [Bool.and_eq_true, decide_eq_true_eq, List.all_eq_true]
theorem isW.pl {z : Str} (h : isW z) : isPl z := by
  have h2 : ofL sWord.cps.toList 12 (tl z) = true := h
  obtain ⟨h3, h4, h5⟩ := ofL_iff.mp h2
  cases e : tl z with
  | nil =>
    rw [e] at h3
    exact absurd h3 (by decide)
  | cons c r =>
    rw [e] at h2 h5
    have hc := (word_signs c (h5 c List.mem_cons_self)).1
    simp only [List.mem_cons, List.not_mem_nil, or_false, not_or] at hc
    refine ⟨?_, ?_⟩
    · unfold isTok
      rw [show z.cps.toList = c :: r from e, tokL_cons, if_neg (by simp; omega), if_neg (by simp; omega), if_neg (by omega)]
      exact h2
    · rw [e]
      simp
      omega
theorem pl_up {z : Str} (h : isW z) : isPl (Str.ofString "^" ++ z) := by
  have h2 : ofL sWord.cps.toList 12 (tl z) = true := h
  have e : tl (Str.ofString "^" ++ z) = 94 :: tl z := by rw [tl_append, tl_up]; rfl
  refine ⟨?_, ?_⟩
  · unfold isTok
    rw [show (Str.ofString "^" ++ z).cps.toList = 94 :: tl z from e, tokL_cons, if_neg (by simp), if_neg (by simp), if_pos rfl]
    exact h2
  · rw [e]
    simp
theorem pl_nm {u z : Str} {c : Nat} (hu : tl u = [c]) (hc : c ∈ [64, 35, 126, 38]) (h : isN z) : isPl (u ++ z) := by
  have h2 : ofL sSmall.cps.toList 8 (tl z) = true := h
  have e : tl (u ++ z) = c :: tl z := by rw [tl_append, hu]; rfl
  have h3 := hc
  simp only [List.mem_cons, List.not_mem_nil, or_false] at h3
  refine ⟨?_, ?_⟩
  · unfold isTok
    rw [show (u ++ z).cps.toList = c :: tl z from e, tokL_cons, if_neg (by simp; omega), if_pos hc]
    exact h2
  · rw [e]
    simp
    omega
theorem isN.ok {z : Str} (h : isN z) : PyData.strOk z = true := by
  have h2 : ofL sSmall.cps.toList 8 (tl z) = true := h
  obtain ⟨_, _, h5⟩ := ofL_iff.mp h2
  unfold PyData.strOk
  rw [Array.all_eq_true_iff_forall_mem]
  intro c hc
  exact decide_eq_true (small_signs c (h5 c (Array.mem_toList_iff.mpr hc))).2
theorem tok_signs {z : Str} (h : isTok z = true) : tl z ≠ [] ∧ (tl z).length ≤ 13 ∧ ∀ c ∈ tl z, c ≠ 32 ∧ c < 1114112 := by
  unfold isTok at h
  rw [show z.cps.toList = tl z from rfl] at h
  cases e : tl z with
  | nil =>
    rw [e] at h
    exact absurd h Bool.false_ne_true
  | cons c r =>
    rw [e, tokL_cons] at h
    refine ⟨List.cons_ne_nil _ _, ?_⟩
    split at h
    · rename_i h1
      obtain ⟨rfl, h2⟩ := h1
      refine ⟨by simp, fun d hd => ?_⟩
      rw [List.mem_singleton.mp hd]
      simp at h2
      omega
    · split at h
      · rename_i h1 h2
        obtain ⟨_, h4, h5⟩ := ofL_iff.mp h
        refine ⟨by simp; omega, fun d hd => ?_⟩
        rcases List.mem_cons.mp hd with rfl | hd
        · simp at h2
          omega
        · exact small_signs d (h5 d hd)
      · split at h
        · rename_i h1 h2 h3
          obtain ⟨_, h4, h5⟩ := ofL_iff.mp h
          refine ⟨by simp; omega, fun d hd => ?_⟩
          rcases List.mem_cons.mp hd with rfl | hd
          · omega
          · exact (word_signs d (h5 d hd)).2
        · obtain ⟨_, h4, h5⟩ := ofL_iff.mp h
          refine ⟨by omega, fun d hd => ?_⟩
          exact (word_signs d (h5 d hd)).2
theorem tok_ok {z : Str} (h : isTok z = true) : PyData.strOk z = true := by
  obtain ⟨_, _, h5⟩ := tok_signs h
  unfold PyData.strOk
  rw [Array.all_eq_true_iff_forall_mem]
  intro c hc
  exact decide_eq_true (h5 c (Array.mem_toList_iff.mpr hc)).2
def spTokens (K : PySem.W.Frag) : Sp := fun vs H Q _ => ∃ (p mk rf : Addr) (n : Int) (ms rs : List Str) (b : Bool), vs = [.ref p, .int n, .ref mk, .ref rf, .bl b] ∧ Pu H p ∧ 0 ≤ n ∧ n ≤ 100 ∧ SqL K H mk (stS ms) ∧ SqL K H rf (stS rs) ∧ mk ≠ p ∧ rf ≠ p ∧
  ms.length ≤ 8 ∧ (∀ z ∈ ms, isN z) ∧ rs.length ≤ 8 ∧ (∀ z ∈ rs, isN z) ∧ ∀ l zs H', But p H H' → Pu H' p → H' l = some (.tup (stS zs)) → (zs.length : Int) ≤ n + ms.length → (∀ z ∈ zs, isPl z) → Q (.ref l) H'
section
variable {P : Program} {w : World} {K : PySem.W.Frag} {mg : Str → Option Value} {base : Heap} {H : Hp} {Q : VK}
theorem u_tokens {p mk rf : Addr} {n : Int} {ms rs : List Str} {b : Bool} (hP : Pu H p) (h0 : 0 ≤ n) (h1 : n ≤ 100) (hm : SqL K H mk (stS ms)) (hr : SqL K H rf (stS rs)) (nm : mk ≠ p) (nr : rf ≠ p) (lm : ms.length ≤ 8) (am : ∀ z ∈ ms, isN z) (lr : rs.length ≤ 8) (ar : ∀ z ∈ rs, isN z)
    (q : ∀ l zs H', But p H H' → Pu H' p → H' l = some (.tup (stS zs)) → (zs.length : Int) ≤ n + ms.length → (∀ z ∈ zs, isPl z) → Q (.ref l) H') : spTokens K ([.ref p, .int n, .ref mk, .ref rf, .bl b] ++ []) H Q E0 := ⟨p, mk, rf, n, ms, rs, b, rfl, hP, h0, h1, hm, hr, nm, nr, lm, am, lr, ar, q⟩
theorem ok__law_tokens (F : Fn0 K mg "_law_tokens" s__law_tokens ["_law_purse_here", "_law_upto", "_law_marks", "_law_refs", "_law_bare"]) (m : Md mg) (c__law_pick : FnG P w K mg base 1 "_law_pick" ["_law_purse_here", "_law_many"] spPick) (c__law_one_word : FnG P w K mg base 2 "_law_one_word" ["_law_purse_here"] spWord1) :
    FnG P w K mg base 3 "_law_tokens" ["_law_purse_here", "_law_upto", "_law_marks", "_law_refs", "_law_bare"] (spTokens K) := by
  refine F.ok sc__law_tokens (fun vs H Q E h => ?_) (fun a cdv A outer s H vs Q E L hr h => ?_)
  · obtain ⟨p, mk, rf, n, ms, rs, b, rfl, _⟩ := h
    rfl
  have nd := sc__law_tokens.nd
  refine ⟨_, (pss_cons (ps_setLc (i := 6) (own := [("_law_k", 5)]) rfl nd rfl rfl (sw_true rfl rfl rfl (by decide +kernel)) (pi_range1 (by rfl) m.range_ (pa_cons (pe_callG c__law_pick (hr.mono (by decide)) (by rfl) (pa_cons (pv 0) (pa_cons (pe_op (ob L) (pv 1) pe_int) pa_nil))) pa_nil)) (blkOk_by (own := [("_law_k", 5)]) (N := ["_law_purse_here", "_law_upto", "_law_marks", "_law_refs", "_law_bare", "_law_k", "_law_found", "_law_sort_here", "_law_name", "_law_at"]) (sc := defScope s__law_tokens) (by decide +kernel)) (fun _ _ _ _ _ => (pg_name (i := 5) nd rfl (.inl rfl))) (fun _ _ _ _ _ => inT L.b pts_nil) (fun _ _ _ _ _ => inE L.b (pe_callG c__law_one_word (hr.mono (by decide)) (by rfl) (pa_cons (pv 0) pa_nil)))) (pss_cons (ps_for PassesOwn.never rfl (pi_range1 (by rfl) m.range_ (pa_cons (pe_callB (oc L) (by rfl) m.len_ bt_len (pa_cons (pv 6) pa_nil)) pa_nil)) (pg_name (i := 5) nd rfl (.inl rfl)) (pss_cons (ps_set (i := 7) nd rfl (.inl rfl) (pe_callG c__law_pick (hr.mono (by decide)) (by rfl) (pa_cons (pv 0) (pa_cons pe_int pa_nil)))) (pss_cons (ps_if (pt_cmpR (op_ L) (pv 7) pe_int (nomark _)) (pss_one (ps_asg (pe_op (ob L) pe_str (pe_ix (oi L) (pv 6) (pv 5) (fun _ _ => rfl))) (pg_sub (pv 6) (pv 5) (ose L)))) pss_nil) (pss_one (ps_if (PW.pt (pw_and (pt_cmpR (op_ L) (pv 7) pe_int (nomark _)) (pw_and1 (pt_cmpR (op_ L) (pv 3) (pe_lst pa_nil) (nomark _))))) (pss_one (ps_asg (pe_op (ob L) (pe_ix (oi L) (pe_lst (pa_strs ["#", "#", "~", "&"])) (pe_callG c__law_pick (hr.mono (by decide)) (by rfl) (pa_cons (pv 0) (pa_cons (pe_ifExp (pt_truthL L (pv 4)) pe_int pe_int) pa_nil))) (fun _ _ => rfl)) (pe_ix (oi L) (pv 3) (pe_callG c__law_pick (hr.mono (by decide)) (by rfl) (pa_cons (pv 0) (pa_cons (pe_callB (oc L) (by rfl) m.len_ bt_len (pa_cons (pv 3) pa_nil)) pa_nil))) (fun _ _ => rfl))) (pg_sub (pv 6) (pv 5) (ose L)))) pss_nil))))) (pss_cons (ps_for PassesOwn.never rfl (pi_seqL L (pv 2)) (pg_name (i := 8) nd rfl (.inl rfl)) (pss_cons (ps_set (i := 9) nd rfl (.inl rfl) (pe_callG c__law_pick (hr.mono (by decide)) (by rfl) (pa_cons (pv 0) (pa_cons (pe_op (ob L) (pe_callB (oc L) (by rfl) m.len_ bt_len (pa_cons (pv 6) pa_nil)) pe_int) pa_nil)))) (pss_one (ps_set (i := 6) nd rfl (.inl rfl) (pe_op (ob L) (pe_op (ob L) (pe_slice (osl L) (pv 6) po_none (po_some (pv 9))) (pe_lst (pa_cons (pe_op (ob L) pe_str (pv 8)) pa_nil))) (pe_slice (osl L) (pv 6) (po_some (pv 9)) po_none)))))) (pss_one (ps_ret (pe_callTy (oc L) (by rfl) m.tuple_ bt_tuple (pa_cons (pv 6) pa_nil))))))), ?_⟩
  obtain ⟨p, mk, rf, n, ms, rs, b, rfl, hP, n0, n1, hm, hrf, nm, nr, lm, am, lr, ar, q⟩ := h
  walk_at "go"
  refine u_pick hP (by omega) (by omega) fun r H1 b1 P1 r0 r1 => ?_
  walk_at "go"
  refine ⟨by omega, by omega, fun D hD => ?_⟩
  refine lc_draw (pu := p) (Pu := fun H => Pu H p) walk_range (fun y => ∃ z, y = .str z ∧ isW z) (by rw [sizeLine_eq]; omega) hD P1 P1.some (fun _ _ => True.intro) (fun H o n h => h.up n)
    (fun i x H' H'' hi bb PP hy C1 h1 => ?_) yes_m name_m (fun H2 ys b2 P2 hd hlen hall => ?_)
  · obtain ⟨rfl, rfl⟩ := hy
    walk_at "go"
    refine ⟨rfl, ?_⟩
    walk_at "go"
    refine ⟨rfl, ?_⟩
    walk_at "go"
    refine u_word1 PP fun z H4 b4 P4 hz => ?_
    exact h1 _ H4 b4 P4 ⟨z, rfl, hz⟩
  obtain ⟨zs, rfl, hz⟩ := strs_ex hall
  rw [List.length_map] at hlen
  have fD := b1.freeP P1 hD
  have neD : D ≠ p := P1.ne hD
  walk_at "go"
  refine k_lenl (.inl (SqL.of hd)) ?_
  walk_at "go"
  rw [List.length_map]
  refine ⟨by omega, by omega, ?_⟩
  have szz : zs.length ≤ 100 := by omega
  have e0 : ((zs.length : Nat) : Int).toNat = zs.length := Int.toNat_natCast _
  refine fo_it walk_range (fun i σ H' => ∃ vk vs ys, σ = [some (.ref p), some (.int n), some (.ref mk), some (.ref rf), some (.bl b), vk, some (.ref D), vs, none, none] ∧ But p H H' ∧ Pu H' p ∧ H' D = some (.lst (stS ys)) ∧ ys.length = zs.length ∧ (∀ z ∈ ys, isPl z) ∧ ∀ j z, i ≤ j → ys[j]? = some z → isW z)
    ⟨none, none, zs, rfl, b1.trans b2, P2, hd, rfl, fun z h => (hz z h).pl, fun j z _ h => hz z (List.mem_of_getElem? h)⟩ (fun i σ H' _ _ => True.intro) (fun i x σ H3 H4 hi hPv hY => ?_) (fun σ H3 hPv => ?_)
  · obtain ⟨vk, vs, ys, rfl, b3, P3, hf, hl, hpl, hw⟩ := hPv
    obtain ⟨rfl, rfl⟩ := hY
    rw [e0] at hi
    have hi2 : i < ys.length := by omega
    walk_at "go"
    refine u_pick P3 (by decide) (by decide) fun s H5 b5 P5 s0 s1 => ?_
    have hf5 := b5 _ _ neD hf
    have bb : But p H H5 := b3.trans b5
    have hat : (stS ys)[i]? = some (.str ys[i]) := by
      unfold stS
      rw [List.getElem?_map, List.getElem?_eq_getElem hi2]
      rfl
    have isw : isW ys[i] := hw i _ (Nat.le_refl i) (List.getElem?_eq_getElem hi2)
    have fin : ∀ (u : Str) (H6 : Hp) (vs : Option V), isPl u → But p H H6 → Pu H6 p → H6 D = some (.lst (stS ys)) → ∃ vk vs' ys', [some (V.ref p), some (.int n), some (.ref mk), some (.ref rf), some (.bl b), some (.int (0 + (i : Int))), some (.ref D), vs, none, none] = [some (V.ref p), some (.int n), some (.ref mk), some (.ref rf), some (.bl b), vk, some (.ref D), vs', none, none] ∧ But p H (upd H6 D (.lst ((stS ys).set i (.str u)))) ∧ Pu (upd H6 D (.lst ((stS ys).set i (.str u)))) p ∧ (upd H6 D (.lst ((stS ys).set i (.str u)))) D = some (.lst (stS ys')) ∧ ys'.length = zs.length ∧ (∀ z ∈ ys', isPl z) ∧ ∀ j z, i + 1 ≤ j → ys'[j]? = some z → isW z := fun u H6 vs hu b6 P6 h6 => by
      refine ⟨_, _, ys.set i u, rfl, But.mut b6 fD, P6.up neD, by rw [upd_same, stS, stS, List.map_set], by rw [List.length_set, hl], fun z h => ?_, fun j z hj h => ?_⟩
      · rcases List.mem_or_eq_of_mem_set h with h | rfl
        · exact hpl z h
        · exact hu
      · rw [List.getElem?_set_ne (by omega)] at h
        exact hw j z (by omega) h
    walk_at "go"
    refine ite2 (fun hc => ?_) (fun hc => ?_)
    · walk_at "go"
      refine i_lst (i := 0 + (i : Int)) (x := .str ys[i]) (SqL.of hf5) (by rw [Int.zero_add]; exact atI_nat hat) ?_
      have ln := (isOf_len isw).2
      refine b_adds (sz1000 (by rw [show (Str.ofString "^").length = 1 by decide +kernel]; omega)) ?_
      walk_at "go"
      refine st_l (k := i) hf5 (by rw [Int.zero_add]; exact ixN_at (by rw [stS, List.length_map]; exact hi2)) ?_
      have s0 : s = 0 := by simpa using hc
      subst s0
      walk_at "go"
      exact fin _ H5 _ (pl_up isw) bb P5 hf5
    walk_at "go"
    have sm : ∀ {H' : Hp}, But p H H' → SqL K H' rf (stS rs) := fun b' => b'.sql nr hrf
    have no : ∀ (H6 : Hp), But p H H6 → Pu H6 p → H6 D = some (.lst (stS ys)) → ∃ vk vs' ys', [some (V.ref p), some (.int n), some (.ref mk), some (.ref rf), some (.bl b), some (.int (0 + (i : Int))), some (.ref D), some (.int s), none, none] = [some (V.ref p), some (.int n), some (.ref mk), some (.ref rf), some (.bl b), vk, some (.ref D), vs', none, none] ∧ But p H H6 ∧ Pu H6 p ∧ H6 D = some (.lst (stS ys')) ∧ ys'.length = zs.length ∧ (∀ z ∈ ys', isPl z) ∧ ∀ j z, i + 1 ≤ j → ys'[j]? = some z → isW z := fun H6 b6 P6 h6 =>
      ⟨_, _, ys, rfl, b6, P6, h6, hl, hpl, fun j z hj h => hw j z (by omega) h⟩
    refine ite2 (fun h1 => ?_) (fun h1 => ?_)
    · walk_at "go"
      refine ⟨sz1000 (by simp), fun e he => ?_⟩
      have P6 : Pu (upd H5 e (.lst [])) p := P5.up (P5.ne he)
      have bb6 : But p H (upd H5 e (.lst [])) := bb.trans (But.new he)
      have hf6 : (upd H5 e (.lst [])) D = some (.lst (stS ys)) := Same.new he _ _ hf5
      refine c_neL (ys := []) (fun z h => (ar z h).ok) (fun _ h => nomatch h) (sm bb6) (SqL.of upd_same) ?_
      walk_at "go"
      refine ite2 (fun h2 => ?_) (fun h2 => ?_)
      · have rne : rs ≠ [] := by simpa using h2
        walk_at "go"
        refine ⟨sz1000 (by simp), fun g hg => ?_⟩
        have gp := P6.ne hg
        have P7 := P6.up gp (o := .lst (List.map V.str [Str.ofString "#", Str.ofString "#", Str.ofString "~", Str.ofString "&"]))
        have rlen : 0 < rs.length := List.length_pos_iff.mpr rne
        walk_at "go"
        refine ite2 (fun _ => ?_) (fun _ => ?_)
        all_goals
          walk_at "go"
          refine u_pick P7 (by decide) (by decide) fun t H8 b8 P8 t0 t1 => ?_
          have bb8 : But p H H8 := (bb6.trans (But.new hg)).trans b8
          refine i_draw (SqL.of (b8 _ _ gp upd_same)) t0 (by simp; omega) fun x hx => ?_
          obtain ⟨u, hu, rfl⟩ := List.mem_map.mp hx
          obtain ⟨c, hc1, hc2⟩ : ∃ c, tl u = [c] ∧ c ∈ [64, 35, 126, 38] := by
            simp only [List.mem_cons, List.not_mem_nil, or_false] at hu
            rcases hu with rfl | rfl | rfl | rfl
            · exact ⟨_, tl_nu, by decide⟩
            · exact ⟨_, tl_nu, by decide⟩
            · exact ⟨_, tl_ti, by decide⟩
            · exact ⟨_, tl_am, by decide⟩
          walk_at "go"
          refine k_lenl (.inl (sm bb8)) ?_
          walk_at "go"
          refine u_pick P8 (by rw [stS, List.length_map]; omega) (by rw [stS, List.length_map]; omega) fun v H9 b9 P9 v0 v1 => ?_
          have bb9 := bb8.trans b9
          refine i_draw (sm bb9) v0 v1 fun y hy => ?_
          obtain ⟨z, hz2, rfl⟩ := List.mem_map.mp hy
          have hn := ar z hz2
          have ln := (isOf_len hn).2
          walk_at "go"
          refine b_adds (sz1000 (by rw [len_tl u, hc1]; simp; omega)) ?_
          walk_at "go"
          have hf9 := b9 _ _ neD (b8 _ _ neD (Same.new hg _ _ hf6))
          refine st_l (k := i) hf9 (by rw [Int.zero_add]; exact ixN_at (by rw [stS, List.length_map]; exact hi2)) ?_
          walk_at "go"
          exact fin _ H9 _ (pl_nm hc1 hc2 hn) bb9 P9 hf9
      · walk_at "go"
        exact no _ bb6 P6 hf6
    · walk_at "go"
      exact no _ bb P5 hf5
  obtain ⟨vk, vs, ys, rfl, b3, P3, hf, hl, hpl, _⟩ := hPv
  walk_at "go"
  refine .inl ⟨mk, stS ms, rfl, b3.sql nm hm, ?_⟩
  have lms : (stS ms).length = ms.length := by rw [stS, List.length_map]
  refine fo_it walk_list (fun i σ H' => ∃ f vn va ys, σ = [some (.ref p), some (.int n), some (.ref mk), some (.ref rf), some (.bl b), vk, some (.ref f), vs, vn, va] ∧ But p H H' ∧ Pu H' p ∧ f ≠ p ∧ H' f = some (.lst (stS ys)) ∧ ys.length = zs.length + i ∧ ∀ z ∈ ys, isPl z)
    ⟨D, none, none, ys, rfl, b3, P3, neD, hf, hl, hpl⟩ (fun i σ H' _ ⟨_, _, _, _, _, b', _⟩ => b'.sql nm hm) (fun i x σ H4 H5 hi hPv hY => ?_) (fun σ H4 hPv => ?_)
  · obtain ⟨f, vn, va, us, rfl, b4, P4, nf, hf, hl, hpl⟩ := hPv
    obtain ⟨rfl, hx⟩ := hY
    obtain ⟨z, hz2, rfl⟩ := List.mem_map.mp (List.mem_of_getElem? hx)
    have hn := am z hz2
    have ln := (isOf_len hn).2
    walk_at "go"
    refine k_lenl (.inl (SqL.of hf)) ?_
    walk_at "go"
    rw [lms] at hi
    have lus : (stS us).length = us.length := by rw [stS, List.length_map]
    rw [lus]
    refine u_pick P4 (by omega) (by omega) fun r H6 b6 P6 r0 r1 => ?_
    obtain ⟨k, rfl⟩ : ∃ k : Nat, r = k := ⟨r.toNat, by omega⟩
    have hf6 := b6 _ _ nf hf
    have bb6 := b4.trans b6
    walk_at "go"
    refine sl_l (SqL.of hf6) fun g1 hg1 => ?_
    have n1 := P6.ne hg1
    walk_at "go"
    refine b_adds (sz1000 (by rw [show (Str.ofString "@").length = 1 by decide +kernel]; omega)) ?_
    walk_at "go"
    refine ⟨sz1000 (by simp), fun g2 hg2 => ?_⟩
    have c1 : cutV (stS us) none (some (k : Int)) = stS (us.take k) := by rw [cutV_to', stS, stS, List.map_take]
    have c2 : cutV (stS us) (some (k : Int)) none = stS (us.drop k) := by rw [cutV_from, stS, stS, List.map_drop]
    rw [c1] at hg2 ⊢
    have q1 := Same.new hg2 (o := .lst [.str (Str.ofString "@" ++ z)]) _ _ upd_same
    refine b_cat q1 upd_same (sz1000 (by simp [stS]; omega)) fun g3 hg3 => ?_
    have n2 := (P6.up n1).ne hg2
    have P7 := (P6.up n1 (o := .lst (stS (us.take k)))).up n2 (o := .lst [.str (Str.ofString "@" ++ z)])
    have n3 := P7.ne hg3
    have hf7 := Same.new hg3 (o := .lst (stS (us.take k) ++ [.str (Str.ofString "@" ++ z)])) _ _ (Same.new hg2 (o := .lst [.str (Str.ofString "@" ++ z)]) _ _ (Same.new hg1 (o := .lst (stS (us.take k))) _ _ hf6))
    walk_at "go"
    refine sl_l (SqL.of hf7) fun g4 hg4 => ?_
    rw [c2]
    have P8 := P7.up n3 (o := .lst (stS (us.take k) ++ [.str (Str.ofString "@" ++ z)]))
    have n4 := P8.ne hg4
    refine b_cat (Same.new hg4 _ _ upd_same) upd_same (sz1000 (by simp [stS]; omega)) fun g5 hg5 => ?_
    have P9 := P8.up n4 (o := .lst (stS (us.drop k)))
    have n5 := P9.ne hg5
    walk_at "go"
    refine ⟨g5, _, _, us.take k ++ (Str.ofString "@" ++ z) :: us.drop k, rfl, ((((bb6.trans (But.new hg1)).trans (But.new hg2)).trans (But.new hg3)).trans (But.new hg4)).trans (But.new hg5), P9.up n5, n5, ?_, ?_, ?_⟩
    · rw [upd_same]
      simp [stS]
    · rw [List.length_append, List.length_cons, List.length_take, List.length_drop]
      omega
    · intro y hy
      rcases List.mem_append.mp hy with hy | hy
      · exact hpl y (List.mem_of_mem_take hy)
      rcases List.mem_cons.mp hy with rfl | hy
      · exact pl_nm tl_at (by decide) hn
      · exact hpl y (List.mem_of_mem_drop hy)
  · obtain ⟨f, vn, va, us, rfl, b4, P4, nf, hf, hl, hpl⟩ := hPv
    rw [lms] at hl
    walk_at "go"
    refine k_tupL (SqL.of hf) fun g hg => ?_
    exact q g us _ (b4.trans (But.new hg)) (P4.up (P4.ne hg)) upd_same (by omega) hpl
end
end Tk

set_option Elab.async false
set_option linter.all false
set_option maxRecDepth 100000
set_option maxHeartbeats 4000000
namespace Tk
open PySem PySem.Spec PyProof.Rows L2 Lay
open TL (tl ext_tl len_tl tl_append tl_mk mk_tl)
local macro_rules | `(tactic| walk_at "if") => `(tactic| refine ite2 (fun hc => ?_) (fun hc => ?_))
local macro_rules | `(tactic| walk_at "lk") => `(tactic| first | exact upd_same | assumption)
local macro_rules | `(tactic| walk_at "st") => `(tactic| first
  | with_reducible refine r_var rfl ?_ | with_reducible refine r_c ?_ | with_reducible refine r_op ?_ | with_reducible refine r_cons ?_ | with_reducible refine r_nil ?_ | with_reducible refine r_vals ?_
  | with_reducible refine r_cb ?_ | with_reducible refine r_tup ?_ | with_reducible refine r_lst ?_ | with_reducible refine r_call ?_ | with_reducible refine r_test ?_
  | with_reducible refine r_if ?_ | with_reducible refine r_not ?_ | with_reducible refine r_bm ?_ | with_reducible refine r_sl ?_ | with_reducible refine r_np ?_ | with_reducible refine r_part ?_
  | with_reducible refine r_seq ?_ | with_reducible refine r_asg ?_ | with_reducible refine r_name ?_ | with_reducible refine r_ifs ?_ | with_reducible refine r_ret ?_ | with_reducible refine r_next ?_ | with_reducible refine r_par ?_ | with_reducible refine r_par3 ?_ | with_reducible refine r_brk ?_ | with_reducible refine r_cnt ?_ | with_reducible refine r_sub ?_
  | with_reducible refine r_andT ?_ | with_reducible refine r_orT ?_ | with_reducible refine r_notT ?_ | with_reducible refine r_or ?_ | with_reducible refine r_and ?_ | with_reducible refine r_tB ?_ | with_reducible refine r_drop ?_ | with_reducible refine r_callN ?_ | with_reducible refine r_chain ?_
  | with_reducible refine r_for ?_ | with_reducible refine r_lc ?_ | with_reducible refine r_iseq ?_ | with_reducible refine r_rng1 ?_ | with_reducible refine r_enum ?_ | with_reducible refine r_yes ?_ | with_reducible refine r_tru ?_ | with_reducible refine r_gtup ?_ | with_reducible refine r_gcons ?_ | with_reducible refine r_gnil ?_
  | with_reducible refine b_add ?_ | with_reducible refine b_sub ?_ | (with_reducible refine b_mul (by unfold CMul; omega) ?_) | (with_reducible refine b_mod (by omega) ?_) | (with_reducible refine b_fdiv (by unfold CDiv; omega) ?_)
  | with_reducible refine c_lt ?_ | with_reducible refine c_le ?_ | with_reducible refine c_gt ?_ | with_reducible refine c_ge ?_ | with_reducible refine c_isN ?_ | with_reducible refine c_notN ?_ | with_reducible refine c_isB ?_ | with_reducible refine c_eq rfl ?_ | with_reducible refine c_ne rfl ?_
  | with_reducible refine c_insign ?_ | with_reducible refine k_int ?_ | with_reducible refine k_intb ?_ | with_reducible refine k_max ?_ | with_reducible refine k_min ?_
  | with_reducible refine ⟨_, rfl, ?_⟩
  | with_reducible refine ex_par ?_
  | with_reducible refine r_back ?_
  | with_reducible refine ex_par3 ?_
  | with_reducible refine ty_s ?_
  | with_reducible refine tru_b ?_
  | with_reducible refine iteT ?_ | with_reducible refine iteF ?_ | with_reducible refine itnT ?_ | with_reducible refine itnF ?_)
local macro_rules | `(tactic| walk_at "go") => `(tactic| repeat walk_at "st")
local macro_rules | `(tactic| walk_at "cl") => `(tactic| try dsimp only [cxOf, Cx.nox, Cx.wish])
/-! ### a note between -/
theorem stp_pl {z : Str} (h : isPl z) (cl : Nat) (hc : cl = 0 ∨ cl = 125 ∨ cl = 93) : stp cl (.str z) = some cl := by
  have h2 := h.2
  simp only [List.mem_cons, List.not_mem_nil, or_false, not_or] at h2
  rw [stp_str, if_pos h.1, if_neg, if_neg h.2]
  rintro ⟨c0, e⟩
  rcases hc with rfl | rfl | rfl
  · exact c0 rfl
  · exact h2.2.1 e
  · exact h2.2.2.2 e
theorem scan_pl : ∀ (zs : List Str) (i cl : Nat) (r : List V), (∀ z ∈ zs, isPl z) → (cl = 0 ∨ cl = 125 ∨ cl = 93) → scan i cl (stS zs ++ r) = scan (i + zs.length) cl r
  | [], _, _, _, _, _ => rfl
  | z :: zs, i, cl, r, h, hc => by
    have e : scan i cl (stS (z :: zs) ++ r) = match stp cl (.str z) with | none => .inl i | some c => scan (i + 1) c (stS zs ++ r) := rfl
    rw [e, stp_pl (h z List.mem_cons_self) cl hc]
    show scan (i + 1) cl (stS zs ++ r) = _
    rw [scan_pl zs (i + 1) cl r (fun y hy => h y (List.mem_cons_of_mem _ hy)) hc, List.length_cons, Nat.add_assoc, Nat.add_comm 1]
theorem stS_app (a b : List Str) : stS (a ++ b) = stS a ++ stS b := List.map_append
theorem stS_len (a : List Str) : (stS a).length = a.length := List.length_map _
theorem stS_flat : ∀ zs : List Str, (stS zs).all flatV = true
  | [] => rfl
  | z :: r => by
    show (flatV (.str z) && (stS r).all flatV) = true
    rw [stS_flat r]
    rfl
/-- all is well but for the length -/
def okS (zs : List Str) : Prop := scan 0 0 (stS zs) = .inr 0
theorem okS.pl {zs : List Str} (h : ∀ z ∈ zs, isPl z) : okS zs := by
  unfold okS
  have := scan_pl zs 0 0 [] h (.inl rfl)
  rw [List.append_nil] at this
  rw [this]
  rfl
theorem okS.wrong {zs : List Str} (h : okS zs) (hl : zs.length ≤ 40) : wrongV (stS zs) = .non := by
  unfold wrongV
  rw [show scan 0 0 (stS zs) = .inr 0 from h]
  simp only
  rw [if_neg]
  rw [stS_len]
  omega
theorem okS.tok {zs : List Str} (h : okS zs) : ∀ z ∈ zs, isTok z = true := fun z hz => by
  obtain ⟨y, e, t⟩ := scan_all h (.str z) (List.mem_map.mpr ⟨z, hz, rfl⟩)
  cases e
  exact t
/-- a bracket that opens is in it -/
def hasB (zs : List Str) : Bool := inV (.str "{") (stS zs) || inV (.str "[") (stS zs)
theorem inV_stS {b : Str} {zs : List Str} : inV (.str b) (stS zs) = decide (b ∈ zs) := by
  unfold inV stS
  rw [List.any_map, Bool.eq_iff_iff]
  simp [List.any_eq_true, eqV]
theorem hasB_pl {zs : List Str} (h : ∀ z ∈ zs, isPl z) : inV (.str "{") (stS zs) = false ∧ inV (.str "[") (stS zs) = false := by
  rw [inV_stS, inV_stS]
  refine ⟨decide_eq_false fun hm => ?_, decide_eq_false fun hm => ?_⟩
  · exact (h _ hm).2 (by rw [tl_ob]; decide)
  · exact (h _ hm).2 (by rw [tl_os]; decide)
/-- what is given: words, or well set with a bracket -/
def Lot (zs : List Str) : Prop := (∀ z ∈ zs, isPl z) ∨ (okS zs ∧ hasB zs = true)
theorem Lot.ok {zs : List Str} (h : Lot zs) : okS zs := h.elim okS.pl (·.1)
theorem lot_note {as is bs : List Str} {o c : Str} {cl : Nat} (ha : ∀ z ∈ as, isPl z) (hi : ∀ z ∈ is, isPl z) (hb : ∀ z ∈ bs, isPl z) (h : (o = Str.ofString "{" ∧ c = Str.ofString "}" ∧ cl = 125) ∨ (o = Str.ofString "[" ∧ c = Str.ofString "]" ∧ cl = 93)) :
    Lot (as ++ o :: (is ++ c :: bs)) := by
  have hcl : cl = 0 ∨ cl = 125 ∨ cl = 93 := by
    rcases h with ⟨_, _, rfl⟩ | ⟨_, _, rfl⟩ <;> decide
  have s1 : stp 0 (.str o) = some cl := by
    rcases h with ⟨rfl, rfl, rfl⟩ | ⟨rfl, rfl, rfl⟩ <;> decide +kernel
  have s2 : stp cl (.str c) = some 0 := by
    rcases h with ⟨rfl, rfl, rfl⟩ | ⟨rfl, rfl, rfl⟩ <;> decide +kernel
  refine .inr ⟨?_, ?_⟩
  · unfold okS
    rw [stS_app, scan_pl as 0 0 _ ha (.inl rfl)]
    have e : scan (0 + as.length) 0 (stS (o :: (is ++ c :: bs))) = match stp 0 (.str o) with | none => .inl (0 + as.length) | some c2 => scan (0 + as.length + 1) c2 (stS (is ++ c :: bs)) := rfl
    rw [e, s1]
    simp only
    rw [stS_app, scan_pl is _ cl _ hi hcl]
    have e2 : ∀ i, scan i cl (stS (c :: bs)) = match stp cl (.str c) with | none => .inl i | some c2 => scan (i + 1) c2 (stS bs) := fun _ => rfl
    rw [e2, s2]
    simp only
    have := scan_pl bs (0 + as.length + 1 + is.length + 1) 0 [] hb (.inl rfl)
    rw [List.append_nil] at this
    rw [this]
    rfl
  · unfold hasB
    rw [inV_stS, inV_stS]
    rcases h with ⟨rfl, _⟩ | ⟨rfl, _⟩ <;> simp
def spNote (K : PySem.W.Frag) : Sp := fun vs H Q _ => ∃ (p t rf : Addr) (ts rs : List Str), vs = [.ref p, .ref t, .ref rf] ∧ Pu H p ∧ SqT K H t (stS ts) ∧ SqL K H rf (stS rs) ∧ rf ≠ p ∧ ts.length ≤ 50 ∧ (∀ z ∈ ts, isPl z) ∧ rs.length ≤ 8 ∧ (∀ z ∈ rs, isN z) ∧
  ∀ l zs H', But p H H' → Pu H' p → SqT K H' l (stS zs) → zs.length ≤ 100 → Lot zs → Q (.ref l) H'
section
variable {P : Program} {w : World} {K : PySem.W.Frag} {mg : Str → Option Value} {base : Heap} {H : Hp} {Q : VK}
theorem u_note {p t rf : Addr} {ts rs : List Str} (hP : Pu H p) (ht : SqT K H t (stS ts)) (hr : SqL K H rf (stS rs)) (nr : rf ≠ p) (lt : ts.length ≤ 50) (at_ : ∀ z ∈ ts, isPl z) (lr : rs.length ≤ 8) (ar : ∀ z ∈ rs, isN z)
    (q : ∀ l zs H', But p H H' → Pu H' p → SqT K H' l (stS zs) → zs.length ≤ 100 → Lot zs → Q (.ref l) H') : spNote K ([.ref p, .ref t, .ref rf] ++ []) H Q E0 := ⟨p, t, rf, ts, rs, rfl, hP, ht, hr, nr, lt, at_, lr, ar, q⟩
theorem ok__law_with_note (F : Fn0 K mg "_law_with_note" s__law_with_note ["_law_purse_here", "_law_tokens_here", "_law_refs"]) (m : Md mg) (c__law_pick : FnG P w K mg base 1 "_law_pick" ["_law_purse_here", "_law_many"] spPick) (c__law_tokens : FnG P w K mg base 3 "_law_tokens" ["_law_purse_here", "_law_upto", "_law_marks", "_law_refs", "_law_bare"] (spTokens K)) :
    FnG P w K mg base 4 "_law_with_note" ["_law_purse_here", "_law_tokens_here", "_law_refs"] (spNote K) := by
  refine F.ok sc__law_with_note (fun vs H Q E h => ?_) (fun a cdv A outer s H vs Q E L hr h => ?_)
  · obtain ⟨p, t, rf, ts, rs, rfl, _⟩ := h
    rfl
  have nd := sc__law_with_note.nd
  refine ⟨_, (pss_cons (ps_par (i := 3) (j := 4) rfl nd rfl rfl (by decide) rfl rfl (pa_cons (pe_callG c__law_pick (hr.mono (by decide)) (by rfl) (pa_cons (pv 0) (pa_cons (pe_op (ob L) (pe_callB (oc L) (by rfl) m.len_ bt_len (pa_cons (pv 1) pa_nil)) pe_int) pa_nil))) (pa_cons (pe_ix (oi L) (pe_lst (pa_cons (pe_tup (pa_cons pe_str (pa_cons pe_str pa_nil))) (pa_cons (pe_tup (pa_cons pe_str (pa_cons pe_str pa_nil))) pa_nil))) (pe_callG c__law_pick (hr.mono (by decide)) (by rfl) (pa_cons (pv 0) (pa_cons pe_int pa_nil))) (fun _ _ => rfl)) pa_nil)) (by rfl)) (pss_cons (ps_set (i := 5) nd rfl (.inl rfl) (pe_callG c__law_tokens (hr.mono (by decide)) (by rfl) (pa_cons (pv 0) (pa_cons pe_int (pa_cons (pe_lst pa_nil) (pa_cons (pv 2) (pa_cons pe_bl pa_nil))))))) (pss_cons (ps_if (PW.pt (pw_or (pt_cmpR (op_ L) pe_str (pv 1) rfl) (pw_or1 (pt_cmpR (op_ L) pe_str (pv 1) rfl)))) (pss_one (ps_ret (pv 1))) pss_nil) (pss_one (ps_ret (pe_op (ob L) (pe_op (ob L) (pe_op (ob L) (pe_op (ob L) (pe_slice (osl L) (pv 1) po_none (po_some (pv 3))) (pe_slice (osl L) (pv 4) po_none (po_some pe_int))) (pv 5)) (pe_slice (osl L) (pv 4) (po_some pe_int) po_none)) (pe_slice (osl L) (pv 1) (po_some (pv 3)) po_none))))))), ?_⟩
  obtain ⟨p, t, rf, ts, rs, rfl, hP, ht, hrf, nr, lt, at_, lr, ar, q⟩ := h
  walk_at "go"
  refine k_lenl (.inr ht) ?_
  rw [stS_len]
  walk_at "go"
  refine u_pick hP (by omega) (by omega) fun r H1 b1 P1 r0 r1 => ?_
  walk_at "go"
  refine ⟨sz1000 (by simp), fun g1 hg1 => ?_⟩
  walk_at "go"
  refine ⟨sz1000 (by simp), fun g2 hg2 => ?_⟩
  walk_at "go"
  refine ⟨sz1000 (by simp), fun g3 hg3 => ?_⟩
  have P2 : Pu (upd H1 g1 (.tup [.str "{", .str "}"])) p := P1.up (P1.ne hg1)
  have P3 : Pu (upd (upd H1 g1 (.tup [.str "{", .str "}"])) g2 (.tup [.str "[", .str "]"])) p := P2.up (P2.ne hg2)
  have n3 := P3.ne hg3
  have P4 : Pu (upd (upd (upd H1 g1 (.tup [.str "{", .str "}"])) g2 (.tup [.str "[", .str "]"])) g3 (.lst [.ref g1, .ref g2])) p := P3.up n3
  have t2 : SqT K (upd (upd (upd H1 g1 (.tup [.str "{", .str "}"])) g2 (.tup [.str "[", .str "]"])) g3 (.lst [.ref g1, .ref g2])) g2 [.str "[", .str "]"] := Same.sqt (Same.new hg3) (SqT.of upd_same)
  have t1 : SqT K (upd (upd (upd H1 g1 (.tup [.str "{", .str "}"])) g2 (.tup [.str "[", .str "]"])) g3 (.lst [.ref g1, .ref g2])) g1 [.str "{", .str "}"] := Same.sqt ((Same.new hg2).trans (Same.new hg3)) (SqT.of upd_same)
  have bb := b1.trans (But.trans (But.new (q := p) hg1 (o := .tup [.str "{", .str "}"])) (But.trans (But.new hg2 (o := .tup [.str "[", .str "]"])) (But.new hg3 (o := .lst [.ref g1, .ref g2]))))
  have l3 : (upd (upd (upd H1 g1 (.tup [.str "{", .str "}"])) g2 (.tup [.str "[", .str "]"])) g3 (.lst [.ref g1, .ref g2])) g3 = some (.lst [.ref g1, .ref g2]) := upd_same
  generalize (upd (upd (upd H1 g1 (.tup [.str "{", .str "}"])) g2 (.tup [.str "[", .str "]"])) g3 (.lst [.ref g1, .ref g2])) = H4 at P4 t1 t2 bb l3 ⊢
  walk_at "go"
  refine u_pick P4 (by decide) (by decide) fun s H5 b5 P5 s0 s1 => ?_
  refine i_draw (SqL.of (b5 _ _ n3 l3)) s0 s1 fun x hx => ?_
  obtain ⟨g, o, c, cl, rfl, tg, hoc⟩ : ∃ g o c cl, x = .ref g ∧ SqT K H5 g [.str o, .str c] ∧ ((o = Str.ofString "{" ∧ c = Str.ofString "}" ∧ cl = 125) ∨ (o = Str.ofString "[" ∧ c = Str.ofString "]" ∧ cl = 93)) := by
    simp only [List.mem_cons, List.not_mem_nil, or_false] at hx
    rcases hx with rfl | rfl
    · exact ⟨_, _, _, 125, rfl, But.sqtP b5 P4 t1, .inl ⟨rfl, rfl, rfl⟩⟩
    · exact ⟨_, _, _, 93, rfl, But.sqtP b5 P4 t2, .inr ⟨rfl, rfl, rfl⟩⟩
  have bb5 := bb.trans b5
  walk_at "go"
  refine ⟨sz1000 (by simp), fun g6 hg6 => ?_⟩
  have P6 : Pu (upd H5 g6 (.lst [])) p := P5.up (P5.ne hg6)
  have bb6 : But p H (upd H5 g6 (.lst [])) := bb5.trans (But.new hg6)
  walk_at "go"
  refine u_tokens (ms := []) P6 (by decide) (by decide) (SqL.of upd_same) (bb6.sql nr hrf) (P5.ne hg6) nr (by decide) (fun _ h => nomatch h) lr ar fun l is H7 b7 P7 hl ll al => ?_
  have ll5 : is.length ≤ 5 := by
    simp only [List.length_nil] at ll
    omega
  have bb7 := bb6.trans b7
  have ht7 : SqT K H7 t (stS ts) := bb7.sqtP hP ht
  have tg7 : SqT K H7 g [.str o, .str c] := b7.sqtP P6 (Same.sqt (Same.new hg6) tg)
  walk_at "go"
  refine c_in (.inr ht7) rfl (stS_flat ts) ?_
  rw [(hasB_pl at_).1]
  walk_at "go"
  refine c_in (.inr ht7) rfl (stS_flat ts) ?_
  rw [(hasB_pl at_).2]
  obtain ⟨k, rfl⟩ : ∃ k : Nat, r = k := ⟨r.toNat, by omega⟩
  walk_at "go"
  refine sl_t ht7 fun a1 H8 s8 q8 => ?_
  rw [cutV_to'] at q8
  walk_at "go"
  refine sl_t (Same.sqt s8 tg7) fun a2 H9 s9 q9 => ?_
  rw [show (1 : Int) = ((1 : Nat) : Int) from rfl, cutV_to'] at q9
  walk_at "go"
  refine b_catT (Same.sqt s9 q8) q9 (sz1000 (by simp [stS]; omega)) fun a3 H10 s10 q10 => ?_
  walk_at "go"
  refine b_catT q10 (Same.sqt (s9.trans s10) (Same.sqt s8 (SqT.of hl))) (sz1000 (by simp [stS]; omega)) fun a4 H11 s11 q11 => ?_
  have s7 : Same H7 H11 := s8.trans (s9.trans (s10.trans s11))
  walk_at "go"
  refine sl_t (Same.sqt s7 tg7) fun a5 H12 s12 q12 => ?_
  rw [show (1 : Int) = ((1 : Nat) : Int) from rfl, cutV_from] at q12
  refine b_catT (Same.sqt s12 q11) q12 (sz1000 (by simp [stS]; omega)) fun a6 H13 s13 q13 => ?_
  walk_at "go"
  have s73 := s7.trans (s12.trans s13)
  refine sl_t (Same.sqt s73 ht7) fun a7 H14 s14 q14 => ?_
  rw [cutV_from] at q14
  refine b_catT (Same.sqt s14 q13) q14 (sz1000 (by simp [stS]; omega)) fun a8 H15 s15 q15 => ?_
  have s75 := s73.trans (s14.trans s15)
  refine q a8 (ts.take k ++ o :: (is ++ c :: ts.drop k)) H15 (bb7.trans (Same.but s75)) (P7.same s75) ?_ ?_ ?_
  · have e : stS (ts.take k ++ o :: (is ++ c :: ts.drop k)) = (List.take k (stS ts) ++ List.take 1 [V.str o, V.str c] ++ stS is ++ List.drop 1 [V.str o, V.str c]) ++ List.drop k (stS ts) := by
      simp [stS, List.map_take, List.map_drop]
    rw [e]
    exact q15
  · simp only [List.length_append, List.length_cons, List.length_take, List.length_drop]
    omega
  · exact lot_note (fun z hz => at_ z (List.mem_of_mem_take hz)) al (fun z hz => at_ z (List.mem_of_mem_drop hz)) hoc
end
end Tk

set_option Elab.async false
set_option linter.all false
set_option maxRecDepth 100000
set_option maxHeartbeats 4000000
namespace Tk
open PySem PySem.Spec PyProof.Rows L2 Lay
open TL (tl ext_tl len_tl tl_append tl_mk mk_tl)
local macro_rules | `(tactic| walk_at "if") => `(tactic| refine ite2 (fun hc => ?_) (fun hc => ?_))
local macro_rules | `(tactic| walk_at "lk") => `(tactic| first | exact upd_same | assumption)
local macro_rules | `(tactic| walk_at "st") => `(tactic| first
  | with_reducible refine r_var rfl ?_ | with_reducible refine r_c ?_ | with_reducible refine r_op ?_ | with_reducible refine r_cons ?_ | with_reducible refine r_nil ?_ | with_reducible refine r_vals ?_
  | with_reducible refine r_cb ?_ | with_reducible refine r_tup ?_ | with_reducible refine r_lst ?_ | with_reducible refine r_call ?_ | with_reducible refine r_test ?_
  | with_reducible refine r_if ?_ | with_reducible refine r_not ?_ | with_reducible refine r_bm ?_ | with_reducible refine r_sl ?_ | with_reducible refine r_np ?_ | with_reducible refine r_part ?_
  | with_reducible refine r_seq ?_ | with_reducible refine r_asg ?_ | with_reducible refine r_name ?_ | with_reducible refine r_ifs ?_ | with_reducible refine r_ret ?_ | with_reducible refine r_next ?_ | with_reducible refine r_par ?_ | with_reducible refine r_par3 ?_ | with_reducible refine r_brk ?_ | with_reducible refine r_cnt ?_ | with_reducible refine r_sub ?_
  | with_reducible refine r_andT ?_ | with_reducible refine r_orT ?_ | with_reducible refine r_notT ?_ | with_reducible refine r_or ?_ | with_reducible refine r_and ?_ | with_reducible refine r_tB ?_ | with_reducible refine r_drop ?_ | with_reducible refine r_callN ?_ | with_reducible refine r_chain ?_
  | with_reducible refine r_for ?_ | with_reducible refine r_lc ?_ | with_reducible refine r_iseq ?_ | with_reducible refine r_rng1 ?_ | with_reducible refine r_enum ?_ | with_reducible refine r_yes ?_ | with_reducible refine r_tru ?_ | with_reducible refine r_gtup ?_ | with_reducible refine r_gcons ?_ | with_reducible refine r_gnil ?_
  | with_reducible refine b_add ?_ | with_reducible refine b_sub ?_ | (with_reducible refine b_mul (by unfold CMul; omega) ?_) | (with_reducible refine b_mod (by omega) ?_) | (with_reducible refine b_fdiv (by unfold CDiv; omega) ?_)
  | with_reducible refine c_lt ?_ | with_reducible refine c_le ?_ | with_reducible refine c_gt ?_ | with_reducible refine c_ge ?_ | with_reducible refine c_isN ?_ | with_reducible refine c_notN ?_ | with_reducible refine c_isB ?_ | with_reducible refine c_eq rfl ?_ | with_reducible refine c_ne rfl ?_
  | with_reducible refine c_insign ?_ | with_reducible refine k_int ?_ | with_reducible refine k_intb ?_ | with_reducible refine k_max ?_ | with_reducible refine k_min ?_
  | with_reducible refine ⟨_, rfl, ?_⟩
  | with_reducible refine ex_par ?_
  | with_reducible refine r_back ?_
  | with_reducible refine ex_par3 ?_
  | with_reducible refine ty_s ?_
  | with_reducible refine tru_b ?_
  | with_reducible refine iteT ?_ | with_reducible refine iteF ?_ | with_reducible refine itnT ?_ | with_reducible refine itnF ?_)
local macro_rules | `(tactic| walk_at "go") => `(tactic| repeat walk_at "st")
local macro_rules | `(tactic| walk_at "cl") => `(tactic| try dsimp only [cxOf, Cx.nox, Cx.wish])
/-! ### the law's own reading of tokens -/
abbrev s__law_is_name : Stmt := topS 77
theorem sc__law_is_name : FnScope ["_law_matter", "_law_sign"] ["_law_matter"] (defScope s__law_is_name) := ⟨rfl, rfl, rfl, by decide +kernel, rfl, by decide +kernel, by decide +kernel⟩
abbrev s__law_is_word : Stmt := topS 78
theorem sc__law_is_word : FnScope ["_law_matter", "_law_sign"] ["_law_matter"] (defScope s__law_is_word) := ⟨rfl, rfl, rfl, by decide +kernel, rfl, by decide +kernel, by decide +kernel⟩
abbrev s__law_is_token : Stmt := topS 79
theorem sc__law_is_token : FnScope ["_law_matter"] ["_law_matter"] (defScope s__law_is_token) := ⟨rfl, rfl, rfl, by decide +kernel, rfl, by decide +kernel, by decide +kernel⟩
section
variable {P : Program} {w : World} {K : PySem.W.Frag} {mg : Str → Option Value} {base : Heap}
theorem kit_str {H : Hp} {x : V} {T : String} (t : Tyb K H x T) : kitT T "str" = some (T == "str") := by
  cases t <;> decide +kernel
theorem kit_tup {H : Hp} {x : V} {T : String} (t : Tyb K H x T) : kitT T "tuple" = some (T == "tuple") := by
  cases t <;> decide +kernel
theorem ok__law_is_name (F : Fn0 K mg "_law_is_name" s__law_is_name ["_law_matter"]) (m : Md mg) : FnG P w K mg base 1 "_law_is_name" ["_law_matter"] (spIsA K sSmall 8) := by
  refine F.ok sc__law_is_name (fun vs H Q E h => ?_) (fun a cdv A outer s H vs Q E L hr h => ?_)
  · obtain ⟨x, T, rfl, _⟩ := h
    rfl
  have nd := sc__law_is_name.nd
  refine ⟨_, (pss_cons (ps_if (PW.pt (pw_or (pt_not (pt_truthL L (pe_callB (oc L) (by rfl) m.isinstance_ bt_isinstance (pa_cons (pv 0) (pa_cons (pe_bltn (v := .ty "str") (by rfl) m.str_ bt_str rfl) pa_nil))))) (pw_or1 (pt_not (pt_chain (op_ L) (op_ L) pe_int (pe_callB (oc L) (by rfl) m.len_ bt_len (pa_cons (pv 0) pa_nil)) pe_int))))) (pss_one (ps_ret pe_bl)) pss_nil) (pss_one (ps_ret (pe_callB (oc L) (by rfl) m.all_ bt_all (pa_cons (pe_lc (own := [("_law_sign", 1)]) rfl nd (pi_seqL L (pv 0)) (blkOk_by (own := [("_law_sign", 1)]) (N := ["_law_matter", "_law_sign"]) (sc := defScope s__law_is_name) (by decide +kernel)) (fun _ _ _ _ _ => (pg_name (i := 1) nd rfl (.inl rfl))) (fun _ _ _ _ _ => inT L.b pts_nil) (fun _ _ _ _ _ => inE L.b (pe_cmpR (op_ L.b) (pv 1) pe_str rfl))) pa_nil))))), ?_⟩
  obtain ⟨x, T, rfl, t, hx, q⟩ := h
  walk_at "go"
  refine k_isT t (kit_str t) ?_
  walk_at "go"
  by_cases hT : (T == "str") = true
  · obtain ⟨z, rfl⟩ := str_of (eq_of_beq hT ▸ t)
    rw [hT]
    have hz := line_of (hx z rfl)
    walk_at "go"
    refine k_lens hz ?_
    walk_at "go"
    have fin : ∀ c : Bool, c = isOf sSmall 8 z → ∀ H', Same H H' → Q (.bl c) H' := fun c e H' s => by
      rw [e]
      exact q H' s
    refine ite2 (fun h1 => ?_) (fun h1 => ?_)
    · walk_at "go"
      refine ite2 (fun h2 => ?_) (fun h2 => ?_)
      · walk_at "go"
        refine fin false ?_ H (Same.refl H)
        rw [isOf_eq]
        simp at h1 h2 ⊢
        intro h3 h4
        omega
      · walk_at "go"
        refine .inr (.inr ⟨z, rfl, fun D hD => ?_⟩)
        refine lc_pureL z.cps.toList 0 walk_strL (fun _ => true) (fun c => .bl (decide (c ∈ (sSmall : Str).cps.toList))) (by
          refine Nat.lt_of_le_of_lt (hx z rfl) ?_
          rw [sizeLine_eq]
          decide) hD (fun _ _ => True.intro) (fun i c x H' H'' hi sm hy C1 C0 h1 h0 => ?_) (fun H' sm hd => ?_)
        · obtain ⟨rfl, c2, hc2, rfl⟩ := hy
          cases hi.symm.trans hc2
          walk_at "go"
          refine ⟨rfl, ?_⟩
          walk_at "go"
          exact h1 rfl _ (Same.refl _)
        · rw [filter_yes, ← Function.comp_def V.bl, ← List.map_map] at hd
          walk_at "go"
          refine k_all (SqL.of hd) ?_
          refine fin _ ?_ _ sm
          rw [isOf_eq, show decide (1 ≤ (z.length : Int)) = true by simp at h1 ⊢; omega, show decide ((z.length : Int) ≤ 8) = true by simp at h2 ⊢; omega, Bool.true_and, Bool.true_and, List.all_map]
          rfl
    · walk_at "go"
      refine fin false ?_ H (Same.refl H)
      rw [isOf_eq]
      simp at h1 ⊢
      omega
  · have e := isOfV_no (signs := sSmall) (most := 8) t hT
    rw [show (T == "str") = false by simpa using hT]
    rw [e] at q
    walk_at "go"
    exact q H (Same.refl H)
theorem ok__law_is_word (F : Fn0 K mg "_law_is_word" s__law_is_word ["_law_matter"]) (m : Md mg) : FnG P w K mg base 1 "_law_is_word" ["_law_matter"] (spIsA K sWord 12) := by
  refine F.ok sc__law_is_word (fun vs H Q E h => ?_) (fun a cdv A outer s H vs Q E L hr h => ?_)
  · obtain ⟨x, T, rfl, _⟩ := h
    rfl
  have nd := sc__law_is_word.nd
  refine ⟨_, (pss_cons (ps_if (PW.pt (pw_or (pt_not (pt_truthL L (pe_callB (oc L) (by rfl) m.isinstance_ bt_isinstance (pa_cons (pv 0) (pa_cons (pe_bltn (v := .ty "str") (by rfl) m.str_ bt_str rfl) pa_nil))))) (pw_or1 (pt_not (pt_chain (op_ L) (op_ L) pe_int (pe_callB (oc L) (by rfl) m.len_ bt_len (pa_cons (pv 0) pa_nil)) pe_int))))) (pss_one (ps_ret pe_bl)) pss_nil) (pss_one (ps_ret (pe_callB (oc L) (by rfl) m.all_ bt_all (pa_cons (pe_lc (own := [("_law_sign", 1)]) rfl nd (pi_seqL L (pv 0)) (blkOk_by (own := [("_law_sign", 1)]) (N := ["_law_matter", "_law_sign"]) (sc := defScope s__law_is_word) (by decide +kernel)) (fun _ _ _ _ _ => (pg_name (i := 1) nd rfl (.inl rfl))) (fun _ _ _ _ _ => inT L.b pts_nil) (fun _ _ _ _ _ => inE L.b (pe_cmpR (op_ L.b) (pv 1) pe_str rfl))) pa_nil))))), ?_⟩
  obtain ⟨x, T, rfl, t, hx, q⟩ := h
  walk_at "go"
  refine k_isT t (kit_str t) ?_
  walk_at "go"
  by_cases hT : (T == "str") = true
  · obtain ⟨z, rfl⟩ := str_of (eq_of_beq hT ▸ t)
    rw [hT]
    have hz := line_of (hx z rfl)
    walk_at "go"
    refine k_lens hz ?_
    walk_at "go"
    have fin : ∀ c : Bool, c = isOf sWord 12 z → ∀ H', Same H H' → Q (.bl c) H' := fun c e H' s => by
      rw [e]
      exact q H' s
    refine ite2 (fun h1 => ?_) (fun h1 => ?_)
    · walk_at "go"
      refine ite2 (fun h2 => ?_) (fun h2 => ?_)
      · walk_at "go"
        refine fin false ?_ H (Same.refl H)
        rw [isOf_eq]
        simp at h1 h2 ⊢
        intro h3 h4
        omega
      · walk_at "go"
        refine .inr (.inr ⟨z, rfl, fun D hD => ?_⟩)
        refine lc_pureL z.cps.toList 0 walk_strL (fun _ => true) (fun c => .bl (decide (c ∈ (sWord : Str).cps.toList))) (by
          refine Nat.lt_of_le_of_lt (hx z rfl) ?_
          rw [sizeLine_eq]
          decide) hD (fun _ _ => True.intro) (fun i c x H' H'' hi sm hy C1 C0 h1 h0 => ?_) (fun H' sm hd => ?_)
        · obtain ⟨rfl, c2, hc2, rfl⟩ := hy
          cases hi.symm.trans hc2
          walk_at "go"
          refine ⟨rfl, ?_⟩
          walk_at "go"
          exact h1 rfl _ (Same.refl _)
        · rw [filter_yes, ← Function.comp_def V.bl, ← List.map_map] at hd
          walk_at "go"
          refine k_all (SqL.of hd) ?_
          refine fin _ ?_ _ sm
          rw [isOf_eq, show decide (1 ≤ (z.length : Int)) = true by simp at h1 ⊢; omega, show decide ((z.length : Int) ≤ 12) = true by simp at h2 ⊢; omega, Bool.true_and, Bool.true_and, List.all_map]
          rfl
    · walk_at "go"
      refine fin false ?_ H (Same.refl H)
      rw [isOf_eq]
      simp at h1 ⊢
      omega
  · have e := isOfV_no (signs := sWord) (most := 12) t hT
    rw [show (T == "str") = false by simpa using hT]
    rw [e] at q
    walk_at "go"
    exact q H (Same.refl H)
theorem isW_tok {z : Str} (h : isOf sWord 12 z = true) : isTok z = true := (isW.pl h).1
theorem ok__law_is_token (F : Fn0 K mg "_law_is_token" s__law_is_token ["_law_matter"]) (m : Md mg) (c__law_is_name : FnG P w K mg base 1 "_law_is_name" ["_law_matter"] (spIsA K sSmall 8)) (c__law_is_word : FnG P w K mg base 1 "_law_is_word" ["_law_matter"] (spIsA K sWord 12)) :
    FnG P w K mg base 2 "_law_is_token" ["_law_matter"] (spIsToken K) := by
  refine F.ok sc__law_is_token (fun vs H Q E h => ?_) (fun a cdv A outer s H vs Q E L hr h => ?_)
  · obtain ⟨x, T, rfl, _⟩ := h
    rfl
  have nd := sc__law_is_token.nd
  refine ⟨_, (pss_cons (ps_if (PW.pt (pw_or (pt_truthL L (pe_callG c__law_is_word (hr.mono (by decide)) (by rfl) (pa_cons (pv 0) pa_nil))) (pw_or1 (PW.pt (pw_and (pt_truthL L (pe_callB (oc L) (by rfl) m.isinstance_ bt_isinstance (pa_cons (pv 0) (pa_cons (pe_bltn (v := .ty "str") (by rfl) m.str_ bt_str rfl) pa_nil)))) (pw_and1 (pt_cmpR (op_ L) (pv 0) (pe_tup (pa_strs ["{", "}", "[", "]"])) rfl))))))) (pss_one (ps_ret pe_bl)) pss_nil) (pss_cons (ps_if (PW.pt (pw_or (pt_not (pt_truthL L (pe_callB (oc L) (by rfl) m.isinstance_ bt_isinstance (pa_cons (pv 0) (pa_cons (pe_bltn (v := .ty "str") (by rfl) m.str_ bt_str rfl) pa_nil))))) (pw_or1 (pt_cmpR (op_ L) (pe_slice (osl L) (pv 0) po_none (po_some pe_int)) (pe_tup (pa_strs ["@", "#", "~", "&", "^"])) rfl)))) (pss_one (ps_ret pe_bl)) pss_nil) (pss_one (ps_ret (pe_ifExp (pt_cmpR (op_ L) (pe_ix (oi L) (pv 0) pe_int (fun _ _ => rfl)) pe_str (nomark _)) (pe_callG c__law_is_word (hr.mono (by decide)) (by rfl) (pa_cons (pe_slice (osl L) (pv 0) (po_some pe_int) po_none) pa_nil)) (pe_callG c__law_is_name (hr.mono (by decide)) (by rfl) (pa_cons (pe_slice (osl L) (pv 0) (po_some pe_int) po_none) pa_nil))))))), ?_⟩
  obtain ⟨x, T, rfl, t, hx, q⟩ := h
  have q2 : ∀ k : Bool, isTokV x = k → ∀ H', Same H H' → Q (.bl k) H' := fun k ek H' s => ek ▸ q H' s
  walk_at "go"
  refine u_isA t hx fun H1 s1 => ?_
  walk_at "go"
  have t1 := Tyb.same s1 t
  by_cases hT : (T == "str") = true
  · have eT := eq_of_beq hT
    subst eT
    obtain ⟨z, rfl⟩ := str_of t
    have hz := hx z rfl
    have hl := line_of hz
    have e0 : isTokV (.str z) = tokL (tl z) := rfl
    refine ite2 (fun h1 => ?_) (fun h1 => ?_)
    · walk_at "go"
      exact q2 true (isW_tok h1) _ s1
    have n1 : ofL sWord.cps.toList 12 (tl z) = false := by
      have : isOfV sWord 12 (.str z) = false := by simpa using h1
      exact this
    walk_at "go"
    refine k_isT (c := true) (.str z) (by decide +kernel) ?_
    walk_at "go"
    refine ⟨sz1000 (by simp), fun g1 hg1 => ?_⟩
    refine c_in (.inr (SqT.of upd_same)) rfl rfl ?_
    rw [show (List.map V.str [Str.ofString "{", Str.ofString "}", Str.ofString "[", Str.ofString "]"]) = brs from rfl, in_brs]
    walk_at "go"
    have s2 := s1.trans (Same.new hg1 (o := .tup brs))
    refine ite2 (fun h2 => ?_) (fun h2 => ?_)
    · walk_at "go"
      refine q2 true ?_ _ s2
      rw [e0]
      simp at h2
      rcases h2 with h2 | h2 | h2 | h2 <;> rw [h2] <;> decide +kernel
    have nb : tl z ∉ [[123], [125], [91], [93]] := by simpa using h2
    walk_at "go"
    refine k_isT (c := true) (.str z) (by decide +kernel) ?_
    walk_at "go"
    refine sl_s hl ?_
    walk_at "go"
    refine ⟨sz1000 (by simp), fun g2 hg2 => ?_⟩
    refine c_notin (.inr (SqT.of upd_same)) rfl rfl ?_
    have s3 := s2.trans (Same.new hg2 (o := .tup (List.map V.str [Str.ofString "@", Str.ofString "#", Str.ofString "~", Str.ofString "&", Str.ofString "^"])))
    have i5 : inV (.str (cutS z none (some 1))) (List.map V.str [Str.ofString "@", Str.ofString "#", Str.ofString "~", Str.ofString "&", Str.ofString "^"]) = decide ((tl z).take 1 ∈ [[64], [35], [126], [38], [94]]) := by
      have ec : tl (cutS z none (some 1)) = (tl z).take 1 := by
        show (((tl z).drop (HT.sIx z.length 0 none)).take (HT.sIx z.length z.length (some ((1 : Nat) : Int)) - HT.sIx z.length 0 none)) = _
        rw [HT.sIx_none, HT.sIx_nat, List.drop_zero, Nat.sub_zero, len_tl]
        generalize tl z = l
        cases l with
        | nil => rfl
        | cons c r => rw [List.length_cons, show min 1 (r.length + 1) = 1 by omega]
      unfold inV
      simp only [List.map_cons, List.map_nil, List.any_cons, List.any_nil, Bool.or_false, eqV, is_str tl_at, is_str tl_nu, is_str tl_ti, is_str tl_am, is_str tl_up, ec]
      simp only [List.mem_cons, List.not_mem_nil, or_false, Bool.decide_or]
    rw [i5]
    walk_at "go"
    refine ite2 (fun h3 => ?_) (fun h3 => ?_)
    · walk_at "go"
      refine q2 false ?_ _ s3
      rw [e0]
      cases e : tl z with
      | nil => rfl
      | cons c r =>
        rw [e] at h3 n1 nb
        have h5 : List.take 1 (c :: r) ∉ [[64], [35], [126], [38], [94]] := fun hm => by
          rw [decide_eq_true hm] at h3
          exact absurd h3 (by decide)
        simp at h5
        have n2 : ¬ (r = [] ∧ c ∈ [123, 125, 91, 93]) := fun ⟨e1, e2⟩ => nb (by
          subst e1
          simpa using e2)
        rw [tokL_cons, if_neg n2, if_neg (by simp; omega), if_neg (by omega)]
        exact n1
    · obtain ⟨c, r, e, hc⟩ : ∃ c r, tl z = c :: r ∧ c ∈ [64, 35, 126, 38, 94] := by
        cases e : tl z with
        | nil =>
          rw [e] at h3
          simp at h3
        | cons c r =>
          rw [e] at h3
          have h5 : List.take 1 (c :: r) ∈ [[64], [35], [126], [38], [94]] := by
            refine of_decide_eq_true ?_
            cases hh : decide (List.take 1 (c :: r) ∈ [[64], [35], [126], [38], [94]]) with
            | true => rfl
            | false => exact absurd (by rw [hh]; rfl) h3
          exact ⟨c, r, rfl, by simpa using h5⟩
      have hb : ¬ (r = [] ∧ c ∈ [123, 125, 91, 93]) := fun z => by
        have := z.2
        simp at this hc
        omega
      have c0 : atI z.cps.toList 0 = some c := atI_nat (j := 0) (by rw [show z.cps.toList = c :: r from e]; rfl)
      walk_at "go"
      refine i_str hl c0 ?_
      walk_at "go"
      have e94 : decide (V.str ⟨#[c]⟩ = .str (Str.ofString "^")) = decide (c = 94) := by
        by_cases h : c = 94
        · subst h
          decide +kernel
        · rw [decide_eq_false h]
          refine decide_eq_false fun z => h ?_
          have h5 : (⟨#[c]⟩ : Str) = Str.ofString "^" := by injection z
          have h6 := congrArg tl h5
          rw [tl_up] at h6
          exact (List.cons.inj h6).1
      rw [e94]
      refine ite2 (fun h4 => ?_) (fun h4 => ?_)
      · have h5 : c = 94 := by simpa using h4
        walk_at "go"
        refine sl_s hl ?_
        refine u_isA (.str _) (cut_ok _ _ hz) fun H4 s4 => ?_
        refine q2 _ ?_ _ (s3.trans s4)
        rw [e0, e, tokL_cons, if_neg hb, if_neg (by simp; omega), if_pos h5]
        show _ = ofL _ _ (tl (cutS z (some 1) none))
        rw [cut1_tl e]
      · have h5 : ¬ c = 94 := by simpa using h4
        walk_at "go"
        refine sl_s hl ?_
        refine u_isA (.str _) (cut_ok _ _ hz) fun H4 s4 => ?_
        refine q2 _ ?_ _ (s3.trans s4)
        rw [e0, e, tokL_cons, if_neg hb, if_pos (by simp at hc ⊢; omega)]
        show _ = ofL _ _ (tl (cutS z (some 1) none))
        rw [cut1_tl e]
  · have e1 := isOfV_no (signs := sWord) (most := 12) t hT
    have e2 : (T == "str") = false := by simpa using hT
    rw [e1]
    walk_at "go"
    refine k_isT t1 (kit_str t1) ?_
    rw [e2]
    walk_at "go"
    refine k_isT t1 (kit_str t1) ?_
    rw [e2]
    walk_at "go"
    exact q2 false (isTokV_no t hT) _ s1
end
end Tk

set_option Elab.async false
set_option linter.all false
set_option maxRecDepth 100000
set_option maxHeartbeats 4000000
namespace Tk
open PySem PySem.Spec PyProof.Rows L2 Lay
open TL (tl ext_tl len_tl tl_append tl_mk mk_tl)
local macro_rules | `(tactic| walk_at "if") => `(tactic| refine ite2 (fun hc => ?_) (fun hc => ?_))
local macro_rules | `(tactic| walk_at "lk") => `(tactic| first | exact upd_same | assumption)
local macro_rules | `(tactic| walk_at "st") => `(tactic| first
  | with_reducible refine r_var rfl ?_ | with_reducible refine r_c ?_ | with_reducible refine r_op ?_ | with_reducible refine r_cons ?_ | with_reducible refine r_nil ?_ | with_reducible refine r_vals ?_
  | with_reducible refine r_cb ?_ | with_reducible refine r_tup ?_ | with_reducible refine r_lst ?_ | with_reducible refine r_call ?_ | with_reducible refine r_test ?_
  | with_reducible refine r_if ?_ | with_reducible refine r_not ?_ | with_reducible refine r_bm ?_ | with_reducible refine r_sl ?_ | with_reducible refine r_np ?_ | with_reducible refine r_part ?_
  | with_reducible refine r_seq ?_ | with_reducible refine r_asg ?_ | with_reducible refine r_name ?_ | with_reducible refine r_ifs ?_ | with_reducible refine r_ret ?_ | with_reducible refine r_next ?_ | with_reducible refine r_par ?_ | with_reducible refine r_par3 ?_ | with_reducible refine r_brk ?_ | with_reducible refine r_cnt ?_ | with_reducible refine r_sub ?_
  | with_reducible refine r_andT ?_ | with_reducible refine r_orT ?_ | with_reducible refine r_notT ?_ | with_reducible refine r_or ?_ | with_reducible refine r_and ?_ | with_reducible refine r_tB ?_ | with_reducible refine r_drop ?_ | with_reducible refine r_callN ?_ | with_reducible refine r_chain ?_
  | with_reducible refine r_for ?_ | with_reducible refine r_lc ?_ | with_reducible refine r_iseq ?_ | with_reducible refine r_rng1 ?_ | with_reducible refine r_enum ?_ | with_reducible refine r_yes ?_ | with_reducible refine r_tru ?_ | with_reducible refine r_gtup ?_ | with_reducible refine r_gcons ?_ | with_reducible refine r_gnil ?_
  | with_reducible refine b_add ?_ | with_reducible refine b_sub ?_ | (with_reducible refine b_mul (by unfold CMul; omega) ?_) | (with_reducible refine b_mod (by omega) ?_) | (with_reducible refine b_fdiv (by unfold CDiv; omega) ?_)
  | with_reducible refine c_lt ?_ | with_reducible refine c_le ?_ | with_reducible refine c_gt ?_ | with_reducible refine c_ge ?_ | with_reducible refine c_isN ?_ | with_reducible refine c_notN ?_ | with_reducible refine c_isB ?_ | with_reducible refine c_eq rfl ?_ | with_reducible refine c_ne rfl ?_
  | with_reducible refine c_insign ?_ | with_reducible refine k_int ?_ | with_reducible refine k_intb ?_ | with_reducible refine k_max ?_ | with_reducible refine k_min ?_
  | with_reducible refine i_lst (by first | exact SqL.of upd_same | exact SqL.of (by assumption) | assumption) rfl ?_
  | with_reducible refine st_l (by walk_at "lk") rfl ?_
  | with_reducible refine ⟨_, rfl, ?_⟩
  | with_reducible refine ex_par ?_
  | with_reducible refine r_back ?_
  | with_reducible refine ex_par3 ?_
  | with_reducible refine ty_s ?_
  | with_reducible refine tru_b ?_
  | with_reducible refine iteT ?_ | with_reducible refine iteF ?_ | with_reducible refine itnT ?_ | with_reducible refine itnF ?_)
local macro_rules | `(tactic| walk_at "go") => `(tactic| repeat walk_at "st")
local macro_rules | `(tactic| walk_at "cl") => `(tactic| try dsimp only [cxOf, Cx.nox, Cx.wish])
/-! ### the law's own reading of many tokens -/
abbrev s__law_amiss : Stmt := topS 80
theorem sc__law_amiss : FnScope ["_law_some", "_law_pairs", "_law_begun", "_law_at"] ["_law_some"] (defScope s__law_amiss) := ⟨rfl, rfl, rfl, by decide +kernel, rfl, by decide +kernel, by decide +kernel⟩
def bg (cl : Nat) : V := if cl = 0 then .non else if cl = 125 then .str (Str.ofString "{") else .str (Str.ofString "[")
def spAmiss (K : PySem.W.Frag) : Sp := fun vs H Q _ => ∃ a xs, vs = [.ref a] ∧ SqT K H a xs ∧ TupOk K H xs ∧ xs.length ≤ 1000000 ∧ ∀ H', Same H H' → Q (wrongV xs) H'
theorem u_amiss {K : PySem.W.Frag} {H : Hp} {Q : VK} {a : Addr} {xs : List V} (h : SqT K H a xs) (o : TupOk K H xs) (l : xs.length ≤ 1000000) (q : ∀ H', Same H H' → Q (wrongV xs) H') : spAmiss K ([.ref a] ++ []) H Q E0 := ⟨a, xs, rfl, h, o, l, q⟩
section
variable {P : Program} {w : World} {K : PySem.W.Frag} {mg : Str → Option Value} {base : Heap}
theorem ok__law_amiss (F : Fn0 K mg "_law_amiss" s__law_amiss ["_law_some"]) (m : Md mg) (c__law_is_token : FnG P w K mg base 2 "_law_is_token" ["_law_matter"] (spIsToken K)) :
    FnG P w K mg base 3 "_law_amiss" ["_law_some"] (spAmiss K) := by
  refine F.ok sc__law_amiss (fun vs H Q E h => ?_) (fun a cdv A outer s H vs Q E L hr h => ?_)
  · obtain ⟨x, xs, rfl, _⟩ := h
    rfl
  have nd := sc__law_amiss.nd
  refine ⟨_, (pss_cons (ps_par (i := 1) (j := 2) rfl nd rfl rfl (by decide) rfl rfl (pa_cons (pe_disp (pps_cons pe_str pe_str (pps_cons pe_str pe_str pps_nil)) (by rfl) (by rfl) (fun z => by cases z) (by decide)) (pa_cons pe_non pa_nil)) (by rfl)) (pss_cons (ps_for PassesOwn.never rfl (pi_range1 (by rfl) m.range_ (pa_cons (pe_callB (oc L) (by rfl) m.len_ bt_len (pa_cons (pv 0) pa_nil)) pa_nil)) (pg_name (i := 3) nd rfl (.inl rfl)) (pss_cons (ps_if (pt_not (pt_truthL L (pe_callG c__law_is_token (hr.mono (by decide)) (by rfl) (pa_cons (pe_ix (oi L) (pv 0) (pv 3) (fun _ _ => rfl)) pa_nil)))) (pss_one (ps_ret (pv 3))) pss_nil) (pss_one (ps_if (pt_cmpR (op_ L) (pe_ix (oi L) (pv 0) (pv 3) (fun _ _ => rfl)) (pv 1) rfl) (pss_cons (ps_if (pt_cmpR (op_ L) (pv 2) pe_non (nomark _)) (pss_one (ps_ret (pv 3))) pss_nil) (pss_one (ps_set (i := 2) nd rfl (.inl rfl) (pe_ix (oi L) (pv 0) (pv 3) (fun _ _ => rfl))))) (pss_one (ps_if (pt_cmpR (op_ L) (pe_ix (oi L) (pv 0) (pv 3) (fun _ _ => rfl)) (pe_tup (pa_cons pe_str (pa_cons pe_str pa_nil))) rfl) (pss_cons (ps_if (PW.pt (pw_or (pt_cmpR (op_ L) (pv 2) pe_non (nomark _)) (pw_or1 (pt_cmpR (op_ L) (pe_ix (oi L) (pv 1) (pv 2) (fun _ _ => rfl)) (pe_ix (oi L) (pv 0) (pv 3) (fun _ _ => rfl)) (nomark _))))) (pss_one (ps_ret (pv 3))) pss_nil) (pss_one (ps_set (i := 2) nd rfl (.inl rfl) pe_non))) pss_nil)))))) (pss_one (ps_ret (pe_ix (oi L) (pe_lst (pa_cons pe_non (pa_cons (pe_callB (oc L) (by rfl) m.len_ bt_len (pa_cons (pv 0) pa_nil)) pa_nil))) (pe_callTy (oc L) (by rfl) m.int_ bt_int (pa_cons (pe_orL L (pe_cmpR (op_ L) (pv 2) pe_non (nomark _)) (pe_one (pe_cmpR (op_ L) (pe_callB (oc L) (by rfl) m.len_ bt_len (pa_cons (pv 0) pa_nil)) pe_int (nomark _)))) pa_nil)) (fun _ _ => rfl)))))), ?_⟩
  obtain ⟨a, xs, rfl, hS, hO, lx, q⟩ := h
  walk_at "go"
  refine r_disp fun d hd => ?_
  refine r_pcons ?_
  walk_at "go"
  refine r_pcons ?_
  walk_at "go"
  refine r_pnil ?_
  refine ⟨upd_same, [(.inr (Str.ofString "{"), .str (Str.ofString "}")), (.inr (Str.ofString "["), .str (Str.ofString "]"))], rfl, by decide, ?_⟩
  rw [show mergeK [] [((Sum.inr (Str.ofString "{") : Key), V.str (Str.ofString "}")), (.inr (Str.ofString "["), .str (Str.ofString "]"))] = [(.inr (Str.ofString "{"), .str (Str.ofString "}")), (.inr (Str.ofString "["), .str (Str.ofString "]"))] by decide +kernel, upd_upd]
  have sd : Same H (upd H d (.dK [(.inr (Str.ofString "{"), .str (Str.ofString "}")), (.inr (Str.ofString "["), .str (Str.ofString "]"))])) := Same.new hd
  have hD : (upd H d (.dK [(.inr (Str.ofString "{"), .str (Str.ofString "}")), (.inr (Str.ofString "["), .str (Str.ofString "]"))])) d = some (.dK [(.inr (Str.ofString "{"), .str (Str.ofString "}")), (.inr (Str.ofString "["), .str (Str.ofString "]"))]) := upd_same
  generalize upd H d (.dK [(.inr (Str.ofString "{"), .str (Str.ofString "}")), (.inr (Str.ofString "["), .str (Str.ofString "]"))]) = H0 at sd hD ⊢
  have nk : Str.ofString "{" ≠ Str.ofString "[" := by decide +kernel
  walk_at "go"
  refine k_lenl (.inr (Same.sqt sd hS)) ?_
  walk_at "go"
  refine ⟨by omega, by omega, ?_⟩
  rw [Int.toNat_natCast]
  refine fo_it walk_range (fun i σ H' => ∃ cl v3, σ = [some (.ref a), some (.ref d), some (bg cl), v3] ∧ Same H0 H' ∧ scan i cl (xs.drop i) = scan 0 0 xs ∧ (cl = 0 ∨ cl = 125 ∨ cl = 93)) ⟨0, none, rfl, Same.refl _, rfl, .inl rfl⟩
    (fun i σ H' _ _ => True.intro) (fun i v σ H1 H' hi hP hY => ?_) (fun σ H1 hP => ?_)
  · obtain ⟨cl, v3, rfl, sm, hsc, hcl⟩ := hP
    obtain ⟨rfl, rfl⟩ := hY
    have hx : xs[i]? = some xs[i] := List.getElem?_eq_getElem hi
    have hat : atI xs (0 + (i : Int)) = some xs[i] := by
      rw [Int.zero_add]
      exact atI_nat hx
    have s1 := sd.trans sm
    obtain ⟨⟨U, ty⟩, ok⟩ := (hO.same s1) xs[i] (List.getElem_mem hi)
    have nx := scan_next hsc hx
    generalize xs[i] = x at hx hat ty ok nx
    walk_at "go"
    refine i_tup (Same.sqt s1 hS) hat ?_
    walk_at "go"
    refine u_is_token ty ok fun H2 sm2 => ?_
    have s2 := s1.trans sm2
    have bgN : decide (bg cl = .non) = decide (cl = 0) := by
      rcases hcl with rfl | rfl | rfl <;> decide +kernel
    have wr : stp cl x = none → ∀ H', Same H H' → Q (.int (0 + (i : Int))) H' := fun e H' s => by
      rw [e] at nx
      have := q H' s
      unfold wrongV at this
      rw [← nx] at this
      rw [Int.zero_add]
      exact this
    walk_at "go"
    refine ite2 (fun h1 => ?_) (fun h1 => ?_)
    · walk_at "go"
      exact wr (stp_no (by simpa using h1)) _ s2
    obtain ⟨z, rfl⟩ : ∃ z, x = .str z := by
      cases x <;> first | exact ⟨_, rfl⟩ | exact absurd rfl h1
    have tk : isTok z = true := by
      have : isTokV (.str z) = true := by simpa using h1
      exact this
    have hD2 := sm2 _ _ (sm _ _ hD)
    walk_at "go"
    refine i_tup (Same.sqt s2 hS) hat ?_
    walk_at "go"
    refine c_ind (dg2 hD2 nk) ?_
    have st := stp_str cl z
    rw [if_pos tk] at st
    by_cases z1 : z = Str.ofString "{"
    · rw [if_pos z1]
      have ez : tl z = [123] := by rw [z1, tl_ob]
      rw [Option.isSome_some]
      walk_at "go"
      rw [bgN]
      walk_at "go"
      refine ite2 (fun h2 => ?_) (fun h2 => ?_)
      · have c0 : cl ≠ 0 := by simpa using h2
        walk_at "go"
        refine wr ?_ _ s2
        rw [st, if_neg (fun h => by rw [ez] at h; rcases hcl with rfl | rfl | rfl <;> simp at h), if_pos (by rw [ez]; decide), if_pos (.inl c0)]
      · have c0 : cl = 0 := by simpa using h2
        subst c0
        walk_at "go"
        refine i_tup (Same.sqt s2 hS) hat ?_
        walk_at "go"
        rw [st, if_neg (by simp), if_pos (by rw [ez]; decide), if_neg (by rw [ez]; decide), if_pos ez] at nx
        exact ⟨125, _, by rw [z1]; rfl, sm.trans sm2, nx, .inr (.inl rfl)⟩
    rw [if_neg z1]
    by_cases z2 : z = Str.ofString "["
    · rw [if_pos z2]
      have ez : tl z = [91] := by rw [z2, tl_os]
      rw [Option.isSome_some]
      walk_at "go"
      rw [bgN]
      walk_at "go"
      refine ite2 (fun h2 => ?_) (fun h2 => ?_)
      · have c0 : cl ≠ 0 := by simpa using h2
        walk_at "go"
        refine wr ?_ _ s2
        rw [st, if_neg (fun h => by rw [ez] at h; rcases hcl with rfl | rfl | rfl <;> simp at h), if_pos (by rw [ez]; decide), if_pos (.inl c0)]
      · have c0 : cl = 0 := by simpa using h2
        subst c0
        walk_at "go"
        refine i_tup (Same.sqt s2 hS) hat ?_
        walk_at "go"
        rw [st, if_neg (by simp), if_pos (by rw [ez]; decide), if_neg (by rw [ez]; decide), if_neg (by rw [ez]; decide)] at nx
        exact ⟨93, _, by rw [z2]; rfl, sm.trans sm2, nx, .inr (.inr rfl)⟩
    rw [if_neg z2]
    have n1 : ¬ tl z = [123] := fun e => z1 (ext_tl (e.trans tl_ob.symm))
    have n2 : ¬ tl z = [91] := fun e => z2 (ext_tl (e.trans tl_os.symm))
    rw [Option.isSome_none]
    walk_at "go"
    refine i_tup (Same.sqt s2 hS) hat ?_
    walk_at "go"
    refine ⟨sz1000 (by simp), fun g hg => ?_⟩
    refine c_in (.inr (SqT.of upd_same)) rfl rfl ?_
    have s3 := s2.trans (Same.new hg (o := .tup [.str (Str.ofString "}"), .str (Str.ofString "]")]))
    have s23 := Same.new hg (o := .tup [.str (Str.ofString "}"), .str (Str.ofString "]")])
    have i2 : inV (.str z) [V.str (Str.ofString "}"), .str (Str.ofString "]")] = decide (tl z ∈ [[125], [93]]) := by
      unfold inV
      simp only [List.any_cons, List.any_nil, Bool.or_false, eqV, is_str tl_cb, is_str tl_cs]
      simp only [List.mem_cons, List.not_mem_nil, or_false, Bool.decide_or]
    rw [i2]
    walk_at "go"
    refine ite2 (fun h2 => ?_) (fun h2 => ?_)
    · have m2 : tl z = [125] ∨ tl z = [93] := by simpa using h2
      have mb : tl z ∈ [[123], [125], [91], [93]] := by
        rcases m2 with e | e <;> rw [e] <;> decide
      have nop : tl z ∉ [[123], [91]] := by
        rcases m2 with e | e <;> rw [e] <;> decide
      walk_at "go"
      rw [bgN]
      walk_at "go"
      refine ite2 (fun h3 => ?_) (fun h3 => ?_)
      · have c0 : cl = 0 := by simpa using h3
        walk_at "go"
        refine wr ?_ _ s3
        rw [st, if_neg (fun h => h.1 c0), if_pos mb, if_pos (.inr nop)]
      · have c0 : cl ≠ 0 := by simpa using h3
        walk_at "go"
        have hD3 := s23 _ _ hD2
        refine i_d (v := .str (if cl = 125 then Str.ofString "}" else Str.ofString "]")) ?_ ?_
        · rcases hcl with rfl | rfl | rfl
          · exact absurd rfl c0
          · have := dg2 (z := Str.ofString "{") hD3 nk
            rw [if_pos rfl] at this
            exact this
          · have := dg2 (z := Str.ofString "[") hD3 nk
            rw [if_neg nk.symm, if_pos rfl] at this
            exact this
        walk_at "go"
        refine i_tup (Same.sqt s3 hS) hat ?_
        walk_at "go"
        refine ite2 (fun h4 => ?_) (fun h4 => ?_)
        · walk_at "go"
          refine wr ?_ _ s3
          rw [st, if_neg (fun h => ?_), if_pos mb, if_pos (.inl c0)]
          have h5 : ¬ (if cl = 125 then Str.ofString "}" else Str.ofString "]") = z := by simpa using h4
          refine h5 (ext_tl (Eq.trans ?_ h.2.symm))
          rcases hcl with rfl | rfl | rfl
          · exact absurd rfl c0
          · exact tl_cb
          · exact tl_cs
        · walk_at "go"
          have h5 : (if cl = 125 then Str.ofString "}" else Str.ofString "]") = z := by simpa using h4
          have h6 : tl z = [cl] := by
            rw [← h5]
            rcases hcl with rfl | rfl | rfl
            · exact absurd rfl c0
            · exact tl_cb
            · exact tl_cs
          rw [st, if_pos ⟨c0, h6⟩] at nx
          exact ⟨0, _, rfl, sm.trans (sm2.trans s23), nx, .inl rfl⟩
    · have mb : tl z ∉ [[123], [125], [91], [93]] := fun hm => by
        simp only [List.mem_cons, List.not_mem_nil, or_false] at hm
        rcases hm with e | e | e | e
        · exact n1 e
        · exact h2 (by rw [e]; decide)
        · exact n2 e
        · exact h2 (by rw [e]; decide)
      walk_at "go"
      rw [st, if_neg (fun h => mb (by rw [h.2]; rcases hcl with e | e | e <;> rw [e] <;> first | decide | exact absurd e h.1)), if_neg mb] at nx
      exact ⟨cl, _, rfl, sm.trans (sm2.trans s23), nx, hcl⟩
  · obtain ⟨cl, v3, rfl, sm, hsc, hcl⟩ := hP
    have fin := scan_end hsc (Nat.le_refl _)
    have s1 := sd.trans sm
    have bgN : decide (bg cl = .non) = decide (cl = 0) := by
      rcases hcl with rfl | rfl | rfl <;> decide +kernel
    walk_at "go"
    refine k_lenl (.inr (Same.sqt s1 hS)) ?_
    walk_at "go"
    refine ⟨sz1000 (by simp), fun g hg => ?_⟩
    have s3 := s1.trans (Same.new hg (o := .lst [.non, .int xs.length]))
    walk_at "go"
    rw [bgN]
    have q2 := q _ s3
    unfold wrongV at q2
    rw [fin] at q2
    simp only at q2
    have at1 : atI [V.non, .int (xs.length : Int)] 1 = some (.int xs.length) := rfl
    have at0 : atI [V.non, .int (xs.length : Int)] 0 = some .non := rfl
    refine ite2 (fun h1 => ?_) (fun h1 => ?_)
    · have c0 : cl ≠ 0 := by simpa using h1
      rw [h1]
      walk_at "go"
      rw [if_pos (.inl c0)] at q2
      exact q2
    · have c0 : cl = 0 := by simpa using h1
      walk_at "go"
      refine k_lenl (.inr (Same.sqt s3 hS)) ?_
      walk_at "go"
      by_cases h40 : 40 < xs.length
      · rw [decide_eq_true (show (40 : Int) < xs.length by omega), if_pos rfl]
        refine i_lst (SqL.of upd_same) at1 ?_
        rw [if_pos (.inr h40)] at q2
        exact q2
      · rw [decide_eq_false (show ¬ (40 : Int) < xs.length by omega), if_neg Bool.false_ne_true]
        refine i_lst (SqL.of upd_same) at0 ?_
        rw [if_neg (by omega)] at q2
        exact q2
end
end Tk

set_option Elab.async false
set_option linter.all false
set_option maxRecDepth 100000
set_option maxHeartbeats 4000000
namespace Tk
open PySem PySem.Spec PyProof.Rows L2 Lay
open TL (tl ext_tl len_tl tl_append tl_mk mk_tl)
local macro_rules | `(tactic| walk_at "if") => `(tactic| refine ite2 (fun hc => ?_) (fun hc => ?_))
local macro_rules | `(tactic| walk_at "lk") => `(tactic| first | exact upd_same | assumption)
local macro_rules | `(tactic| walk_at "st") => `(tactic| first
  | with_reducible refine r_var rfl ?_ | with_reducible refine r_c ?_ | with_reducible refine r_op ?_ | with_reducible refine r_cons ?_ | with_reducible refine r_nil ?_ | with_reducible refine r_vals ?_
  | with_reducible refine r_cb ?_ | with_reducible refine r_tup ?_ | with_reducible refine r_lst ?_ | with_reducible refine r_call ?_ | with_reducible refine r_test ?_
  | with_reducible refine r_if ?_ | with_reducible refine r_not ?_ | with_reducible refine r_bm ?_ | with_reducible refine r_sl ?_ | with_reducible refine r_np ?_ | with_reducible refine r_part ?_
  | with_reducible refine r_seq ?_ | with_reducible refine r_asg ?_ | with_reducible refine r_name ?_ | with_reducible refine r_ifs ?_ | with_reducible refine r_ret ?_ | with_reducible refine r_next ?_ | with_reducible refine r_par ?_ | with_reducible refine r_par3 ?_ | with_reducible refine r_brk ?_ | with_reducible refine r_cnt ?_ | with_reducible refine r_sub ?_
  | with_reducible refine r_andT ?_ | with_reducible refine r_orT ?_ | with_reducible refine r_notT ?_ | with_reducible refine r_or ?_ | with_reducible refine r_and ?_ | with_reducible refine r_tB ?_ | with_reducible refine r_drop ?_ | with_reducible refine r_callN ?_ | with_reducible refine r_chain ?_
  | with_reducible refine r_for ?_ | with_reducible refine r_lc ?_ | with_reducible refine r_iseq ?_ | with_reducible refine r_rng1 ?_ | with_reducible refine r_enum ?_ | with_reducible refine r_yes ?_ | with_reducible refine r_tru ?_ | with_reducible refine r_gtup ?_ | with_reducible refine r_gcons ?_ | with_reducible refine r_gnil ?_
  | with_reducible refine b_add ?_ | with_reducible refine b_sub ?_ | (with_reducible refine b_mul (by unfold CMul; omega) ?_) | (with_reducible refine b_mod (by omega) ?_) | (with_reducible refine b_fdiv (by unfold CDiv; omega) ?_)
  | with_reducible refine c_lt ?_ | with_reducible refine c_le ?_ | with_reducible refine c_gt ?_ | with_reducible refine c_ge ?_ | with_reducible refine c_isN ?_ | with_reducible refine c_notN ?_ | with_reducible refine c_isB ?_ | with_reducible refine c_eq rfl ?_ | with_reducible refine c_ne rfl ?_
  | with_reducible refine c_insign ?_ | with_reducible refine k_int ?_ | with_reducible refine k_intb ?_ | with_reducible refine k_max ?_ | with_reducible refine k_min ?_
  | with_reducible refine ⟨_, rfl, ?_⟩
  | with_reducible refine ex_par ?_
  | with_reducible refine r_back ?_
  | with_reducible refine ex_par3 ?_
  | with_reducible refine ty_s ?_
  | with_reducible refine tru_b ?_
  | with_reducible refine iteT ?_ | with_reducible refine iteF ?_ | with_reducible refine itnT ?_ | with_reducible refine itnF ?_)
local macro_rules | `(tactic| walk_at "go") => `(tactic| repeat walk_at "st")
local macro_rules | `(tactic| walk_at "cl") => `(tactic| try dsimp only [cxOf, Cx.nox, Cx.wish])
/-! ### the law's look at an exception -/
local macro_rules | `(tactic| walk_at "st") => `(tactic| first
  | with_reducible refine bh_add ?_ | with_reducible refine ch_gt ?_ | with_reducible refine ch_eq rfl ?_ | with_reducible refine ch_ne rfl ?_ | with_reducible refine kh_intb ?_)
abbrev s__law_sort : Stmt := topS 76
theorem sc__law_sort : FnScope ["_law_e", "_law_kinds", "_law_at", "_law_base", "_law_bases", "_law_some", "_law_k"] ["_law_e"] (defScope s__law_sort) := ⟨rfl, rfl, rfl, by decide +kernel, rfl, by decide +kernel, by decide +kernel⟩
/-- the names of errors of Python's own -/
structure MdE (mg : Str → Option Value) : Prop where
  ValueError_ : mg "ValueError" = none
  LookupError_ : mg "LookupError" = none
  ArithmeticError_ : mg "ArithmeticError" = none
theorem bt_ValueError : bootBuiltins "ValueError" = some (.type "ValueError") := by decide +kernel
theorem bt_LookupError : bootBuiltins "LookupError" = some (.type "LookupError") := by decide +kernel
theorem bt_ArithmeticError : bootBuiltins "ArithmeticError" = some (.type "ArithmeticError") := by decide +kernel
def spSort (C : Addr) (p : Addr × Obj) : Sp := fun vs H Q _ => ∃ d fs, vs = [.ref p.1] ∧ L2N.Zn (.ref C) (some d) p.2 ∧ (∃ vs, p.2.data = .fields vs) ∧ H d = some (.xd fs) ∧ ∀ H', Same H H' → Q (.str "tokens") H'
section
variable {P : Program} {w : World} {K : PySem.W.Frag} {mg : Str → Option Value} {base : Heap} {C : Addr}
/-- isinstance, of a class of the module -/
theorem kh_own {p : Addr × Obj} {H : Hp} {Q : VK} {d D : Addr} {c : Bool} {fs : List (Str × V)} (X : ExcC K C) (hz : L2N.Zn (.ref C) (some d) p.2) (hf : ∃ vs, p.2.data = .fields vs) (hd : H d = some (.xd fs)) (hk : PySem.W.kitOne K (.ref C) (.ref D) = some c) (q : Q (.bl c) H) :
    hC P w K p (.builtin "isinstance") [.ref p.1, .ref D] H Q := kh_isP X hz hf (fun _ r => r) hk hd q
/-- .. of one of Python's own -/
theorem kh_ty {p : Addr × Obj} {H : Hp} {Q : VK} {d : Addr} {T : String} {c : Bool} {fs : List (Str × V)} (X : ExcC K C) (hz : L2N.Zn (.ref C) (some d) p.2) (hf : ∃ vs, p.2.data = .fields vs) (hd : H d = some (.xd fs)) (hk : PySem.W.kitOne K (.ref C) (.type T) = some c) (q : Q (.bl c) H) :
    hC P w K p (.builtin "isinstance") [.ref p.1, .ty T] H Q := kh_isP X hz hf (fun _ r => r) hk hd q
/-- what the classes are to C -/
structure SortK (K : PySem.W.Frag) (mg : Str → Option Value) (C : Addr) : Prop where
  NoTokens_ : IsK K mg C "NoTokens" true
  NoRows_ : IsK K mg C "NoRows" false
  NoText_ : IsK K mg C "NoText" false
  NoTexts_ : IsK K mg C "NoTexts" false
  NoKind_ : IsK K mg C "NoKind" false
  NoSize_ : IsK K mg C "NoSize" false
  NoChanges_ : IsK K mg C "NoChanges" false
  NoLine_ : IsK K mg C "NoLine" false
  NoInclude_ : IsK K mg C "NoInclude" false
  NoStyle_ : IsK K mg C "NoStyle" false
  NoMark_ : IsK K mg C "NoMark" false
  NoNumber_ : IsK K mg C "NoNumber" false
  NoPlace_ : IsK K mg C "NoPlace" false
  NoDocument_ : IsK K mg C "NoDocument" false
  NoPrinting_ : IsK K mg C "NoPrinting" false
  Ring_ : IsK K mg C "Ring" false
  Twice_ : IsK K mg C "Twice" false
  TooMany_ : IsK K mg C "TooMany" false
  TooTall_ : IsK K mg C "TooTall" false
  Clash_ : IsK K mg C "Clash" false
  TongueError_ : IsK K mg C "TongueError" true
  StandError_ : IsK K mg C "StandError" false
  RoomError_ : IsK K mg C "RoomError" false
  ValueError_ : PySem.W.kitOne K (.ref C) (.type "ValueError") = some true
  LookupError_ : PySem.W.kitOne K (.ref C) (.type "LookupError") = some false
  ArithmeticError_ : PySem.W.kitOne K (.ref C) (.type "ArithmeticError") = some false
/-- isinstance of the exception, an item of a list -/
theorem is_cons {p : Addr × Obj} {H : Hp} {σ : L2.St} {Q : List V → Hp → Prop} {d D : Addr} {c : Bool} {fs : List (Str × V)} {tr : TA} (hv : σ[0]? = some (some (.ref p.1))) (X : ExcC K C) (hz : L2N.Zn (.ref C) (some d) p.2) (hf : ∃ vs, p.2.data = .fields vs) (hd : H d = some (.xd fs)) (hk : PySem.W.kitOne K (.ref C) (.ref D) = some c)
    (q : tr σ H fun xs H1 => Q (.bl c :: xs) H1) : tCons (tCB (hC P w K p (.builtin "isinstance")) (tCons (tVar 0) (tCons (tC (.ref D)) tNil))) tr σ H Q := r_cons (r_cb (r_cons (r_var hv (r_cons (r_c (r_nil (kh_own X hz hf hd hk q)))))))
theorem is_consT {p : Addr × Obj} {H : Hp} {σ : L2.St} {Q : List V → Hp → Prop} {d : Addr} {T : String} {c : Bool} {fs : List (Str × V)} {tr : TA} (hv : σ[0]? = some (some (.ref p.1))) (X : ExcC K C) (hz : L2N.Zn (.ref C) (some d) p.2) (hf : ∃ vs, p.2.data = .fields vs) (hd : H d = some (.xd fs)) (hk : PySem.W.kitOne K (.ref C) (.type T) = some c)
    (q : tr σ H fun xs H1 => Q (.bl c :: xs) H1) : tCons (tCB (hC P w K p (.builtin "isinstance")) (tCons (tVar 0) (tCons (tC (.ty T)) tNil))) tr σ H Q := r_cons (r_cb (r_cons (r_var hv (r_cons (r_c (r_nil (kh_ty X hz hf hd hk q)))))))
theorem ok__law_sort (F : Fn0 K mg "_law_sort" s__law_sort ["_law_e"]) (m : Md mg) (me : MdE mg) (xc : ExcC K C) (S : SortK K mg C) : FnY P w K mg base 1 "_law_sort" ["_law_e"] (spSort C) := by
  obtain ⟨f, fd, F, hg, hb⟩ := F
  refine ⟨f, fd, hg, F.kp, hb, Lay.Fun.okZ F sc__law_sort (fun p vs H Q E h => ?_) (fun cdv A outer s H vs Q E p hot hr h => ?_)⟩
  · obtain ⟨d, fs, rfl, _⟩ := h
    rfl
  have nd := sc__law_sort.nd
  have L : LH P w K p (L2H.cxH CX0 P w K mg base ["_law_e", "_law_kinds", "_law_at", "_law_base", "_law_bases", "_law_some", "_law_k"] "_law_sort" (defScope s__law_sort) f cdv A outer s H E p).nox := ⟨rfl, rfl, rfl, un_of hr, ⟨hot.1, hot.2⟩, List.mem_cons_self⟩
  obtain ⟨D0, m0, k0⟩ := S.NoTokens_
  have g_NoTokens : Gv mg "NoTokens" (.ref D0) := ⟨_, m0, rfl⟩
  obtain ⟨D1, m1, k1⟩ := S.NoRows_
  have g_NoRows : Gv mg "NoRows" (.ref D1) := ⟨_, m1, rfl⟩
  obtain ⟨D2, m2, k2⟩ := S.NoText_
  have g_NoText : Gv mg "NoText" (.ref D2) := ⟨_, m2, rfl⟩
  obtain ⟨D3, m3, k3⟩ := S.NoTexts_
  have g_NoTexts : Gv mg "NoTexts" (.ref D3) := ⟨_, m3, rfl⟩
  obtain ⟨D4, m4, k4⟩ := S.NoKind_
  have g_NoKind : Gv mg "NoKind" (.ref D4) := ⟨_, m4, rfl⟩
  obtain ⟨D5, m5, k5⟩ := S.NoSize_
  have g_NoSize : Gv mg "NoSize" (.ref D5) := ⟨_, m5, rfl⟩
  obtain ⟨D6, m6, k6⟩ := S.NoChanges_
  have g_NoChanges : Gv mg "NoChanges" (.ref D6) := ⟨_, m6, rfl⟩
  obtain ⟨D7, m7, k7⟩ := S.NoLine_
  have g_NoLine : Gv mg "NoLine" (.ref D7) := ⟨_, m7, rfl⟩
  obtain ⟨D8, m8, k8⟩ := S.NoInclude_
  have g_NoInclude : Gv mg "NoInclude" (.ref D8) := ⟨_, m8, rfl⟩
  obtain ⟨D9, m9, k9⟩ := S.NoStyle_
  have g_NoStyle : Gv mg "NoStyle" (.ref D9) := ⟨_, m9, rfl⟩
  obtain ⟨D10, m10, k10⟩ := S.NoMark_
  have g_NoMark : Gv mg "NoMark" (.ref D10) := ⟨_, m10, rfl⟩
  obtain ⟨D11, m11, k11⟩ := S.NoNumber_
  have g_NoNumber : Gv mg "NoNumber" (.ref D11) := ⟨_, m11, rfl⟩
  obtain ⟨D12, m12, k12⟩ := S.NoPlace_
  have g_NoPlace : Gv mg "NoPlace" (.ref D12) := ⟨_, m12, rfl⟩
  obtain ⟨D13, m13, k13⟩ := S.NoDocument_
  have g_NoDocument : Gv mg "NoDocument" (.ref D13) := ⟨_, m13, rfl⟩
  obtain ⟨D14, m14, k14⟩ := S.NoPrinting_
  have g_NoPrinting : Gv mg "NoPrinting" (.ref D14) := ⟨_, m14, rfl⟩
  obtain ⟨D15, m15, k15⟩ := S.Ring_
  have g_Ring : Gv mg "Ring" (.ref D15) := ⟨_, m15, rfl⟩
  obtain ⟨D16, m16, k16⟩ := S.Twice_
  have g_Twice : Gv mg "Twice" (.ref D16) := ⟨_, m16, rfl⟩
  obtain ⟨D17, m17, k17⟩ := S.TooMany_
  have g_TooMany : Gv mg "TooMany" (.ref D17) := ⟨_, m17, rfl⟩
  obtain ⟨D18, m18, k18⟩ := S.TooTall_
  have g_TooTall : Gv mg "TooTall" (.ref D18) := ⟨_, m18, rfl⟩
  obtain ⟨D19, m19, k19⟩ := S.Clash_
  have g_Clash : Gv mg "Clash" (.ref D19) := ⟨_, m19, rfl⟩
  obtain ⟨D20, m20, k20⟩ := S.TongueError_
  have g_TongueError : Gv mg "TongueError" (.ref D20) := ⟨_, m20, rfl⟩
  obtain ⟨D21, m21, k21⟩ := S.StandError_
  have g_StandError : Gv mg "StandError" (.ref D21) := ⟨_, m21, rfl⟩
  obtain ⟨D22, m22, k22⟩ := S.RoomError_
  have g_RoomError : Gv mg "RoomError" (.ref D22) := ⟨_, m22, rfl⟩
  have kV := S.ValueError_
  have kL := S.LookupError_
  have kA := S.ArithmeticError_
  refine ⟨_, (pss_cons (ps_set (i := 1) nd rfl (.inl rfl) (pe_lst (pa_cons (pe_callB (ocH L) (by rfl) m.isinstance_ bt_isinstance (pa_cons (pv 0) (pa_cons (pe_gv g_NoTokens (by rfl)) pa_nil))) (pa_cons (pe_callB (ocH L) (by rfl) m.isinstance_ bt_isinstance (pa_cons (pv 0) (pa_cons (pe_gv g_NoRows (by rfl)) pa_nil))) (pa_cons (pe_callB (ocH L) (by rfl) m.isinstance_ bt_isinstance (pa_cons (pv 0) (pa_cons (pe_gv g_NoText (by rfl)) pa_nil))) (pa_cons (pe_callB (ocH L) (by rfl) m.isinstance_ bt_isinstance (pa_cons (pv 0) (pa_cons (pe_gv g_NoTexts (by rfl)) pa_nil))) pa_nil)))))) (pss_cons (ps_set (i := 1) nd rfl (.inl rfl) (pe_op (obH L) (pv 1) (pe_lst (pa_cons (pe_callB (ocH L) (by rfl) m.isinstance_ bt_isinstance (pa_cons (pv 0) (pa_cons (pe_gv g_NoKind (by rfl)) pa_nil))) (pa_cons (pe_callB (ocH L) (by rfl) m.isinstance_ bt_isinstance (pa_cons (pv 0) (pa_cons (pe_gv g_NoSize (by rfl)) pa_nil))) (pa_cons (pe_callB (ocH L) (by rfl) m.isinstance_ bt_isinstance (pa_cons (pv 0) (pa_cons (pe_gv g_NoChanges (by rfl)) pa_nil))) (pa_cons (pe_callB (ocH L) (by rfl) m.isinstance_ bt_isinstance (pa_cons (pv 0) (pa_cons (pe_gv g_NoLine (by rfl)) pa_nil))) pa_nil))))))) (pss_cons (ps_set (i := 1) nd rfl (.inl rfl) (pe_op (obH L) (pv 1) (pe_lst (pa_cons (pe_callB (ocH L) (by rfl) m.isinstance_ bt_isinstance (pa_cons (pv 0) (pa_cons (pe_gv g_NoInclude (by rfl)) pa_nil))) (pa_cons (pe_callB (ocH L) (by rfl) m.isinstance_ bt_isinstance (pa_cons (pv 0) (pa_cons (pe_gv g_NoStyle (by rfl)) pa_nil))) (pa_cons (pe_callB (ocH L) (by rfl) m.isinstance_ bt_isinstance (pa_cons (pv 0) (pa_cons (pe_gv g_NoMark (by rfl)) pa_nil))) pa_nil)))))) (pss_cons (ps_set (i := 1) nd rfl (.inl rfl) (pe_op (obH L) (pv 1) (pe_lst (pa_cons (pe_callB (ocH L) (by rfl) m.isinstance_ bt_isinstance (pa_cons (pv 0) (pa_cons (pe_gv g_NoNumber (by rfl)) pa_nil))) pa_nil)))) (pss_cons (ps_set (i := 1) nd rfl (.inl rfl) (pe_op (obH L) (pv 1) (pe_lst (pa_cons (pe_callB (ocH L) (by rfl) m.isinstance_ bt_isinstance (pa_cons (pv 0) (pa_cons (pe_gv g_NoPlace (by rfl)) pa_nil))) (pa_cons (pe_callB (ocH L) (by rfl) m.isinstance_ bt_isinstance (pa_cons (pv 0) (pa_cons (pe_gv g_NoDocument (by rfl)) pa_nil))) (pa_cons (pe_callB (ocH L) (by rfl) m.isinstance_ bt_isinstance (pa_cons (pv 0) (pa_cons (pe_gv g_NoPrinting (by rfl)) pa_nil))) pa_nil)))))) (pss_cons (ps_set (i := 1) nd rfl (.inl rfl) (pe_op (obH L) (pv 1) (pe_lst (pa_cons (pe_callB (ocH L) (by rfl) m.isinstance_ bt_isinstance (pa_cons (pv 0) (pa_cons (pe_gv g_Ring (by rfl)) pa_nil))) pa_nil)))) (pss_cons (ps_set (i := 1) nd rfl (.inl rfl) (pe_op (obH L) (pv 1) (pe_lst (pa_cons (pe_callB (ocH L) (by rfl) m.isinstance_ bt_isinstance (pa_cons (pv 0) (pa_cons (pe_gv g_Twice (by rfl)) pa_nil))) (pa_cons (pe_callB (ocH L) (by rfl) m.isinstance_ bt_isinstance (pa_cons (pv 0) (pa_cons (pe_gv g_TooMany (by rfl)) pa_nil))) (pa_cons (pe_callB (ocH L) (by rfl) m.isinstance_ bt_isinstance (pa_cons (pv 0) (pa_cons (pe_gv g_TooTall (by rfl)) pa_nil))) (pa_cons (pe_callB (ocH L) (by rfl) m.isinstance_ bt_isinstance (pa_cons (pv 0) (pa_cons (pe_gv g_Clash (by rfl)) pa_nil))) pa_nil))))))) (pss_cons (ps_if (pt_cmpR (op_H L) (pe_bmLH L PySem.F.plainAttrs_list PySem.F.slot_list_count PySem.F.type_list_count (pv 1) (pa_cons pe_bl pa_nil)) pe_int (nomark _)) (pss_one (ps_ret pe_str)) pss_nil) (pss_cons (ps_set (i := 2) nd rfl (.inl rfl) (pe_bmLH L PySem.F.plainAttrs_list PySem.F.slot_list_index PySem.F.type_list_index (pv 1) (pa_cons pe_bl pa_nil))) (pss_cons (ps_set (i := 3) nd rfl (.inr rfl) (pe_op (obH L) (pe_callTy (ocH L) (by rfl) m.int_ bt_int (pa_cons (pe_cmpR (op_H L) (pv 2) pe_int (nomark _)) pa_nil)) (pe_callTy (ocH L) (by rfl) m.int_ bt_int (pa_cons (pe_cmpR (op_H L) (pv 2) pe_int (nomark _)) pa_nil)))) (pss_cons (ps_set (i := 4) nd rfl (.inl rfl) (pe_lst (pa_cons (pe_callB (ocH L) (by rfl) m.isinstance_ bt_isinstance (pa_cons (pv 0) (pa_cons (pe_gv g_TongueError (by rfl)) pa_nil))) (pa_cons (pe_callB (ocH L) (by rfl) m.isinstance_ bt_isinstance (pa_cons (pv 0) (pa_cons (pe_gv g_StandError (by rfl)) pa_nil))) (pa_cons (pe_callB (ocH L) (by rfl) m.isinstance_ bt_isinstance (pa_cons (pv 0) (pa_cons (pe_gv g_RoomError (by rfl)) pa_nil))) pa_nil))))) (pss_cons (ps_if (pt_cmpR (op_H L) (pv 4) (pe_lcH (own := [("_law_k", 6)]) L.hot L.pn nd (L2H.pi_range1H (by rfl) m.range_ (pa_cons pe_int pa_nil)) (blkOk_by (own := [("_law_k", 6)]) (N := ["_law_e", "_law_kinds", "_law_at", "_law_base", "_law_bases", "_law_some", "_law_k"]) (sc := defScope s__law_sort) (by decide +kernel)) (fun _ _ _ _ _ => (pg_name (i := 6) nd rfl (.inl rfl))) (fun _ _ _ _ _ => (pe_cmpR (op_H L.b) (pv 6) (pv 3) (nomark _)))) (nomark _)) (pss_one (ps_ret pe_str)) pss_nil) (pss_cons (ps_if (pt_not (pt_truthLH L (pe_ix (oiH L) (pe_lst (pa_cons (pe_callB (ocH L) (by rfl) m.isinstance_ bt_isinstance (pa_cons (pv 0) (pa_cons (pe_bltn (v := .ty "ValueError") (by rfl) me.ValueError_ bt_ValueError rfl) pa_nil))) (pa_cons (pe_callB (ocH L) (by rfl) m.isinstance_ bt_isinstance (pa_cons (pv 0) (pa_cons (pe_bltn (v := .ty "LookupError") (by rfl) me.LookupError_ bt_LookupError rfl) pa_nil))) (pa_cons (pe_callB (ocH L) (by rfl) m.isinstance_ bt_isinstance (pa_cons (pv 0) (pa_cons (pe_bltn (v := .ty "ArithmeticError") (by rfl) me.ArithmeticError_ bt_ArithmeticError rfl) pa_nil))) pa_nil)))) (pv 3) (fun _ _ => rfl)))) (pss_one (ps_ret pe_str)) pss_nil) (pss_cons (ps_set (i := 5) nd rfl (.inl rfl) (pe_lst (pa_strs ["tokens", "rows", "text", "texts", "kind", "size", "changes", "line", "include", "style"]))) (pss_cons (ps_set (i := 5) nd rfl (.inl rfl) (pe_op (obH L) (pv 5) (pe_lst (pa_cons pe_str (pa_cons pe_str pa_nil))))) (pss_one (ps_ret (pe_ix (oiH L) (pe_op (obH L) (pv 5) (pe_lst (pa_strs ["place", "document", "printing", "ring", "twice", "many", "tall", "clash"]))) (pv 2) (fun _ _ => rfl))))))))))))))))))), ?_⟩
  obtain ⟨d, fs, rfl, hz, hf, hd, q⟩ := h
  have hv : ∀ {l : List (Option V)}, (some (V.ref p.1) :: l)[0]? = some (some (V.ref p.1)) := rfl
  refine r_seqH fun N hN => r_asg (r_lst (is_cons rfl xc hz hf hd k0 (is_cons rfl xc hz hf hd k1 (is_cons rfl xc hz hf hd k2 (is_cons rfl xc hz hf hd k3 (r_nil ⟨sz1000 (by decide), fun a0 n0 => r_name (hN _ _ ?_)⟩))))))
  have s0 : Same H (upd H a0 (.lst [V.bl true, V.bl false, V.bl false, V.bl false])) := Same.new n0
  have e0 : (upd H a0 (.lst [V.bl true, V.bl false, V.bl false, V.bl false])) a0 = some (.lst [V.bl true, V.bl false, V.bl false, V.bl false]) := upd_same
  have d0 := s0 _ _ hd
  clear hN N
  generalize upd H a0 (.lst [V.bl true, V.bl false, V.bl false, V.bl false]) = H0 at s0 e0 d0 ⊢
  refine r_seqH fun N hN => r_asg (r_op (r_var rfl (r_lst (is_cons rfl xc hz hf d0 k4 (is_cons rfl xc hz hf d0 k5 (is_cons rfl xc hz hf d0 k6 (is_cons rfl xc hz hf d0 k7 (r_nil ⟨sz1000 (by decide), fun b1 nb1 => bh_cat (Same.new nb1 _ _ e0) upd_same (sz1000 (by decide)) fun a1 n1 => r_name (hN _ _ ?_)⟩))))))))
  have s1 : Same H (upd (upd H0 b1 (.lst [V.bl false, V.bl false, V.bl false, V.bl false])) a1 (.lst ([V.bl true, V.bl false, V.bl false, V.bl false] ++ [V.bl false, V.bl false, V.bl false, V.bl false]))) := s0.trans ((Same.new nb1).trans (Same.new n1))
  have e1 : (upd (upd H0 b1 (.lst [V.bl false, V.bl false, V.bl false, V.bl false])) a1 (.lst ([V.bl true, V.bl false, V.bl false, V.bl false] ++ [V.bl false, V.bl false, V.bl false, V.bl false]))) a1 = some (.lst ([V.bl true, V.bl false, V.bl false, V.bl false] ++ [V.bl false, V.bl false, V.bl false, V.bl false])) := upd_same
  have d1 := s1 _ _ hd
  clear hN N
  generalize upd (upd H0 b1 (.lst [V.bl false, V.bl false, V.bl false, V.bl false])) a1 (.lst ([V.bl true, V.bl false, V.bl false, V.bl false] ++ [V.bl false, V.bl false, V.bl false, V.bl false])) = H1 at s1 e1 d1 ⊢
  refine r_seqH fun N hN => r_asg (r_op (r_var rfl (r_lst (is_cons rfl xc hz hf d1 k8 (is_cons rfl xc hz hf d1 k9 (is_cons rfl xc hz hf d1 k10 (r_nil ⟨sz1000 (by decide), fun b2 nb2 => bh_cat (Same.new nb2 _ _ e1) upd_same (sz1000 (by decide)) fun a2 n2 => r_name (hN _ _ ?_)⟩)))))))
  have s2 : Same H (upd (upd H1 b2 (.lst [V.bl false, V.bl false, V.bl false])) a2 (.lst (([V.bl true, V.bl false, V.bl false, V.bl false] ++ [V.bl false, V.bl false, V.bl false, V.bl false]) ++ [V.bl false, V.bl false, V.bl false]))) := s1.trans ((Same.new nb2).trans (Same.new n2))
  have e2 : (upd (upd H1 b2 (.lst [V.bl false, V.bl false, V.bl false])) a2 (.lst (([V.bl true, V.bl false, V.bl false, V.bl false] ++ [V.bl false, V.bl false, V.bl false, V.bl false]) ++ [V.bl false, V.bl false, V.bl false]))) a2 = some (.lst (([V.bl true, V.bl false, V.bl false, V.bl false] ++ [V.bl false, V.bl false, V.bl false, V.bl false]) ++ [V.bl false, V.bl false, V.bl false])) := upd_same
  have d2 := s2 _ _ hd
  clear hN N
  generalize upd (upd H1 b2 (.lst [V.bl false, V.bl false, V.bl false])) a2 (.lst (([V.bl true, V.bl false, V.bl false, V.bl false] ++ [V.bl false, V.bl false, V.bl false, V.bl false]) ++ [V.bl false, V.bl false, V.bl false])) = H2 at s2 e2 d2 ⊢
  refine r_seqH fun N hN => r_asg (r_op (r_var rfl (r_lst (is_cons rfl xc hz hf d2 k11 (r_nil ⟨sz1000 (by decide), fun b3 nb3 => bh_cat (Same.new nb3 _ _ e2) upd_same (sz1000 (by decide)) fun a3 n3 => r_name (hN _ _ ?_)⟩)))))
  have s3 : Same H (upd (upd H2 b3 (.lst [V.bl false])) a3 (.lst ((([V.bl true, V.bl false, V.bl false, V.bl false] ++ [V.bl false, V.bl false, V.bl false, V.bl false]) ++ [V.bl false, V.bl false, V.bl false]) ++ [V.bl false]))) := s2.trans ((Same.new nb3).trans (Same.new n3))
  have e3 : (upd (upd H2 b3 (.lst [V.bl false])) a3 (.lst ((([V.bl true, V.bl false, V.bl false, V.bl false] ++ [V.bl false, V.bl false, V.bl false, V.bl false]) ++ [V.bl false, V.bl false, V.bl false]) ++ [V.bl false]))) a3 = some (.lst ((([V.bl true, V.bl false, V.bl false, V.bl false] ++ [V.bl false, V.bl false, V.bl false, V.bl false]) ++ [V.bl false, V.bl false, V.bl false]) ++ [V.bl false])) := upd_same
  have d3 := s3 _ _ hd
  clear hN N
  generalize upd (upd H2 b3 (.lst [V.bl false])) a3 (.lst ((([V.bl true, V.bl false, V.bl false, V.bl false] ++ [V.bl false, V.bl false, V.bl false, V.bl false]) ++ [V.bl false, V.bl false, V.bl false]) ++ [V.bl false])) = H3 at s3 e3 d3 ⊢
  refine r_seqH fun N hN => r_asg (r_op (r_var rfl (r_lst (is_cons rfl xc hz hf d3 k12 (is_cons rfl xc hz hf d3 k13 (is_cons rfl xc hz hf d3 k14 (r_nil ⟨sz1000 (by decide), fun b4 nb4 => bh_cat (Same.new nb4 _ _ e3) upd_same (sz1000 (by decide)) fun a4 n4 => r_name (hN _ _ ?_)⟩)))))))
  have s4 : Same H (upd (upd H3 b4 (.lst [V.bl false, V.bl false, V.bl false])) a4 (.lst (((([V.bl true, V.bl false, V.bl false, V.bl false] ++ [V.bl false, V.bl false, V.bl false, V.bl false]) ++ [V.bl false, V.bl false, V.bl false]) ++ [V.bl false]) ++ [V.bl false, V.bl false, V.bl false]))) := s3.trans ((Same.new nb4).trans (Same.new n4))
  have e4 : (upd (upd H3 b4 (.lst [V.bl false, V.bl false, V.bl false])) a4 (.lst (((([V.bl true, V.bl false, V.bl false, V.bl false] ++ [V.bl false, V.bl false, V.bl false, V.bl false]) ++ [V.bl false, V.bl false, V.bl false]) ++ [V.bl false]) ++ [V.bl false, V.bl false, V.bl false]))) a4 = some (.lst (((([V.bl true, V.bl false, V.bl false, V.bl false] ++ [V.bl false, V.bl false, V.bl false, V.bl false]) ++ [V.bl false, V.bl false, V.bl false]) ++ [V.bl false]) ++ [V.bl false, V.bl false, V.bl false])) := upd_same
  have d4 := s4 _ _ hd
  clear hN N
  generalize upd (upd H3 b4 (.lst [V.bl false, V.bl false, V.bl false])) a4 (.lst (((([V.bl true, V.bl false, V.bl false, V.bl false] ++ [V.bl false, V.bl false, V.bl false, V.bl false]) ++ [V.bl false, V.bl false, V.bl false]) ++ [V.bl false]) ++ [V.bl false, V.bl false, V.bl false])) = H4 at s4 e4 d4 ⊢
  refine r_seqH fun N hN => r_asg (r_op (r_var rfl (r_lst (is_cons rfl xc hz hf d4 k15 (r_nil ⟨sz1000 (by decide), fun b5 nb5 => bh_cat (Same.new nb5 _ _ e4) upd_same (sz1000 (by decide)) fun a5 n5 => r_name (hN _ _ ?_)⟩)))))
  have s5 : Same H (upd (upd H4 b5 (.lst [V.bl false])) a5 (.lst ((((([V.bl true, V.bl false, V.bl false, V.bl false] ++ [V.bl false, V.bl false, V.bl false, V.bl false]) ++ [V.bl false, V.bl false, V.bl false]) ++ [V.bl false]) ++ [V.bl false, V.bl false, V.bl false]) ++ [V.bl false]))) := s4.trans ((Same.new nb5).trans (Same.new n5))
  have e5 : (upd (upd H4 b5 (.lst [V.bl false])) a5 (.lst ((((([V.bl true, V.bl false, V.bl false, V.bl false] ++ [V.bl false, V.bl false, V.bl false, V.bl false]) ++ [V.bl false, V.bl false, V.bl false]) ++ [V.bl false]) ++ [V.bl false, V.bl false, V.bl false]) ++ [V.bl false]))) a5 = some (.lst ((((([V.bl true, V.bl false, V.bl false, V.bl false] ++ [V.bl false, V.bl false, V.bl false, V.bl false]) ++ [V.bl false, V.bl false, V.bl false]) ++ [V.bl false]) ++ [V.bl false, V.bl false, V.bl false]) ++ [V.bl false])) := upd_same
  have d5 := s5 _ _ hd
  clear hN N
  generalize upd (upd H4 b5 (.lst [V.bl false])) a5 (.lst ((((([V.bl true, V.bl false, V.bl false, V.bl false] ++ [V.bl false, V.bl false, V.bl false, V.bl false]) ++ [V.bl false, V.bl false, V.bl false]) ++ [V.bl false]) ++ [V.bl false, V.bl false, V.bl false]) ++ [V.bl false])) = H5 at s5 e5 d5 ⊢
  refine r_seqH fun N hN => r_asg (r_op (r_var rfl (r_lst (is_cons rfl xc hz hf d5 k16 (is_cons rfl xc hz hf d5 k17 (is_cons rfl xc hz hf d5 k18 (is_cons rfl xc hz hf d5 k19 (r_nil ⟨sz1000 (by decide), fun b6 nb6 => bh_cat (Same.new nb6 _ _ e5) upd_same (sz1000 (by decide)) fun a6 n6 => r_name (hN _ _ ?_)⟩))))))))
  have s6 : Same H (upd (upd H5 b6 (.lst [V.bl false, V.bl false, V.bl false, V.bl false])) a6 (.lst (((((([V.bl true, V.bl false, V.bl false, V.bl false] ++ [V.bl false, V.bl false, V.bl false, V.bl false]) ++ [V.bl false, V.bl false, V.bl false]) ++ [V.bl false]) ++ [V.bl false, V.bl false, V.bl false]) ++ [V.bl false]) ++ [V.bl false, V.bl false, V.bl false, V.bl false]))) := s5.trans ((Same.new nb6).trans (Same.new n6))
  have e6 : (upd (upd H5 b6 (.lst [V.bl false, V.bl false, V.bl false, V.bl false])) a6 (.lst (((((([V.bl true, V.bl false, V.bl false, V.bl false] ++ [V.bl false, V.bl false, V.bl false, V.bl false]) ++ [V.bl false, V.bl false, V.bl false]) ++ [V.bl false]) ++ [V.bl false, V.bl false, V.bl false]) ++ [V.bl false]) ++ [V.bl false, V.bl false, V.bl false, V.bl false]))) a6 = some (.lst (((((([V.bl true, V.bl false, V.bl false, V.bl false] ++ [V.bl false, V.bl false, V.bl false, V.bl false]) ++ [V.bl false, V.bl false, V.bl false]) ++ [V.bl false]) ++ [V.bl false, V.bl false, V.bl false]) ++ [V.bl false]) ++ [V.bl false, V.bl false, V.bl false, V.bl false])) := upd_same
  have d6 := s6 _ _ hd
  clear hN N
  generalize upd (upd H5 b6 (.lst [V.bl false, V.bl false, V.bl false, V.bl false])) a6 (.lst (((((([V.bl true, V.bl false, V.bl false, V.bl false] ++ [V.bl false, V.bl false, V.bl false, V.bl false]) ++ [V.bl false, V.bl false, V.bl false]) ++ [V.bl false]) ++ [V.bl false, V.bl false, V.bl false]) ++ [V.bl false]) ++ [V.bl false, V.bl false, V.bl false, V.bl false])) = H6 at s6 e6 d6 ⊢
  refine r_seqH fun N hN => ?_
  walk_at "go"
  refine ⟨.inl ⟨rfl, _, SqL.of e6⟩, ?_⟩
  walk_at "go"
  refine mh_count (SqL.of e6) rfl rfl ?_
  walk_at "go"
  refine itnT' rfl ?_
  walk_at "go"
  refine hN [some (V.ref p.1), some (.ref a6), none, none, none, none, none] _ ?_
  clear hN N
  refine r_seqH fun N hN => ?_
  walk_at "go"
  refine ⟨.inl ⟨rfl, _, SqL.of e6⟩, ?_⟩
  walk_at "go"
  refine mh_index (n := 0) (z := .bl true) (SqL.of e6) rfl rfl rfl rfl (fun m _ h => absurd h (Nat.not_lt_zero m)) ?_
  walk_at "go"
  refine hN [some (V.ref p.1), some (.ref a6), some (.int 0), none, none, none, none] _ ?_
  clear hN N
  refine r_seqH fun N hN => ?_
  walk_at "go"
  refine hN [some (V.ref p.1), some (.ref a6), some (.int 0), some (.int 0), none, none, none] _ ?_
  clear hN N
  refine r_seqH fun N hN => r_asg (r_lst (is_cons rfl xc hz hf d6 k20 (is_cons rfl xc hz hf d6 k21 (is_cons rfl xc hz hf d6 k22 (r_nil ⟨sz1000 (by decide), fun a7 n7 => r_name (hN [some (V.ref p.1), some (.ref a6), some (.int 0), some (.int 0), some (.ref a7), none, none] _ ?_)⟩)))))
  have s7 : Same H (upd H6 a7 (.lst [V.bl true, V.bl false, V.bl false])) := s6.trans (Same.new n7)
  have e7 : (upd H6 a7 (.lst [V.bl true, V.bl false, V.bl false])) a7 = some (.lst [V.bl true, V.bl false, V.bl false]) := upd_same
  have d7 := s7 _ _ hd
  clear hN N
  generalize upd H6 a7 (.lst [V.bl true, V.bl false, V.bl false]) = H7 at s7 e7 d7 ⊢
  refine r_seqH fun N hN => r_ifs (r_test (r_op (r_var rfl (r_lc (r_rng1 (r_cons (r_c (r_nil ⟨3, rfl, by decide, by decide, fun D hD => ?_⟩))))))))
  refine lc_pure (n := 3) walk_range (fun _ => true) (fun i => .bl (decide (V.int (0 + (i : Int)) = V.int 0))) (small1000 (by decide)) hD (fun _ _ => True.intro) (fun i x H1 H2 hi sm hy C1 C0 h1 h0 => ?_) (fun H8 s8 e8 => ?_)
  · obtain ⟨rfl, rfl⟩ := hy
    walk_at "go"
    refine ⟨rfl, ?_⟩
    walk_at "go"
    exact h1 rfl _ (Same.refl _)
  refine ch_neBL (bs := [true, false, false]) (cs := [true, false, false]) (SqL.of (s8 _ _ e7)) (SqL.of e8) ⟨_, rfl, itnT' rfl (r_next (hN _ _ ?_))⟩
  have d8 := s8 _ _ d7
  have t8 := s7.trans s8
  clear hN N
  refine r_seqH fun N hN => r_ifs (r_not (r_tru (r_op (r_lst (is_consT rfl xc hz hf d8 kV (is_consT rfl xc hz hf d8 kL (is_consT rfl xc hz hf d8 kA (r_nil ⟨sz1000 (by decide), fun a9 n9 => r_var rfl (ih_lst (x := .bl true) (SqL.of upd_same) rfl (tru_b (itnT (r_next (hN _ _ ?_)))))⟩))))))))
  have t9 := t8.trans (Same.new n9 (o := .lst [.bl true, .bl false, .bl false]))
  clear hN N
  refine r_seqH fun N hN => r_asg (r_lst (r_vals ⟨sz1000 (by decide), fun a10 n10 => r_name (hN _ _ ?_)⟩))
  clear hN N
  refine r_seqH fun N hN => r_asg (r_op (r_var rfl (r_lst (r_cons (r_c (r_cons (r_c (r_nil ⟨sz1000 (by decide), fun b11 m11 => bh_cat (Same.new m11 _ _ upd_same) upd_same (sz1000 (by decide)) fun a11 n11 => r_name (hN _ _ ?_)⟩))))))))
  clear hN N
  refine r_ret (r_op (r_op (r_var rfl (r_lst (r_vals ⟨sz1000 (by decide), fun b12 m12 => bh_cat (Same.new m12 _ _ upd_same) upd_same (sz1000 (by decide)) fun a12 n12 => r_var rfl (ih_lst (x := .str "tokens") (SqL.of upd_same) rfl ?_)⟩)))))
  exact q _ (t9.trans ((((Same.new n10).trans (Same.new m11)).trans (Same.new n11)).trans ((Same.new m12).trans (Same.new n12))))
end
end Tk

set_option Elab.async false
set_option linter.all false
set_option maxRecDepth 100000
set_option maxHeartbeats 4000000
namespace Tk
open PySem PySem.Spec PyProof.Rows L2 Lay
open TL (tl ext_tl len_tl tl_append tl_mk mk_tl)
local macro_rules | `(tactic| walk_at "if") => `(tactic| refine ite2 (fun hc => ?_) (fun hc => ?_))
local macro_rules | `(tactic| walk_at "lk") => `(tactic| first | exact upd_same | assumption)
local macro_rules | `(tactic| walk_at "st") => `(tactic| first
  | with_reducible refine r_var rfl ?_ | with_reducible refine r_c ?_ | with_reducible refine r_op ?_ | with_reducible refine r_cons ?_ | with_reducible refine r_nil ?_ | with_reducible refine r_vals ?_
  | with_reducible refine r_cb ?_ | with_reducible refine r_tup ?_ | with_reducible refine r_lst ?_ | with_reducible refine r_call ?_ | with_reducible refine r_test ?_
  | with_reducible refine r_if ?_ | with_reducible refine r_not ?_ | with_reducible refine r_bm ?_ | with_reducible refine r_sl ?_ | with_reducible refine r_np ?_ | with_reducible refine r_part ?_
  | with_reducible refine r_seq ?_ | with_reducible refine r_asg ?_ | with_reducible refine r_name ?_ | with_reducible refine r_ifs ?_ | with_reducible refine r_ret ?_ | with_reducible refine r_next ?_ | with_reducible refine r_par ?_ | with_reducible refine r_par3 ?_ | with_reducible refine r_brk ?_ | with_reducible refine r_cnt ?_ | with_reducible refine r_sub ?_
  | with_reducible refine r_andT ?_ | with_reducible refine r_orT ?_ | with_reducible refine r_notT ?_ | with_reducible refine r_or ?_ | with_reducible refine r_and ?_ | with_reducible refine r_tB ?_ | with_reducible refine r_drop ?_ | with_reducible refine r_callN ?_ | with_reducible refine r_chain ?_
  | with_reducible refine r_for ?_ | with_reducible refine r_lc ?_ | with_reducible refine r_iseq ?_ | with_reducible refine r_rng1 ?_ | with_reducible refine r_enum ?_ | with_reducible refine r_yes ?_ | with_reducible refine r_tru ?_ | with_reducible refine r_gtup ?_ | with_reducible refine r_gcons ?_ | with_reducible refine r_gnil ?_
  | with_reducible refine b_add ?_ | with_reducible refine b_sub ?_ | (with_reducible refine b_mul (by unfold CMul; omega) ?_) | (with_reducible refine b_mod (by omega) ?_) | (with_reducible refine b_fdiv (by unfold CDiv; omega) ?_)
  | with_reducible refine c_lt ?_ | with_reducible refine c_le ?_ | with_reducible refine c_gt ?_ | with_reducible refine c_ge ?_ | with_reducible refine c_isN ?_ | with_reducible refine c_notN ?_ | with_reducible refine c_isB ?_ | with_reducible refine c_eq rfl ?_ | with_reducible refine c_ne rfl ?_
  | with_reducible refine c_insign ?_ | with_reducible refine k_int ?_ | with_reducible refine k_intb ?_ | with_reducible refine k_max ?_ | with_reducible refine k_min ?_
  | with_reducible refine ⟨_, rfl, ?_⟩
  | with_reducible refine ex_par ?_
  | with_reducible refine r_back ?_
  | with_reducible refine ex_par3 ?_
  | with_reducible refine ty_s ?_
  | with_reducible refine tru_b ?_
  | with_reducible refine iteT ?_ | with_reducible refine iteF ?_ | with_reducible refine itnT ?_ | with_reducible refine itnF ?_)
local macro_rules | `(tactic| walk_at "go") => `(tactic| repeat walk_at "st")
local macro_rules | `(tactic| walk_at "cl") => `(tactic| try dsimp only [cxOf, Cx.nox, Cx.wish])
/-! ### what a call comes to -/
local macro_rules | `(tactic| walk_at "st") => `(tactic| first
  | with_reducible refine r_callE ?_ | with_reducible refine r_callEK ?_ | with_reducible refine r_xf ?_ | with_reducible refine ch_eq rfl ?_ | with_reducible refine kh_intb ?_)
abbrev s__law_told : Stmt := topS 81
theorem sc__law_told : FnScope ["_law_style", "_law_matter", "_law_e", "_law_word"] ["_law_style", "_law_matter"] (defScope s__law_told) := ⟨rfl, rfl, rfl, by decide +kernel, rfl, by decide +kernel, by decide +kernel⟩
def pdV : V → PyData
  | .int i => .int i
  | .str z => .str z
  | _ => .none
def toldD (d : PyData) : PyData := .tuple [.str "told", d]
def amissD (v : V) : PyData := .tuple [.str "tokens", pdV v]
/-- the data that a call of this style comes to -/
def Outc (K : PySem.W.Frag) (H : Hp) (k : Int) (x : V) (D : PyData) : Prop := ∃ T, Tyb K H x T ∧
  (((k = 0 ∨ k = 1) ∧ ((T ≠ "tuple" ∧ D = amissD .non) ∨ (T = "tuple" ∧ ∃ a xs, x = .ref a ∧ SqT K H a xs ∧ TupOk K H xs ∧ (wrongV xs = .non → ∃ zs, xs = stS zs ∧ Small zs ∧ D = toldD (.str (Txt.join sp1 zs))) ∧ (wrongV xs ≠ .non → D = amissD (wrongV xs))))) ∨
   ((k = 2 ∨ k = 3) ∧ ((T ≠ "str" ∧ D = amissD .non) ∨ (T = "str" ∧ ∃ z, x = .str z ∧ z.length ≤ 100000 ∧ Big (Txt.split z sp1) ∧ (wrongV (stS (words z)) = .non → D = toldD (.tuple ((words z).map PyData.str))) ∧ (wrongV (stS (words z)) ≠ .non → D = amissD (wrongV (stS (words z))))))))
def spTold (K : PySem.W.Frag) : Sp := fun vs H Q _ => ∃ k x D, vs = [.int k, x] ∧ Outc K H k x D ∧ ∀ t H', Same H H' → Dp K H' (.ref t) D → Q (.ref t) H'
theorem wrongV_kind (xs : List V) : wrongV xs = .non ∨ ∃ i, wrongV xs = .int i := by
  unfold wrongV
  split
  · exact .inr ⟨_, rfl⟩
  · split
    · exact .inr ⟨_, rfl⟩
    · exact .inl rfl
section
variable {P : Program} {w : World} {K : PySem.W.Frag} {mg : Str → Option Value} {base : Heap} {H : Hp} {Q : VK} {C : Addr}
theorem ok__law_told {CT CS CR : Addr} (F : Fn0 K mg "_law_told" s__law_told ["_law_style", "_law_matter"]) (m : Md mg) (n_TongueError : mg "TongueError" = some (.ref CT)) (n_StandError : mg "StandError" = some (.ref CS)) (n_RoomError : mg "RoomError" = some (.ref CR))
    (ex : PySem.W.exmAny K (.ref C) [.ref CT, .ref CS, .ref CR] = some true) (f_NoTokens : XfG K C "place") (c__law_sort : FnY P w K mg base 1 "_law_sort" ["_law_e"] (spSort C))
    (c_show_tokens : FnE P w K mg base 7 "show_tokens" ["tokens"] (spShowE K C)) (c_show_tokens_0_tokens : FnEK P w K mg base 7 "show_tokens" ["tokens"] (spShowE K C)) (c_read_tokens : FnE P w K mg base 7 "read_tokens" ["text"] (spReadE K C)) (c_read_tokens_0_text : FnEK P w K mg base 7 "read_tokens" ["text"] (spReadE K C)) :
    FnG P w K mg base 8 "_law_told" ["_law_style", "_law_matter"] (spTold K) := by
  refine F.ok sc__law_told (fun vs H Q E h => ?_) (fun a cdv A outer s H vs Q E L hr h => ?_)
  · obtain ⟨k, x, D, rfl, _⟩ := h
    rfl
  have nd := sc__law_told.nd
  refine ⟨_, (pss_one (ps_try_tup3 (i := 2) rfl rfl nd rfl rfl (nm_own n_TongueError (by rfl)) (nm_own n_StandError (by rfl)) (nm_own n_RoomError (by rfl)) takes0N (fun W pn xe tk _ => (pss_cons (ps_if (pt_cmpR (op_ L.try_) (pv 0) pe_int (nomark _)) (pss_one (ps_ret (pe_tup (pa_cons pe_str (pa_cons (pe_callE c_show_tokens (hr.mono (by decide)) (by rfl) tk (pa_cons (pv 1) pa_nil)) pa_nil))))) pss_nil) (pss_cons (ps_if (pt_cmpR (op_ L.try_) (pv 0) pe_int (nomark _)) (pss_one (ps_ret (pe_tup (pa_cons pe_str (pa_cons (pe_callEK c_show_tokens_0_tokens (hr.mono (by decide)) (by rfl) tk (pk_cons (pv 1) pk_nil)) pa_nil))))) pss_nil) (pss_cons (ps_if (pt_cmpR (op_ L.try_) (pv 0) pe_int (nomark _)) (pss_one (ps_ret (pe_tup (pa_cons pe_str (pa_cons (pe_callE c_read_tokens (hr.mono (by decide)) (by rfl) tk (pa_cons (pv 1) pa_nil)) pa_nil))))) pss_nil) (pss_one (ps_ret (pe_tup (pa_cons pe_str (pa_cons (pe_callEK c_read_tokens_0_text (hr.mono (by decide)) (by rfl) tk (pk_cons (pv 1) pk_nil)) pa_nil))))))))) (fun a oe cls d pn hz hf => (pss_cons (ps_set (i := 3) nd rfl (.inl rfl) (pe_callY c__law_sort (room_s (hr.mono (by decide))) (L.suite_ hz hf).hot (L.suite_ hz hf).pn (by rfl) (pa_cons (pv 2) pa_nil))) (pss_cons (ps_if (pt_cmpR (op_H (L.suite_ hz hf)) (pv 3) pe_str (nomark _)) (pss_one (ps_ret (pe_tup (pa_cons (pv 3) (pa_cons (pe_ix (oiH (L.suite_ hz hf)) (pe_lst (pa_cons (pe_xfH f_NoTokens hz hf (pv 2)) (pa_cons pe_str pa_nil))) (pe_callTy (ocH (L.suite_ hz hf)) (by rfl) m.int_ bt_int (pa_cons (pe_callB (ocH (L.suite_ hz hf)) (by rfl) m.isinstance_ bt_isinstance (pa_cons (pe_xfH f_NoTokens hz hf (pv 2)) (pa_cons (pe_bltn (v := .ty "bool") (by rfl) m.bool_ bt_bool rfl) pa_nil))) pa_nil)) (fun _ _ => rfl)) pa_nil))))) pss_nil) (pss_one (ps_ret (pe_tup (pa_cons (pv 3) (pa_cons pe_non pa_nil)))))))))), ?_⟩
  obtain ⟨k, x, D, rfl, ⟨T, hT, hO⟩, q⟩ := h
  generalize e : wTup _ _ _ _ _ _ = W
  have hW : ∀ (v : V) (H1 : Hp) (d : Addr), (v = .non ∨ ∃ i, v = .int i) → D = amissD v → Same H H1 → H1 d = none → W (.ref C) (some d) [some (.int k), some x, none, none] (upd H1 d (.xd [("place", v)])) := fun v H1 d hv hD s1 hd => by
    rw [← e]
    have s2 : Same H (upd H1 d (.xd [("place", v)])) := s1.trans (Same.new hd)
    have e2 : (upd H1 d (.xd [("place", v)])) d = some (.xd [("place", v)]) := upd_same
    generalize upd H1 d (.xd [("place", v)]) = H2 at s2 e2 ⊢
    refine ⟨true, ex, fun _ a oe hz hf na => ?_, fun h => nomatch h⟩
    walk_at "go"
    refine ⟨d, [("place", v)], rfl, hz, hf, e2, fun H3 s3 => ?_⟩
    have e3 := s3 _ _ e2
    walk_at "go"
    refine ite2 (fun _ => ?_) (fun h => absurd h (by simp))
    walk_at "go"
    refine ⟨rfl, rfl, d, _, v, rfl, e3, lf_eq, ?_⟩
    walk_at "go"
    refine ⟨sz1000 (by show 2 ≤ 1000; decide), fun l nl => ?_⟩
    have e4 : (upd H3 l (.lst [v, .str "truth"])) d = some (.xd [("place", v)]) := Same.new nl _ _ e3
    walk_at "go"
    refine ⟨rfl, rfl, d, _, v, rfl, e4, lf_eq, ?_⟩
    walk_at "go"
    have fin : ∀ {t : Addr}, (upd H3 l (.lst [v, .str "truth"])) t = none → Q (.ref t) (upd (upd H3 l (.lst [v, .str "truth"])) t (.tup [.str "tokens", v])) := fun {t} nt => by
      refine q t _ ((s2.trans s3).trans ((Same.new nl).trans (Same.new nt))) ?_
      rw [hD]
      refine .tup (SqT.of upd_same) (.cons (.str _) (.cons ?_ .nil))
      rcases hv with rfl | ⟨i, rfl⟩
      · exact .non
      · exact .int i
    have isb : ∀ {R : VK}, R (.bl false) (upd H3 l (.lst [v, .str "truth"])) → hC P w K (a, oe) (.builtin "isinstance") [v, .ty "bool"] (upd H3 l (.lst [v, .str "truth"])) R := fun {R} r => by
      rcases hv with rfl | ⟨i, rfl⟩
      · exact kh_isi (.ty "bool") (.base .non) (kit_ty (a := "NoneType") (b := "bool") (r := false) (by decide +kernel)) r
      · exact kh_isi (.ty "bool") (.base (.int i)) (kit_ty (a := "int") (b := "bool") (r := false) (by decide +kernel)) r
    refine isb ?_
    walk_at "go"
    refine ih_lst (x := v) (SqL.of upd_same) rfl ?_
    walk_at "go"
    exact ⟨sz1000 (by show 2 ≤ 1000; decide), fun t nt => fin nt⟩
  have shw : (k = 0 ∨ k = 1) → ∀ R : VK, (∀ z H', Same H H' → D = toldD (.str z) → R (.str z) H') → spShowE K C [x] H R (fun cls d H' => W cls d [some (.int k), some x, none, none] H') := fun hk R r => by
    refine ⟨x, T, rfl, hT, ?_⟩
    rcases hO with ⟨_, ⟨n, hD⟩ | ⟨rfl, a, xs, rfl, hS, hU, h1, h2⟩⟩ | ⟨hk2, _⟩
    · exact .inl ⟨n, fun H' d s hd => hW _ _ _ (.inl rfl) hD s hd⟩
    · refine .inr ⟨rfl, a, xs, rfl, hS, hU, fun e0 => ?_, fun n H' d s hd => hW _ _ _ (wrongV_kind xs) (h2 n) s hd⟩
      obtain ⟨zs, ez, sm, hD⟩ := h1 e0
      exact ⟨zs, ez, sm, fun H' s => r _ H' s hD⟩
    · exfalso
      omega
  have red : (k = 2 ∨ k = 3) → ∀ R : VK, (∀ p zs H', Same H H' → H' p = some (.tup (stS zs)) → D = toldD (.tuple (zs.map PyData.str)) → R (.ref p) H') → spReadE K C [x] H R (fun cls d H' => W cls d [some (.int k), some x, none, none] H') := fun hk R r => by
    refine ⟨x, T, rfl, hT, ?_⟩
    rcases hO with ⟨hk2, _⟩ | ⟨_, ⟨n, hD⟩ | ⟨rfl, z, rfl, hz, sm, h1, h2⟩⟩
    · exfalso
      omega
    · exact .inl ⟨n, fun H' d s hd => hW _ _ _ (.inl rfl) hD s hd⟩
    · exact .inr ⟨rfl, z, rfl, hz, sm, fun e0 p H' s np ep => r p _ H' s ep (h1 e0), fun n H' d s hd => hW _ _ _ (wrongV_kind _) (h2 n) s hd⟩
  have out1 : ∀ (z : Str) (H' : Hp), Same H H' → D = toldD (.str z) → ∀ t, H' t = none → Q (.ref t) (upd H' t (.tup [.str "told", .str z])) := fun z H' s hD t nt => by
    refine q t _ (s.trans (Same.new nt)) ?_
    rw [hD]
    exact .tup (SqT.of upd_same) (.cons (.str _) (.cons (.str _) .nil))
  have out2 : ∀ (p : Addr) (zs : List Str) (H' : Hp), Same H H' → H' p = some (.tup (stS zs)) → D = toldD (.tuple (zs.map PyData.str)) → ∀ t, H' t = none → Q (.ref t) (upd H' t (.tup [.str "told", .ref p])) := fun p zs H' s ep hD t nt => by
    refine q t _ (s.trans (Same.new nt)) ?_
    rw [hD]
    exact .tup (SqT.of upd_same) (.cons (.str _) (.cons (.tup (SqT.of (Same.new nt _ _ ep)) (dp_strs zs)) .nil))
  clear hW e
  have hk : k = 0 ∨ k = 1 ∨ k = 2 ∨ k = 3 := by
    rcases hO with ⟨hk, _⟩ | ⟨hk, _⟩ <;> omega
  rcases hk with rfl | rfl | rfl | rfl
  · walk_at "go"
    refine ite2 (fun _ => ?_) (fun h => absurd h (by simp))
    walk_at "go"
    refine shw (.inl rfl) _ fun z H' s hD => ?_
    walk_at "go"
    exact ⟨sz1000 (by show 2 ≤ 1000; decide), fun t nt => out1 z H' s hD t nt⟩
  · walk_at "go"
    refine ite2 (fun h => absurd h (by simp)) (fun _ => ?_)
    walk_at "go"
    refine ite2 (fun _ => ?_) (fun h => absurd h (by simp))
    walk_at "go"
    refine ⟨rfl, shw (.inr rfl) _ fun z H' s hD => ?_⟩
    walk_at "go"
    exact ⟨sz1000 (by show 2 ≤ 1000; decide), fun t nt => out1 z H' s hD t nt⟩
  · walk_at "go"
    refine ite2 (fun h => absurd h (by simp)) (fun _ => ?_)
    walk_at "go"
    refine ite2 (fun h => absurd h (by simp)) (fun _ => ?_)
    walk_at "go"
    refine ite2 (fun _ => ?_) (fun h => absurd h (by simp))
    walk_at "go"
    refine red (.inl rfl) _ fun p zs H' s ep hD => ?_
    walk_at "go"
    exact ⟨sz1000 (by show 2 ≤ 1000; decide), fun t nt => out2 p zs H' s ep hD t nt⟩
  · walk_at "go"
    refine ite2 (fun h => absurd h (by simp)) (fun _ => ?_)
    walk_at "go"
    refine ite2 (fun h => absurd h (by simp)) (fun _ => ?_)
    walk_at "go"
    refine ite2 (fun h => absurd h (by simp)) (fun _ => ?_)
    walk_at "go"
    refine ⟨rfl, red (.inr rfl) _ fun p zs H' s ep hD => ?_⟩
    walk_at "go"
    exact ⟨sz1000 (by show 2 ≤ 1000; decide), fun t nt => out2 p zs H' s ep hD t nt⟩
end
end Tk

set_option Elab.async false
set_option linter.all false
set_option maxRecDepth 100000
set_option maxHeartbeats 4000000
namespace Tk
open PySem PySem.Spec PyProof.Rows L2 Lay
open TL (tl ext_tl len_tl tl_append tl_mk mk_tl)
local macro_rules | `(tactic| walk_at "if") => `(tactic| refine ite2 (fun hc => ?_) (fun hc => ?_))
local macro_rules | `(tactic| walk_at "lk") => `(tactic| first | exact upd_same | assumption)
local macro_rules | `(tactic| walk_at "st") => `(tactic| first
  | with_reducible refine r_var rfl ?_ | with_reducible refine r_c ?_ | with_reducible refine r_op ?_ | with_reducible refine r_cons ?_ | with_reducible refine r_nil ?_ | with_reducible refine r_vals ?_
  | with_reducible refine r_cb ?_ | with_reducible refine r_tup ?_ | with_reducible refine r_lst ?_ | with_reducible refine r_call ?_ | with_reducible refine r_test ?_
  | with_reducible refine r_if ?_ | with_reducible refine r_not ?_ | with_reducible refine r_bm ?_ | with_reducible refine r_sl ?_ | with_reducible refine r_np ?_ | with_reducible refine r_part ?_
  | with_reducible refine r_seq ?_ | with_reducible refine r_asg ?_ | with_reducible refine r_name ?_ | with_reducible refine r_ifs ?_ | with_reducible refine r_ret ?_ | with_reducible refine r_next ?_ | with_reducible refine r_par ?_ | with_reducible refine r_par3 ?_ | with_reducible refine r_brk ?_ | with_reducible refine r_cnt ?_ | with_reducible refine r_sub ?_
  | with_reducible refine r_andT ?_ | with_reducible refine r_orT ?_ | with_reducible refine r_notT ?_ | with_reducible refine r_or ?_ | with_reducible refine r_and ?_ | with_reducible refine r_tB ?_ | with_reducible refine r_drop ?_ | with_reducible refine r_callN ?_ | with_reducible refine r_chain ?_
  | with_reducible refine r_for ?_ | with_reducible refine r_lc ?_ | with_reducible refine r_iseq ?_ | with_reducible refine r_rng1 ?_ | with_reducible refine r_enum ?_ | with_reducible refine r_yes ?_ | with_reducible refine r_tru ?_ | with_reducible refine r_gtup ?_ | with_reducible refine r_gcons ?_ | with_reducible refine r_gnil ?_
  | with_reducible refine b_add ?_ | with_reducible refine b_sub ?_ | (with_reducible refine b_mul (by unfold CMul; omega) ?_) | (with_reducible refine b_mod (by omega) ?_) | (with_reducible refine b_fdiv (by unfold CDiv; omega) ?_)
  | with_reducible refine c_lt ?_ | with_reducible refine c_le ?_ | with_reducible refine c_gt ?_ | with_reducible refine c_ge ?_ | with_reducible refine c_isN ?_ | with_reducible refine c_notN ?_ | with_reducible refine c_isB ?_ | with_reducible refine c_eq rfl ?_ | with_reducible refine c_ne rfl ?_
  | with_reducible refine c_insign ?_ | with_reducible refine k_int ?_ | with_reducible refine k_intb ?_ | with_reducible refine k_max ?_ | with_reducible refine k_min ?_
  | with_reducible refine ⟨_, rfl, ?_⟩
  | with_reducible refine ex_par ?_
  | with_reducible refine r_back ?_
  | with_reducible refine ex_par3 ?_
  | with_reducible refine ty_s ?_
  | with_reducible refine tru_b ?_
  | with_reducible refine iteT ?_ | with_reducible refine iteF ?_ | with_reducible refine itnT ?_ | with_reducible refine itnF ?_)
local macro_rules | `(tactic| walk_at "go") => `(tactic| repeat walk_at "st")
local macro_rules | `(tactic| walk_at "cl") => `(tactic| try dsimp only [cxOf, Cx.nox, Cx.wish])
/-! ### what is shown, what is read -/
abbrev s__law_shown_right : Stmt := topS 82
theorem sc__law_shown_right : FnScope ["_law_lot", "_law_due", "_law_told_here", "_law_style"] ["_law_lot"] (defScope s__law_shown_right) := ⟨rfl, rfl, rfl, by decide +kernel, rfl, by decide +kernel, by decide +kernel⟩
abbrev s__law_read_right : Stmt := topS 83
theorem sc__law_read_right : FnScope ["_law_verse", "_law_lot", "_law_due", "_law_told_here", "_law_part", "_law_style"] ["_law_verse"] (defScope s__law_read_right) := ⟨rfl, rfl, rfl, by decide +kernel, rfl, by decide +kernel, by decide +kernel⟩
def spShown (K : PySem.W.Frag) : Sp := fun vs H Q _ => ∃ a xs, vs = [.ref a] ∧ SqT K H a xs ∧ TupOk K H xs ∧ xs.length ≤ 1000000 ∧ ∀ H', Same H H' → Q (.bl true) H'
def Vrs (z : Str) : Prop := z.length ≤ 100000
def spVerse (K : PySem.W.Frag) : Sp := fun vs H Q _ => ∃ z, vs = [.str z] ∧ Vrs z ∧ ∀ H', Same H H' → Q (.bl true) H'
theorem strsT : ∀ {xs : List V}, (∀ x ∈ xs, ∃ z, x = .str z ∧ isTok z = true) → ∃ zs : List Str, xs = stS zs ∧ ∀ z ∈ zs, isTok z = true
  | [], _ => ⟨[], rfl, fun _ h => nomatch h⟩
  | x :: r, h => by
    obtain ⟨zs, e, hz⟩ := strsT (xs := r) fun y hy => h y (List.mem_cons_of_mem _ hy)
    obtain ⟨z, rfl, hx⟩ := h x List.mem_cons_self
    refine ⟨z :: zs, by rw [e]; rfl, fun y hy => ?_⟩
    rcases List.mem_cons.mp hy with rfl | hy
    · exact hx
    · exact hz y hy
theorem wrong_len {xs : List V} (h : wrongV xs = .non) : xs.length ≤ 40 := by
  unfold wrongV at h
  split at h
  · cases h
  · split at h
    · cases h
    · omega
theorem tok_len {z : Str} (h : isTok z = true) : z.length ≤ 13 := by
  rw [len_tl]
  exact (tok_signs h).2.1
theorem wrong_strs {xs : List V} (h : wrongV xs = .non) : ∃ zs, xs = stS zs ∧ Small zs ∧ ∀ z ∈ zs, isTok z = true := by
  obtain ⟨zs, e, hz⟩ := strsT (toks_of h)
  have := wrong_len h
  rw [e, stS_len] at this
  exact ⟨zs, e, ⟨by omega, fun z m => Nat.le_trans (tok_len (hz z m)) (by decide)⟩, hz⟩
theorem tl_sp1' : tl sp1 = [32] := by decide +kernel
theorem joinL_all (p : Nat → Prop) (h32 : p 32) : ∀ ps : List (List Nat), (∀ l ∈ ps, ∀ c ∈ l, p c) → ∀ c ∈ TL.joinL [32] ps, p c
  | [], _, c, hc => nomatch hc
  | [l], h, c, hc => h l List.mem_cons_self c hc
  | l :: q :: r, h, c, hc => by
    have hc' : c ∈ l ++ ([32] ++ TL.joinL [32] (q :: r)) := hc
    rcases List.mem_append.mp hc' with hc | hc
    · exact h l List.mem_cons_self c hc
    · rcases List.mem_append.mp hc with hc | hc
      · rw [List.mem_singleton.mp hc]
        exact h32
      · exact joinL_all p h32 (q :: r) (fun z hz => h z (List.mem_cons_of_mem _ hz)) c hc
theorem join_ok {zs : List Str} (h : ∀ z ∈ zs, isTok z = true) : PyData.strOk (Txt.join sp1 zs) = true := by
  unfold PyData.strOk
  rw [Array.all_eq_true_iff_forall_mem]
  intro c hc
  have hc' : c ∈ tl (Txt.join sp1 zs) := Array.mem_toList_iff.mpr hc
  rw [TL.join_eq, TL.tl_join, tl_sp1'] at hc'
  refine decide_eq_true (joinL_all (fun c => c < 1114112) (by decide) _ (fun l hl => ?_) c hc')
  obtain ⟨z, hz, rfl⟩ := List.mem_map.mp hl
  exact fun c hc => ((tok_signs (h z hz)).2.2 c hc).2
theorem big_of {z : Str} (h : z.length ≤ 100000) : Big (Txt.split z sp1) := by
  have e : (Txt.split z sp1).map tl = TL.spl (tl sp1) 0 [] (tl z) := TL.split_spl z sp1 (by rw [tl_sp1']; decide) (TL.kind_ok (by decide +kernel))
  rw [tl_sp1'] at e
  rw [len_tl] at h
  refine ⟨?_, fun u hu => ?_⟩
  · have := spl_len 32 (tl z) []
    rw [← e, List.length_map] at this
    omega
  · have := spl_each 32 (tl z) [] (tl u) (by rw [← e]; exact List.mem_map.mpr ⟨u, hu, rfl⟩)
    rw [len_tl]
    simp only [List.length_nil] at this
    omega
theorem ok_told : PyData.strOk (Str.ofString "told") = true := by decide +kernel
theorem ok_toks : PyData.strOk (Str.ofString "tokens") = true := by decide +kernel
theorem gd_toldS {z : Str} (h : PyData.strOk z = true) : DGd (toldD (.str z)) := ⟨rfl, by simp [toldD, PyData.canLay0, PyData.canLayAll0, h, ok_told], by simp [toldD, PyData.depth, PyData.depthAll]⟩
theorem nlA_strs : ∀ zs : List Str, nlA (zs.map PyData.str) = true
  | [] => rfl
  | z :: r => by
    rw [List.map_cons, nlA, nlA_strs r]
    rfl
theorem gd_toldT {zs : List Str} (h : SOk zs) : DGd (toldD (.tuple (zs.map PyData.str))) := ⟨by simp [toldD, nlD, nlA, nlA_strs], by simp [toldD, PyData.canLay0, PyData.canLayAll0, lay_strs h, ok_told], by
  have := dep_strs zs
  simp [toldD, PyData.depth, PyData.depthAll]
  omega⟩
theorem gd_amiss {v : V} (h : v = .non ∨ ∃ i, v = .int i) : DGd (amissD v) := by
  rcases h with rfl | ⟨i, rfl⟩ <;> exact ⟨rfl, by simp [amissD, pdV, PyData.canLay0, PyData.canLayAll0, ok_toks], by simp [amissD, pdV, PyData.depth, PyData.depthAll]⟩
section
variable {P : Program} {w : World} {K : PySem.W.Frag} {mg : Str → Option Value} {base : Heap} {H : Hp} {Q : VK}
theorem dp_pd {v : V} (h : v = .non ∨ ∃ i, v = .int i) : Dp K H v (pdV v) := by
  rcases h with rfl | ⟨i, rfl⟩
  · exact .non
  · exact .int i
theorem Outc.same {H H' : Hp} {k : Int} {x : V} {D : PyData} (s : Same H H') (h : Outc K H k x D) : Outc K H' k x D := by
  obtain ⟨T, t, h⟩ := h
  refine ⟨T, Tyb.same s t, ?_⟩
  rcases h with ⟨hk, h | ⟨e, a, xs, ex, h1, h2, h3⟩⟩ | h
  · exact .inl ⟨hk, .inl h⟩
  · exact .inl ⟨hk, .inr ⟨e, a, xs, ex, Same.sqt s h1, h2.same s, h3⟩⟩
  · exact .inr h
theorem u_told {k : Int} {x : V} {D : PyData} (h : Outc K H k x D) (q : ∀ t H', Same H H' → Dp K H' (.ref t) D → Q (.ref t) H') : spTold K ([.int k, x] ++ []) H Q E0 := ⟨k, x, D, rfl, h, q⟩
theorem u_shown {a : Addr} {xs : List V} (h : SqT K H a xs) (o : TupOk K H xs) (n : xs.length ≤ 1000000) (q : ∀ H', Same H H' → Q (.bl true) H') : spShown K ([.ref a] ++ []) H Q E0 := ⟨a, xs, rfl, h, o, n, q⟩
theorem u_verse {z : Str} (h : Vrs z) (q : ∀ H', Same H H' → Q (.bl true) H') : spVerse K ([.str z] ++ []) H Q E0 := ⟨z, rfl, h, q⟩
theorem ok__law_shown_right (F : Fn0 K mg "_law_shown_right" s__law_shown_right ["_law_lot"]) (m : Md mg) (c__law_amiss : FnG P w K mg base 3 "_law_amiss" ["_law_some"] (spAmiss K)) (c__law_told : FnG P w K mg base 8 "_law_told" ["_law_style", "_law_matter"] (spTold K)) :
    FnG P w K mg base 9 "_law_shown_right" ["_law_lot"] (spShown K) := by
  refine F.ok sc__law_shown_right (fun vs H Q E h => ?_) (fun a cdv A outer s H vs Q E L hr h => ?_)
  · obtain ⟨a, xs, rfl, _⟩ := h
    rfl
  have nd := sc__law_shown_right.nd
  refine ⟨_, (pss_cons (ps_par (i := 1) (j := 2) rfl nd rfl rfl (by decide) rfl rfl (pa_cons (pe_callG c__law_amiss (hr.mono (by decide)) (by rfl) (pa_cons (pv 0) pa_nil)) (pa_cons (pe_lc (own := [("_law_style", 3)]) rfl nd (pi_seqL L (pe_lst (pa_cons pe_int (pa_cons pe_int (pa_cons pe_int pa_nil))))) (blkOk_by (own := [("_law_style", 3)]) (N := ["_law_lot", "_law_due", "_law_told_here", "_law_style"]) (sc := defScope s__law_shown_right) (by decide +kernel)) (fun _ _ _ _ _ => (pg_name (i := 3) nd rfl (.inl rfl))) (fun _ _ _ _ _ => inT L.b pts_nil) (fun _ _ _ _ _ => inE L.b (pe_callG c__law_told (hr.mono (by decide)) (by rfl) (pa_cons (pv 3) (pa_cons (pv 0) pa_nil))))) pa_nil)) (by rfl)) (pss_cons (ps_if (pt_cmpR (op_ L) (pv 1) pe_non (nomark _)) (pss_one (ps_ret (pe_cmpR (op_ L) (pv 2) (pe_op (ob L) (pe_lst (pa_cons (pe_tup (pa_cons pe_str (pa_cons (pe_bmL L PySem.F.plainAttrs_str PySem.F.slot_str_join PySem.F.type_str_join pe_str (pa_cons (pv 0) pa_nil)) pa_nil))) pa_nil)) pe_int) (nomark _)))) pss_nil) (pss_one (ps_ret (pe_cmpR (op_ L) (pv 2) (pe_op (ob L) (pe_lst (pa_cons (pe_tup (pa_cons pe_str (pa_cons (pv 1) pa_nil))) pa_nil)) pe_int) (nomark _)))))), ?_⟩
  obtain ⟨a, xs, rfl, hS, hO, lx, q⟩ := h
  obtain ⟨D, gd, hD1, hD2⟩ : ∃ D, DGd D ∧ (wrongV xs = .non → ∃ zs, xs = stS zs ∧ Small zs ∧ D = toldD (.str (Txt.join sp1 zs))) ∧ (wrongV xs ≠ .non → D = amissD (wrongV xs)) := by
    by_cases e : wrongV xs = .non
    · obtain ⟨zs, e1, e2, e3⟩ := wrong_strs e
      exact ⟨_, gd_toldS (join_ok e3), fun _ => ⟨zs, e1, e2, rfl⟩, fun h => absurd e h⟩
    · exact ⟨_, gd_amiss (wrongV_kind xs), fun h => absurd h e, fun _ => rfl⟩
  have oc : ∀ k : Int, (k = 0 ∨ k = 1) → Outc K H k (.ref a) D := fun k hk => ⟨"tuple", .tup hS, .inl ⟨hk, .inr ⟨rfl, a, xs, rfl, hS, hO, hD1, hD2⟩⟩⟩
  refine r_seqH fun nx2 h2 => ?_
  walk_at "go"
  refine u_amiss hS hO lx fun H1 s1 => ?_
  walk_at "go"
  refine ⟨sz1000 (by show 3 ≤ 1000; decide), fun g hg => ?_⟩
  have sg := s1.trans (Same.new hg (o := .lst [.int 0, .int 1, .int 0]))
  refine .inl ⟨g, _, rfl, SqL.of upd_same, fun L1 hL => ?_⟩
  refine lc_tell (K := K) walk_list gd (by rw [sizeLine_eq]; decide) hL (fun H' s => s.seq (SqL.of upd_same)) (fun i x H' H'' hi sm hy C1 C0 h1 => ?_) (fun H2 ys s2 e2 d2 => ?_)
  · obtain ⟨rfl, hy2⟩ := hy
    obtain ⟨k, rfl, hk⟩ : ∃ k : Int, x = .int k ∧ (k = 0 ∨ k = 1) := by
      have := List.mem_of_getElem? hy2
      simp only [List.mem_cons, List.not_mem_nil, or_false] at this
      rcases this with rfl | rfl | rfl
      · exact ⟨_, rfl, .inl rfl⟩
      · exact ⟨_, rfl, .inr rfl⟩
      · exact ⟨_, rfl, .inl rfl⟩
    walk_at "go"
    refine ⟨rfl, ?_⟩
    walk_at "go"
    refine u_told ((oc k hk).same (sg.trans sm)) fun t H3 s3 e3 => ?_
    exact h1 _ _ s3 e3
  have t2 := sg.trans s2
  walk_at "go"
  refine h2 _ _ ?_
  walk_at "go"
  refine ite2 (fun h => ?_) (fun h => ?_)
  · have e : wrongV xs = .non := by simpa using h
    obtain ⟨zs, rfl, sm, rfl⟩ := hD1 e
    walk_at "go"
    refine m_join (.inr (Same.sqt t2 hS)) sm.sum ?_
    walk_at "go"
    refine ⟨sz1000 (by show 2 ≤ 1000; decide), fun t nt => ?_⟩
    walk_at "go"
    refine ⟨sz1000 (by show 1 ≤ 1000; decide), fun l nl => ?_⟩
    walk_at "go"
    refine b_repD (n := 3) upd_same rfl (by decide) gd (.tup (SqT.of (Same.new nl _ _ upd_same)) (.cons (.str _) (.cons (.str _) .nil))) fun b ys2 H3 s3 e3 d3 => ?_
    have t3 := ((Same.new nt).trans (Same.new nl)).trans s3
    refine c_eqR gd (SqL.of (t3 _ _ e2)) (Dp.stayA (Same.but t3) e2 _ _ (nlA_rep gd.nl _) d2) e3 d3 ?_
    exact q _ (t2.trans t3)
  · have n : wrongV xs ≠ .non := by simpa using h
    have e := hD2 n
    subst e
    walk_at "go"
    refine ⟨sz1000 (by show 2 ≤ 1000; decide), fun t nt => ?_⟩
    walk_at "go"
    refine ⟨sz1000 (by show 1 ≤ 1000; decide), fun l nl => ?_⟩
    walk_at "go"
    refine b_repD (n := 3) upd_same rfl (by decide) gd (.tup (SqT.of (Same.new nl _ _ upd_same)) (.cons (.str _) (.cons (dp_pd (wrongV_kind xs)) .nil))) fun b ys2 H3 s3 e3 d3 => ?_
    have t3 := ((Same.new nt).trans (Same.new nl)).trans s3
    refine c_eqR gd (SqL.of (t3 _ _ e2)) (Dp.stayA (Same.but t3) e2 _ _ (nlA_rep gd.nl _) d2) e3 d3 ?_
    exact q _ (t2.trans t3)
theorem ok__law_read_right (F : Fn0 K mg "_law_read_right" s__law_read_right ["_law_verse"]) (m : Md mg) (c__law_amiss : FnG P w K mg base 3 "_law_amiss" ["_law_some"] (spAmiss K)) (c__law_told : FnG P w K mg base 8 "_law_told" ["_law_style", "_law_matter"] (spTold K)) :
    FnG P w K mg base 9 "_law_read_right" ["_law_verse"] (spVerse K) := by
  refine F.ok sc__law_read_right (fun vs H Q E h => ?_) (fun a cdv A outer s H vs Q E L hr h => ?_)
  · obtain ⟨z, rfl, _⟩ := h
    rfl
  have nd := sc__law_read_right.nd
  refine ⟨_, (pss_cons (ps_set (i := 1) nd rfl (.inl rfl) (pe_callTy (oc L) (by rfl) m.tuple_ bt_tuple (pa_cons (pe_lc (own := [("_law_part", 4)]) rfl nd (pi_seqL L (pe_bmL L PySem.F.plainAttrs_str PySem.F.slot_str_split PySem.F.type_str_split (pv 0) (pa_cons pe_str pa_nil))) (blkOk_by (own := [("_law_part", 4)]) (N := ["_law_verse", "_law_lot", "_law_due", "_law_told_here", "_law_part", "_law_style"]) (sc := defScope s__law_read_right) (by decide +kernel)) (fun _ _ _ _ _ => (pg_name (i := 4) nd rfl (.inl rfl))) (fun _ _ _ _ _ => inT L.b (pts_one (pt_cmpR (op_ L.b) (pv 4) pe_str (nomark _)))) (fun _ _ _ _ _ => inE L.b (pv 4))) pa_nil))) (pss_cons (ps_par (i := 2) (j := 3) rfl nd rfl rfl (by decide) rfl rfl (pa_cons (pe_callG c__law_amiss (hr.mono (by decide)) (by rfl) (pa_cons (pv 1) pa_nil)) (pa_cons (pe_lc (own := [("_law_style", 5)]) rfl nd (pi_seqL L (pe_lst (pa_cons pe_int (pa_cons pe_int (pa_cons pe_int pa_nil))))) (blkOk_by (own := [("_law_style", 5)]) (N := ["_law_verse", "_law_lot", "_law_due", "_law_told_here", "_law_part", "_law_style"]) (sc := defScope s__law_read_right) (by decide +kernel)) (fun _ _ _ _ _ => (pg_name (i := 5) nd rfl (.inl rfl))) (fun _ _ _ _ _ => inT L.b pts_nil) (fun _ _ _ _ _ => inE L.b (pe_callG c__law_told (hr.mono (by decide)) (by rfl) (pa_cons (pv 5) (pa_cons (pv 0) pa_nil))))) pa_nil)) (by rfl)) (pss_cons (ps_if (pt_cmpR (op_ L) (pv 2) pe_non (nomark _)) (pss_one (ps_ret (pe_cmpR (op_ L) (pv 3) (pe_op (ob L) (pe_lst (pa_cons (pe_tup (pa_cons pe_str (pa_cons (pv 1) pa_nil))) pa_nil)) pe_int) (nomark _)))) pss_nil) (pss_one (ps_ret (pe_cmpR (op_ L) (pv 3) (pe_op (ob L) (pe_lst (pa_cons (pe_tup (pa_cons pe_str (pa_cons (pv 2) pa_nil))) pa_nil)) pe_int) (nomark _))))))), ?_⟩
  obtain ⟨z, rfl, hz, q⟩ := h
  have hz' : z.length ≤ 100000 := hz
  have hO := big_of hz
  have sw : ∀ y ∈ words z, y.length ≤ 200000 := fun y hy => hO.2 y (List.mem_filter.mp hy).1
  have lw : (words z).length ≤ 200000 := Nat.le_trans (List.length_filter_le _ _) hO.1
  obtain ⟨D, gd, hD1, hD2⟩ : ∃ D, DGd D ∧ (wrongV (stS (words z)) = .non → D = toldD (.tuple ((words z).map PyData.str))) ∧ (wrongV (stS (words z)) ≠ .non → D = amissD (wrongV (stS (words z)))) := by
    by_cases e : wrongV (stS (words z)) = .non
    · refine ⟨_, gd_toldT fun y hy => ?_, fun _ => rfl, fun h => absurd e h⟩
      obtain ⟨u, eu, tu⟩ := toks_of e (.str y) (List.mem_map.mpr ⟨y, hy, rfl⟩)
      cases eu
      exact tok_ok tu
    · exact ⟨_, gd_amiss (wrongV_kind _), fun h => absurd h e, fun _ => rfl⟩
  have oc : ∀ (H : Hp) (k : Int), (k = 2 ∨ k = 3) → Outc K H k (.str z) D := fun H k hk => ⟨"str", .str z, .inr ⟨hk, .inr ⟨rfl, z, rfl, hz, hO, hD1, hD2⟩⟩⟩
  refine r_seqH fun nx0 h0 => ?_
  walk_at "go"
  refine m_split (by decide +kernel) (by rw [sizeLine_eq]; omega) fun S hS => ?_
  have sS : Same H (upd H S (.lst ((Txt.split z sp1).map V.str))) := Same.new hS
  refine .inl ⟨S, _, rfl, SqL.of upd_same, fun D hD => ?_⟩
  refine lc_pureL ((Txt.split z sp1).map V.str) .non walk_list (fun x => match x with | .str y => decide (y.length ≠ 0) | _ => false) (fun x => x) (by
    rw [List.length_map, sizeLine_eq]
    have := hO.1
    omega) hD (fun H' s => s.seq (SqL.of upd_same)) (fun i x y H' H'' hi sm hy C1 C0 h1 h0 => ?_) (fun H' sm hd => ?_)
  · obtain ⟨rfl, hy2⟩ := hy
    cases hi.symm.trans hy2
    obtain ⟨u, hu, rfl⟩ := List.mem_map.mp (List.mem_of_getElem? hi)
    have eu : decide (V.str u = V.str (Str.ofString "")) = decide (u.length = 0) := by
      by_cases e : u.length = 0
      · rw [decide_eq_true e, decide_eq_true]
        rw [V.str.injEq]
        refine ext_tl ?_
        rw [len_tl] at e
        rw [List.length_eq_zero_iff.mp e]
        decide +kernel
      · rw [decide_eq_false e, decide_eq_false]
        intro h
        rw [V.str.inj h] at e
        exact e (by decide +kernel)
    walk_at "go"
    refine ⟨rfl, ?_⟩
    walk_at "go"
    rw [eu]
    refine ite2 (fun h => ?_) (fun h => ?_)
    · walk_at "go"
      exact h1 (by simpa using h) _ (Same.refl _)
    · exact h0 (by simpa using h) _ (Same.refl _)
  have ew : (((Txt.split z sp1).map V.str).filter (fun x => match x with | .str y => decide (y.length ≠ 0) | _ => false)).map (fun x => x) = stS (words z) := by
    unfold stS words
    rw [List.map_id', List.filter_map]
    rfl
  rw [ew] at hd
  walk_at "go"
  refine k_tupL (SqL.of hd) fun p hp => ?_
  walk_at "go"
  refine h0 _ _ ?_
  have sp : Same H (upd H' p (.tup (stS (words z)))) := (sS.trans sm).trans (Same.new hp)
  have ep : (upd H' p (.tup (stS (words z)))) p = some (.tup (stS (words z))) := upd_same
  generalize upd H' p (.tup (stS (words z))) = H1 at sp ep ⊢
  refine r_seqH fun nx2 h2 => ?_
  walk_at "go"
  refine u_amiss (SqT.of ep) (TupOk.stS fun y hy => Nat.le_trans (sw y hy) (by decide)) (by rw [stS_len]; omega) fun H2 s2 => ?_
  walk_at "go"
  refine ⟨sz1000 (by show 3 ≤ 1000; decide), fun g hg => ?_⟩
  have sg := s2.trans (Same.new hg (o := .lst [.int 2, .int 3, .int 2]))
  refine .inl ⟨g, _, rfl, SqL.of upd_same, fun L1 hL => ?_⟩
  refine lc_tell (K := K) walk_list gd (by rw [sizeLine_eq]; decide) hL (fun H' s => s.seq (SqL.of upd_same)) (fun i x H' H'' hi sm hy C1 C0 h1 => ?_) (fun H3 ys s3 e3 d3 => ?_)
  · obtain ⟨rfl, hy2⟩ := hy
    obtain ⟨k, rfl, hk⟩ : ∃ k : Int, x = .int k ∧ (k = 2 ∨ k = 3) := by
      have := List.mem_of_getElem? hy2
      simp only [List.mem_cons, List.not_mem_nil, or_false] at this
      rcases this with rfl | rfl | rfl
      · exact ⟨_, rfl, .inl rfl⟩
      · exact ⟨_, rfl, .inr rfl⟩
      · exact ⟨_, rfl, .inl rfl⟩
    walk_at "go"
    refine ⟨rfl, ?_⟩
    walk_at "go"
    refine u_told (oc _ k hk) fun t H3 s3 e3 => ?_
    exact h1 _ _ s3 e3
  have t3 := sg.trans s3
  have ep3 := t3 _ _ ep
  walk_at "go"
  refine h2 _ _ ?_
  walk_at "go"
  refine ite2 (fun h => ?_) (fun h => ?_)
  · have e : wrongV (stS (words z)) = .non := by simpa using h
    have eD := hD1 e
    subst eD
    walk_at "go"
    refine ⟨sz1000 (by show 2 ≤ 1000; decide), fun t nt => ?_⟩
    walk_at "go"
    refine ⟨sz1000 (by show 1 ≤ 1000; decide), fun l nl => ?_⟩
    walk_at "go"
    refine b_repD (n := 3) upd_same rfl (by decide) gd (.tup (SqT.of (Same.new nl _ _ upd_same)) (.cons (.str _) (.cons (.tup (SqT.of (((Same.new nt).trans (Same.new nl)) _ _ ep3)) (dp_strs (words z))) .nil))) fun b ys2 H4 s4 e4 d4 => ?_
    have t4 := ((Same.new nt).trans (Same.new nl)).trans s4
    refine c_eqR gd (SqL.of (t4 _ _ e3)) (Dp.stayA (Same.but t4) e3 _ _ (nlA_rep gd.nl _) d3) e4 d4 ?_
    exact q _ (sp.trans (t3.trans t4))
  · have n : wrongV (stS (words z)) ≠ .non := by simpa using h
    have e := hD2 n
    subst e
    walk_at "go"
    refine ⟨sz1000 (by show 2 ≤ 1000; decide), fun t nt => ?_⟩
    walk_at "go"
    refine ⟨sz1000 (by show 1 ≤ 1000; decide), fun l nl => ?_⟩
    walk_at "go"
    refine b_repD (n := 3) upd_same rfl (by decide) gd (.tup (SqT.of (Same.new nl _ _ upd_same)) (.cons (.str _) (.cons (dp_pd (wrongV_kind _)) .nil))) fun b ys2 H4 s4 e4 d4 => ?_
    have t4 := ((Same.new nt).trans (Same.new nl)).trans s4
    refine c_eqR gd (SqL.of (t4 _ _ e3)) (Dp.stayA (Same.but t4) e3 _ _ (nlA_rep gd.nl _) d3) e4 d4 ?_
    exact q _ (sp.trans (t3.trans t4))
end
end Tk

set_option Elab.async false
set_option linter.all false
set_option maxRecDepth 100000
set_option maxHeartbeats 4000000
namespace Tk
open PySem PySem.Spec PyProof.Rows L2 Lay
open TL (tl ext_tl len_tl tl_append tl_mk mk_tl)
local macro_rules | `(tactic| walk_at "if") => `(tactic| refine ite2 (fun hc => ?_) (fun hc => ?_))
local macro_rules | `(tactic| walk_at "lk") => `(tactic| first | exact upd_same | assumption)
local macro_rules | `(tactic| walk_at "st") => `(tactic| first
  | with_reducible refine r_var rfl ?_ | with_reducible refine r_c ?_ | with_reducible refine r_op ?_ | with_reducible refine r_cons ?_ | with_reducible refine r_nil ?_ | with_reducible refine r_vals ?_
  | with_reducible refine r_cb ?_ | with_reducible refine r_tup ?_ | with_reducible refine r_lst ?_ | with_reducible refine r_call ?_ | with_reducible refine r_test ?_
  | with_reducible refine r_if ?_ | with_reducible refine r_not ?_ | with_reducible refine r_bm ?_ | with_reducible refine r_sl ?_ | with_reducible refine r_np ?_ | with_reducible refine r_part ?_
  | with_reducible refine r_seq ?_ | with_reducible refine r_asg ?_ | with_reducible refine r_name ?_ | with_reducible refine r_ifs ?_ | with_reducible refine r_ret ?_ | with_reducible refine r_next ?_ | with_reducible refine r_par ?_ | with_reducible refine r_par3 ?_ | with_reducible refine r_brk ?_ | with_reducible refine r_cnt ?_ | with_reducible refine r_sub ?_
  | with_reducible refine r_andT ?_ | with_reducible refine r_orT ?_ | with_reducible refine r_notT ?_ | with_reducible refine r_or ?_ | with_reducible refine r_and ?_ | with_reducible refine r_tB ?_ | with_reducible refine r_drop ?_ | with_reducible refine r_callN ?_ | with_reducible refine r_chain ?_
  | with_reducible refine r_for ?_ | with_reducible refine r_lc ?_ | with_reducible refine r_iseq ?_ | with_reducible refine r_rng1 ?_ | with_reducible refine r_enum ?_ | with_reducible refine r_yes ?_ | with_reducible refine r_tru ?_ | with_reducible refine r_gtup ?_ | with_reducible refine r_gcons ?_ | with_reducible refine r_gnil ?_
  | with_reducible refine b_add ?_ | with_reducible refine b_sub ?_ | (with_reducible refine b_mul (by unfold CMul; omega) ?_) | (with_reducible refine b_mod (by omega) ?_) | (with_reducible refine b_fdiv (by unfold CDiv; omega) ?_)
  | with_reducible refine c_lt ?_ | with_reducible refine c_le ?_ | with_reducible refine c_gt ?_ | with_reducible refine c_ge ?_ | with_reducible refine c_isN ?_ | with_reducible refine c_notN ?_ | with_reducible refine c_isB ?_ | with_reducible refine c_eq rfl ?_ | with_reducible refine c_ne rfl ?_
  | with_reducible refine c_insign ?_ | with_reducible refine k_int ?_ | with_reducible refine k_intb ?_ | with_reducible refine k_max ?_ | with_reducible refine k_min ?_
  | with_reducible refine ⟨_, rfl, ?_⟩
  | with_reducible refine ex_par ?_
  | with_reducible refine r_back ?_
  | with_reducible refine ex_par3 ?_
  | with_reducible refine ty_s ?_
  | with_reducible refine tru_b ?_
  | with_reducible refine iteT ?_ | with_reducible refine iteF ?_ | with_reducible refine itnT ?_ | with_reducible refine itnF ?_)
local macro_rules | `(tactic| walk_at "go") => `(tactic| repeat walk_at "st")
local macro_rules | `(tactic| walk_at "cl") => `(tactic| try dsimp only [cxOf, Cx.nox, Cx.wish])
/-! ### an empty Text -/
local macro_rules | `(tactic| walk_at "pf") => `(tactic| repeat (first | exact pf_nil | exact pf_eq | refine pf_ne (by decide +kernel) ?_))
local macro_rules | `(tactic| walk_at "lf") => `(tactic| repeat (first | exact lf_nil | exact lf_eq | refine lf_ne (by decide +kernel) ?_))
local macro_rules | `(tactic| walk_at "st") => `(tactic| first
  | with_reducible refine r_fld ?_ | with_reducible refine r_sfld ?_ | with_reducible refine r_make ?_ | with_reducible refine r_meth ?_ | (with_reducible refine r_dnewK ?_))
abbrev s_Standing___init__ : Stmt := inClass (topS 62) 0
theorem sc_Standing___init__ : FnScope ["self"] ["self"] (defScope s_Standing___init__) := ⟨rfl, rfl, rfl, by decide +kernel, rfl, by decide +kernel, by decide +kernel⟩
abbrev s_Standing_is_closed : Stmt := inClass (topS 62) 2
theorem sc_Standing_is_closed : FnScope ["self"] ["self"] (defScope s_Standing_is_closed) := ⟨rfl, rfl, rfl, by decide +kernel, rfl, by decide +kernel, by decide +kernel⟩
abbrev s_wrong_place : Stmt := topS 64
theorem sc_wrong_place : FnScope ["rows", "standing", "place", "row"] ["rows"] (defScope s_wrong_place) := ⟨rfl, rfl, rfl, by decide +kernel, rfl, by decide +kernel, by decide +kernel⟩
abbrev s_Text___init__ : Stmt := inClass (topS 67) 0
theorem sc_Text___init__ : FnScope ["self", "rows", "place"] ["self", "rows"] (defScope s_Text___init__) := ⟨rfl, rfl, rfl, by decide +kernel, rfl, by decide +kernel, by decide +kernel⟩
abbrev fsSt (d : Addr) (b : Bool) (n : Int) (g : V) : List (Str × V) := [("rules", .ref d), ("is_ahead", .bl b), ("whens", .int n), ("grid", g)]
structure StC (K : PySem.W.Frag) (C : Addr) : Prop where
  cl : Cls K C
  n1 : NoAttr K C "rules"
  n2 : NoAttr K C "is_ahead"
  n3 : NoAttr K C "whens"
  n4 : NoAttr K C "grid"
structure TxC (K : PySem.W.Frag) (C : Addr) : Prop where
  cl : Cls K C
  n1 : NoAttr K C "rows"
def spStI (C : Addr) : Sp := fun vs H Q _ => ∃ p dx, vs = [.ref p] ∧ H p = some (.ins C dx []) ∧ ∀ d H', H d = none → But p H H' → H' p = some (.ins C dx (fsSt d true 0 .non)) → H' d = some (.dK []) → Q .non H'
def spStC (C : Addr) : Sp := fun vs H Q _ => ∃ p dx d b n g, vs = [.ref p] ∧ H p = some (.ins C dx (fsSt d b n g)) ∧ Q (.bl (decide (g = .non) && decide (n = 0))) H
def spWP0 (K : PySem.W.Frag) : Sp := fun vs H Q _ => ∃ a, vs = [.ref a] ∧ SqT K H a [] ∧ ∀ H', Same H H' → Q .non H'
def spTxI (K : PySem.W.Frag) (C : Addr) : Sp := fun vs H Q _ => ∃ p r dx, vs = [.ref p, .ref r] ∧ H p = some (.ins C dx []) ∧ SqT K H r [] ∧ ∀ H', But p H H' → H' p = some (.ins C dx [("rows", .ref r)]) → Q .non H'
section
variable {P : Program} {w : World} {K : PySem.W.Frag} {mg : Str → Option Value} {base : Heap} {C : Addr}
theorem ok_Standing (F : In0 K mg "Standing" C "Standing.__init__" s_Standing___init__ ["self"]) (c : StC K C) : MkG P w K mg base 1 "Standing" C [] (spStI C) := by
  refine F.ok sc_Standing___init__ (fun vs H Q E h => ?_) (fun a cdv A outer s H vs Q E L hr h => ?_)
  · obtain ⟨p, dx, rfl, _⟩ := h
    rfl
  have nd := sc_Standing___init__.nd
  refine ⟨_, (pss_cons (ps_fldL L (pv 0) pe_dnewK) (pss_cons (ps_fldL L (pv 0) pe_bl) (pss_cons (ps_fldL L (pv 0) pe_int) (pss_one (ps_fldL L (pv 0) pe_non))))), ?_⟩
  obtain ⟨p, dx, rfl, hp, q⟩ := h
  walk_at "go"
  intro d hd
  walk_at "go"
  have npd : p ≠ d := ne_of_none hp hd
  refine f_put (fs' := [("rules", .ref d)]) (by rw [upd_ne npd]; exact hp) c.cl c.n1 (by walk_at "pf") (by show 0 < 1000; decide) ?_
  walk_at "go"
  refine f_put (fs' := [("rules", .ref d), ("is_ahead", .bl true)]) upd_same c.cl c.n2 (by walk_at "pf") (by show 1 < 1000; decide) ?_
  walk_at "go"
  refine f_put (fs' := [("rules", .ref d), ("is_ahead", .bl true), ("whens", .int 0)]) upd_same c.cl c.n3 (by walk_at "pf") (by show 2 < 1000; decide) ?_
  walk_at "go"
  refine f_put (fs' := fsSt d true 0 .non) upd_same c.cl c.n4 (by walk_at "pf") (by show 3 < 1000; decide) ?_
  refine q d _ hd (fun b o n e => ?_) upd_same ?_
  · rw [upd_ne n, upd_ne n, upd_ne n, upd_ne n, upd_ne (ne_of_none e hd)]
    exact e
  · rw [upd_ne npd.symm, upd_ne npd.symm, upd_ne npd.symm, upd_ne npd.symm]
    exact upd_same
theorem ok_Standing_is_closed (F : Mt0 K C "is_closed" "Standing.is_closed" s_Standing_is_closed ["self"]) (c : StC K C) : MtG P w K mg base 1 C "is_closed" (spStC C) := by
  refine F.ok sc_Standing_is_closed (fun vs H Q E h => ?_) (fun a cdv A outer s H vs Q E L hr h => ?_)
  · obtain ⟨p, dx, d, b, n, g, rfl, _⟩ := h
    rfl
  have nd := sc_Standing_is_closed.nd
  refine ⟨_, (pss_one (ps_ret (pe_andL L (pe_cmpR (op_ L) (pe_fldL L (pv 0)) pe_non (nomark _)) (pe_one (pe_cmpR (op_ L) (pe_fldL L (pv 0)) pe_int (nomark _)))))), ?_⟩
  obtain ⟨p, dx, d, b, n, g, rfl, hp, q⟩ := h
  walk_at "go"
  refine f_get (v := g) hp c.cl c.n4 (by walk_at "lf") ?_
  walk_at "go"
  by_cases hg : g = .non
  · rw [decide_eq_true hg] at q ⊢
    walk_at "go"
    refine f_get (v := .int n) hp c.cl c.n3 (by walk_at "lf") ?_
    walk_at "go"
    rw [Bool.true_and] at q
    by_cases hn : n = 0
    · rw [decide_eq_true hn] at q
      rw [show decide (V.int n = V.int 0) = true by rw [hn]; exact decide_eq_true rfl]
      exact q
    · rw [decide_eq_false hn] at q
      rw [show decide (V.int n = V.int 0) = false by exact decide_eq_false fun e => hn (V.int.inj e)]
      exact q
  · rw [decide_eq_false hg] at q ⊢
    rw [Bool.false_and] at q
    walk_at "go"
    exact q
theorem ok_wrong_place0 (F : Fn0 K mg "wrong_place" s_wrong_place ["rows"]) (m : Md mg) (l_Standing : Cls K C) (k_Standing : MkG P w K mg base 1 "Standing" C [] (spStI C)) (c_Standing_is_closed : MtG P w K mg base 1 C "is_closed" (spStC C)) :
    FnG P w K mg base 3 "wrong_place" ["rows"] (spWP0 K) := by
  refine F.ok sc_wrong_place (fun vs H Q E h => ?_) (fun a cdv A outer s H vs Q E L hr h => ?_)
  · obtain ⟨a, rfl, _⟩ := h
    rfl
  have nd := sc_wrong_place.nd
  refine ⟨_, (pss_cons (ps_set (i := 1) nd rfl (.inl rfl) (pe_mkG0 k_Standing (hr.mono (by decide)) (by rfl))) (pss_cons (ps_for PassesOwn.never rfl (pi_enumL L (by rfl) m.enumerate_ (pa_cons (pv 0) pa_nil)) (pg_tupL L (pgs_cons (pg_name (i := 2) nd rfl (.inl rfl)) (pgs_cons (pg_name (i := 3) nd rfl (.inl rfl)) pgs_nil))) (pss_one ps_never)) (pss_one (ps_ret (pe_ifExp (pt_truthL L (pe_mtG0 l_Standing c_Standing_is_closed (hr.mono (by decide)) (pv 1))) pe_non (pe_callB (oc L) (by rfl) m.len_ bt_len (pa_cons (pv 0) pa_nil))))))), ?_⟩
  obtain ⟨a, rfl, hT, q⟩ := h
  walk_at "go"
  intro x dx n1 n2 n3
  refine ⟨x, dx, rfl, upd_same, fun d H1 hd b1 e1 ed => ⟨rfl, ?_⟩⟩
  have s1 : Same H H1 := Same.via (same_made n1 n2) n1 b1
  walk_at "go"
  refine ⟨_, _, rfl, .inr ⟨Same.sqt s1 hT, ?_⟩⟩
  refine fo_it (walk_enumT (xs := [])) (fun i σ H' => H' = H1 ∧ σ = [some (.ref a), some (.ref x), none, none]) ⟨rfl, rfl⟩ (fun i σ H' _ z => by rw [z.1]; exact Same.sqt s1 hT) (fun i x σ H' H'' hi _ _ => absurd hi (Nat.not_lt_zero _)) (fun σ H' z => ?_)
  obtain ⟨rfl, rfl⟩ := z
  walk_at "go"
  refine ⟨x, dx, _, rfl, e1, by walk_at "lf", ?_⟩
  walk_at "go"
  refine ⟨x, dx, d, true, 0, .non, rfl, e1, ?_⟩
  walk_at "go"
  exact q _ s1
theorem ok_Text0 {r : Addr} (F : InD K mg "Text" C "Text.__init__" s_Text___init__ ["self", "rows"] [.ref r]) (m : Md mg) (c : TxC K C) (g_MOST_ROWS : Gv mg "MOST_ROWS" (.int 80)) (c_is_tuple : FnG P w K mg base 1 "is_tuple" ["thing"] (spIsTuple K))
    (c_wrong_place : FnG P w K mg base 3 "wrong_place" ["rows"] (spWP0 K)) : MkG P w K mg base 4 "Text" C [.ref r] (spTxI K C) := by
  refine F.ok sc_Text___init__ (fun vs H Q E h => ?_) (fun a cdv A outer s H vs Q E L hr h => ?_)
  · obtain ⟨p, r, dx, rfl, _⟩ := h
    rfl
  have nd := sc_Text___init__.nd
  refine ⟨_, (pss_cons (ps_if (PW.pt (pw_or (pt_not (pt_truthL L (pe_callG c_is_tuple (hr.mono (by decide)) (by rfl) (pa_cons (pv 1) pa_nil)))) (pw_or1 (pt_cmpR (op_ L) (pe_callB (oc L) (by rfl) m.len_ bt_len (pa_cons (pv 1) pa_nil)) (pe_gv g_MOST_ROWS (by rfl)) (nomark _))))) (pss_one ps_never) pss_nil) (pss_cons (ps_set (i := 2) nd rfl (.inl rfl) (pe_callG c_wrong_place (hr.mono (by decide)) (by rfl) (pa_cons (pv 1) pa_nil))) (pss_cons (ps_if (pt_cmpR (op_ L) (pv 2) pe_non (nomark _)) (pss_one ps_never) pss_nil) (pss_one (ps_fldL L (pv 0) (pv 1)))))), ?_⟩
  obtain ⟨p, r, dx, rfl, hp, hT, q⟩ := h
  walk_at "go"
  refine u_is_tuple (.tup hT) ?_
  walk_at "go"
  refine itnT' rfl ?_
  walk_at "go"
  refine k_lenl (.inr hT) ?_
  walk_at "go"
  refine ite2 (fun h => absurd h (by simp)) (fun _ => ?_)
  walk_at "go"
  refine ⟨r, rfl, hT, fun H1 s1 => ?_⟩
  walk_at "go"
  refine itnT' (decide_eq_true rfl) ?_
  walk_at "go"
  have hp1 := s1 _ _ hp
  refine f_put (fs' := [("rows", .ref r)]) hp1 c.cl c.n1 (by walk_at "pf") (by show 0 < 1000; decide) ?_
  refine q _ (fun b o n e => ?_) upd_same
  rw [upd_ne n]
  exact s1 _ _ e
end
end Tk

set_option Elab.async false
set_option linter.all false
set_option maxRecDepth 100000
set_option maxHeartbeats 4000000
namespace Tk
open PySem PySem.Spec PyProof.Rows L2 Lay
open TL (tl ext_tl len_tl tl_append tl_mk mk_tl)
local macro_rules | `(tactic| walk_at "if") => `(tactic| refine ite2 (fun hc => ?_) (fun hc => ?_))
local macro_rules | `(tactic| walk_at "lk") => `(tactic| first | exact upd_same | assumption)
local macro_rules | `(tactic| walk_at "st") => `(tactic| first
  | with_reducible refine r_var rfl ?_ | with_reducible refine r_c ?_ | with_reducible refine r_op ?_ | with_reducible refine r_cons ?_ | with_reducible refine r_nil ?_ | with_reducible refine r_vals ?_
  | with_reducible refine r_cb ?_ | with_reducible refine r_tup ?_ | with_reducible refine r_lst ?_ | with_reducible refine r_call ?_ | with_reducible refine r_test ?_
  | with_reducible refine r_if ?_ | with_reducible refine r_not ?_ | with_reducible refine r_bm ?_ | with_reducible refine r_sl ?_ | with_reducible refine r_np ?_ | with_reducible refine r_part ?_
  | with_reducible refine r_seq ?_ | with_reducible refine r_asg ?_ | with_reducible refine r_name ?_ | with_reducible refine r_ifs ?_ | with_reducible refine r_ret ?_ | with_reducible refine r_next ?_ | with_reducible refine r_par ?_ | with_reducible refine r_par3 ?_ | with_reducible refine r_brk ?_ | with_reducible refine r_cnt ?_ | with_reducible refine r_sub ?_
  | with_reducible refine r_andT ?_ | with_reducible refine r_orT ?_ | with_reducible refine r_notT ?_ | with_reducible refine r_or ?_ | with_reducible refine r_and ?_ | with_reducible refine r_tB ?_ | with_reducible refine r_drop ?_ | with_reducible refine r_callN ?_ | with_reducible refine r_chain ?_
  | with_reducible refine r_for ?_ | with_reducible refine r_lc ?_ | with_reducible refine r_iseq ?_ | with_reducible refine r_rng1 ?_ | with_reducible refine r_enum ?_ | with_reducible refine r_yes ?_ | with_reducible refine r_tru ?_ | with_reducible refine r_gtup ?_ | with_reducible refine r_gcons ?_ | with_reducible refine r_gnil ?_
  | with_reducible refine b_add ?_ | with_reducible refine b_sub ?_ | (with_reducible refine b_mul (by unfold CMul; omega) ?_) | (with_reducible refine b_mod (by omega) ?_) | (with_reducible refine b_fdiv (by unfold CDiv; omega) ?_)
  | with_reducible refine c_lt ?_ | with_reducible refine c_le ?_ | with_reducible refine c_gt ?_ | with_reducible refine c_ge ?_ | with_reducible refine c_isN ?_ | with_reducible refine c_notN ?_ | with_reducible refine c_isB ?_ | with_reducible refine c_eq rfl ?_ | with_reducible refine c_ne rfl ?_
  | with_reducible refine c_insign ?_ | with_reducible refine k_int ?_ | with_reducible refine k_intb ?_ | with_reducible refine k_max ?_ | with_reducible refine k_min ?_
  | with_reducible refine ⟨_, rfl, ?_⟩
  | with_reducible refine ex_par ?_
  | with_reducible refine r_back ?_
  | with_reducible refine ex_par3 ?_
  | with_reducible refine ty_s ?_
  | with_reducible refine tru_b ?_
  | with_reducible refine iteT ?_ | with_reducible refine iteF ?_ | with_reducible refine itnT ?_ | with_reducible refine itnF ?_)
local macro_rules | `(tactic| walk_at "go") => `(tactic| repeat walk_at "st")
local macro_rules | `(tactic| walk_at "cl") => `(tactic| try dsimp only [cxOf, Cx.nox, Cx.wish])
/-! ### things, bent tuples -/
abbrev s__law_bent : Stmt := topS 85
theorem sc__law_bent : FnScope ["_law_purse_here", "_law_lot", "_law_pick_here", "_law_at"] ["_law_purse_here", "_law_lot"] (defScope s__law_bent) := ⟨rfl, rfl, rfl, by decide +kernel, rfl, by decide +kernel, by decide +kernel⟩
/-- what may stand in a tuple: no text of it is long -/
def Itm (K : PySem.W.Frag) (H : Hp) (p : Addr) (x : V) : Prop := x ≠ .ref p ∧ (∀ y, x = .str y → y.length ≤ 20) ∧ ∃ T, Tyb K H x T
def Itms (K : PySem.W.Frag) (H : Hp) (p : Addr) (xs : List V) : Prop := ∀ x ∈ xs, Itm K H p x
theorem Itm.but {K : PySem.W.Frag} {H H' : Hp} {p : Addr} {x : V} (hp : Pu H p) (b : But p H H') (h : Itm K H p x) : Itm K H' p x := by
  obtain ⟨n, o, T, t⟩ := h
  refine ⟨n, o, T, ?_⟩
  have ne : ∀ {a}, x = .ref a → a ≠ p := fun e z => n (by rw [e, z])
  cases t with
  | non => exact .non
  | bl b => exact .bl b
  | int i => exact .int i
  | str z => exact .str z
  | lst e => exact .lst (b.sql (ne rfl) e)
  | tup e => exact .tup (b.sqtP hp e)
  | dic e => exact .dic (b _ _ (ne rfl) e)
  | own e c => exact .own (b _ _ (ne rfl) e) c
theorem Itm.same {K : PySem.W.Frag} {H H' : Hp} {p : Addr} {x : V} (hp : Pu H p) (s : Same H H') (h : Itm K H p x) : Itm K H' p x := h.but hp (Same.but s)
theorem Itm.ok {K : PySem.W.Frag} {H : Hp} {p : Addr} {x : V} (h : Itm K H p x) : (∃ T, Tyb K H x T) ∧ StrOk x := ⟨h.2.2, fun y e => Nat.le_trans (h.2.1 y e) (by decide)⟩
theorem Itms.but {K : PySem.W.Frag} {H H' : Hp} {p : Addr} {xs : List V} (hp : Pu H p) (b : But p H H') (h : Itms K H p xs) : Itms K H' p xs := fun x hx => (h x hx).but hp b
theorem Itms.tup {K : PySem.W.Frag} {H : Hp} {p : Addr} {xs : List V} (h : Itms K H p xs) : TupOk K H xs := fun x hx => (h x hx).ok
theorem Itms.app {K : PySem.W.Frag} {H : Hp} {p : Addr} {xs ys : List V} (h : Itms K H p xs) (g : Itms K H p ys) : Itms K H p (xs ++ ys) := fun x hx => (List.mem_append.mp hx).elim (h x) (g x)
theorem Itms.cut {K : PySem.W.Frag} {H : Hp} {p : Addr} {xs : List V} (h : Itms K H p xs) (lo hi : Option Int) : Itms K H p (cutV xs lo hi) := fun x hx => h x (List.mem_of_mem_drop (List.mem_of_mem_take hx))
theorem Itms.strs {K : PySem.W.Frag} {H : Hp} {p : Addr} {zs : List Str} (h : ∀ z ∈ zs, z.length ≤ 20) : Itms K H p (stS zs) := fun x hx => by
  obtain ⟨z, hz, rfl⟩ := List.mem_map.mp hx
  exact ⟨nofun, fun y e => (by cases e; exact h z hz), _, .str z⟩
def spOdd (K : PySem.W.Frag) : Sp := fun vs H Q _ => ∃ p, vs = [.ref p] ∧ Pu H p ∧ ∀ x H', But p H H' → Pu H' p → Itm K H' p x → Q x H'
def spBent (K : PySem.W.Frag) : Sp := fun vs H Q _ => ∃ (p t : Addr) (xs : List V), vs = [.ref p, .ref t] ∧ Pu H p ∧ SqT K H t xs ∧ Itms K H p xs ∧ xs.length ≤ 2000 ∧
  ∀ l ys H', But p H H' → Pu H' p → SqT K H' l ys → Itms K H' p ys → ys.length ≤ 3 * xs.length + 42 → Q (.ref l) H'
section
variable {P : Program} {w : World} {K : PySem.W.Frag} {mg : Str → Option Value} {base : Heap} {H : Hp} {Q : VK}
theorem u_odd {p : Addr} (h : Pu H p) (q : ∀ x H', But p H H' → Pu H' p → Itm K H' p x → Q x H') : spOdd K ([.ref p] ++ []) H Q E0 := ⟨p, rfl, h, q⟩
theorem u_bent {p t : Addr} {xs : List V} (h : Pu H p) (ht : SqT K H t xs) (hi : Itms K H p xs) (hl : xs.length ≤ 2000)
    (q2 : ∀ l ys H', But p H H' → Pu H' p → SqT K H' l ys → Itms K H' p ys → ys.length ≤ 3 * xs.length + 42 → Q (.ref l) H') : spBent K ([.ref p, .ref t] ++ []) H Q E0 := ⟨p, t, xs, rfl, h, ht, hi, hl, q2⟩
theorem sl_i {a p : Addr} {xs : List V} {lo hi : Option Int} (hp : Pu H p) (h : SqT K H a xs) (i : Itms K H p xs) (q : ∀ b ys H', Same H H' → SqT K H' b ys → Itms K H' p ys → ys.length ≤ xs.length → Q (.ref b) H') : sSl P w K (.ref a) lo hi H Q :=
  sl_t h fun b H' s e => q b _ H' s e ((i.cut lo hi).but hp (Same.but s)) (cutV_length xs lo hi)
theorem sl_i' {a p : Addr} {xs : List V} {lo hi : Option Int} (hp : Pu H p) (h : SqT K H a xs) (i : Itms K H p xs) (q : ∀ b ys H', Same H H' → SqT K H' b ys → Itms K H' p ys → ys = cutV xs lo hi → Q (.ref b) H') : sSl P w K (.ref a) lo hi H Q :=
  sl_t h fun b H' s e => q b _ H' s e ((i.cut lo hi).but hp (Same.but s)) rfl
theorem cat_i {a b p : Addr} {xs ys : List V} (hp : Pu H p) (h1 : SqT K H a xs) (i1 : Itms K H p xs) (h2 : SqT K H b ys) (i2 : Itms K H p ys) (hl : xs.length + ys.length ≤ 1000000) (q : ∀ c zs H', Same H H' → SqT K H' c zs → Itms K H' p zs → zs.length = xs.length + ys.length → Q (.ref c) H') : sB P w K (binaryOp .Add) (.ref a) (.ref b) H Q :=
  b_catT h1 h2 (line_of hl) fun c H' s e => q c _ H' s e ((i1.app i2).but hp (Same.but s)) (by rw [List.length_append])
theorem rep_i {a p : Addr} {x : V} {n : Int} (hp : Pu H p) (h : SqT K H a [x]) (i : Itm K H p x) (h0 : 0 ≤ n) (h1 : n ≤ 1000) (q : ∀ c zs H', Same H H' → SqT K H' c zs → Itms K H' p zs → zs.length = n.toNat → Q (.ref c) H') : sB P w K (binaryOp .Mult) (.ref a) (.int n) H Q :=
  b_rep1 h h0 h1 fun c H' s e => q c _ H' s e (fun y hy => by
    rw [(List.mem_replicate.mp hy).2]
    exact i.same hp s) (List.length_replicate ..)
theorem ok__law_bent (F : Fn0 K mg "_law_bent" s__law_bent ["_law_purse_here", "_law_lot"]) (m : Md mg) (c__law_pick : FnG P w K mg base 1 "_law_pick" ["_law_purse_here", "_law_many"] spPick) (c__law_odd : FnG P w K mg base 9 "_law_odd" ["_law_purse_here"] (spOdd K)) : FnG P w K mg base 10 "_law_bent" ["_law_purse_here", "_law_lot"] (spBent K) := by
  refine F.ok sc__law_bent (fun vs H Q E h => ?_) (fun a cdv A outer s H vs Q E L hr h => ?_)
  · obtain ⟨p, t, xs, rfl, _⟩ := h
    rfl
  have nd := sc__law_bent.nd
  refine ⟨_, (pss_cons (ps_par (i := 2) (j := 3) rfl nd rfl rfl (by decide) rfl rfl (pa_cons (pe_callG c__law_pick (hr.mono (by decide)) (by rfl) (pa_cons (pv 0) (pa_cons pe_int pa_nil))) (pa_cons (pe_callG c__law_pick (hr.mono (by decide)) (by rfl) (pa_cons (pv 0) (pa_cons (pe_op (ob L) (pe_callB (oc L) (by rfl) m.len_ bt_len (pa_cons (pv 1) pa_nil)) pe_int) pa_nil))) pa_nil)) (by rfl)) (pss_cons (ps_if (pt_cmpR (op_ L) (pv 2) pe_int (nomark _)) (pss_one (ps_ret (pe_op (ob L) (pe_op (ob L) (pe_slice (osl L) (pv 1) po_none (po_some (pv 3))) (pe_slice (osl L) (pe_slice (osl L) (pe_tup (pa_strs ["}", "{", "]", "["])) (po_some (pe_callG c__law_pick (hr.mono (by decide)) (by rfl) (pa_cons (pv 0) (pa_cons pe_int pa_nil)))) po_none) po_none (po_some pe_int))) (pe_slice (osl L) (pv 1) (po_some (pv 3)) po_none)))) pss_nil) (pss_cons (ps_if (pt_cmpR (op_ L) (pv 2) pe_int (nomark _)) (pss_one (ps_ret (pe_op (ob L) (pe_slice (osl L) (pv 1) po_none (po_some (pv 3))) (pe_slice (osl L) (pv 1) (po_some (pe_op (ob L) (pv 3) pe_int)) po_none)))) pss_nil) (pss_cons (ps_if (pt_cmpR (op_ L) (pv 2) pe_int (nomark _)) (pss_one (ps_ret (pe_op (ob L) (pe_op (ob L) (pe_slice (osl L) (pv 1) po_none (po_some (pv 3))) (pe_slice (osl L) (pv 1) (po_some (pv 3)) (po_some (pe_op (ob L) (pv 3) pe_int)))) (pe_slice (osl L) (pv 1) (po_some (pv 3)) po_none)))) pss_nil) (pss_cons (ps_if (pt_cmpR (op_ L) (pv 2) pe_int (nomark _)) (pss_one (ps_ret (pe_op (ob L) (pv 1) (pe_op (ob L) (pe_tup (pa_cons pe_str pa_nil)) (pe_op (ob L) (pe_op (ob L) pe_int (pe_callB (oc L) (by rfl) m.len_ bt_len (pa_cons (pe_slice (osl L) (pv 1) po_none (po_some pe_int)) pa_nil))) (pe_callG c__law_pick (hr.mono (by decide)) (by rfl) (pa_cons (pv 0) (pa_cons pe_int pa_nil)))))))) pss_nil) (pss_cons (ps_if (pt_cmpR (op_ L) (pv 2) pe_int (nomark _)) (pss_one (ps_ret (pe_op (ob L) (pe_op (ob L) (pe_slice (osl L) (pv 1) po_none (po_some (pv 3))) (pe_tup (pa_cons (pe_callG c__law_odd (hr.mono (by decide)) (by rfl) (pa_cons (pv 0) pa_nil)) pa_nil))) (pe_slice (osl L) (pv 1) (po_some (pv 3)) po_none)))) pss_nil) (pss_one (ps_ret (pe_op (ob L) (pe_op (ob L) (pe_slice (osl L) (pv 1) po_none (po_some (pv 3))) (pe_tup (pa_cons (pe_callG c__law_odd (hr.mono (by decide)) (by rfl) (pa_cons (pv 0) pa_nil)) pa_nil))) (pe_slice (osl L) (pv 1) (po_some (pe_op (ob L) (pv 3) pe_int)) po_none)))))))))), ?_⟩
  obtain ⟨p, t, xs, rfl, hP, ht, hi, hl, q2⟩ := h
  refine r_seqH fun nx0 h0 => ?_
  walk_at "go"
  refine u_pick hP (by decide) (by decide) fun k H1 b1 P1 _ _ => ?_
  have ht1 := b1.sqtP hP ht
  walk_at "go"
  refine k_lenl (.inr ht1) ?_
  walk_at "go"
  refine u_pick P1 (by omega) (by omega) fun at_ H2 b2 P2 a0 a1 => ?_
  have ht2 := b2.sqtP P1 ht1
  have bb := b1.trans b2
  have hi2 := hi.but hP bb
  walk_at "go"
  refine h0 _ _ ?_
  refine r_seqH fun nx1 h1 => ?_
  walk_at "go"
  refine ite2 (fun hc => ?_) (fun hc => ?_)
  · walk_at "go"
    refine sl_i P2 ht2 hi2 fun c1 y1 H3 s3 e3 i3 l3 => ?_
    have P3 := P2.same s3
    walk_at "go"
    refine ⟨sz1000 (by show 4 ≤ 1000; decide), fun g hg => ?_⟩
    have sg := Same.new hg (o := .tup [.str "}", .str "{", .str "]", .str "["])
    have P4 := P3.same sg
    have ig : Itms K (upd H3 g (.tup [.str "}", .str "{", .str "]", .str "["])) p [.str "}", .str "{", .str "]", .str "["] := Itms.strs (zs := ["}", "{", "]", "["]) (by decide +kernel)
    walk_at "go"
    refine u_pick P4 (by decide) (by decide) fun k2 H5 b5 P5 _ _ => ?_
    have b25 : But p H2 H5 := (Same.but s3).trans ((Same.but sg).trans b5)
    walk_at "go"
    refine sl_i P5 (b5.sqtP P4 (SqT.of upd_same)) (ig.but P4 b5) fun c2 y2 H6 s6 e6 i6 l6 => ?_
    have P6 := P5.same s6
    walk_at "go"
    refine sl_i P6 e6 i6 fun c3 y3 H7 s7 e7 i7 l7 => ?_
    have P7 := P6.same s7
    have b37 : But p H3 H7 := (Same.but sg).trans (b5.trans (Same.but (s6.trans s7)))
    refine cat_i P7 (b37.sqtP P3 e3) (i3.but P3 b37) e7 i7 (by have l6' : y2.length ≤ 4 := l6; omega) fun c4 y4 H8 s8 e8 i8 l8 => ?_
    have P8 := P7.same s8
    have b28 : But p H2 H8 := (Same.but s3).trans (b37.trans (Same.but s8))
    walk_at "go"
    refine sl_i P8 (b28.sqtP P2 ht2) (hi2.but P2 b28) fun c5 y5 H9 s9 e9 i9 l9 => ?_
    have l6' : y2.length ≤ 4 := l6
    refine cat_i (P8.same s9) (Same.sqt s9 e8) (i8.but P8 (Same.but s9)) e9 i9 (by omega) fun c6 y6 H10 s10 e10 i10 l10 => ?_
    exact q2 c6 y6 H10 (bb.trans (b28.trans (Same.but (s9.trans s10)))) ((P8.same s9).same s10) e10 i10 (by omega)
  walk_at "go"
  refine h1 _ _ ?_
  refine r_seqH fun nx2 h2 => ?_
  walk_at "go"
  refine ite2 (fun hc => ?_) (fun hc => ?_)
  · walk_at "go"
    refine sl_i P2 ht2 hi2 fun c1 y1 H3 s3 e3 i3 l3 => ?_
    have P3 := P2.same s3
    walk_at "go"
    refine sl_i P3 (Same.sqt s3 ht2) (hi2.but P2 (Same.but s3)) fun c2 y2 H4 s4 e4 i4 l4 => ?_
    have P4 := P3.same s4
    refine cat_i P4 (Same.sqt s4 e3) (i3.but P3 (Same.but s4)) e4 i4 (by omega) fun c3 y3 H5 s5 e5 i5 l5 => ?_
    exact q2 c3 y3 H5 (bb.trans (Same.but (s3.trans (s4.trans s5)))) (P4.same s5) e5 i5 (by omega)
  walk_at "go"
  refine h2 _ _ ?_
  refine r_seqH fun nx3 h3 => ?_
  walk_at "go"
  refine ite2 (fun hc => ?_) (fun hc => ?_)
  · walk_at "go"
    refine sl_i P2 ht2 hi2 fun c1 y1 H3 s3 e3 i3 l3 => ?_
    have P3 := P2.same s3
    walk_at "go"
    refine sl_i P3 (Same.sqt s3 ht2) (hi2.but P2 (Same.but s3)) fun c2 y2 H4 s4 e4 i4 l4 => ?_
    have P4 := P3.same s4
    refine cat_i P4 (Same.sqt s4 e3) (i3.but P3 (Same.but s4)) e4 i4 (by omega) fun c3 y3 H5 s5 e5 i5 l5 => ?_
    have P5 := P4.same s5
    have s25 := s3.trans (s4.trans s5)
    walk_at "go"
    refine sl_i P5 (Same.sqt s25 ht2) (hi2.but P2 (Same.but s25)) fun c4 y4 H6 s6 e6 i6 l6 => ?_
    refine cat_i (P5.same s6) (Same.sqt s6 e5) (i5.but P5 (Same.but s6)) e6 i6 (by omega) fun c5 y5 H7 s7 e7 i7 l7 => ?_
    exact q2 c5 y5 H7 (bb.trans (Same.but (s25.trans (s6.trans s7)))) ((P5.same s6).same s7) e7 i7 (by omega)
  walk_at "go"
  refine h3 _ _ ?_
  refine r_seqH fun nx4 h4 => ?_
  walk_at "go"
  refine ite2 (fun hc => ?_) (fun hc => ?_)
  · walk_at "go"
    refine ⟨sz1000 (by show 1 ≤ 1000; decide), fun g hg => ?_⟩
    have sg := Same.new hg (o := .tup [.str "a"])
    have P3 := P2.same sg
    have ig : Itms K (upd H2 g (.tup [.str "a"])) p [.str "a"] := Itms.strs (zs := ["a"]) (by decide +kernel)
    walk_at "go"
    refine sl_i' P3 (Same.sqt sg ht2) (hi2.but P2 (Same.but sg)) fun c1 y1 H4 s4 e4 i4 l4 => ?_
    have ly : y1.length ≤ 40 := by
      rw [l4, show (40 : Int) = ((40 : Nat) : Int) from rfl, cutV_to', List.length_take]
      omega
    have P4 := P3.same s4
    walk_at "go"
    refine k_lenl (.inr e4) ?_
    walk_at "go"
    refine u_pick P4 (by decide) (by decide) fun k2 H5 b5 P5 k20 k21 => ?_
    walk_at "go"
    have b3 : But p H2 H5 := (Same.but (sg.trans s4)).trans b5
    refine rep_i P5 (b5.sqtP P4 (Same.sqt s4 (SqT.of upd_same))) ((ig _ List.mem_cons_self).but P3 ((Same.but s4).trans b5)) (by omega) (by omega) fun c2 y2 H6 s6 e6 i6 l6 => ?_
    have P6 := P5.same s6
    have b26 := b3.trans (Same.but s6)
    refine cat_i P6 (b26.sqtP P2 ht2) (hi2.but P2 b26) e6 i6 (by omega) fun c3 y3 H7 s7 e7 i7 l7 => ?_
    exact q2 c3 y3 H7 (bb.trans (b26.trans (Same.but s7))) (P6.same s7) e7 i7 (by omega)
  walk_at "go"
  refine h4 _ _ ?_
  refine r_seqH fun nx5 h5 => ?_
  walk_at "go"
  refine ite2 (fun hc => ?_) (fun hc => ?_)
  rotate_left
  · walk_at "go"
    refine h5 _ _ ?_
    walk_at "go"
    refine sl_i P2 ht2 hi2 fun c1 y1 H3 s3 e3 i3 l3 => ?_
    have P3 := P2.same s3
    walk_at "go"
    refine u_odd P3 fun x H4 b4 P4 ix => ?_
    walk_at "go"
    refine ⟨sz1000 (by show 1 ≤ 1000; decide), fun g hg => ?_⟩
    have sg := Same.new hg (o := .tup [x])
    have P5 := P4.same sg
    have b35 := b4.trans (Same.but sg)
    have ix1 : Itms K (upd H4 g (.tup [x])) p [x] := fun y hy => by
      rw [List.mem_singleton.mp hy]
      exact ix.but P4 (Same.but sg)
    refine cat_i P5 (b35.sqtP P3 e3) (i3.but P3 b35) (SqT.of upd_same) ix1 (by simp only [List.length_cons, List.length_nil]; omega) fun c3 y3 H5 s5 e5 i5 l5 => ?_
    simp only [List.length_cons, List.length_nil] at l5
    have P6 := P5.same s5
    have b25 := (Same.but (p := p) s3).trans (b35.trans (Same.but s5))
    walk_at "go"
    refine sl_i P6 (b25.sqtP P2 ht2) (hi2.but P2 b25) fun c4 y4 H6 s6 e6 i6 l6 => ?_
    refine cat_i (P6.same s6) (Same.sqt s6 e5) (i5.but P6 (Same.but s6)) e6 i6 (by omega) fun c5 y5 H7 s7 e7 i7 l7 => ?_
    exact q2 c5 y5 H7 (bb.trans (b25.trans (Same.but (s6.trans s7)))) ((P6.same s6).same s7) e7 i7 (by omega)
  · walk_at "go"
    refine sl_i P2 ht2 hi2 fun c1 y1 H3 s3 e3 i3 l3 => ?_
    have P3 := P2.same s3
    walk_at "go"
    refine u_odd P3 fun x H4 b4 P4 ix => ?_
    walk_at "go"
    refine ⟨sz1000 (by show 1 ≤ 1000; decide), fun g hg => ?_⟩
    have sg := Same.new hg (o := .tup [x])
    have P5 := P4.same sg
    have b35 := b4.trans (Same.but sg)
    have ix1 : Itms K (upd H4 g (.tup [x])) p [x] := fun y hy => by
      rw [List.mem_singleton.mp hy]
      exact ix.but P4 (Same.but sg)
    refine cat_i P5 (b35.sqtP P3 e3) (i3.but P3 b35) (SqT.of upd_same) ix1 (by simp only [List.length_cons, List.length_nil]; omega) fun c3 y3 H5 s5 e5 i5 l5 => ?_
    simp only [List.length_cons, List.length_nil] at l5
    have P6 := P5.same s5
    have b25 := (Same.but (p := p) s3).trans (b35.trans (Same.but s5))
    walk_at "go"
    refine sl_i P6 (b25.sqtP P2 ht2) (hi2.but P2 b25) fun c4 y4 H6 s6 e6 i6 l6 => ?_
    refine cat_i (P6.same s6) (Same.sqt s6 e5) (i5.but P6 (Same.but s6)) e6 i6 (by omega) fun c5 y5 H7 s7 e7 i7 l7 => ?_
    exact q2 c5 y5 H7 (bb.trans (b25.trans (Same.but (s6.trans s7)))) ((P6.same s6).same s7) e7 i7 (by omega)
end
end Tk

set_option Elab.async false
set_option linter.all false
set_option maxRecDepth 100000
set_option maxHeartbeats 4000000
namespace Tk
open PySem PySem.Spec PyProof.Rows L2 Lay
open TL (tl ext_tl len_tl tl_append tl_mk mk_tl)
local macro_rules | `(tactic| walk_at "if") => `(tactic| refine ite2 (fun hc => ?_) (fun hc => ?_))
local macro_rules | `(tactic| walk_at "lk") => `(tactic| first | exact upd_same | assumption)
local macro_rules | `(tactic| walk_at "st") => `(tactic| first
  | with_reducible refine r_var rfl ?_ | with_reducible refine r_c ?_ | with_reducible refine r_op ?_ | with_reducible refine r_cons ?_ | with_reducible refine r_nil ?_ | with_reducible refine r_vals ?_
  | with_reducible refine r_cb ?_ | with_reducible refine r_tup ?_ | with_reducible refine r_lst ?_ | with_reducible refine r_call ?_ | with_reducible refine r_test ?_
  | with_reducible refine r_if ?_ | with_reducible refine r_not ?_ | with_reducible refine r_bm ?_ | with_reducible refine r_sl ?_ | with_reducible refine r_np ?_ | with_reducible refine r_part ?_
  | with_reducible refine r_seq ?_ | with_reducible refine r_asg ?_ | with_reducible refine r_name ?_ | with_reducible refine r_ifs ?_ | with_reducible refine r_ret ?_ | with_reducible refine r_next ?_ | with_reducible refine r_par ?_ | with_reducible refine r_par3 ?_ | with_reducible refine r_brk ?_ | with_reducible refine r_cnt ?_ | with_reducible refine r_sub ?_
  | with_reducible refine r_andT ?_ | with_reducible refine r_orT ?_ | with_reducible refine r_notT ?_ | with_reducible refine r_or ?_ | with_reducible refine r_and ?_ | with_reducible refine r_tB ?_ | with_reducible refine r_drop ?_ | with_reducible refine r_callN ?_ | with_reducible refine r_chain ?_
  | with_reducible refine r_for ?_ | with_reducible refine r_lc ?_ | with_reducible refine r_iseq ?_ | with_reducible refine r_rng1 ?_ | with_reducible refine r_enum ?_ | with_reducible refine r_yes ?_ | with_reducible refine r_tru ?_ | with_reducible refine r_gtup ?_ | with_reducible refine r_gcons ?_ | with_reducible refine r_gnil ?_
  | with_reducible refine b_add ?_ | with_reducible refine b_sub ?_ | (with_reducible refine b_mul (by unfold CMul; omega) ?_) | (with_reducible refine b_mod (by omega) ?_) | (with_reducible refine b_fdiv (by unfold CDiv; omega) ?_)
  | with_reducible refine c_lt ?_ | with_reducible refine c_le ?_ | with_reducible refine c_gt ?_ | with_reducible refine c_ge ?_ | with_reducible refine c_isN ?_ | with_reducible refine c_notN ?_ | with_reducible refine c_isB ?_ | with_reducible refine c_eq rfl ?_ | with_reducible refine c_ne rfl ?_
  | with_reducible refine c_insign ?_ | with_reducible refine k_int ?_ | with_reducible refine k_intb ?_ | with_reducible refine k_max ?_ | with_reducible refine k_min ?_
  | with_reducible refine ⟨_, rfl, ?_⟩
  | with_reducible refine ex_par ?_
  | with_reducible refine r_back ?_
  | with_reducible refine ex_par3 ?_
  | with_reducible refine ty_s ?_
  | with_reducible refine tru_b ?_
  | with_reducible refine iteT ?_ | with_reducible refine iteF ?_ | with_reducible refine itnT ?_ | with_reducible refine itnF ?_)
local macro_rules | `(tactic| walk_at "go") => `(tactic| repeat walk_at "st")
local macro_rules | `(tactic| walk_at "cl") => `(tactic| try dsimp only [cxOf, Cx.nox, Cx.wish])
/-! ### things drawn -/
abbrev s__law_odd : Stmt := topS 84
theorem sc__law_odd : FnScope ["_law_purse_here", "_law_some"] ["_law_purse_here"] (defScope s__law_odd) := ⟨rfl, rfl, rfl, by decide +kernel, rfl, by decide +kernel, by decide +kernel⟩
def Mo (p : Addr) (t : TE) (R : Hp → V → Prop) : Prop := ∀ σ H Q, Pu H p → (∀ x H', Same H H' → R H' x → Q x H') → t σ H Q
def MoA (p : Addr) (t : TA) (R : Hp → V → Prop) (n : Nat) : Prop := ∀ σ H Q, Pu H p → (∀ xs H', Same H H' → (∀ x ∈ xs, R H' x) → xs.length = n → Q xs H') → t σ H Q
section
variable {P : Program} {w : World} {K : PySem.W.Frag} {mg : Str → Option Value} {base : Heap} {p : Addr} {n : Nat}
abbrev Od (K : PySem.W.Frag) (p : Addr) (H : Hp) (x : V) : Prop := Itm K H p x
theorem mo_nil {R : Hp → V → Prop} : MoA p tNil R 0 := fun σ H Q hp q => q [] H (Same.refl H) (fun _ h => nomatch h) rfl
theorem mo_cons {t : TE} {tr : TA} (h : Mo p t (Od K p)) (g : MoA p tr (Od K p) n) : MoA p (tCons t tr) (Od K p) (n + 1) := fun σ H Q hp q => by
  refine h σ H _ hp fun x H1 s1 e1 => g σ H1 _ (hp.same s1) fun xs H2 s2 e2 l2 => ?_
  refine q _ _ (s1.trans s2) (fun y hy => ?_) (by rw [List.length_cons, l2])
  rcases List.mem_cons.mp hy with rfl | hy
  · exact e1.same (hp.same s1) s2
  · exact e2 y hy
theorem mo_vals {zs : List Str} (h : ∀ z ∈ zs, z.length ≤ 20) : MoA p (tVals (zs.map V.str)) (Od K p) zs.length := fun σ H Q hp q => q _ H (Same.refl H) (Itms.strs h) (List.length_map _)
theorem mo_non : Mo p (tC .non) (Od K p) := fun σ H Q hp q => q _ _ (Same.refl H) ⟨fun e => (by cases e), fun y e => (by cases e), _, .non⟩
theorem mo_bl {b : Bool} : Mo p (tC (.bl b)) (Od K p) := fun σ H Q hp q => q _ _ (Same.refl H) ⟨fun e => (by cases e), fun y e => (by cases e), _, .bl b⟩
theorem mo_int {i : Int} : Mo p (tC (.int i)) (Od K p) := fun σ H Q hp q => q _ _ (Same.refl H) ⟨fun e => (by cases e), fun y e => (by cases e), _, .int i⟩
theorem mo_str {z : Str} (h : z.length ≤ 20) : Mo p (tC (.str z)) (Od K p) := fun σ H Q hp q => q _ _ (Same.refl H) ⟨fun e => (by cases e), fun y e => (by cases e; exact h), _, .str z⟩
theorem mo_mul {z : Str} {k : Int} (h : z.length ≤ 1) (h0 : 0 ≤ k) (h1 : k ≤ 20) : Mo p (tOp (sB P w K (binaryOp .Mult)) (tC (.str z)) (tC (.int k))) (Od K p) := fun σ H Q hp q => by
  have l : (repS z k.toNat).length ≤ 20 := by
    rw [repS_length]
    have : k.toNat * z.length ≤ k.toNat * 1 := Nat.mul_le_mul_left _ h
    omega
  refine r_op (r_c (r_c (b_mulS (by omega) (by omega) (by omega) ?_ ?_)))
  · rw [sizeLine_eq]
    have : z.length * k.toNat ≤ 1 * k.toNat := Nat.mul_le_mul_right _ h
    omega
  · exact q _ _ (Same.refl H) ⟨fun e => (by cases e), fun y e => (by cases e; exact l), _, .str _⟩
theorem mo_tup {tr : TA} (h : MoA p tr (Od K p) n) (hn : n ≤ 100) : Mo p (tTup tr) (Od K p) := fun σ H Q hp q => by
  refine h σ H _ hp fun xs H1 s1 e1 l1 => ⟨sz1000 (by omega), fun a ha => ?_⟩
  refine q _ _ (s1.trans (Same.new ha)) ⟨fun e => ?_, fun y e => (by cases e), _, .tup (SqT.of upd_same)⟩
  exact (hp.same s1).ne ha (V.ref.inj e)
theorem mo_lst {tr : TA} (h : MoA p tr (Od K p) n) (hn : n ≤ 100) : Mo p (tLst tr) (Od K p) := fun σ H Q hp q => by
  refine h σ H _ hp fun xs H1 s1 e1 l1 => ⟨sz1000 (by omega), fun a ha => ?_⟩
  refine q _ _ (s1.trans (Same.new ha)) ⟨fun e => ?_, fun y e => (by cases e), _, .lst (SqL.of upd_same)⟩
  exact (hp.same s1).ne ha (V.ref.inj e)
theorem mo_dict : Mo p tDNewK (Od K p) := fun σ H Q hp q => fun a ha => by
  refine q _ _ (Same.new ha) ⟨fun e => ?_, fun y e => (by cases e), _, .dic upd_same⟩
  exact hp.ne ha (V.ref.inj e)
theorem mo_disp {z : Str} {v : V} : Mo p (tDisp [(tC (.str z), tC v)]) (Od K p) := fun σ H Q hp q => by
  refine r_disp fun a ha => r_pcons (r_c (r_c (r_pnil ⟨upd_same, [(.inr z, v)], rfl, (by show 1 ≤ 15; decide), ?_⟩)))
  refine q _ _ (Same.mut (Same.new ha) ha) ⟨fun e => ?_, fun y e => (by cases e), _, .dic upd_same⟩
  exact hp.ne ha (V.ref.inj e)
theorem mo_text {C r : Addr} (c : OwnC K C) (hT : ∀ H, SqT K H r []) : Mo p (tMake C (spTxI K C) [.ref r] E0 tNil) (Od K p) := fun σ H Q hp q => by
  refine r_make (r_nil fun x dx n1 n2 n3 => ⟨x, r, dx, rfl, upd_same, hT _, fun H' b e => ⟨rfl, ?_⟩⟩)
  refine q _ _ (Same.via (same_made n1 n2) n1 b) ⟨fun z => ?_, fun y e => (by cases e), _, .own e c⟩
  exact hp.ne n1 (V.ref.inj z)
/-- a list of such things -/
theorem mo_list {tr : TA} {σ : L2.St} {H : Hp} {Q : VK} (h : MoA p tr (Od K p) n) (hn : n ≤ 100) (hp : Pu H p) (q : ∀ a xs H', Same H H' → H' a = some (.lst xs) → (∀ x ∈ xs, Od K p H' x) → xs.length = n → Q (.ref a) H') : tLst tr σ H Q := by
  refine h σ H _ hp fun xs H1 s1 e1 l1 => ⟨sz1000 (by omega), fun a ha => ?_⟩
  exact q a xs _ (s1.trans (Same.new ha)) upd_same (fun x hx => (e1 x hx).same (hp.same s1) (Same.new ha)) l1
/-- .. put behind another one -/
theorem mo_cat {tr : TA} {σ : L2.St} {H : Hp} {Q : VK} {a : Addr} {i m : Nat} {xs : List V} (hv : σ[i]? = some (some (.ref a))) (e : H a = some (.lst xs)) (o : ∀ x ∈ xs, Od K p H x) (l : xs.length = m) (h : MoA p tr (Od K p) n) (hn : n ≤ 100) (hm : m ≤ 500) (hp : Pu H p)
    (q : ∀ b ys H', b ≠ p → Same H H' → H' b = some (.lst ys) → (∀ x ∈ ys, Od K p H' x) → ys.length = m + n → Q (.ref b) H') : tOp (sB P w K (binaryOp .Add)) (tVar i) (tLst tr) σ H Q := by
  refine r_op (r_var hv (mo_list h hn hp fun b ys H1 s1 e1 o1 l1 => ?_))
  refine b_cat (s1 _ _ e) e1 (sz1000 (by omega)) fun c hc => ?_
  refine q c _ _ ((hp.same s1).ne hc) (s1.trans (Same.new hc)) upd_same (fun x hx => ?_) (by rw [List.length_append]; omega)
  rcases List.mem_append.mp hx with hx | hx
  · exact (o x hx).same hp (s1.trans (Same.new hc))
  · exact (o1 x hx).same (hp.same s1) (Same.new hc)
local macro_rules | `(tactic| walk_at "mo") => `(tactic| first
  | exact mo_nil
  | refine' mo_cons ?_ ?_
  | refine mo_vals ?_
  | exact mo_non | exact mo_bl | exact mo_int | refine mo_str ?_
  | exact mo_dict | exact mo_disp | exact mo_text (by assumption) (by assumption)
  | refine' mo_tup ?_ ?_
  | refine' mo_lst ?_ ?_
  | refine' mo_mul ?_ ?_ ?_)
theorem ok__law_odd {C r : Addr} (F : Fn0 K mg "_law_odd" s__law_odd ["_law_purse_here"]) (m : Md mg) (c : OwnC K C) (hT : ∀ H, SqT K H r []) (c__law_pick : FnG P w K mg base 1 "_law_pick" ["_law_purse_here", "_law_many"] spPick) (k_Text : MkG P w K mg base 4 "Text" C [.ref r] (spTxI K C)) :
    FnG P w K mg base 9 "_law_odd" ["_law_purse_here"] (spOdd K) := by
  refine F.ok sc__law_odd (fun vs H Q E h => ?_) (fun a cdv A outer s H vs Q E L hr h => ?_)
  · obtain ⟨p, rfl, _⟩ := h
    rfl
  have nd := sc__law_odd.nd
  refine ⟨_, (pss_cons (ps_set (i := 1) nd rfl (.inl rfl) (pe_lst (pa_cons pe_non (pa_cons pe_bl (pa_cons pe_int (pa_cons pe_int (pa_cons pe_str (pa_cons pe_str (pa_cons pe_str (pa_cons pe_str (pa_cons pe_str (pa_cons pe_str (pa_cons pe_str (pa_cons pe_str (pa_cons pe_str pa_nil))))))))))))))) (pss_cons (ps_set (i := 1) nd rfl (.inl rfl) (pe_op (ob L) (pv 1) (pe_lst (pa_strs ["abcdefghijklm", "(", "{", "}", "[", "]", "{a"])))) (pss_cons (ps_set (i := 1) nd rfl (.inl rfl) (pe_op (ob L) (pv 1) (pe_lst (pa_cons (pe_tup pa_nil) (pa_cons (pe_tup (pa_cons pe_str pa_nil)) (pa_cons (pe_lst (pa_cons pe_str pa_nil)) (pa_cons pe_dnewK (pa_cons (pe_mkG0 k_Text (hr.mono (by decide)) (by rfl)) (pa_cons pe_str (pa_cons pe_str (pa_cons pe_str (pa_cons pe_str (pa_cons pe_str (pa_cons pe_str (pa_cons (pe_disp (pps_cons pe_str pe_int pps_nil) (by rfl) (by rfl) (fun z => by cases z) (by decide)) (pa_cons (pe_op (ob L) pe_str pe_int) pa_nil)))))))))))))))) (pss_one (ps_ret (pe_ix (oi L) (pv 1) (pe_callG c__law_pick (hr.mono (by decide)) (by rfl) (pa_cons (pv 0) (pa_cons (pe_callB (oc L) (by rfl) m.len_ bt_len (pa_cons (pv 1) pa_nil)) pa_nil))) (fun _ _ => rfl))))))), ?_⟩
  obtain ⟨p, rfl, hP, q⟩ := h
  refine r_seq (r_asg ?_)
  refine mo_list (n := 13) (K := K) ?_ (by decide) hP fun a1 x1 H1 s1 e1 o1 l1 => r_name ?_
  · repeat' walk_at "mo"
    all_goals decide +kernel
  refine r_seq (r_asg (mo_cat (n := 7) rfl e1 o1 l1 ?_ (by decide) (by decide) (hP.same s1) fun a2 x2 H2 n2 s2 e2 o2 l2 => r_name ?_))
  · repeat' walk_at "mo"
    all_goals decide +kernel
  refine r_seq (r_asg (mo_cat (n := 13) rfl e2 o2 l2 ?_ (by decide) (by decide) (hP.same (s1.trans s2)) fun a3 x3 H3 n3 s3 e3 o3 l3 => r_name ?_))
  · repeat' walk_at "mo"
    all_goals decide +kernel
  have ss := ((s1.trans s2).trans s3)
  have P6 := hP.same ss
  walk_at "go"
  refine k_lenl (.inl (SqL.of e3)) ?_
  walk_at "go"
  refine u_pick P6 (by omega) (by omega) fun k H7 b7 P7 k0 k1 => ?_
  obtain ⟨x, hx, hm⟩ := atI_ex (xs := x3) k0 (by omega)
  refine i_lst (.inl (.inl (b7 _ _ n3 e3))) hx ?_
  exact q x H7 ((Same.but ss).trans b7) P7 ((o3 _ hm).but P6 b7)
end
end Tk

set_option Elab.async false
set_option linter.all false
set_option maxRecDepth 100000
set_option maxHeartbeats 4000000
namespace Tk
open PySem PySem.Spec PyProof.Rows L2 Lay
open TL (tl ext_tl len_tl tl_append tl_mk mk_tl)
local macro_rules | `(tactic| walk_at "if") => `(tactic| refine ite2 (fun hc => ?_) (fun hc => ?_))
local macro_rules | `(tactic| walk_at "lk") => `(tactic| first | exact upd_same | assumption)
local macro_rules | `(tactic| walk_at "st") => `(tactic| first
  | with_reducible refine r_var rfl ?_ | with_reducible refine r_c ?_ | with_reducible refine r_op ?_ | with_reducible refine r_cons ?_ | with_reducible refine r_nil ?_ | with_reducible refine r_vals ?_
  | with_reducible refine r_cb ?_ | with_reducible refine r_tup ?_ | with_reducible refine r_lst ?_ | with_reducible refine r_call ?_ | with_reducible refine r_test ?_
  | with_reducible refine r_if ?_ | with_reducible refine r_not ?_ | with_reducible refine r_bm ?_ | with_reducible refine r_sl ?_ | with_reducible refine r_np ?_ | with_reducible refine r_part ?_
  | with_reducible refine r_seq ?_ | with_reducible refine r_asg ?_ | with_reducible refine r_name ?_ | with_reducible refine r_ifs ?_ | with_reducible refine r_ret ?_ | with_reducible refine r_next ?_ | with_reducible refine r_par ?_ | with_reducible refine r_par3 ?_ | with_reducible refine r_brk ?_ | with_reducible refine r_cnt ?_ | with_reducible refine r_sub ?_
  | with_reducible refine r_andT ?_ | with_reducible refine r_orT ?_ | with_reducible refine r_notT ?_ | with_reducible refine r_or ?_ | with_reducible refine r_and ?_ | with_reducible refine r_tB ?_ | with_reducible refine r_drop ?_ | with_reducible refine r_callN ?_ | with_reducible refine r_chain ?_
  | with_reducible refine r_for ?_ | with_reducible refine r_lc ?_ | with_reducible refine r_iseq ?_ | with_reducible refine r_rng1 ?_ | with_reducible refine r_enum ?_ | with_reducible refine r_yes ?_ | with_reducible refine r_tru ?_ | with_reducible refine r_gtup ?_ | with_reducible refine r_gcons ?_ | with_reducible refine r_gnil ?_
  | with_reducible refine b_add ?_ | with_reducible refine b_sub ?_ | (with_reducible refine b_mul (by unfold CMul; omega) ?_) | (with_reducible refine b_mod (by omega) ?_) | (with_reducible refine b_fdiv (by unfold CDiv; omega) ?_)
  | with_reducible refine c_lt ?_ | with_reducible refine c_le ?_ | with_reducible refine c_gt ?_ | with_reducible refine c_ge ?_ | with_reducible refine c_isN ?_ | with_reducible refine c_notN ?_ | with_reducible refine c_isB ?_ | with_reducible refine c_eq rfl ?_ | with_reducible refine c_ne rfl ?_
  | with_reducible refine c_insign ?_ | with_reducible refine k_int ?_ | with_reducible refine k_intb ?_ | with_reducible refine k_max ?_ | with_reducible refine k_min ?_
  | with_reducible refine ⟨_, rfl, ?_⟩
  | with_reducible refine ex_par ?_
  | with_reducible refine r_back ?_
  | with_reducible refine ex_par3 ?_
  | with_reducible refine ty_s ?_
  | with_reducible refine tru_b ?_
  | with_reducible refine iteT ?_ | with_reducible refine iteF ?_ | with_reducible refine itnT ?_ | with_reducible refine itnF ?_)
local macro_rules | `(tactic| walk_at "go") => `(tactic| repeat walk_at "st")
local macro_rules | `(tactic| walk_at "cl") => `(tactic| try dsimp only [cxOf, Cx.nox, Cx.wish])
/-! ### things of other kinds -/
abbrev s__law_kinds_right : Stmt := topS 86
theorem sc__law_kinds_right : FnScope ["_law_matter", "_law_style"] [] (defScope s__law_kinds_right) := ⟨rfl, rfl, rfl, by decide +kernel, rfl, by decide +kernel, by decide +kernel⟩
def Kd (K : PySem.W.Frag) (H : Hp) (x : V) : Prop := ∃ T, Tyb K H x T ∧ T ≠ "tuple"
def Mk1 (t : TE) (R : Hp → V → Prop) : Prop := ∀ σ H Q, (∀ x H', Same H H' → R H' x → Q x H') → t σ H Q
def MkA (t : TA) (R : Hp → V → Prop) (n : Nat) : Prop := ∀ σ H Q, (∀ xs H', Same H H' → (∀ x ∈ xs, R H' x) → xs.length = n → Q xs H') → t σ H Q
def spKinds : Sp := fun vs H Q _ => vs = [] ∧ ∀ H', Same H H' → Q (.bl true) H'
section
variable {P : Program} {w : World} {K : PySem.W.Frag} {mg : Str → Option Value} {base : Heap} {n : Nat} {H : Hp} {Q : VK}
theorem Kd.same {H H' : Hp} {x : V} (s : Same H H') (h : Kd K H x) : Kd K H' x := by
  obtain ⟨T, t, n⟩ := h
  exact ⟨T, Tyb.same s t, n⟩
theorem mk_nil {R : Hp → V → Prop} : MkA tNil R 0 := fun σ H Q q => q [] H (Same.refl H) (fun _ h => nomatch h) rfl
theorem mk_cons {t : TE} {tr : TA} (h : Mk1 t (Kd K)) (g : MkA tr (Kd K) n) : MkA (tCons t tr) (Kd K) (n + 1) := fun σ H Q q => by
  refine h σ H _ fun x H1 s1 e1 => g σ H1 _ fun xs H2 s2 e2 l2 => ?_
  refine q _ _ (s1.trans s2) (fun y hy => ?_) (by rw [List.length_cons, l2])
  rcases List.mem_cons.mp hy with rfl | hy
  · exact e1.same s2
  · exact e2 y hy
theorem mk_vals {zs : List Str} : MkA (tVals (zs.map V.str)) (Kd K) zs.length := fun σ H Q q => q _ H (Same.refl H) (fun x hx => by
  obtain ⟨z, hz, rfl⟩ := List.mem_map.mp hx
  exact ⟨_, .str z, by decide⟩) (List.length_map _)
theorem mk_non : Mk1 (tC .non) (Kd K) := fun σ H Q q => q _ _ (Same.refl H) ⟨_, .non, by decide⟩
theorem mk_bl {b : Bool} : Mk1 (tC (.bl b)) (Kd K) := fun σ H Q q => q _ _ (Same.refl H) ⟨_, .bl b, by decide⟩
theorem mk_int {i : Int} : Mk1 (tC (.int i)) (Kd K) := fun σ H Q q => q _ _ (Same.refl H) ⟨_, .int i, by decide⟩
theorem mk_str {z : Str} : Mk1 (tC (.str z)) (Kd K) := fun σ H Q q => q _ _ (Same.refl H) ⟨_, .str z, by decide⟩
theorem mk_lst1 {tr : TA} (h : MkA tr (Kd K) n) (hn : n ≤ 100) : Mk1 (tLst tr) (Kd K) := fun σ H Q q => by
  refine h σ H _ fun xs H1 s1 e1 l1 => ⟨sz1000 (by omega), fun a ha => ?_⟩
  exact q _ _ (s1.trans (Same.new ha)) ⟨_, .lst (SqL.of upd_same), by decide⟩
theorem mk_dict : Mk1 tDNewK (Kd K) := fun σ H Q q => fun a ha => q _ _ (Same.new ha) ⟨_, .dic upd_same, by decide⟩
theorem mk_text {C r : Addr} (c : OwnC K C) (hT : ∀ H, SqT K H r []) : Mk1 (tMake C (spTxI K C) [.ref r] E0 tNil) (Kd K) := fun σ H Q q => by
  refine r_make (r_nil fun x dx n1 n2 n3 => ⟨x, r, dx, rfl, upd_same, hT _, fun H' b e => ⟨rfl, ?_⟩⟩)
  exact q _ _ (Same.via (same_made n1 n2) n1 b) ⟨_, .own e c, by decide⟩
theorem mk_lst {tr : TA} {σ : L2.St} {H : Hp} {Q : VK} (h : MkA tr (Kd K) n) (hn : n ≤ 1000) (q : ∀ a xs H', Same H H' → H' a = some (.lst xs) → (∀ x ∈ xs, Kd K H' x) → xs.length = n → Q (.ref a) H') : tLst tr σ H Q := by
  refine h σ H _ fun xs H1 s1 e1 l1 => ⟨sz1000 (by omega), fun p hp => ?_⟩
  exact q p xs _ (s1.trans (Same.new hp)) upd_same (fun x hx => (e1 x hx).same (Same.new hp)) l1
local macro_rules | `(tactic| walk_at "mo") => `(tactic| first
  | exact mk_nil
  | refine' mk_cons ?_ ?_
  | exact mk_vals
  | exact mk_non | exact mk_bl | exact mk_int | exact mk_str
  | exact mk_dict | exact mk_text (by assumption) (by assumption)
  | refine' mk_lst1 ?_ ?_)
/-- [told .. for style in [k1, k2]] != [("tokens", None)] * 2 -/
theorem ne_told {k1 k2 : Int} {x : V} {v1 : Option V} (oc : ∀ k : Int, (k = k1 ∨ k = k2) → ∀ {H'}, Same H H' → Outc K H' k x (amissD .non)) (q : ∀ H', Same H H' → Q (.bl false) H') :
    tOp (sB P w K (compareOp .NotEq)) (tLc (iSeq K (tLst (tCons (tC (.int k1)) (tCons (tC (.int k2)) tNil)))) (gName 1) tYes (tCall (spTold K) [] E0 (tCons (tVar 1) (tCons (tVar 0) tNil))) (List.map (fun x => x.snd) [(Str.ofString "_law_style", 1)]))
      (tOp (sB P w K (binaryOp .Mult)) (tLst (tCons (tTup (tCons (tC (.str "tokens")) (tCons (tC .non) tNil))) tNil)) (tC (.int 2))) [some x, v1] H Q := by
  have gd : DGd (amissD .non) := gd_amiss (.inl rfl)
  walk_at "go"
  refine ⟨sz1000 (by show 2 ≤ 1000; decide), fun g hg => ?_⟩
  have sg := Same.new hg (o := .lst [.int k1, .int k2])
  refine .inl ⟨g, _, rfl, SqL.of upd_same, fun L1 hL => ?_⟩
  refine lc_tell (K := K) walk_list gd (by rw [sizeLine_eq]; show 2 < 16777216; decide) hL (fun H' s => s.seq (SqL.of upd_same)) (fun i x H' H'' hi sm hy C1 C0 h1 => ?_) (fun H2 ys s2 e2 d2 => ?_)
  · obtain ⟨rfl, hy2⟩ := hy
    obtain ⟨k, rfl, hk⟩ : ∃ k : Int, x = .int k ∧ (k = k1 ∨ k = k2) := by
      have := List.mem_of_getElem? hy2
      simp only [List.mem_cons, List.not_mem_nil, or_false] at this
      rcases this with rfl | rfl
      · exact ⟨_, rfl, .inl rfl⟩
      · exact ⟨_, rfl, .inr rfl⟩
    walk_at "go"
    refine ⟨rfl, ?_⟩
    walk_at "go"
    refine u_told (oc k hk (sg.trans sm)) fun t H3 s3 e3 => ?_
    exact h1 _ _ s3 e3
  have t2 := sg.trans s2
  walk_at "go"
  refine ⟨sz1000 (by show 2 ≤ 1000; decide), fun t nt => ?_⟩
  walk_at "go"
  refine ⟨sz1000 (by show 1 ≤ 1000; decide), fun l nl => ?_⟩
  walk_at "go"
  refine b_repD (n := 2) upd_same rfl (by decide) gd (.tup (SqT.of (Same.new nl _ _ upd_same)) (.cons (.str _) (.cons .non .nil))) fun b ys2 H3 s3 e3 d3 => ?_
  have t3 := ((Same.new nt).trans (Same.new nl)).trans s3
  refine c_neR gd (SqL.of (t3 _ _ e2)) (Dp.stayA (Same.but t3) e2 _ _ (nlA_rep gd.nl _) d2) e3 d3 ?_
  exact q _ (t2.trans t3)
theorem ok__law_kinds_right {C r : Addr} (F : Fn0 K mg "_law_kinds_right" s__law_kinds_right []) (m : Md mg) (c : OwnC K C) (hT : ∀ H, SqT K H r []) (c__law_told : FnG P w K mg base 8 "_law_told" ["_law_style", "_law_matter"] (spTold K)) (k_Text : MkG P w K mg base 4 "Text" C [.ref r] (spTxI K C)) :
    FnG P w K mg base 9 "_law_kinds_right" [] spKinds := by
  refine F.ok sc__law_kinds_right (fun vs H Q E h => ?_) (fun a cdv A outer s H vs Q E L hr h => ?_)
  · obtain ⟨rfl, _⟩ := h
    rfl
  have nd := sc__law_kinds_right.nd
  refine ⟨_, (pss_cons (ps_for PassesOwn.never rfl (pi_seqL L (pe_lst (pa_cons pe_non (pa_cons pe_bl (pa_cons pe_int (pa_cons pe_int (pa_cons pe_str (pa_cons pe_str (pa_cons (pe_lst pa_nil) (pa_cons (pe_lst (pa_cons pe_str pa_nil)) (pa_cons pe_dnewK (pa_cons (pe_mkG0 k_Text (hr.mono (by decide)) (by rfl)) pa_nil)))))))))))) (pg_name (i := 0) nd rfl (.inr rfl)) (pss_cons (ps_if (PW.pt (pw_and (pt_not (pt_truthL L (pe_callB (oc L) (by rfl) m.isinstance_ bt_isinstance (pa_cons (pv 0) (pa_cons (pe_bltn (v := .ty "str") (by rfl) m.str_ bt_str rfl) pa_nil))))) (pw_and1 (pt_cmpR (op_ L) (pe_lc (own := [("_law_style", 1)]) rfl nd (pi_seqL L (pe_lst (pa_cons pe_int (pa_cons pe_int pa_nil)))) (blkOk_by (own := [("_law_style", 1)]) (N := ["_law_matter", "_law_style"]) (sc := defScope s__law_kinds_right) (by decide +kernel)) (fun _ _ _ _ _ => (pg_name (i := 1) nd rfl (.inl rfl))) (fun _ _ _ _ _ => inT L.b pts_nil) (fun _ _ _ _ _ => inE L.b (pe_callG c__law_told (hr.mono (by decide)) (by rfl) (pa_cons (pv 1) (pa_cons (pv 0) pa_nil))))) (pe_op (ob L) (pe_lst (pa_cons (pe_tup (pa_cons pe_str (pa_cons pe_non pa_nil))) pa_nil)) pe_int) (nomark _))))) (pss_one (ps_ret pe_bl)) pss_nil) (pss_one (ps_if (pt_cmpR (op_ L) (pe_lc (own := [("_law_style", 1)]) rfl nd (pi_seqL L (pe_lst (pa_cons pe_int (pa_cons pe_int pa_nil)))) (blkOk_by (own := [("_law_style", 1)]) (N := ["_law_matter", "_law_style"]) (sc := defScope s__law_kinds_right) (by decide +kernel)) (fun _ _ _ _ _ => (pg_name (i := 1) nd rfl (.inl rfl))) (fun _ _ _ _ _ => inT L.b pts_nil) (fun _ _ _ _ _ => inE L.b (pe_callG c__law_told (hr.mono (by decide)) (by rfl) (pa_cons (pv 1) (pa_cons (pv 0) pa_nil))))) (pe_op (ob L) (pe_lst (pa_cons (pe_tup (pa_cons pe_str (pa_cons pe_non pa_nil))) pa_nil)) pe_int) (nomark _)) (pss_one (ps_ret pe_bl)) pss_nil)))) (pss_one (ps_ret (pe_cmpR (op_ L) (pe_lc (own := [("_law_style", 1)]) rfl nd (pi_seqL L (pe_lst (pa_cons pe_int (pa_cons pe_int pa_nil)))) (blkOk_by (own := [("_law_style", 1)]) (N := ["_law_matter", "_law_style"]) (sc := defScope s__law_kinds_right) (by decide +kernel)) (fun _ _ _ _ _ => (pg_name (i := 1) nd rfl (.inl rfl))) (fun _ _ _ _ _ => inT L.b pts_nil) (fun _ _ _ _ _ => inE L.b (pe_callG c__law_told (hr.mono (by decide)) (by rfl) (pa_cons (pv 1) (pa_cons (pe_tup (pa_cons pe_str pa_nil)) pa_nil))))) (pe_op (ob L) (pe_lst (pa_cons (pe_tup (pa_cons pe_str (pa_cons pe_non pa_nil))) pa_nil)) pe_int) (nomark _))))), ?_⟩
  obtain ⟨rfl, q⟩ := h
  have gd : DGd (amissD .non) := gd_amiss (.inl rfl)
  refine r_seqH fun nx0 h0 => ?_
  refine r_for (r_iseq ?_)
  refine mk_lst (n := 10) (K := K) ?_ (by decide) fun a1 x1 H1 s1 e1 o1 l1 => ?_
  · repeat' walk_at "mo"
    all_goals decide +kernel
  refine .inl ⟨a1, x1, rfl, SqL.of e1, ?_⟩
  refine fo_it walk_list (fun i σ H' => ∃ v0 v1, σ = [v0, v1] ∧ Same H1 H') ⟨_, _, rfl, Same.refl _⟩ (fun i σ H' _ ⟨_, _, _, s⟩ => s.seq (SqL.of e1)) (fun i x σ H2 H3 hi hPv hY => ?_) (fun σ H2 hPv => ?_)
  · obtain ⟨v0, v1, rfl, s2⟩ := hPv
    obtain ⟨rfl, hy2⟩ := hY
    obtain ⟨T, ty, nT⟩ := (o1 x (List.mem_of_getElem? hy2)).same s2
    have oc0 : ∀ k : Int, (k = 0 ∨ k = 1) → ∀ {H'}, Same H3 H' → Outc K H' k x (amissD .non) := fun k hk H' s => ⟨T, Tyb.same s ty, .inl ⟨hk, .inl ⟨nT, rfl⟩⟩⟩
    have oc2 : T ≠ "str" → ∀ k : Int, (k = 2 ∨ k = 3) → ∀ {H'}, Same H3 H' → Outc K H' k x (amissD .non) := fun nS k hk H' s => ⟨T, Tyb.same s ty, .inr ⟨hk, .inl ⟨nS, rfl⟩⟩⟩
    refine r_name (r_seqH fun nx1 h1 => ?_)
    have nxt : ∀ H4, Same H3 H4 → nx1 [some x, v1] H4 := fun H4 s4 => by
      refine h1 _ _ ?_
      refine r_ifs (r_test (ne_told (fun k hk {H'} s => oc0 k hk (s4.trans s)) fun H5 s5 => ?_))
      walk_at "go"
      exact ⟨_, _, rfl, s2.trans (s4.trans s5)⟩
    have nxt' : ∀ H4, Same H3 H4 → nx1 ([v0, v1].set 0 (some x)) H4 := nxt
    clear nxt h1
    walk_at "go"
    refine k_isT ty (kit_str ty) ?_
    by_cases hS : T = "str"
    · rw [hS, show ("str" == "str") = true from rfl]
      walk_at "go"
      exact nxt' _ (Same.refl _)
    · rw [beq_eq_false_iff_ne.mpr hS]
      refine tru_b ?_
      first | refine itnF ?_ | refine itnT ?_ | refine iteT ?_
      refine r_test (ne_told (fun k hk {H'} s => oc2 hS k hk s) fun H5 s5 => ?_)
      walk_at "go"
      exact nxt' _ s5
  obtain ⟨v0, v1, rfl, s2⟩ := hPv
  refine h0 _ _ ?_
  walk_at "go"
  refine ⟨sz1000 (by show 2 ≤ 1000; decide), fun g hg => ?_⟩
  have sg := s2.trans (Same.new hg (o := .lst [.int 2, .int 3]))
  refine .inl ⟨g, _, rfl, SqL.of upd_same, fun L1 hL => ?_⟩
  refine lc_tell (K := K) walk_list gd (by rw [sizeLine_eq]; show 2 < 16777216; decide) hL (fun H' s => s.seq (SqL.of upd_same)) (fun i x H' H'' hi sm hy C1 C0 h1 => ?_) (fun H3 ys s3 e3 d3 => ?_)
  · obtain ⟨rfl, hy2⟩ := hy
    obtain ⟨k, rfl, hk⟩ : ∃ k : Int, x = .int k ∧ (k = 2 ∨ k = 3) := by
      have := List.mem_of_getElem? hy2
      simp only [List.mem_cons, List.not_mem_nil, or_false] at this
      rcases this with rfl | rfl
      · exact ⟨_, rfl, .inl rfl⟩
      · exact ⟨_, rfl, .inr rfl⟩
    walk_at "go"
    refine ⟨rfl, ?_⟩
    walk_at "go"
    refine ⟨sz1000 (by show 1 ≤ 1000; decide), fun t nt => ?_⟩
    walk_at "go"
    refine u_told ⟨"tuple", .tup (SqT.of upd_same), .inr ⟨hk, .inl ⟨by decide, rfl⟩⟩⟩ fun t H4 s4 e4 => ?_
    exact h1 _ _ ((Same.new nt).trans s4) e4
  have t3 := sg.trans s3
  walk_at "go"
  refine ⟨sz1000 (by show 2 ≤ 1000; decide), fun t nt => ?_⟩
  walk_at "go"
  refine ⟨sz1000 (by show 1 ≤ 1000; decide), fun l nl => ?_⟩
  walk_at "go"
  refine b_repD (n := 2) upd_same rfl (by decide) gd (.tup (SqT.of (Same.new nl _ _ upd_same)) (.cons (.str _) (.cons .non .nil))) fun b ys2 H4 s4 e4 d4 => ?_
  have t4 := ((Same.new nt).trans (Same.new nl)).trans s4
  refine c_eqR gd (SqL.of (t4 _ _ e3)) (Dp.stayA (Same.but t4) e3 _ _ (nlA_rep gd.nl _) d3) e4 d4 ?_
  exact q _ (s1.trans (t3.trans t4))
end
end Tk

set_option Elab.async false
set_option linter.all false
set_option maxRecDepth 100000
set_option maxHeartbeats 4000000
namespace Tk
open PySem PySem.Spec PyProof.Rows L2 Lay
open TL (tl ext_tl len_tl tl_append tl_mk mk_tl)
local macro_rules | `(tactic| walk_at "if") => `(tactic| refine ite2 (fun hc => ?_) (fun hc => ?_))
local macro_rules | `(tactic| walk_at "lk") => `(tactic| first | exact upd_same | assumption)
local macro_rules | `(tactic| walk_at "st") => `(tactic| first
  | with_reducible refine r_var rfl ?_ | with_reducible refine r_c ?_ | with_reducible refine r_op ?_ | with_reducible refine r_cons ?_ | with_reducible refine r_nil ?_ | with_reducible refine r_vals ?_
  | with_reducible refine r_cb ?_ | with_reducible refine r_tup ?_ | with_reducible refine r_lst ?_ | with_reducible refine r_call ?_ | with_reducible refine r_test ?_
  | with_reducible refine r_if ?_ | with_reducible refine r_not ?_ | with_reducible refine r_bm ?_ | with_reducible refine r_sl ?_ | with_reducible refine r_np ?_ | with_reducible refine r_part ?_
  | with_reducible refine r_seq ?_ | with_reducible refine r_asg ?_ | with_reducible refine r_name ?_ | with_reducible refine r_ifs ?_ | with_reducible refine r_ret ?_ | with_reducible refine r_next ?_ | with_reducible refine r_par ?_ | with_reducible refine r_par3 ?_ | with_reducible refine r_brk ?_ | with_reducible refine r_cnt ?_ | with_reducible refine r_sub ?_
  | with_reducible refine r_andT ?_ | with_reducible refine r_orT ?_ | with_reducible refine r_notT ?_ | with_reducible refine r_or ?_ | with_reducible refine r_and ?_ | with_reducible refine r_tB ?_ | with_reducible refine r_drop ?_ | with_reducible refine r_callN ?_ | with_reducible refine r_chain ?_
  | with_reducible refine r_for ?_ | with_reducible refine r_lc ?_ | with_reducible refine r_iseq ?_ | with_reducible refine r_rng1 ?_ | with_reducible refine r_enum ?_ | with_reducible refine r_yes ?_ | with_reducible refine r_tru ?_ | with_reducible refine r_gtup ?_ | with_reducible refine r_gcons ?_ | with_reducible refine r_gnil ?_
  | with_reducible refine b_add ?_ | with_reducible refine b_sub ?_ | (with_reducible refine b_mul (by unfold CMul; omega) ?_) | (with_reducible refine b_mod (by omega) ?_) | (with_reducible refine b_fdiv (by unfold CDiv; omega) ?_)
  | with_reducible refine c_lt ?_ | with_reducible refine c_le ?_ | with_reducible refine c_gt ?_ | with_reducible refine c_ge ?_ | with_reducible refine c_isN ?_ | with_reducible refine c_notN ?_ | with_reducible refine c_isB ?_ | with_reducible refine c_eq rfl ?_ | with_reducible refine c_ne rfl ?_
  | with_reducible refine c_insign ?_ | with_reducible refine k_int ?_ | with_reducible refine k_intb ?_ | with_reducible refine k_max ?_ | with_reducible refine k_min ?_
  | with_reducible refine ⟨_, rfl, ?_⟩
  | with_reducible refine ex_par ?_
  | with_reducible refine r_back ?_
  | with_reducible refine ex_par3 ?_
  | with_reducible refine ty_s ?_
  | with_reducible refine tru_b ?_
  | with_reducible refine iteT ?_ | with_reducible refine iteF ?_ | with_reducible refine itnT ?_ | with_reducible refine itnF ?_)
local macro_rules | `(tactic| walk_at "go") => `(tactic| repeat walk_at "st")
local macro_rules | `(tactic| walk_at "cl") => `(tactic| try dsimp only [cxOf, Cx.nox, Cx.wish])
/-! ### the law -/
abbrev s_law : Stmt := topS 87
theorem sc_law : FnScope ["_law_script", "_law_fixed", "_law_k", "_law_purse_here", "_law_bends", "_law_upto", "_law_noted", "_law_marks", "_law_lot", "_law_turn", "_law_many", "_law_verse", "_law_part"] ["_law_script"] (defScope s_law) := ⟨rfl, rfl, rfl, by decide +kernel, rfl, by decide +kernel, by decide +kernel⟩
def spLaw (K : PySem.W.Frag) : Sp := fun vs H Q _ => ∃ (a : Addr) (ns : List Int), vs = [.ref a] ∧ SqL K H a (ns.map V.int) ∧ ns.length ≤ 63 ∧ ∀ H', Q (.bl true) H'
/-- a text, not too long -/
def Sx (_ : Hp) (x : V) : Prop := ∃ z, x = .str z ∧ z.length ≤ 10000
theorem sum_len {zs : List Str} {m : Nat} (h : ∀ z ∈ zs, z.length ≤ m) : (zs.map (·.length)).sum ≤ zs.length * m := by
  induction zs with
  | nil => simp
  | cons z r ih =>
    have h1 := h z List.mem_cons_self
    have h2 := ih fun y hy => h y (List.mem_cons_of_mem _ hy)
    rw [List.map_cons, List.sum_cons, List.length_cons, Nat.succ_mul]
    omega
theorem join_len {zs : List Str} {m : Nat} (h : ∀ z ∈ zs, z.length ≤ m) : (Txt.join sp1 zs).length ≤ zs.length * (m + 1) := by
  rw [len_tl, TL.join_eq, TL.tl_join, tl_sp1']
  have : ∀ ps : List (List Nat), (∀ p ∈ ps, p.length ≤ m) → (TL.joinL [32] ps).length ≤ ps.length * (m + 1) := fun ps => by
    induction ps with
    | nil => intro _; exact Nat.zero_le _
    | cons p r ih =>
      intro h
      have hp := h p List.mem_cons_self
      cases r with
      | nil =>
        show p.length ≤ _
        simp only [List.length_cons, List.length_nil]
        omega
      | cons q r =>
        have := ih fun z hz => h z (List.mem_cons_of_mem _ hz)
        show (p ++ ([32] ++ TL.joinL [32] (q :: r))).length ≤ _
        have e : (p :: q :: r).length * (m + 1) = (q :: r).length * (m + 1) + (m + 1) := by rw [List.length_cons, Nat.add_mul, Nat.one_mul]
        rw [e, List.length_append, List.length_append]
        simp only [List.length_cons, List.length_nil] at this ⊢
        omega
  have h2 := this (zs.map tl) fun p hp => by
    obtain ⟨z, hz, rfl⟩ := List.mem_map.mp hp
    have := h z hz
    rw [len_tl] at this
    exact this
  rw [List.length_map] at h2
  exact h2
def isS : V → Bool
  | .str _ => true
  | _ => false
theorem tyb_isS {K : PySem.W.Frag} {H : Hp} {x : V} {T : String} (t : Tyb K H x T) : (T == "str") = isS x := by
  cases t <;> rfl
theorem strs_of {m : Nat} : ∀ {xs : List V}, (∀ x ∈ xs, ∀ y, x = .str y → y.length ≤ m) → ∃ zs : List Str, xs.filter isS = stS zs ∧ zs.length ≤ xs.length ∧ ∀ z ∈ zs, z.length ≤ m
  | [], _ => ⟨[], rfl, Nat.le_refl _, fun _ h => nomatch h⟩
  | x :: r, h => by
    obtain ⟨zs, e, l, hz⟩ := strs_of (xs := r) fun y hy => h y (List.mem_cons_of_mem _ hy)
    by_cases hs : isS x = true
    · cases x with
      | str z =>
        refine ⟨z :: zs, by rw [List.filter_cons, if_pos hs, e]; rfl, by simp only [List.length_cons]; omega, fun y hy => ?_⟩
        rcases List.mem_cons.mp hy with rfl | hy
        · exact h _ List.mem_cons_self _ rfl
        · exact hz y hy
      | _ => exact absurd hs Bool.false_ne_true
    · exact ⟨zs, by rw [List.filter_cons, if_neg hs, e], by simp only [List.length_cons]; omega, hz⟩
theorem rep_strs (n : Nat) (z : Str) : (List.replicate n [V.str z]).flatten = stS (List.replicate n z) := by
  unfold stS
  induction n with
  | zero => rfl
  | succ n ih => rw [List.replicate_succ, List.flatten_cons, ih, List.replicate_succ]; rfl
section
variable {P : Program} {w : World} {K : PySem.W.Frag} {mg : Str → Option Value} {base : Heap} {H : Hp} {Q : VK}
theorem sx_vals {zs : List Str} (h : ∀ z ∈ zs, z.length ≤ 10000) : MkA (tVals (zs.map V.str)) Sx zs.length := fun σ H Q q => q _ H (Same.refl H) (fun x hx => by
  obtain ⟨z, hz, rfl⟩ := List.mem_map.mp hx
  exact ⟨z, rfl, h z hz⟩) (List.length_map _)
theorem sx_lst {tr : TA} {n : Nat} {σ : L2.St} {H : Hp} {Q : VK} (h : MkA tr Sx n) (hn : n ≤ 1000) (q : ∀ a xs H', Same H H' → H' a = some (.lst xs) → (∀ x ∈ xs, Sx H' x) → xs.length = n → Q (.ref a) H') : tLst tr σ H Q := by
  refine h σ H _ fun xs H1 s1 e1 l1 => ⟨sz1000 (by omega), fun p hp => ?_⟩
  exact q p xs _ (s1.trans (Same.new hp)) upd_same e1 l1
/-- such a list, and one more behind it -/
theorem sx_cat {a b : Addr} {xs ys : List V} (e1 : H a = some (.lst xs)) (e2 : H b = some (.lst ys)) (a1 : ∀ x ∈ xs, Sx H x) (a2 : ∀ x ∈ ys, Sx H x) (hl : xs.length + ys.length ≤ 100) (q : ∀ c zs H', Same H H' → H' c = some (.lst zs) → (∀ x ∈ zs, Sx H' x) → zs.length = xs.length + ys.length → Q (.ref c) H') : sB P w K (binaryOp .Add) (.ref a) (.ref b) H Q :=
  b_cat e1 e2 (sz1000 (by omega)) fun c hc => q c _ _ (Same.new hc) upd_same (fun x hx => (List.mem_append.mp hx).elim (a1 x) (a2 x)) (by rw [List.length_append])
theorem ok_law {fa : Addr} {fd : FuncData} (F : Fun K "law" "law" s_law fa fd) (m : Md mg) (c__law_pick : FnG P w K mg base 1 "_law_pick" ["_law_purse_here", "_law_many"] spPick) (c__law_purse : FnG P w K mg base 1 "_law_purse" ["_law_cell_here"] spPurse) (c__law_cell : FnG P w K mg base 1 "_law_cell" ["_law_script", "_law_k"] (spCell K))
    (c__law_names : FnG P w K mg base 2 "_law_names" ["_law_purse_here", "_law_size"] spNames) (c__law_tokens : FnG P w K mg base 3 "_law_tokens" ["_law_purse_here", "_law_upto", "_law_marks", "_law_refs", "_law_bare"] (spTokens K)) (c__law_with_note : FnG P w K mg base 4 "_law_with_note" ["_law_purse_here", "_law_tokens_here", "_law_refs"] (spNote K))
    (c__law_shown_right : FnG P w K mg base 9 "_law_shown_right" ["_law_lot"] (spShown K)) (c__law_read_right : FnG P w K mg base 9 "_law_read_right" ["_law_verse"] (spVerse K)) (c__law_kinds_right : FnG P w K mg base 9 "_law_kinds_right" [] spKinds) (c__law_bent : FnG P w K mg base 10 "_law_bent" ["_law_purse_here", "_law_lot"] (spBent K)) :
    FnOk P w K mg base CX0 11 fa fd ["_law_script"] (spLaw K) := by
  refine F.ok sc_law (fun vs H Q E h => ?_) (fun cdv A outer s H vs Q E hr h => ?_)
  · obtain ⟨a, ns, rfl, _⟩ := h
    rfl
  have nd := sc_law.nd
  have L : LX P w K (cxOf CX0 P w K mg base ["_law_script", "_law_fixed", "_law_k", "_law_purse_here", "_law_bends", "_law_upto", "_law_noted", "_law_marks", "_law_lot", "_law_turn", "_law_many", "_law_verse", "_law_part"] "law" (defScope s_law) fa cdv A outer s H E).nox := ⟨rfl, rfl, rfl, rfl, hr.units⟩
  refine ⟨_, (pss_cons (ps_set (i := 1) nd rfl (.inl rfl) (pe_lst (pa_strs ["{", "}", "{ }", "{ a ]", "{ [ ] }", "[ a } b", "a { b", "{ a } [ b ]", "{ a } }"]))) (pss_cons (ps_set (i := 1) nd rfl (.inl rfl) (pe_op (ob L) (pv 1) (pe_lst (pa_strs ["a\nb", " a  b ", "@a #b ~c &d ^E", "@", "a-b"])))) (pss_cons (ps_set (i := 1) nd rfl (.inl rfl) (pe_op (ob L) (pv 1) (pe_lc (own := [("_law_many", 10)]) rfl nd (pi_seqL L (pe_lst (pa_cons pe_int (pa_cons pe_int (pa_cons pe_int (pa_cons pe_int pa_nil)))))) (blkOk_by (own := [("_law_many", 10)]) (N := ["_law_script", "_law_fixed", "_law_k", "_law_purse_here", "_law_bends", "_law_upto", "_law_noted", "_law_marks", "_law_lot", "_law_turn", "_law_many", "_law_verse", "_law_part"]) (sc := defScope s_law) (by decide +kernel)) (fun _ _ _ _ _ => (pg_name (i := 10) nd rfl (.inl rfl))) (fun _ _ _ _ _ => inT L.b pts_nil) (fun _ _ _ _ _ => inE L.b (pe_bmL L.b PySem.F.plainAttrs_str PySem.F.slot_str_join PySem.F.type_str_join pe_str (pa_cons (pe_op (ob L.b) (pe_lst (pa_cons pe_str pa_nil)) (pv 10)) pa_nil)))))) (pss_cons (ps_set (i := 1) nd rfl (.inl rfl) (pe_op (ob L) (pv 1) (pe_lst (pa_cons (pe_bmL L PySem.F.plainAttrs_str PySem.F.slot_str_join PySem.F.type_str_join pe_str (pa_cons (pe_op (ob L) (pe_op (ob L) (pe_lst (pa_cons pe_str pa_nil)) pe_int) (pe_lst (pa_cons pe_str pa_nil))) pa_nil)) (pa_cons (pe_bmL L PySem.F.plainAttrs_str PySem.F.slot_str_join PySem.F.type_str_join pe_str (pa_cons (pe_op (ob L) (pe_lst (pa_cons pe_str pa_nil)) (pe_op (ob L) (pe_lst (pa_cons pe_str pa_nil)) pe_int)) pa_nil)) pa_nil))))) (pss_cons (ps_if (PW.pt (pw_or (pt_not (pt_truthL L (pe_callB (oc L) (by rfl) m.all_ bt_all (pa_cons (pe_lc (own := [("_law_verse", 11)]) rfl nd (pi_seqL L (pv 1)) (blkOk_by (own := [("_law_verse", 11)]) (N := ["_law_script", "_law_fixed", "_law_k", "_law_purse_here", "_law_bends", "_law_upto", "_law_noted", "_law_marks", "_law_lot", "_law_turn", "_law_many", "_law_verse", "_law_part"]) (sc := defScope s_law) (by decide +kernel)) (fun _ _ _ _ _ => (pg_name (i := 11) nd rfl (.inl rfl))) (fun _ _ _ _ _ => inT L.b pts_nil) (fun _ _ _ _ _ => inE L.b (pe_callG c__law_read_right (hr.mono (by decide)) (by rfl) (pa_cons (pv 11) pa_nil)))) pa_nil)))) (pw_or1 (pt_not (pt_truthL L (pe_callG0 c__law_kinds_right (hr.mono (by decide)) (by rfl))))))) (pss_one (ps_ret pe_bl)) pss_nil) (pss_cons (ps_for PassesOwn.never rfl (pi_range1 (by rfl) m.range_ (pa_cons (pe_callB (oc L) (by rfl) m.max_ bt_max (pa_cons pe_int (pa_cons (pe_callB (oc L) (by rfl) m.min_ bt_min (pa_cons pe_int (pa_cons (pe_callB (oc L) (by rfl) m.len_ bt_len (pa_cons (pv 0) pa_nil)) pa_nil))) pa_nil))) pa_nil)) (pg_name (i := 2) nd rfl (.inl rfl)) (pss_cons (ps_set (i := 3) nd rfl (.inl rfl) (pe_callG c__law_purse (hr.mono (by decide)) (by rfl) (pa_cons (pe_callG c__law_cell (hr.mono (by decide)) (by rfl) (pa_cons (pv 0) (pa_cons (pv 2) pa_nil))) pa_nil))) (pss_cons (ps_par3 (i := 4) (j := 5) (l := 6) rfl nd rfl rfl rfl (by decide) (by decide) (by decide) rfl rfl rfl (pa_cons (pe_op (ob L) pe_int (pe_callG c__law_pick (hr.mono (by decide)) (by rfl) (pa_cons (pv 3) (pa_cons pe_int pa_nil)))) (pa_cons (pe_ix (oi L) (pe_lst (pa_cons pe_int (pa_cons pe_int pa_nil))) (pe_callG c__law_pick (hr.mono (by decide)) (by rfl) (pa_cons (pv 3) (pa_cons pe_int pa_nil))) (fun _ _ => rfl)) (pa_cons (pe_callG c__law_pick (hr.mono (by decide)) (by rfl) (pa_cons (pv 3) (pa_cons pe_int pa_nil))) pa_nil))) (by rfl)) (pss_cons (ps_set (i := 7) nd rfl (.inl rfl) (pe_callG c__law_names (hr.mono (by decide)) (by rfl) (pa_cons (pv 3) (pa_cons (pe_callG c__law_pick (hr.mono (by decide)) (by rfl) (pa_cons (pv 3) (pa_cons pe_int pa_nil))) pa_nil)))) (pss_cons (ps_set (i := 8) nd rfl (.inl rfl) (pe_callG c__law_tokens (hr.mono (by decide)) (by rfl) (pa_cons (pv 3) (pa_cons (pv 5) (pa_cons (pe_slice (osl L) (pv 7) po_none (po_some pe_int)) (pa_cons (pv 7) (pa_cons pe_bl pa_nil))))))) (pss_cons (ps_if (pt_cmpR (op_ L) (pv 6) pe_int (nomark _)) (pss_one (ps_set (i := 8) nd rfl (.inl rfl) (pe_callG c__law_with_note (hr.mono (by decide)) (by rfl) (pa_cons (pv 3) (pa_cons (pv 8) (pa_cons (pv 7) pa_nil)))))) pss_nil) (pss_cons (ps_if (PW.pt (pw_or (pt_not (pt_truthL L (pe_callG c__law_shown_right (hr.mono (by decide)) (by rfl) (pa_cons (pv 8) pa_nil)))) (pw_or1 (pt_not (pt_truthL L (pe_callG c__law_read_right (hr.mono (by decide)) (by rfl) (pa_cons (pe_bmL L PySem.F.plainAttrs_str PySem.F.slot_str_join PySem.F.type_str_join pe_str (pa_cons (pv 8) pa_nil)) pa_nil))))))) (pss_one (ps_ret pe_bl)) pss_nil) (pss_cons (ps_for PassesOwn.never rfl (pi_range1 (by rfl) m.range_ (pa_cons (pv 4) pa_nil)) (pg_name (i := 9) nd rfl (.inl rfl)) (pss_one (ps_set (i := 8) nd rfl (.inl rfl) (pe_callG c__law_bent (hr.mono (by decide)) (by rfl) (pa_cons (pv 3) (pa_cons (pv 8) pa_nil)))))) (pss_one (ps_if (PW.pt (pw_or (pt_not (pt_truthL L (pe_callG c__law_shown_right (hr.mono (by decide)) (by rfl) (pa_cons (pv 8) pa_nil)))) (pw_or1 (pt_not (pt_truthL L (pe_callG c__law_read_right (hr.mono (by decide)) (by rfl) (pa_cons (pe_bmL L PySem.F.plainAttrs_str PySem.F.slot_str_join PySem.F.type_str_join pe_str (pa_cons (pe_lc (own := [("_law_part", 12)]) rfl nd (pi_seqL L (pv 8)) (blkOk_by (own := [("_law_part", 12)]) (N := ["_law_script", "_law_fixed", "_law_k", "_law_purse_here", "_law_bends", "_law_upto", "_law_noted", "_law_marks", "_law_lot", "_law_turn", "_law_many", "_law_verse", "_law_part"]) (sc := defScope s_law) (by decide +kernel)) (fun _ _ _ _ _ => (pg_name (i := 12) nd rfl (.inl rfl))) (fun _ _ _ _ _ => inT L.b (pts_one (pt_truthL L.b (pe_callB (oc L.b) (by rfl) m.isinstance_ bt_isinstance (pa_cons (pv 12) (pa_cons (pe_bltn (v := .ty "str") (by rfl) m.str_ bt_str rfl) pa_nil)))))) (fun _ _ _ _ _ => inE L.b (pv 12))) pa_nil)) pa_nil))))))) (pss_one (ps_ret pe_bl)) pss_nil)))))))))) (pss_one (ps_ret pe_bl)))))))), ?_⟩
  obtain ⟨a, ns, rfl, hS, hns, q⟩ := h
  refine r_seqH fun nx0 h0 => ?_
  refine r_asg ?_
  refine sx_lst (n := 9) (sx_vals (by decide +kernel)) (by decide) fun f1 x1 H1 s1 e1 a1 l1 => ?_
  refine r_name (h0 [some (.ref a), some (.ref f1), none, none, none, none, none, none, none, none, none, none, none] _ ?_)
  clear h0
  refine r_seqH fun nx0 h0 => ?_
  refine r_asg (r_op (r_var rfl ?_))
  refine sx_lst (n := 5) (sx_vals (by decide +kernel)) (by decide) fun f2 x2 H2 s2 e2 a2 l2 => ?_
  refine sx_cat (s2 _ _ e1) e2 a1 a2 (by omega) fun f3 x3 H3 s3 e3 a3 l3 => ?_
  have t3 := s1.trans (s2.trans s3)
  refine r_name (h0 [some (.ref a), some (.ref f3), none, none, none, none, none, none, none, none, none, none, none] _ ?_)
  clear h0
  refine r_seqH fun nx0 h0 => ?_
  refine r_asg (r_op (r_var rfl ?_))
  walk_at "go"
  refine ⟨sz1000 (by show 4 ≤ 1000; decide), fun g hg => ?_⟩
  have sg := Same.new hg (o := .lst [.int 39, .int 40, .int 41, .int 42])
  refine .inl ⟨g, _, rfl, SqL.of upd_same, fun D hD => ?_⟩
  refine lc_pureL (α := Int) [39, 40, 41, 42] 0 (by have := walk_list (K := K) (a := g) (xs := [39, 40, 41, 42].map V.int); rw [List.length_map] at this; exact this) (fun _ => true) (fun k => .str (Txt.join sp1 (List.replicate k.toNat (Str.ofString "a")))) (by rw [sizeLine_eq]; show 4 < 16777216; decide) hD (fun H' s => s.seq (SqL.of upd_same)) (fun i k x H' H'' hi sm hy C1 C0 h1 _ => ?_) (fun H4 s4 e4 => ?_)
  · obtain ⟨rfl, hy2⟩ := hy
    have ex : x = .int k := by
      have : ([39, 40, 41, 42].map V.int)[i]? = some (.int k) := by
        rw [List.getElem?_map, hi]
        rfl
      exact Option.some.inj (hy2.symm.trans this)
    subst ex
    have hk : 0 ≤ k ∧ k ≤ 42 := by
      have := List.mem_of_getElem? hi
      simp only [List.mem_cons, List.not_mem_nil, or_false] at this
      omega
    walk_at "go"
    refine ⟨rfl, ?_⟩
    walk_at "go"
    refine ⟨sz1000 (by show 1 ≤ 1000; decide), fun l nl => ?_⟩
    walk_at "go"
    refine b_rep upd_same (by omega) (by omega) (sz1000 (by simp only [List.length_cons, List.length_nil]; omega)) fun b nb => ?_
    rw [rep_strs]
    refine m_join (.inl (SqL.of upd_same)) ?_ ?_
    · have := sum_len (zs := List.replicate k.toNat (Str.ofString "a")) (m := 1) fun z hz => by
        rw [(List.mem_replicate.mp hz).2]
        decide +kernel
      rw [List.length_replicate] at this ⊢
      have e1 : (Str.ofString " ").length = 1 := by decide +kernel
      rw [e1]
      omega
    exact h1 rfl _ ((Same.new nl).trans (Same.new nb))
  have ll : ∀ z ∈ ([39, 40, 41, 42] : List Int).map (fun k => Txt.join sp1 (List.replicate k.toNat (Str.ofString "a"))), z.length ≤ 10000 := by decide +kernel
  have st4 := sg.trans s4
  refine sx_cat (st4 _ _ e3) e4 a3 (fun x hx => ?_) (by rw [l3, l1, l2]; decide) fun f5 x5 H5 s5 e5 a5 l5 => ?_
  · obtain ⟨k, hk, rfl⟩ := List.mem_map.mp hx
    exact ⟨_, rfl, ll _ (List.mem_map.mpr ⟨k, (List.mem_filter.mp hk).1, rfl⟩)⟩
  have l5' : x5.length = 18 := by rw [l5, l3, l1, l2]; rfl
  have t5 := t3.trans (st4.trans s5)
  refine r_name (h0 [some (.ref a), some (.ref f5), none, none, none, none, none, none, none, none, none, none, none] _ ?_)
  clear h0
  refine r_seqH fun nx0 h0 => ?_
  refine r_asg (r_op (r_var rfl ?_))
  walk_at "go"
  refine ⟨sz1000 (by show 1 ≤ 1000; decide), fun g1 n1 => ?_⟩
  walk_at "go"
  refine b_rep upd_same (by decide) (by decide) (sz1000 (by show 1 * 42 ≤ 1000; decide)) fun g2 n2 => ?_
  rw [rep_strs]
  walk_at "go"
  refine ⟨sz1000 (by show 1 ≤ 1000; decide), fun g3 n3 => ?_⟩
  refine b_cat (Same.new n3 _ _ upd_same) upd_same (sz1000 (by rw [stS_len, List.length_replicate]; decide)) fun g4 n4 => ?_
  rw [show stS (List.replicate (Int.toNat 42) (Str.ofString "a")) ++ [V.str (Str.ofString "-")] = stS (List.replicate 42 (Str.ofString "a") ++ [Str.ofString "-"]) from (stS_app (List.replicate 42 (Str.ofString "a")) [Str.ofString "-"]).symm]
  refine m_join (.inl (SqL.of upd_same)) (by decide +kernel) ?_
  walk_at "go"
  refine ⟨sz1000 (by show 1 ≤ 1000; decide), fun g5 n5 => ?_⟩
  walk_at "go"
  refine ⟨sz1000 (by show 1 ≤ 1000; decide), fun g6 n6 => ?_⟩
  walk_at "go"
  refine b_rep upd_same (by decide) (by decide) (sz1000 (by show 1 * 41 ≤ 1000; decide)) fun g7 n7 => ?_
  rw [rep_strs]
  refine b_cat (((Same.new n6).trans (Same.new n7)) _ _ upd_same) upd_same (sz1000 (by rw [stS_len, List.length_replicate]; decide)) fun g8 n8 => ?_
  rw [show [V.str (Str.ofString "{")] ++ stS (List.replicate (Int.toNat 41) (Str.ofString "a")) = stS ([Str.ofString "{"] ++ List.replicate 41 (Str.ofString "a")) from (stS_app [Str.ofString "{"] (List.replicate 41 (Str.ofString "a"))).symm]
  refine m_join (.inl (SqL.of upd_same)) (by decide +kernel) ?_
  walk_at "go"
  refine ⟨sz1000 (by show 2 ≤ 1000; decide), fun g9 n9 => ?_⟩
  have s6 := (Same.new n1).trans ((Same.new n2).trans ((Same.new n3).trans ((Same.new n4).trans ((Same.new n5).trans ((Same.new n6).trans ((Same.new n7).trans ((Same.new n8).trans (Same.new n9 (o := .lst [.str (Txt.join (Str.ofString " ") (List.replicate 42 (Str.ofString "a") ++ [Str.ofString "-"])), .str (Txt.join (Str.ofString " ") ([Str.ofString "{"] ++ List.replicate 41 (Str.ofString "a")))])))))))))
  refine sx_cat (s6 _ _ e5) upd_same a5 (fun x hx => ?_) (by rw [l5']; decide) fun f7 xs H7 s7 e7 a7 l7 => ?_
  · simp only [List.mem_cons, List.not_mem_nil, or_false] at hx
    rcases hx with rfl | rfl <;> exact ⟨_, rfl, by decide +kernel⟩
  have l7' : xs.length = 20 := by rw [l7, l5']; rfl
  have t7 := t5.trans (s6.trans s7)
  refine r_name (h0 [some (.ref a), some (.ref f7), none, none, none, none, none, none, none, none, none, none, none] _ ?_)
  clear h0 s6 a5 e5 t5 a1 a2 a3 e1 e2 e3 e4
  refine r_seqH fun nx0 h0 => ?_
  walk_at "go"
  refine .inl ⟨f7, xs, rfl, SqL.of e7, fun D hD => ?_⟩
  refine lc_pureL xs .non walk_list (fun _ => true) (fun _ => .bl true) (by rw [sizeLine_eq]; omega) hD (fun H' s => SqL.of (s _ _ e7)) (fun i y x H' H'' hi sm hy C1 C0 h1 h0 => ?_) (fun H8 s8 e8 => ?_)
  · obtain ⟨rfl, hy2⟩ := hy
    cases hi.symm.trans hy2
    obtain ⟨z, rfl, lz⟩ := a7 y (List.mem_of_getElem? hi)
    walk_at "go"
    refine ⟨rfl, ?_⟩
    walk_at "go"
    refine u_verse (Nat.le_trans lz (by decide)) fun H9 s9 => ?_
    exact h1 rfl _ s9
  rw [filter_yes, ← Function.comp_def V.bl, ← List.map_map] at e8
  walk_at "go"
  refine k_all (SqL.of e8) ?_
  rw [List.all_map, show (xs.all (id ∘ fun _ => true)) = true by simp]
  walk_at "go"
  refine ⟨rfl, fun H9 s9 => ?_⟩
  walk_at "go"
  have t9 := t7.trans (s8.trans s9)
  refine h0 _ _ ?_
  clear h0
  refine r_seqH fun nxE hE => ?_
  walk_at "go"
  refine k_lenl (.inl (t9.seq hS)) ?_
  rw [List.length_map]
  walk_at "go"
  generalize hn : (if (if (ns.length : Int) < 8 then (ns.length : Int) else 8) > 2 then (if (ns.length : Int) < 8 then (ns.length : Int) else 8) else 2) = n
  have n8 : n ≤ 8 ∧ 2 ≤ n := by
    split at hn <;> split at hn <;> omega
  refine ⟨by omega, by omega, ?_⟩
  refine fo_it walk_range (fun i σ H' => ∃ v2 v3 v4 v5 v6 v7 v8 v9 v10 v11 v12, σ = [some (.ref a), some (.ref f7), v2, v3, v4, v5, v6, v7, v8, v9, v10, v11, v12] ∧ Same H H') ⟨_, _, _, _, _, _, _, _, _, _, _, rfl, t9⟩ (fun _ _ _ _ _ => True.intro) (fun i x σ H10 H11 hi hPv hY => ?_) (fun σ H10 hPv => ?_)
  rotate_left
  · obtain ⟨v2, v3, v4, v5, v6, v7, v8, v9, v10, v11, v12, rfl, s9⟩ := hPv
    refine hE _ _ ?_
    walk_at "go"
    exact q _
  obtain ⟨v2, v3, v4, v5, v6, v7, v8, v9, v10, v11, v12, rfl, s10⟩ := hPv
  obtain ⟨rfl, rfl⟩ := hY
  clear hE
  refine r_name ?_
  refine r_seqH fun nx0 h0 => ?_
  walk_at "go"
  refine u_cell (s10.seq hS) (by omega) (by omega) fun c H11 s11 => ?_
  walk_at "go"
  refine u_purse fun p H12 s12 np P12 => ?_
  have t12 := s10.trans (s11.trans s12)
  have np0 : H p = none := s10.free (s11.free np)
  clear s10 s11 s12 np
  refine r_name (h0 [some (.ref a), some (.ref f7), some (.int (0 + (i : Int))), some (.ref p), v4, v5, v6, v7, v8, v9, v10, v11, v12] _ ?_)
  clear h0
  refine r_seqH fun nx0 h0 => ?_
  walk_at "go"
  refine u_pick P12 (by decide) (by decide) fun bn H13 b13 P13 bn0 bn1 => ?_
  have t13 := Same.via t12 np0 b13
  walk_at "go"
  refine ⟨sz1000 (by show 2 ≤ 1000; decide), fun g4 hg4 => ?_⟩
  have n4 := P13.ne hg4
  have P14 : Pu (upd H13 g4 (.lst [.int 5, .int 39])) p := P13.up n4
  have t14 := t13.trans (Same.new hg4 (o := .lst [.int 5, .int 39]))
  walk_at "go"
  refine u_pick P14 (by decide) (by decide) fun r H15 b15 P15 r0 r1 => ?_
  refine i_draw (SqL.of (b15 _ _ n4 upd_same)) r0 (by simpa using r1) fun x hx => ?_
  obtain ⟨up, rfl, up0, up1⟩ : ∃ u : Int, x = .int u ∧ 0 ≤ u ∧ u ≤ 39 := by
    simp only [List.mem_cons, List.not_mem_nil, or_false] at hx
    rcases hx with rfl | rfl <;> exact ⟨_, rfl, by decide, by decide⟩
  have t15 := Same.via t14 np0 b15
  walk_at "go"
  refine u_pick P15 (by decide) (by decide) fun nt H16 b16 P16 _ _ => ?_
  have t16 := Same.via t15 np0 b16
  walk_at "go"
  refine h0 [some (.ref a), some (.ref f7), some (.int (0 + (i : Int))), some (.ref p), some (.int (1 + bn)), some (.int up), some (.int nt), v7, v8, v9, v10, v11, v12] _ ?_
  clear h0
  refine r_seqH fun nx0 h0 => ?_
  walk_at "go"
  refine u_pick P16 (by decide) (by decide) fun nm H17 b17 P17 nm0 nm1 => ?_
  have t17 := Same.via t16 np0 b17
  walk_at "go"
  refine u_names P17 nm0 (by omega) fun mk ms H18 b18 P18 fm em lm am => ?_
  have t18 := Same.via t17 np0 b18
  have nmk : mk ≠ p := P17.ne fm
  refine r_name (h0 [some (.ref a), some (.ref f7), some (.int (0 + (i : Int))), some (.ref p), some (.int (1 + bn)), some (.int up), some (.int nt), some (.ref mk), v8, v9, v10, v11, v12] _ ?_)
  clear h0
  refine r_seqH fun nx0 h0 => ?_
  walk_at "go"
  refine sl_l (SqL.of em) fun g5 hg5 => ?_
  have n5 := P18.ne hg5
  rw [show (1 : Int) = ((1 : Nat) : Int) from rfl, cutV_to', stS, ← List.map_take, ← stS]
  have P19 : Pu (upd H18 g5 (.lst (stS (ms.take 1)))) p := P18.up n5
  have t19 := t18.trans (Same.new hg5 (o := .lst (stS (ms.take 1))))
  have em19 := Same.new hg5 (o := .lst (stS (ms.take 1))) _ _ em
  walk_at "go"
  refine u_tokens P19 up0 (by omega) (SqL.of upd_same) (SqL.of em19) n5 nmk (by rw [List.length_take]; omega) (fun z hz => am z (List.mem_of_mem_take hz)) (by omega) am fun l1 z1 H20 b20 P20 e20 len20 pl1 => ?_
  have t20 := Same.via t19 np0 b20
  have em20 := b20 _ _ nmk em19
  have n1 : z1.length ≤ 42 := by
    rw [List.length_take] at len20
    omega
  refine r_name (h0 [some (.ref a), some (.ref f7), some (.int (0 + (i : Int))), some (.ref p), some (.int (1 + bn)), some (.int up), some (.int nt), some (.ref mk), some (.ref l1), v9, v10, v11, v12] _ ?_)
  clear h0
  refine r_seqH fun nx0 h0 => ?_
  refine r_cut (fun σ H' => ∃ t zs, σ = [some (.ref a), some (.ref f7), some (.int (0 + (i : Int))), some (.ref p), some (.int (1 + bn)), some (.int up), some (.int nt), some (.ref mk), some (.ref t), v9, v10, v11, v12] ∧ Same H H' ∧ Pu H' p ∧ SqT K H' t (stS zs) ∧ Lot zs ∧ zs.length ≤ 100) (fun nx' k => ?_) (fun σ H21 hPm => ?_)
  · walk_at "go"
    refine ite2 (fun hc => ?_) (fun hc => ?_)
    · walk_at "go"
      refine u_note P20 (SqT.of e20) (SqL.of em20) nmk (by omega) pl1 (by omega) am fun l3 zs H21 b21 P21 e21 ln21 lot => ?_
      walk_at "go"
      exact k _ _ ⟨_, _, rfl, Same.via t20 np0 b21, P21, e21, lot, ln21⟩
    · walk_at "go"
      exact k _ _ ⟨_, _, rfl, t20, P20, SqT.of e20, .inl pl1, by omega⟩
  obtain ⟨t, zs, rfl, t21, P21, e21, lot, ln⟩ := hPm
  refine h0 _ _ ?_
  clear h0
  have tk := lot.ok.tok
  have zl : ∀ z ∈ zs, z.length ≤ 13 := fun z hz => tok_len (tk z hz)
  have it0 : ∀ {H'}, Itms K H' p (stS zs) := Itms.strs fun z hz => Nat.le_trans (zl z hz) (by decide)
  refine r_seqH fun nx0 h0 => ?_
  walk_at "go"
  refine u_shown e21 it0.tup (by rw [stS_len]; omega) fun H22 s22 => ?_
  walk_at "go"
  refine m_join (.inr (Same.sqt s22 e21)) ?_ ?_
  · have := sum_len zl
    have e1 : (Str.ofString " ").length = 1 := by decide +kernel
    rw [e1]
    omega
  walk_at "go"
  refine u_verse (z := Txt.join sp1 zs) ?_ fun H23 s23 => ?_
  · have := join_len zl
    show (Txt.join sp1 zs).length ≤ 100000
    omega
  walk_at "go"
  have s213 := s22.trans s23
  have P23 := P21.same s213
  have t23 := t21.trans s213
  have e23 := Same.sqt s213 e21
  refine h0 _ _ ?_
  clear h0
  refine r_seqH fun nx0 h0 => ?_
  walk_at "go"
  refine ⟨by omega, by omega, ?_⟩
  refine fo_it walk_range (fun j σ H' => ∃ l ys v9, σ = [some (.ref a), some (.ref f7), some (.int (0 + (i : Int))), some (.ref p), some (.int (1 + bn)), some (.int up), some (.int nt), some (.ref mk), some (.ref l), v9, v10, v11, v12] ∧ Same H H' ∧ Pu H' p ∧
    SqT K H' l ys ∧ Itms K H' p ys ∧ ys.length ≤ if j = 0 then 100 else if j = 1 then 342 else if j = 2 then 1068 else 3246) ⟨t, stS zs, _, rfl, t23, P23, e23, it0, by rw [stS_len, if_pos rfl]; exact ln⟩
    (fun _ _ _ _ _ => True.intro) (fun j x σ H27 H28 hj hPv hY => ?_) (fun σ H27 hPv => ?_)
  · obtain ⟨l, ys, v9', rfl, t27, P27, hl, il, ll⟩ := hPv
    obtain ⟨rfl, rfl⟩ := hY
    have hj2 : j < 3 := by omega
    have l4 : ys.length ≤ 2000 := by
      split at ll
      · omega
      · split at ll
        · omega
        · split at ll <;> omega
    walk_at "go"
    refine u_bent P27 hl il l4 fun g zs2 H29 b29 P29 hg ig lg => ?_
    walk_at "go"
    refine ⟨g, zs2, _, rfl, Same.via t27 np0 b29, P29, hg, ig, ?_⟩
    have hj' : j = 0 ∨ j = 1 ∨ j = 2 := by omega
    rcases hj' with rfl | rfl | rfl
    · rw [if_pos rfl] at ll
      show zs2.length ≤ 342
      omega
    · have ll' : ys.length ≤ 342 := ll
      show zs2.length ≤ 1068
      omega
    · have ll' : ys.length ≤ 1068 := ll
      show zs2.length ≤ 3246
      omega
  obtain ⟨l, ys, v9', rfl, t27, P27, hl, il, ll⟩ := hPv
  have l5 : ys.length ≤ 3246 := by
    split at ll
    · omega
    · split at ll
      · omega
      · split at ll <;> omega
  refine h0 _ _ ?_
  clear h0 ll
  walk_at "go"
  refine u_shown hl il.tup (by omega) fun H28 s28 => ?_
  walk_at "go"
  have hl28 := Same.sqt s28 hl
  refine .inr (.inl ⟨l, ys, rfl, hl28, fun D hD => ?_⟩)
  refine lc_pureL ys .non walk_tup isS (fun x => x) (by rw [sizeLine_eq]; omega) hD (fun H' s => Same.sqt s hl28) (fun i2 y x H' H'' hi2 sm hy C1 C0 h1 h0 => ?_) (fun H29 s29 e29 => ?_)
  · obtain ⟨rfl, hy2⟩ := hy
    cases hi2.symm.trans hy2
    obtain ⟨T, ty⟩ := (il y (List.mem_of_getElem? hi2)).2.2
    have ty' := Tyb.same (s28.trans sm) ty
    walk_at "go"
    refine ⟨rfl, ?_⟩
    walk_at "go"
    refine k_isT ty' (kit_str ty') ?_
    rw [tyb_isS ty']
    walk_at "go"
    refine ite2 (fun h => ?_) (fun h => ?_)
    · walk_at "go"
      exact h1 h _ (Same.refl _)
    · exact h0 (by simpa using h) _ (Same.refl _)
  obtain ⟨us, eu, lu, bu⟩ := strs_of (m := 20) (xs := ys) fun x hx y e => (il x hx).2.1 y e
  rw [List.map_id', eu] at e29
  walk_at "go"
  refine m_join (.inl (SqL.of e29)) ?_ ?_
  · have := sum_len bu
    have e1 : (Str.ofString " ").length = 1 := by decide +kernel
    rw [e1]
    omega
  walk_at "go"
  refine u_verse (z := Txt.join sp1 us) ?_ fun H30 s30 => ?_
  · have := join_len bu
    show (Txt.join sp1 us).length ≤ 100000
    omega
  walk_at "go"
  exact ⟨_, _, _, _, _, _, _, _, _, _, _, rfl, t27.trans (s28.trans (s29.trans s30))⟩
end
end Tk

set_option Elab.async false
set_option linter.all false
set_option maxRecDepth 100000
set_option maxHeartbeats 4000000
namespace Tk
open PySem PySem.Spec PyProof.Rows L2 Lay
open TL (tl ext_tl len_tl tl_append tl_mk mk_tl)
local macro_rules | `(tactic| walk_at "if") => `(tactic| refine ite2 (fun hc => ?_) (fun hc => ?_))
local macro_rules | `(tactic| walk_at "lk") => `(tactic| first | exact upd_same | assumption)
local macro_rules | `(tactic| walk_at "st") => `(tactic| first
  | with_reducible refine r_var rfl ?_ | with_reducible refine r_c ?_ | with_reducible refine r_op ?_ | with_reducible refine r_cons ?_ | with_reducible refine r_nil ?_ | with_reducible refine r_vals ?_
  | with_reducible refine r_cb ?_ | with_reducible refine r_tup ?_ | with_reducible refine r_lst ?_ | with_reducible refine r_call ?_ | with_reducible refine r_test ?_
  | with_reducible refine r_if ?_ | with_reducible refine r_not ?_ | with_reducible refine r_bm ?_ | with_reducible refine r_sl ?_ | with_reducible refine r_np ?_ | with_reducible refine r_part ?_
  | with_reducible refine r_seq ?_ | with_reducible refine r_asg ?_ | with_reducible refine r_name ?_ | with_reducible refine r_ifs ?_ | with_reducible refine r_ret ?_ | with_reducible refine r_next ?_ | with_reducible refine r_par ?_ | with_reducible refine r_par3 ?_ | with_reducible refine r_brk ?_ | with_reducible refine r_cnt ?_ | with_reducible refine r_sub ?_
  | with_reducible refine r_andT ?_ | with_reducible refine r_orT ?_ | with_reducible refine r_notT ?_ | with_reducible refine r_or ?_ | with_reducible refine r_and ?_ | with_reducible refine r_tB ?_ | with_reducible refine r_drop ?_ | with_reducible refine r_callN ?_ | with_reducible refine r_chain ?_
  | with_reducible refine r_for ?_ | with_reducible refine r_lc ?_ | with_reducible refine r_iseq ?_ | with_reducible refine r_rng1 ?_ | with_reducible refine r_enum ?_ | with_reducible refine r_yes ?_ | with_reducible refine r_tru ?_ | with_reducible refine r_gtup ?_ | with_reducible refine r_gcons ?_ | with_reducible refine r_gnil ?_
  | with_reducible refine b_add ?_ | with_reducible refine b_sub ?_ | (with_reducible refine b_mul (by unfold CMul; omega) ?_) | (with_reducible refine b_mod (by omega) ?_) | (with_reducible refine b_fdiv (by unfold CDiv; omega) ?_)
  | with_reducible refine c_lt ?_ | with_reducible refine c_le ?_ | with_reducible refine c_gt ?_ | with_reducible refine c_ge ?_ | with_reducible refine c_isN ?_ | with_reducible refine c_notN ?_ | with_reducible refine c_isB ?_ | with_reducible refine c_eq rfl ?_ | with_reducible refine c_ne rfl ?_
  | with_reducible refine c_insign ?_ | with_reducible refine k_int ?_ | with_reducible refine k_intb ?_ | with_reducible refine k_max ?_ | with_reducible refine k_min ?_
  | with_reducible refine ⟨_, rfl, ?_⟩
  | with_reducible refine ex_par ?_
  | with_reducible refine r_back ?_
  | with_reducible refine ex_par3 ?_
  | with_reducible refine ty_s ?_
  | with_reducible refine tru_b ?_
  | with_reducible refine iteT ?_ | with_reducible refine iteF ?_ | with_reducible refine itnT ?_ | with_reducible refine itnF ?_)
local macro_rules | `(tactic| walk_at "go") => `(tactic| repeat walk_at "st")
local macro_rules | `(tactic| walk_at "cl") => `(tactic| try dsimp only [cxOf, Cx.nox, Cx.wish])
/-! ### the refusal, as the top leaves it -/
open LayX (XcK XcBody)
abbrev s_NoTokens___init__ : Stmt := inClass (topS 5) 0
theorem nt_body : XcBody "place" (defBody s_NoTokens___init__) := ⟨_, _, _, _, _, _, _, _, _, _, _, _, _, rfl, fun _ => rfl, fun _ => rfl, fun _ => rfl⟩
structure SortKK (K : PySem.W.Frag) (C : Addr) : Prop where
  NoTokens_ : IsKK K C "NoTokens" true
  NoRows_ : IsKK K C "NoRows" false
  NoText_ : IsKK K C "NoText" false
  NoTexts_ : IsKK K C "NoTexts" false
  NoKind_ : IsKK K C "NoKind" false
  NoSize_ : IsKK K C "NoSize" false
  NoChanges_ : IsKK K C "NoChanges" false
  NoLine_ : IsKK K C "NoLine" false
  NoInclude_ : IsKK K C "NoInclude" false
  NoStyle_ : IsKK K C "NoStyle" false
  NoMark_ : IsKK K C "NoMark" false
  NoNumber_ : IsKK K C "NoNumber" false
  NoPlace_ : IsKK K C "NoPlace" false
  NoDocument_ : IsKK K C "NoDocument" false
  NoPrinting_ : IsKK K C "NoPrinting" false
  Ring_ : IsKK K C "Ring" false
  Twice_ : IsKK K C "Twice" false
  TooMany_ : IsKK K C "TooMany" false
  TooTall_ : IsKK K C "TooTall" false
  Clash_ : IsKK K C "Clash" false
  TongueError_ : IsKK K C "TongueError" true
  StandError_ : IsKK K C "StandError" false
  RoomError_ : IsKK K C "RoomError" false
  ValueError_ : PySem.W.kitOne K (.ref C) (.type "ValueError") = some true
  LookupError_ : PySem.W.kitOne K (.ref C) (.type "LookupError") = some false
  ArithmeticError_ : PySem.W.kitOne K (.ref C) (.type "ArithmeticError") = some false
theorem SortKK.sk {K : PySem.W.Frag} {h : Heap} {mg : Str → Option Value} {C : Addr} (t : SortKK K C) (X : K.In h) (G : h.Ns mainGlobals mg) : SortK K mg C :=
  ⟨t.NoTokens_.is X G, t.NoRows_.is X G, t.NoText_.is X G, t.NoTexts_.is X G, t.NoKind_.is X G, t.NoSize_.is X G, t.NoChanges_.is X G, t.NoLine_.is X G, t.NoInclude_.is X G, t.NoStyle_.is X G, t.NoMark_.is X G, t.NoNumber_.is X G, t.NoPlace_.is X G, t.NoDocument_.is X G, t.NoPrinting_.is X G, t.Ring_.is X G, t.Twice_.is X G, t.TooMany_.is X G, t.TooTall_.is X G, t.Clash_.is X G, t.TongueError_.is X G, t.StandError_.is X G, t.RoomError_.is X G, t.ValueError_, t.LookupError_, t.ArithmeticError_⟩
def NtX (P : Program) (K : PySem.W.Frag) : Prop := ∃ C, PySem.W.nsIn K mainGlobals "NoTokens" = some (some (.ref C)) ∧ (∃ fI, XcK P K C fI "place" "NoTokens.__init__" (defBody s_NoTokens___init__)) ∧ ExcC K C ∧ XfG K C "place" ∧ SortKK K C ∧
  ∃ CT CS CR, PySem.W.nsIn K mainGlobals "TongueError" = some (some (.ref CT)) ∧ PySem.W.nsIn K mainGlobals "StandError" = some (some (.ref CS)) ∧ PySem.W.nsIn K mainGlobals "RoomError" = some (some (.ref CR)) ∧ PySem.W.exmAny K (.ref C) [.ref CT, .ref CS, .ref CR] = some true
theorem NtX.xg {P : Program} {K : PySem.W.Frag} {h : Heap} {mg : Str → Option Value} {C : Addr} (h1 : PySem.W.nsIn K mainGlobals "NoTokens" = some (some (.ref C))) (h2 : ∃ fI, XcK P K C fI "place" "NoTokens.__init__" (defBody s_NoTokens___init__)) (X : K.In h) (G : h.Ns mainGlobals mg) : XcG P K mg "NoTokens" C "place" := by
  obtain ⟨fI, t⟩ := h2
  exact ⟨fI, _, _, t, nt_body, by decide +kernel, PySem.W.mg_of X G h1⟩
theorem NtX.mk {P : Program} {K : PySem.W.Frag} {C fI CT CS CR : Addr} (n0 : PySem.W.nsIn K mainGlobals "NoTokens" = some (some (.ref C))) (xc : XcK P K C fI "place" "NoTokens.__init__" (defBody s_NoTokens___init__)) (ex : ExcC K C) (xf : XfG K C "place") (so : SortKK K C)
    (t1 : PySem.W.nsIn K mainGlobals "TongueError" = some (some (.ref CT))) (t2 : PySem.W.nsIn K mainGlobals "StandError" = some (some (.ref CS))) (t3 : PySem.W.nsIn K mainGlobals "RoomError" = some (some (.ref CR))) (em : PySem.W.exmAny K (.ref C) [.ref CT, .ref CS, .ref CR] = some true) : NtX P K :=
  ⟨C, n0, ⟨fI, xc⟩, ex, xf, so, CT, CS, CR, t1, t2, t3, em⟩
end Tk

set_option Elab.async false
set_option linter.all false
set_option maxRecDepth 100000
set_option maxHeartbeats 4000000
namespace Tk
open PySem PySem.Spec PyProof.Rows L2 Lay
open TL (tl ext_tl len_tl tl_append tl_mk mk_tl)
local macro_rules | `(tactic| walk_at "if") => `(tactic| refine ite2 (fun hc => ?_) (fun hc => ?_))
local macro_rules | `(tactic| walk_at "lk") => `(tactic| first | exact upd_same | assumption)
local macro_rules | `(tactic| walk_at "st") => `(tactic| first
  | with_reducible refine r_var rfl ?_ | with_reducible refine r_c ?_ | with_reducible refine r_op ?_ | with_reducible refine r_cons ?_ | with_reducible refine r_nil ?_ | with_reducible refine r_vals ?_
  | with_reducible refine r_cb ?_ | with_reducible refine r_tup ?_ | with_reducible refine r_lst ?_ | with_reducible refine r_call ?_ | with_reducible refine r_test ?_
  | with_reducible refine r_if ?_ | with_reducible refine r_not ?_ | with_reducible refine r_bm ?_ | with_reducible refine r_sl ?_ | with_reducible refine r_np ?_ | with_reducible refine r_part ?_
  | with_reducible refine r_seq ?_ | with_reducible refine r_asg ?_ | with_reducible refine r_name ?_ | with_reducible refine r_ifs ?_ | with_reducible refine r_ret ?_ | with_reducible refine r_next ?_ | with_reducible refine r_par ?_ | with_reducible refine r_par3 ?_ | with_reducible refine r_brk ?_ | with_reducible refine r_cnt ?_ | with_reducible refine r_sub ?_
  | with_reducible refine r_andT ?_ | with_reducible refine r_orT ?_ | with_reducible refine r_notT ?_ | with_reducible refine r_or ?_ | with_reducible refine r_and ?_ | with_reducible refine r_tB ?_ | with_reducible refine r_drop ?_ | with_reducible refine r_callN ?_ | with_reducible refine r_chain ?_
  | with_reducible refine r_for ?_ | with_reducible refine r_lc ?_ | with_reducible refine r_iseq ?_ | with_reducible refine r_rng1 ?_ | with_reducible refine r_enum ?_ | with_reducible refine r_yes ?_ | with_reducible refine r_tru ?_ | with_reducible refine r_gtup ?_ | with_reducible refine r_gcons ?_ | with_reducible refine r_gnil ?_
  | with_reducible refine b_add ?_ | with_reducible refine b_sub ?_ | (with_reducible refine b_mul (by unfold CMul; omega) ?_) | (with_reducible refine b_mod (by omega) ?_) | (with_reducible refine b_fdiv (by unfold CDiv; omega) ?_)
  | with_reducible refine c_lt ?_ | with_reducible refine c_le ?_ | with_reducible refine c_gt ?_ | with_reducible refine c_ge ?_ | with_reducible refine c_isN ?_ | with_reducible refine c_notN ?_ | with_reducible refine c_isB ?_ | with_reducible refine c_eq rfl ?_ | with_reducible refine c_ne rfl ?_
  | with_reducible refine c_insign ?_ | with_reducible refine k_int ?_ | with_reducible refine k_intb ?_ | with_reducible refine k_max ?_ | with_reducible refine k_min ?_
  | with_reducible refine i_lst (by first | exact SqL.of upd_same | exact SqL.of (by assumption) | assumption) rfl ?_
  | with_reducible refine st_l (by walk_at "lk") rfl ?_
  | with_reducible refine ⟨_, rfl, ?_⟩
  | with_reducible refine ex_par ?_
  | with_reducible refine r_back ?_
  | with_reducible refine ex_par3 ?_
  | with_reducible refine ty_s ?_
  | with_reducible refine tru_b ?_
  | with_reducible refine iteT ?_ | with_reducible refine iteF ?_ | with_reducible refine itnT ?_ | with_reducible refine itnF ?_)
local macro_rules | `(tactic| walk_at "go") => `(tactic| repeat walk_at "st")
local macro_rules | `(tactic| walk_at "cl") => `(tactic| try dsimp only [cxOf, Cx.nox, Cx.wish])
/-! ### the end -/
theorem all_mk {P : Program} {w : World} {K : PySem.W.Frag} {h : Heap} {mg : Str → Option Value} {fa : Addr} (X : K.In h) (G : h.Ns mainGlobals mg) (hfa : mg "law" = some (.ref fa)) (m : MdK K)
    (t_is_text : FnK K "is_text" s_is_text)
    (t_is_tuple : FnK K "is_tuple" s_is_tuple)
    (t__is_of : FnK K "_is_of" s__is_of)
    (t_is_name : FnK K "is_name" s_is_name)
    (t_is_word : FnK K "is_word" s_is_word)
    (t_is_token : FnK K "is_token" s_is_token)
    (t__wrong_place : FnK K "_wrong_place" s__wrong_place)
    (t_wrong_place : FnK K "wrong_place" s_wrong_place)
    (t__refuse_wrong : FnK K "_refuse_wrong" s__refuse_wrong)
    (t_show_tokens : FnK K "show_tokens" s_show_tokens)
    (t_read_tokens : FnK K "read_tokens" s_read_tokens)
    (t__law_pick : FnK K "_law_pick" s__law_pick)
    (t__law_purse : FnK K "_law_purse" s__law_purse)
    (t__law_cell : FnK K "_law_cell" s__law_cell)
    (t__law_one_word : FnK K "_law_one_word" s__law_one_word)
    (t__law_names : FnK K "_law_names" s__law_names)
    (t__law_tokens : FnK K "_law_tokens" s__law_tokens)
    (t__law_with_note : FnK K "_law_with_note" s__law_with_note)
    (t__law_sort : FnK K "_law_sort" s__law_sort)
    (t__law_is_name : FnK K "_law_is_name" s__law_is_name)
    (t__law_is_word : FnK K "_law_is_word" s__law_is_word)
    (t__law_is_token : FnK K "_law_is_token" s__law_is_token)
    (t__law_amiss : FnK K "_law_amiss" s__law_amiss)
    (t__law_told : FnK K "_law_told" s__law_told)
    (t__law_shown_right : FnK K "_law_shown_right" s__law_shown_right)
    (t__law_read_right : FnK K "_law_read_right" s__law_read_right)
    (t__law_odd : FnK K "_law_odd" s__law_odd)
    (t__law_bent : FnK K "_law_bent" s__law_bent)
    (t__law_kinds_right : FnK K "_law_kinds_right" s__law_kinds_right)
    (t_law : FnK K "law" s_law)
    (g_SMALL_LETTERS : GvK K "SMALL_LETTERS" (.str sSmall))
    (g_WORD_SIGNS : GvK K "WORD_SIGNS" (.str sWord))
    (g_MOST_LETTERS : GvK K "MOST_LETTERS" (.int 8))
    (g_MOST_SIGNS : GvK K "MOST_SIGNS" (.int 12))
    (g_MOST_TOKENS : GvK K "MOST_TOKENS" (.int 40))
    (g_AHEAD_OF_WORDS : GvK K "AHEAD_OF_WORDS" (.str "^"))
    (g_MOST_ROWS : GvK K "MOST_ROWS" (.int 80))
    (g_BRACKETS : GtK K "BRACKETS" brs)
    (g_AHEAD_OF_NAMES : GtK K "AHEAD_OF_NAMES" ahd)
    (g_PAIRS : GdK K w "PAIRS" prs npr)
    (cl_Standing : ClK K "Standing")
    (no_Standing_rules : NoK K "Standing" "rules")
    (no_Standing_is_ahead : NoK K "Standing" "is_ahead")
    (no_Standing_whens : NoK K "Standing" "whens")
    (no_Standing_grid : NoK K "Standing" "grid")
    (mk_Standing : MakesK K "Standing")
    (mt_Standing___init__ : MtK K "Standing" "__init__" "Standing.__init__" s_Standing___init__)
    (mt_Standing_is_closed : MtK K "Standing" "is_closed" "Standing.is_closed" s_Standing_is_closed)
    (cl_Text : ClK K "Text")
    (own_Text : OwnK K "Text")
    (no_Text_rows : NoK K "Text" "rows")
    (mk_Text : MakesK K "Text")
    (ie_Text : InEK K "Text" "Text.__init__" s_Text___init__)
    (me_V : PySem.W.nsIn K mainGlobals "ValueError" = some none)
    (me_L : PySem.W.nsIn K mainGlobals "LookupError" = some none)
    (me_A : PySem.W.nsIn K mainGlobals "ArithmeticError" = some none)
    (nt : NtX P K)
    : ∃ fd : FuncData, (∀ (s : Shared) (v : Value), BindsTo s fd ⟨[v], []⟩ [("_law_script", v)]) ∧ ∀ base : Heap, K.In base → base.Ns mainGlobals mg → FnOk P w K mg base CX0 11 fa fd ["_law_script"] (spLaw K) := by
  refine law_end t_law X G hfa (fun _ _ _ _ _ _ _ => rfl) fun base mg fd B1 B2 F => ?_
  have M := m.md B1 B2
  have g_SMALL_LETTERS := g_SMALL_LETTERS.gv B1 B2
  have g_WORD_SIGNS := g_WORD_SIGNS.gv B1 B2
  have g_MOST_LETTERS := g_MOST_LETTERS.gv B1 B2
  have g_MOST_SIGNS := g_MOST_SIGNS.gv B1 B2
  have g_MOST_TOKENS := g_MOST_TOKENS.gv B1 B2
  have g_AHEAD_OF_WORDS := g_AHEAD_OF_WORDS.gv B1 B2
  have g_MOST_ROWS := g_MOST_ROWS.gv B1 B2
  have g_BRACKETS := g_BRACKETS.gt B1 B2
  have g_AHEAD_OF_NAMES := g_AHEAD_OF_NAMES.gt B1 B2
  have g_PAIRS := g_PAIRS.gd B1 B2
  have F_is_text := t_is_text.fn0 (ps := ["thing"]) B1 B2 (fun _ _ _ _ _ _ us hl => match us, hl with | [_], _ => rfl)
  have F_is_tuple := t_is_tuple.fn0 (ps := ["thing"]) B1 B2 (fun _ _ _ _ _ _ us hl => match us, hl with | [_], _ => rfl)
  have F__is_of := t__is_of.fn0 (ps := ["thing", "signs", "most"]) B1 B2 (fun _ _ _ _ _ _ us hl => match us, hl with | [_, _, _], _ => rfl)
  have F_is_name := t_is_name.fn0 (ps := ["thing"]) B1 B2 (fun _ _ _ _ _ _ us hl => match us, hl with | [_], _ => rfl)
  have F_is_word := t_is_word.fn0 (ps := ["thing"]) B1 B2 (fun _ _ _ _ _ _ us hl => match us, hl with | [_], _ => rfl)
  have F_is_token := t_is_token.fn0 (ps := ["thing"]) B1 B2 (fun _ _ _ _ _ _ us hl => match us, hl with | [_], _ => rfl)
  have F__wrong_place := t__wrong_place.fn0 (ps := ["tokens"]) B1 B2 (fun _ _ _ _ _ _ us hl => match us, hl with | [_], _ => rfl)
  have F_wrong_place := t_wrong_place.fn0 (ps := ["rows"]) B1 B2 (fun _ _ _ _ _ _ us hl => match us, hl with | [_], _ => rfl)
  have F__refuse_wrong := t__refuse_wrong.fn0 (ps := ["tokens"]) B1 B2 (fun _ _ _ _ _ _ us hl => match us, hl with | [_], _ => rfl)
  have F_show_tokens := t_show_tokens.fn0 (ps := ["tokens"]) B1 B2 (fun _ _ _ _ _ _ us hl => match us, hl with | [_], _ => rfl)
  have F_read_tokens := t_read_tokens.fn0 (ps := ["text"]) B1 B2 (fun _ _ _ _ _ _ us hl => match us, hl with | [_], _ => rfl)
  have F__law_pick := t__law_pick.fn0 (ps := ["_law_purse_here", "_law_many"]) B1 B2 (fun _ _ _ _ _ _ us hl => match us, hl with | [_, _], _ => rfl)
  have F__law_purse := t__law_purse.fn0 (ps := ["_law_cell_here"]) B1 B2 (fun _ _ _ _ _ _ us hl => match us, hl with | [_], _ => rfl)
  have F__law_cell := t__law_cell.fn0 (ps := ["_law_script", "_law_k"]) B1 B2 (fun _ _ _ _ _ _ us hl => match us, hl with | [_, _], _ => rfl)
  have F__law_one_word := t__law_one_word.fn0 (ps := ["_law_purse_here"]) B1 B2 (fun _ _ _ _ _ _ us hl => match us, hl with | [_], _ => rfl)
  have F__law_names := t__law_names.fn0 (ps := ["_law_purse_here", "_law_size"]) B1 B2 (fun _ _ _ _ _ _ us hl => match us, hl with | [_, _], _ => rfl)
  have F__law_tokens := t__law_tokens.fn0 (ps := ["_law_purse_here", "_law_upto", "_law_marks", "_law_refs", "_law_bare"]) B1 B2 (fun _ _ _ _ _ _ us hl => match us, hl with | [_, _, _, _, _], _ => rfl)
  have F__law_with_note := t__law_with_note.fn0 (ps := ["_law_purse_here", "_law_tokens_here", "_law_refs"]) B1 B2 (fun _ _ _ _ _ _ us hl => match us, hl with | [_, _, _], _ => rfl)
  have F__law_sort := t__law_sort.fn0 (ps := ["_law_e"]) B1 B2 (fun _ _ _ _ _ _ us hl => match us, hl with | [_], _ => rfl)
  have F__law_is_name := t__law_is_name.fn0 (ps := ["_law_matter"]) B1 B2 (fun _ _ _ _ _ _ us hl => match us, hl with | [_], _ => rfl)
  have F__law_is_word := t__law_is_word.fn0 (ps := ["_law_matter"]) B1 B2 (fun _ _ _ _ _ _ us hl => match us, hl with | [_], _ => rfl)
  have F__law_is_token := t__law_is_token.fn0 (ps := ["_law_matter"]) B1 B2 (fun _ _ _ _ _ _ us hl => match us, hl with | [_], _ => rfl)
  have F__law_amiss := t__law_amiss.fn0 (ps := ["_law_some"]) B1 B2 (fun _ _ _ _ _ _ us hl => match us, hl with | [_], _ => rfl)
  have F__law_told := t__law_told.fn0 (ps := ["_law_style", "_law_matter"]) B1 B2 (fun _ _ _ _ _ _ us hl => match us, hl with | [_, _], _ => rfl)
  have F__law_shown_right := t__law_shown_right.fn0 (ps := ["_law_lot"]) B1 B2 (fun _ _ _ _ _ _ us hl => match us, hl with | [_], _ => rfl)
  have F__law_read_right := t__law_read_right.fn0 (ps := ["_law_verse"]) B1 B2 (fun _ _ _ _ _ _ us hl => match us, hl with | [_], _ => rfl)
  have F__law_odd := t__law_odd.fn0 (ps := ["_law_purse_here"]) B1 B2 (fun _ _ _ _ _ _ us hl => match us, hl with | [_], _ => rfl)
  have F__law_bent := t__law_bent.fn0 (ps := ["_law_purse_here", "_law_lot"]) B1 B2 (fun _ _ _ _ _ _ us hl => match us, hl with | [_, _], _ => rfl)
  have F__law_kinds_right := t__law_kinds_right.fn0 (ps := []) B1 B2 (fun _ _ _ _ _ _ us hl => match us, hl with | [], _ => rfl)
  have c_is_text := ok_is_text (P := P) (w := w) (base := base) F_is_text M
  have c_is_tuple := ok_is_tuple (P := P) (w := w) (base := base) F_is_tuple M
  have c__is_of := ok__is_of (P := P) (w := w) (base := base) F__is_of M c_is_text
  have c_is_name := ok_is_name (P := P) (w := w) (base := base) F_is_name M g_SMALL_LETTERS g_MOST_LETTERS c__is_of
  have c_is_word := ok_is_word (P := P) (w := w) (base := base) F_is_word M g_WORD_SIGNS g_MOST_SIGNS c__is_of
  have c_is_token := ok_is_token (P := P) (w := w) (base := base) F_is_token M g_BRACKETS g_AHEAD_OF_NAMES g_AHEAD_OF_WORDS c_is_text c_is_name c_is_word
  have c__wrong_place := ok__wrong_place (P := P) (w := w) (base := base) F__wrong_place M g_BRACKETS g_PAIRS g_MOST_TOKENS c_is_token
  have c__law_pick := ok__law_pick (P := P) (w := w) (base := base) F__law_pick
  have c__law_purse := ok__law_purse (P := P) (w := w) (base := base) F__law_purse M
  have c__law_cell := ok__law_cell (P := P) (w := w) (base := base) F__law_cell M
  have c__law_one_word := ok__law_one_word (P := P) (w := w) (base := base) F__law_one_word M c__law_pick
  have c__law_names := ok__law_names (P := P) (w := w) (base := base) F__law_names M c__law_pick
  have c__law_tokens := ok__law_tokens (P := P) (w := w) (base := base) F__law_tokens M c__law_pick c__law_one_word
  have c__law_with_note := ok__law_with_note (P := P) (w := w) (base := base) F__law_with_note M c__law_pick c__law_tokens
  have c__law_is_name := ok__law_is_name (P := P) (w := w) (base := base) F__law_is_name M
  have c__law_is_word := ok__law_is_word (P := P) (w := w) (base := base) F__law_is_word M
  have c__law_is_token := ok__law_is_token (P := P) (w := w) (base := base) F__law_is_token M c__law_is_name c__law_is_word
  have c__law_amiss := ok__law_amiss (P := P) (w := w) (base := base) F__law_amiss M c__law_is_token
  obtain ⟨C, nC, xk, exc, xf, sk, CTe, CSe, CRe, nT, nS, nR, em⟩ := nt
  have XG := NtX.xg nC xk B1 B2
  have ME : MdE mg := ⟨PySem.W.mg_none_of B1 B2 me_V, PySem.W.mg_none_of B1 B2 me_L, PySem.W.mg_none_of B1 B2 me_A⟩
  have c__refuse_wrong := ok__refuse_wrong (P := P) (w := w) (base := base) F__refuse_wrong M XG c__wrong_place
  have c_show_tokens := ok_show_tokens F_show_tokens M XG c_is_tuple c__refuse_wrong
  have c_read_tokens := ok_read_tokens F_read_tokens M XG c_is_text c__refuse_wrong
  have c_show_tokens_0_tokens := t_show_tokens.kwE (ks := ["tokens"]) B1 B2 c_show_tokens (fun _ _ _ _ _ _ us hl => match us, hl with | [_], _ => rfl)
  have c_read_tokens_0_text := t_read_tokens.kwE (ks := ["text"]) B1 B2 c_read_tokens (fun _ _ _ _ _ _ us hl => match us, hl with | [_], _ => rfl)
  have c__law_sort := ok__law_sort (P := P) (w := w) (base := base) F__law_sort M ME exc (sk.sk B1 B2)
  have c__law_told := ok__law_told F__law_told M (PySem.W.mg_of B1 B2 nT) (PySem.W.mg_of B1 B2 nS) (PySem.W.mg_of B1 B2 nR) em xf c__law_sort c_show_tokens c_show_tokens_0_tokens c_read_tokens c_read_tokens_0_text
  have c__law_shown_right := ok__law_shown_right F__law_shown_right M c__law_amiss c__law_told
  have c__law_read_right := ok__law_read_right F__law_read_right M c__law_amiss c__law_told
  obtain ⟨CS, eS, lS⟩ := cl_Standing
  obtain ⟨CT, eT, lT⟩ := cl_Text
  have stC : StC K CS := ⟨lS, no_Standing_rules.at eS, no_Standing_is_ahead.at eS, no_Standing_whens.at eS, no_Standing_grid.at eS⟩
  have txC : TxC K CT := ⟨lT, no_Text_rows.at eT⟩
  have i_Standing := mt_Standing___init__.in0 (ps := ["self"]) mk_Standing B1 B2 eS (fun _ _ _ _ _ _ us hl => match us, hl with | [_], _ => rfl)
  have m_closed := mt_Standing_is_closed.mt0 (ps := ["self"]) eS (fun _ _ _ _ _ _ us hl => match us, hl with | [_], _ => rfl)
  obtain ⟨r, hr, i_Text⟩ := ie_Text.inD (ps := ["self", "rows"]) mk_Text B1 B2 eT rfl (fun T _ _ _ _ _ _ us its hl hk => match us, its, hl, hk with | [_], [_], _, _ => ⟨_, rfl, rfl⟩)
  have k_Standing := ok_Standing (P := P) (w := w) (base := base) i_Standing stC
  have c_closed := ok_Standing_is_closed (P := P) (w := w) (mg := mg) (base := base) m_closed stC
  have c_wrong_place := ok_wrong_place0 F_wrong_place M lS k_Standing c_closed
  have k_Text := ok_Text0 i_Text M txC g_MOST_ROWS c_is_tuple c_wrong_place
  have c__law_odd := ok__law_odd F__law_odd M (own_Text.at eT) hr c__law_pick k_Text
  have c__law_bent := ok__law_bent F__law_bent M c__law_pick c__law_odd
  have c__law_kinds_right := ok__law_kinds_right F__law_kinds_right M (own_Text.at eT) hr c__law_told k_Text
  exact ok_law F M c__law_pick c__law_purse c__law_cell c__law_names c__law_tokens c__law_with_note c__law_shown_right c__law_read_right c__law_kinds_right c__law_bent
/-! ### the top, by one run -/
namespace Hz
def names0 : List Str := ["_wall", "TongueError", "StandError", "RoomError", "NoTokens", "NoRows", "NoText", "NoTexts", "NoKind", "NoSize", "NoChanges", "NoLine", "NoInclude", "NoStyle", "NoMark", "NoNumber", "NoPlace", "NoDocument", "NoPrinting", "Ring", "Twice", "TooMany", "TooTall", "Clash", "is_text", "is_tuple", "is_whole", "SMALL_LETTERS", "WORD_SIGNS", "MOST_LETTERS"]
def names1 : List Str := ["MOST_SIGNS", "MOST_TOKENS", "PAIRS", "BRACKETS", "AHEAD_OF_NAMES", "AHEAD_OF_WORDS", "is_name", "is_word", "_is_of", "is_token", "is_tokens", "is_bare", "show_tokens", "read_tokens", "_refuse_wrong", "_wrong_place", "ROW_PARTS", "RULE_ROWS", "is_row", "_is_part", "is_style", "_counts_within", "show_row", "MOST_TABLE_ROWS", "Grid", "MOST_WHENS", "Standing", "_rule_key", "wrong_place", "MOST_ROWS"]
def names2 : List Str := ["Text", "_law_cell", "_law_purse", "_law_pick", "_law_one_word", "_law_names", "_law_tokens", "_law_with_note", "_law_sort", "_law_is_name", "_law_is_word", "_law_is_token", "_law_amiss", "_law_told", "_law_shown_right", "_law_read_right", "_law_odd", "_law_bent", "_law_kinds_right"]
def names : List Str := names0 ++ names1 ++ names2
def exs0 : List (PySem.W.Frag → Bool) := [fnB "is_text", fnB "is_tuple", fnB "_is_of", fnB "is_name", fnB "is_word", fnB "is_token", fnB "_wrong_place", fnB "wrong_place", fnB "_refuse_wrong", fnB "show_tokens", fnB "read_tokens", fnB "_law_pick", fnB "_law_purse", fnB "_law_cell", fnB "_law_one_word", fnB "_law_names", fnB "_law_tokens", fnB "_law_with_note", fnB "_law_sort", fnB "_law_is_name"]
def exs1 : List (PySem.W.Frag → Bool) := [fnB "_law_is_word", fnB "_law_is_token", fnB "_law_amiss", fnB "_law_told", fnB "_law_shown_right", fnB "_law_read_right", fnB "_law_odd", fnB "_law_bent", fnB "_law_kinds_right", fnB "law", gvB "SMALL_LETTERS" (.str sSmall), gvB "WORD_SIGNS" (.str sWord), gvB "MOST_LETTERS" (.int 8), gvB "MOST_SIGNS" (.int 12), gvB "MOST_TOKENS" (.int 40), gvB "AHEAD_OF_WORDS" (.str "^"), gvB "MOST_ROWS" (.int 80), gtB "BRACKETS" brs, gtB "AHEAD_OF_NAMES" ahd, gdB "PAIRS" prs npr]
def exs2 : List (PySem.W.Frag → Bool) := [clB "Standing", naB "Standing" "rules", naB "Standing" "is_ahead", naB "Standing" "whens", naB "Standing" "grid", mkB "Standing", mtB "Standing" "__init__" "Standing.__init__", mtB "Standing" "is_closed" "Standing.is_closed", clB "Text", owB "Text", naB "Text" "rows", mkB "Text", ieB "Text" "Text.__init__", isB "NoTokens" [("NoTokens", true), ("NoRows", false), ("NoText", false), ("NoTexts", false), ("NoKind", false), ("NoSize", false), ("NoChanges", false), ("NoLine", false), ("NoInclude", false), ("NoStyle", false), ("NoMark", false), ("NoNumber", false), ("NoPlace", false), ("NoDocument", false), ("NoPrinting", false), ("Ring", false), ("Twice", false), ("TooMany", false), ("TooTall", false), ("Clash", false), ("TongueError", true), ("StandError", false), ("RoomError", false)], itB "NoTokens" [("ValueError", true), ("LookupError", false), ("ArithmeticError", false)], xcB "NoTokens" "place" "NoTokens.__init__" "/claim/cut.py", gaB "NoTokens", exB "NoTokens", naB "NoTokens" "place", gaB "TongueError"]
def exs3 : List (PySem.W.Frag → Bool) := [gaB "StandError", gaB "RoomError", exmB "NoTokens" ["TongueError", "StandError", "RoomError"], frB "ValueError", frB "LookupError", frB "ArithmeticError", mdB]
def exs : List (PySem.W.Frag → Bool) := exs0 ++ exs1 ++ exs2 ++ exs3
def fns0 : List LayHd.FdZ := [fz "is_text" s_is_text, fz "is_tuple" s_is_tuple, fz "_is_of" s__is_of, fz "is_name" s_is_name, fz "is_word" s_is_word, fz "is_token" s_is_token, fz "_wrong_place" s__wrong_place, fz "wrong_place" s_wrong_place, fz "_refuse_wrong" s__refuse_wrong, fz "show_tokens" s_show_tokens, fz "read_tokens" s_read_tokens, fz "_law_pick" s__law_pick, fz "_law_purse" s__law_purse, fz "_law_cell" s__law_cell, fz "_law_one_word" s__law_one_word, fz "_law_names" s__law_names, fz "_law_tokens" s__law_tokens, fz "_law_with_note" s__law_with_note, fz "_law_sort" s__law_sort, fz "_law_is_name" s__law_is_name]
def fns1 : List LayHd.FdZ := [fz "_law_is_word" s__law_is_word, fz "_law_is_token" s__law_is_token, fz "_law_amiss" s__law_amiss, fz "_law_told" s__law_told, fz "_law_shown_right" s__law_shown_right, fz "_law_read_right" s__law_read_right, fz "_law_odd" s__law_odd, fz "_law_bent" s__law_bent, fz "_law_kinds_right" s__law_kinds_right, fz "law" s_law, fm "Standing" "__init__" "Standing.__init__" s_Standing___init__, fm "Standing" "is_closed" "Standing.is_closed" s_Standing_is_closed, fm "Text" "__init__" "Text.__init__" s_Text___init__, fx "NoTokens" "NoTokens.__init__" s_NoTokens___init__]
def fns : List LayHd.FdZ := fns0 ++ fns1
def tsz0 : List He.Tab := [gdT "PAIRS" ["{", "["]]
def tsz : List He.Tab := tsz0
def asz0 : List Addr := [3, 2, 30, 31, 44, 57, 64, 75, 76, 78, 79, 100, 121, 142, 163, 184, 205, 226, 247, 268, 289, 310, 331, 352, 373, 394, 415, 436, 457, 478, 486, 487, 493, 494, 502, 503, 504, 510, 511, 517]
def asz1 : List Addr := [518, 522, 523, 529, 530, 547, 548, 552, 553, 559, 560, 566, 567, 697, 698, 711, 712, 742, 743, 760, 761, 769, 770, 776, 777, 812, 813, 823, 824, 830, 831, 837, 838, 842, 843, 847, 848, 852, 853, 859]
def asz2 : List Addr := [860, 864, 865, 869, 870, 874, 875, 881, 882, 888, 889, 895, 896, 900, 901, 905, 906, 912, 913, 919, 920, 924, 925, 929, 930]
def asz : List Addr := asz0 ++ asz1 ++ asz2
abbrev R : PySem.W.OpenRow := PySem.W.OpenLaw.row PySem.Challenge.rw_papertongue_k03_tokens_refused
abbrev q : Program := PySem.W.view R.prog [87]
abbrev hk : PySem.W.Hook := LayHd.hookZ asz exs fns tsz
def ob (s : PySem.W.SharedT) : LayHd.AlZ := LayHd.obsZG asz exs fns tsz (HandSHeadRun.getT s)
theorem ob_eq (s : PySem.W.SharedT) : ob s = hk.obs s.abs := LayHd.obsZG_eq (HandSHeadRun.getT_eq s)
set_option maxHeartbeats 0 in
theorem run_afalse (w : World) : LayHd.RunA R q 20000 names (w.withFollow "special-get-raises" false) := by
  intro os
  kernel_rfl
set_option maxHeartbeats 0 in
theorem run_bfalse (w : World) : LayHd.RunB R hk ob 20000 (w.withFollow "special-get-raises" false) := by
  intro os
  kernel_rfl
theorem run_false (w : World) : HandSHeadRun.RunEq R q hk ob 20000 names (w.withFollow "special-get-raises" false) := LayHd.run_two (run_afalse w) (run_bfalse w)
set_option maxHeartbeats 0 in
theorem run_atrue (w : World) : LayHd.RunA R q 20000 names (w.withFollow "special-get-raises" true) := by
  intro os
  kernel_rfl
set_option maxHeartbeats 0 in
theorem run_btrue (w : World) : LayHd.RunB R hk ob 20000 (w.withFollow "special-get-raises" true) := by
  intro os
  kernel_rfl
theorem run_true (w : World) : HandSHeadRun.RunEq R q hk ob 20000 names (w.withFollow "special-get-raises" true) := LayHd.run_two (run_atrue w) (run_btrue w)
theorem run (w : World) : HandSHeadRun.RunEq R q hk ob 20000 names w := PySem.W.byRow2 (P := HandSHeadRun.RunEq R q hk ob 20000 names) "special-get-raises" run_false run_true w
end Hz
theorem of_says {P : Program} {w : World} {K : PySem.W.Frag} {h : Heap} {mg : Str → Option Value} {fa : Addr} (X : K.In h) (G : h.Ns mainGlobals mg) (hfa : mg "law" = some (.ref fa)) (c : LayHd.SaysZ Hz.exs Hz.fns Hz.tsz w K) (hP : P = PySem.Challenge.pw_papertongue_k03_tokens_refused)
    : ∃ fd : FuncData, (∀ (s : Shared) (v : Value), BindsTo s fd ⟨[v], []⟩ [("_law_script", v)]) ∧ ∀ base : Heap, K.In base → base.Ns mainGlobals mg → FnOk P w K mg base CX0 11 fa fd ["_law_script"] (spLaw K) := by
  subst hP
  refine all_mk X G hfa (MdK.ofZ (c.ex 66 (b := mdB))) ?q0 ?q1 ?q2 ?q3 ?q4 ?q5 ?q6 ?q7 ?q8 ?q9 ?q10 ?q11 ?q12 ?q13 ?q14 ?q15 ?q16 ?q17 ?q18 ?q19 ?q20 ?q21 ?q22 ?q23 ?q24 ?q25 ?q26 ?q27 ?q28 ?q29 ?q30 ?q31 ?q32 ?q33 ?q34 ?q35 ?q36 ?q37 ?q38 ?q39 ?q40 ?q41 ?q42 ?q43 ?q44 ?q45 ?q46 ?q47 ?q48 ?q49 ?q50 ?q51 ?q52 ?q53 ?q54 ?q55 ?q56
  case q0 => exact FnK.ofZ (c.fn 0 (d := fz "is_text" s_is_text)) (c.ex 0 (b := fnB "is_text"))
  case q1 => exact FnK.ofZ (c.fn 1 (d := fz "is_tuple" s_is_tuple)) (c.ex 1 (b := fnB "is_tuple"))
  case q2 => exact FnK.ofZ (c.fn 2 (d := fz "_is_of" s__is_of)) (c.ex 2 (b := fnB "_is_of"))
  case q3 => exact FnK.ofZ (c.fn 3 (d := fz "is_name" s_is_name)) (c.ex 3 (b := fnB "is_name"))
  case q4 => exact FnK.ofZ (c.fn 4 (d := fz "is_word" s_is_word)) (c.ex 4 (b := fnB "is_word"))
  case q5 => exact FnK.ofZ (c.fn 5 (d := fz "is_token" s_is_token)) (c.ex 5 (b := fnB "is_token"))
  case q6 => exact FnK.ofZ (c.fn 6 (d := fz "_wrong_place" s__wrong_place)) (c.ex 6 (b := fnB "_wrong_place"))
  case q7 => exact FnK.ofZ (c.fn 7 (d := fz "wrong_place" s_wrong_place)) (c.ex 7 (b := fnB "wrong_place"))
  case q8 => exact FnK.ofZ (c.fn 8 (d := fz "_refuse_wrong" s__refuse_wrong)) (c.ex 8 (b := fnB "_refuse_wrong"))
  case q9 => exact FnK.ofZ (c.fn 9 (d := fz "show_tokens" s_show_tokens)) (c.ex 9 (b := fnB "show_tokens"))
  case q10 => exact FnK.ofZ (c.fn 10 (d := fz "read_tokens" s_read_tokens)) (c.ex 10 (b := fnB "read_tokens"))
  case q11 => exact FnK.ofZ (c.fn 11 (d := fz "_law_pick" s__law_pick)) (c.ex 11 (b := fnB "_law_pick"))
  case q12 => exact FnK.ofZ (c.fn 12 (d := fz "_law_purse" s__law_purse)) (c.ex 12 (b := fnB "_law_purse"))
  case q13 => exact FnK.ofZ (c.fn 13 (d := fz "_law_cell" s__law_cell)) (c.ex 13 (b := fnB "_law_cell"))
  case q14 => exact FnK.ofZ (c.fn 14 (d := fz "_law_one_word" s__law_one_word)) (c.ex 14 (b := fnB "_law_one_word"))
  case q15 => exact FnK.ofZ (c.fn 15 (d := fz "_law_names" s__law_names)) (c.ex 15 (b := fnB "_law_names"))
  case q16 => exact FnK.ofZ (c.fn 16 (d := fz "_law_tokens" s__law_tokens)) (c.ex 16 (b := fnB "_law_tokens"))
  case q17 => exact FnK.ofZ (c.fn 17 (d := fz "_law_with_note" s__law_with_note)) (c.ex 17 (b := fnB "_law_with_note"))
  case q18 => exact FnK.ofZ (c.fn 18 (d := fz "_law_sort" s__law_sort)) (c.ex 18 (b := fnB "_law_sort"))
  case q19 => exact FnK.ofZ (c.fn 19 (d := fz "_law_is_name" s__law_is_name)) (c.ex 19 (b := fnB "_law_is_name"))
  case q20 => exact FnK.ofZ (c.fn 20 (d := fz "_law_is_word" s__law_is_word)) (c.ex 20 (b := fnB "_law_is_word"))
  case q21 => exact FnK.ofZ (c.fn 21 (d := fz "_law_is_token" s__law_is_token)) (c.ex 21 (b := fnB "_law_is_token"))
  case q22 => exact FnK.ofZ (c.fn 22 (d := fz "_law_amiss" s__law_amiss)) (c.ex 22 (b := fnB "_law_amiss"))
  case q23 => exact FnK.ofZ (c.fn 23 (d := fz "_law_told" s__law_told)) (c.ex 23 (b := fnB "_law_told"))
  case q24 => exact FnK.ofZ (c.fn 24 (d := fz "_law_shown_right" s__law_shown_right)) (c.ex 24 (b := fnB "_law_shown_right"))
  case q25 => exact FnK.ofZ (c.fn 25 (d := fz "_law_read_right" s__law_read_right)) (c.ex 25 (b := fnB "_law_read_right"))
  case q26 => exact FnK.ofZ (c.fn 26 (d := fz "_law_odd" s__law_odd)) (c.ex 26 (b := fnB "_law_odd"))
  case q27 => exact FnK.ofZ (c.fn 27 (d := fz "_law_bent" s__law_bent)) (c.ex 27 (b := fnB "_law_bent"))
  case q28 => exact FnK.ofZ (c.fn 28 (d := fz "_law_kinds_right" s__law_kinds_right)) (c.ex 28 (b := fnB "_law_kinds_right"))
  case q29 => exact FnK.ofZ (c.fn 29 (d := fz "law" s_law)) (c.ex 29 (b := fnB "law"))
  case q30 => exact GvK.ofZ (c.ex 30 (b := gvB "SMALL_LETTERS" (.str sSmall)))
  case q31 => exact GvK.ofZ (c.ex 31 (b := gvB "WORD_SIGNS" (.str sWord)))
  case q32 => exact GvK.ofZ (c.ex 32 (b := gvB "MOST_LETTERS" (.int 8)))
  case q33 => exact GvK.ofZ (c.ex 33 (b := gvB "MOST_SIGNS" (.int 12)))
  case q34 => exact GvK.ofZ (c.ex 34 (b := gvB "MOST_TOKENS" (.int 40)))
  case q35 => exact GvK.ofZ (c.ex 35 (b := gvB "AHEAD_OF_WORDS" (.str "^")))
  case q36 => exact GvK.ofZ (c.ex 36 (b := gvB "MOST_ROWS" (.int 80)))
  case q37 => exact GtK.ofZ (c.ex 37 (b := gtB "BRACKETS" brs))
  case q38 => exact GtK.ofZ (c.ex 38 (b := gtB "AHEAD_OF_NAMES" ahd))
  case q39 => exact GdK.ofZ (c.ex 39 (b := gdB "PAIRS" prs npr)) (c.tab 0 (t := gdT "PAIRS" ["{", "["]))
  case q40 => exact ClK.ofZ (c.ex 40 (b := clB "Standing"))
  case q41 => exact NoK.ofZ (c.ex 41 (b := naB "Standing" "rules"))
  case q42 => exact NoK.ofZ (c.ex 42 (b := naB "Standing" "is_ahead"))
  case q43 => exact NoK.ofZ (c.ex 43 (b := naB "Standing" "whens"))
  case q44 => exact NoK.ofZ (c.ex 44 (b := naB "Standing" "grid"))
  case q45 => exact MakesK.ofZ (c.ex 45 (b := mkB "Standing"))
  case q46 => exact MtK.ofZ (c.fn 30 (d := fm "Standing" "__init__" "Standing.__init__" s_Standing___init__)) (c.ex 46 (b := mtB "Standing" "__init__" "Standing.__init__"))
  case q47 => exact MtK.ofZ (c.fn 31 (d := fm "Standing" "is_closed" "Standing.is_closed" s_Standing_is_closed)) (c.ex 47 (b := mtB "Standing" "is_closed" "Standing.is_closed"))
  case q48 => exact ClK.ofZ (c.ex 48 (b := clB "Text"))
  case q49 => exact OwnK.ofZ (c.ex 49 (b := owB "Text"))
  case q50 => exact NoK.ofZ (c.ex 50 (b := naB "Text" "rows"))
  case q51 => exact MakesK.ofZ (c.ex 51 (b := mkB "Text"))
  case q52 => exact InEK.ofZ (c.fn 32 (d := fm "Text" "__init__" "Text.__init__" s_Text___init__)) (c.ex 52 (b := ieB "Text" "Text.__init__"))
  case q53 => exact frB_ok (c.ex 63 (b := frB "ValueError"))
  case q54 => exact frB_ok (c.ex 64 (b := frB "LookupError"))
  case q55 => exact frB_ok (c.ex 65 (b := frB "ArithmeticError"))
  case q56 => exact NtX.mk (gaB_ok (c.ex 56 (b := gaB "NoTokens"))) (XcK.ofZ (c.fn 33 (d := fx "NoTokens" "NoTokens.__init__" s_NoTokens___init__)) (c.ex 55 (b := xcB "NoTokens" "place" "NoTokens.__init__" "/claim/cut.py")) (by first | rfl | decide +kernel) rfl rfl (fun _ _ _ _ _ _ _ us hl => match us, hl with | [_, _], _ => rfl) rfl rfl rfl (by decide +kernel) rfl rfl rfl rfl (by first | rfl | decide +kernel) (by decide)) (ExcC.ofZ (c.ex 57 (b := exB "NoTokens"))) (XfG.ofZ (c.ex 57 (b := exB "NoTokens")) (c.ex 58 (b := naB "NoTokens" "place"))) ⟨isB_ok (l := [("NoTokens", true), ("NoRows", false), ("NoText", false), ("NoTexts", false), ("NoKind", false), ("NoSize", false), ("NoChanges", false), ("NoLine", false), ("NoInclude", false), ("NoStyle", false), ("NoMark", false), ("NoNumber", false), ("NoPlace", false), ("NoDocument", false), ("NoPrinting", false), ("Ring", false), ("Twice", false), ("TooMany", false), ("TooTall", false), ("Clash", false), ("TongueError", true), ("StandError", false), ("RoomError", false)]) (c.ex 53 (b := isB "NoTokens" [("NoTokens", true), ("NoRows", false), ("NoText", false), ("NoTexts", false), ("NoKind", false), ("NoSize", false), ("NoChanges", false), ("NoLine", false), ("NoInclude", false), ("NoStyle", false), ("NoMark", false), ("NoNumber", false), ("NoPlace", false), ("NoDocument", false), ("NoPrinting", false), ("Ring", false), ("Twice", false), ("TooMany", false), ("TooTall", false), ("Clash", false), ("TongueError", true), ("StandError", false), ("RoomError", false)])) 0, isB_ok (l := [("NoTokens", true), ("NoRows", false), ("NoText", false), ("NoTexts", false), ("NoKind", false), ("NoSize", false), ("NoChanges", false), ("NoLine", false), ("NoInclude", false), ("NoStyle", false), ("NoMark", false), ("NoNumber", false), ("NoPlace", false), ("NoDocument", false), ("NoPrinting", false), ("Ring", false), ("Twice", false), ("TooMany", false), ("TooTall", false), ("Clash", false), ("TongueError", true), ("StandError", false), ("RoomError", false)]) (c.ex 53 (b := isB "NoTokens" [("NoTokens", true), ("NoRows", false), ("NoText", false), ("NoTexts", false), ("NoKind", false), ("NoSize", false), ("NoChanges", false), ("NoLine", false), ("NoInclude", false), ("NoStyle", false), ("NoMark", false), ("NoNumber", false), ("NoPlace", false), ("NoDocument", false), ("NoPrinting", false), ("Ring", false), ("Twice", false), ("TooMany", false), ("TooTall", false), ("Clash", false), ("TongueError", true), ("StandError", false), ("RoomError", false)])) 1, isB_ok (l := [("NoTokens", true), ("NoRows", false), ("NoText", false), ("NoTexts", false), ("NoKind", false), ("NoSize", false), ("NoChanges", false), ("NoLine", false), ("NoInclude", false), ("NoStyle", false), ("NoMark", false), ("NoNumber", false), ("NoPlace", false), ("NoDocument", false), ("NoPrinting", false), ("Ring", false), ("Twice", false), ("TooMany", false), ("TooTall", false), ("Clash", false), ("TongueError", true), ("StandError", false), ("RoomError", false)]) (c.ex 53 (b := isB "NoTokens" [("NoTokens", true), ("NoRows", false), ("NoText", false), ("NoTexts", false), ("NoKind", false), ("NoSize", false), ("NoChanges", false), ("NoLine", false), ("NoInclude", false), ("NoStyle", false), ("NoMark", false), ("NoNumber", false), ("NoPlace", false), ("NoDocument", false), ("NoPrinting", false), ("Ring", false), ("Twice", false), ("TooMany", false), ("TooTall", false), ("Clash", false), ("TongueError", true), ("StandError", false), ("RoomError", false)])) 2, isB_ok (l := [("NoTokens", true), ("NoRows", false), ("NoText", false), ("NoTexts", false), ("NoKind", false), ("NoSize", false), ("NoChanges", false), ("NoLine", false), ("NoInclude", false), ("NoStyle", false), ("NoMark", false), ("NoNumber", false), ("NoPlace", false), ("NoDocument", false), ("NoPrinting", false), ("Ring", false), ("Twice", false), ("TooMany", false), ("TooTall", false), ("Clash", false), ("TongueError", true), ("StandError", false), ("RoomError", false)]) (c.ex 53 (b := isB "NoTokens" [("NoTokens", true), ("NoRows", false), ("NoText", false), ("NoTexts", false), ("NoKind", false), ("NoSize", false), ("NoChanges", false), ("NoLine", false), ("NoInclude", false), ("NoStyle", false), ("NoMark", false), ("NoNumber", false), ("NoPlace", false), ("NoDocument", false), ("NoPrinting", false), ("Ring", false), ("Twice", false), ("TooMany", false), ("TooTall", false), ("Clash", false), ("TongueError", true), ("StandError", false), ("RoomError", false)])) 3, isB_ok (l := [("NoTokens", true), ("NoRows", false), ("NoText", false), ("NoTexts", false), ("NoKind", false), ("NoSize", false), ("NoChanges", false), ("NoLine", false), ("NoInclude", false), ("NoStyle", false), ("NoMark", false), ("NoNumber", false), ("NoPlace", false), ("NoDocument", false), ("NoPrinting", false), ("Ring", false), ("Twice", false), ("TooMany", false), ("TooTall", false), ("Clash", false), ("TongueError", true), ("StandError", false), ("RoomError", false)]) (c.ex 53 (b := isB "NoTokens" [("NoTokens", true), ("NoRows", false), ("NoText", false), ("NoTexts", false), ("NoKind", false), ("NoSize", false), ("NoChanges", false), ("NoLine", false), ("NoInclude", false), ("NoStyle", false), ("NoMark", false), ("NoNumber", false), ("NoPlace", false), ("NoDocument", false), ("NoPrinting", false), ("Ring", false), ("Twice", false), ("TooMany", false), ("TooTall", false), ("Clash", false), ("TongueError", true), ("StandError", false), ("RoomError", false)])) 4, isB_ok (l := [("NoTokens", true), ("NoRows", false), ("NoText", false), ("NoTexts", false), ("NoKind", false), ("NoSize", false), ("NoChanges", false), ("NoLine", false), ("NoInclude", false), ("NoStyle", false), ("NoMark", false), ("NoNumber", false), ("NoPlace", false), ("NoDocument", false), ("NoPrinting", false), ("Ring", false), ("Twice", false), ("TooMany", false), ("TooTall", false), ("Clash", false), ("TongueError", true), ("StandError", false), ("RoomError", false)]) (c.ex 53 (b := isB "NoTokens" [("NoTokens", true), ("NoRows", false), ("NoText", false), ("NoTexts", false), ("NoKind", false), ("NoSize", false), ("NoChanges", false), ("NoLine", false), ("NoInclude", false), ("NoStyle", false), ("NoMark", false), ("NoNumber", false), ("NoPlace", false), ("NoDocument", false), ("NoPrinting", false), ("Ring", false), ("Twice", false), ("TooMany", false), ("TooTall", false), ("Clash", false), ("TongueError", true), ("StandError", false), ("RoomError", false)])) 5, isB_ok (l := [("NoTokens", true), ("NoRows", false), ("NoText", false), ("NoTexts", false), ("NoKind", false), ("NoSize", false), ("NoChanges", false), ("NoLine", false), ("NoInclude", false), ("NoStyle", false), ("NoMark", false), ("NoNumber", false), ("NoPlace", false), ("NoDocument", false), ("NoPrinting", false), ("Ring", false), ("Twice", false), ("TooMany", false), ("TooTall", false), ("Clash", false), ("TongueError", true), ("StandError", false), ("RoomError", false)]) (c.ex 53 (b := isB "NoTokens" [("NoTokens", true), ("NoRows", false), ("NoText", false), ("NoTexts", false), ("NoKind", false), ("NoSize", false), ("NoChanges", false), ("NoLine", false), ("NoInclude", false), ("NoStyle", false), ("NoMark", false), ("NoNumber", false), ("NoPlace", false), ("NoDocument", false), ("NoPrinting", false), ("Ring", false), ("Twice", false), ("TooMany", false), ("TooTall", false), ("Clash", false), ("TongueError", true), ("StandError", false), ("RoomError", false)])) 6, isB_ok (l := [("NoTokens", true), ("NoRows", false), ("NoText", false), ("NoTexts", false), ("NoKind", false), ("NoSize", false), ("NoChanges", false), ("NoLine", false), ("NoInclude", false), ("NoStyle", false), ("NoMark", false), ("NoNumber", false), ("NoPlace", false), ("NoDocument", false), ("NoPrinting", false), ("Ring", false), ("Twice", false), ("TooMany", false), ("TooTall", false), ("Clash", false), ("TongueError", true), ("StandError", false), ("RoomError", false)]) (c.ex 53 (b := isB "NoTokens" [("NoTokens", true), ("NoRows", false), ("NoText", false), ("NoTexts", false), ("NoKind", false), ("NoSize", false), ("NoChanges", false), ("NoLine", false), ("NoInclude", false), ("NoStyle", false), ("NoMark", false), ("NoNumber", false), ("NoPlace", false), ("NoDocument", false), ("NoPrinting", false), ("Ring", false), ("Twice", false), ("TooMany", false), ("TooTall", false), ("Clash", false), ("TongueError", true), ("StandError", false), ("RoomError", false)])) 7, isB_ok (l := [("NoTokens", true), ("NoRows", false), ("NoText", false), ("NoTexts", false), ("NoKind", false), ("NoSize", false), ("NoChanges", false), ("NoLine", false), ("NoInclude", false), ("NoStyle", false), ("NoMark", false), ("NoNumber", false), ("NoPlace", false), ("NoDocument", false), ("NoPrinting", false), ("Ring", false), ("Twice", false), ("TooMany", false), ("TooTall", false), ("Clash", false), ("TongueError", true), ("StandError", false), ("RoomError", false)]) (c.ex 53 (b := isB "NoTokens" [("NoTokens", true), ("NoRows", false), ("NoText", false), ("NoTexts", false), ("NoKind", false), ("NoSize", false), ("NoChanges", false), ("NoLine", false), ("NoInclude", false), ("NoStyle", false), ("NoMark", false), ("NoNumber", false), ("NoPlace", false), ("NoDocument", false), ("NoPrinting", false), ("Ring", false), ("Twice", false), ("TooMany", false), ("TooTall", false), ("Clash", false), ("TongueError", true), ("StandError", false), ("RoomError", false)])) 8, isB_ok (l := [("NoTokens", true), ("NoRows", false), ("NoText", false), ("NoTexts", false), ("NoKind", false), ("NoSize", false), ("NoChanges", false), ("NoLine", false), ("NoInclude", false), ("NoStyle", false), ("NoMark", false), ("NoNumber", false), ("NoPlace", false), ("NoDocument", false), ("NoPrinting", false), ("Ring", false), ("Twice", false), ("TooMany", false), ("TooTall", false), ("Clash", false), ("TongueError", true), ("StandError", false), ("RoomError", false)]) (c.ex 53 (b := isB "NoTokens" [("NoTokens", true), ("NoRows", false), ("NoText", false), ("NoTexts", false), ("NoKind", false), ("NoSize", false), ("NoChanges", false), ("NoLine", false), ("NoInclude", false), ("NoStyle", false), ("NoMark", false), ("NoNumber", false), ("NoPlace", false), ("NoDocument", false), ("NoPrinting", false), ("Ring", false), ("Twice", false), ("TooMany", false), ("TooTall", false), ("Clash", false), ("TongueError", true), ("StandError", false), ("RoomError", false)])) 9, isB_ok (l := [("NoTokens", true), ("NoRows", false), ("NoText", false), ("NoTexts", false), ("NoKind", false), ("NoSize", false), ("NoChanges", false), ("NoLine", false), ("NoInclude", false), ("NoStyle", false), ("NoMark", false), ("NoNumber", false), ("NoPlace", false), ("NoDocument", false), ("NoPrinting", false), ("Ring", false), ("Twice", false), ("TooMany", false), ("TooTall", false), ("Clash", false), ("TongueError", true), ("StandError", false), ("RoomError", false)]) (c.ex 53 (b := isB "NoTokens" [("NoTokens", true), ("NoRows", false), ("NoText", false), ("NoTexts", false), ("NoKind", false), ("NoSize", false), ("NoChanges", false), ("NoLine", false), ("NoInclude", false), ("NoStyle", false), ("NoMark", false), ("NoNumber", false), ("NoPlace", false), ("NoDocument", false), ("NoPrinting", false), ("Ring", false), ("Twice", false), ("TooMany", false), ("TooTall", false), ("Clash", false), ("TongueError", true), ("StandError", false), ("RoomError", false)])) 10, isB_ok (l := [("NoTokens", true), ("NoRows", false), ("NoText", false), ("NoTexts", false), ("NoKind", false), ("NoSize", false), ("NoChanges", false), ("NoLine", false), ("NoInclude", false), ("NoStyle", false), ("NoMark", false), ("NoNumber", false), ("NoPlace", false), ("NoDocument", false), ("NoPrinting", false), ("Ring", false), ("Twice", false), ("TooMany", false), ("TooTall", false), ("Clash", false), ("TongueError", true), ("StandError", false), ("RoomError", false)]) (c.ex 53 (b := isB "NoTokens" [("NoTokens", true), ("NoRows", false), ("NoText", false), ("NoTexts", false), ("NoKind", false), ("NoSize", false), ("NoChanges", false), ("NoLine", false), ("NoInclude", false), ("NoStyle", false), ("NoMark", false), ("NoNumber", false), ("NoPlace", false), ("NoDocument", false), ("NoPrinting", false), ("Ring", false), ("Twice", false), ("TooMany", false), ("TooTall", false), ("Clash", false), ("TongueError", true), ("StandError", false), ("RoomError", false)])) 11, isB_ok (l := [("NoTokens", true), ("NoRows", false), ("NoText", false), ("NoTexts", false), ("NoKind", false), ("NoSize", false), ("NoChanges", false), ("NoLine", false), ("NoInclude", false), ("NoStyle", false), ("NoMark", false), ("NoNumber", false), ("NoPlace", false), ("NoDocument", false), ("NoPrinting", false), ("Ring", false), ("Twice", false), ("TooMany", false), ("TooTall", false), ("Clash", false), ("TongueError", true), ("StandError", false), ("RoomError", false)]) (c.ex 53 (b := isB "NoTokens" [("NoTokens", true), ("NoRows", false), ("NoText", false), ("NoTexts", false), ("NoKind", false), ("NoSize", false), ("NoChanges", false), ("NoLine", false), ("NoInclude", false), ("NoStyle", false), ("NoMark", false), ("NoNumber", false), ("NoPlace", false), ("NoDocument", false), ("NoPrinting", false), ("Ring", false), ("Twice", false), ("TooMany", false), ("TooTall", false), ("Clash", false), ("TongueError", true), ("StandError", false), ("RoomError", false)])) 12, isB_ok (l := [("NoTokens", true), ("NoRows", false), ("NoText", false), ("NoTexts", false), ("NoKind", false), ("NoSize", false), ("NoChanges", false), ("NoLine", false), ("NoInclude", false), ("NoStyle", false), ("NoMark", false), ("NoNumber", false), ("NoPlace", false), ("NoDocument", false), ("NoPrinting", false), ("Ring", false), ("Twice", false), ("TooMany", false), ("TooTall", false), ("Clash", false), ("TongueError", true), ("StandError", false), ("RoomError", false)]) (c.ex 53 (b := isB "NoTokens" [("NoTokens", true), ("NoRows", false), ("NoText", false), ("NoTexts", false), ("NoKind", false), ("NoSize", false), ("NoChanges", false), ("NoLine", false), ("NoInclude", false), ("NoStyle", false), ("NoMark", false), ("NoNumber", false), ("NoPlace", false), ("NoDocument", false), ("NoPrinting", false), ("Ring", false), ("Twice", false), ("TooMany", false), ("TooTall", false), ("Clash", false), ("TongueError", true), ("StandError", false), ("RoomError", false)])) 13, isB_ok (l := [("NoTokens", true), ("NoRows", false), ("NoText", false), ("NoTexts", false), ("NoKind", false), ("NoSize", false), ("NoChanges", false), ("NoLine", false), ("NoInclude", false), ("NoStyle", false), ("NoMark", false), ("NoNumber", false), ("NoPlace", false), ("NoDocument", false), ("NoPrinting", false), ("Ring", false), ("Twice", false), ("TooMany", false), ("TooTall", false), ("Clash", false), ("TongueError", true), ("StandError", false), ("RoomError", false)]) (c.ex 53 (b := isB "NoTokens" [("NoTokens", true), ("NoRows", false), ("NoText", false), ("NoTexts", false), ("NoKind", false), ("NoSize", false), ("NoChanges", false), ("NoLine", false), ("NoInclude", false), ("NoStyle", false), ("NoMark", false), ("NoNumber", false), ("NoPlace", false), ("NoDocument", false), ("NoPrinting", false), ("Ring", false), ("Twice", false), ("TooMany", false), ("TooTall", false), ("Clash", false), ("TongueError", true), ("StandError", false), ("RoomError", false)])) 14, isB_ok (l := [("NoTokens", true), ("NoRows", false), ("NoText", false), ("NoTexts", false), ("NoKind", false), ("NoSize", false), ("NoChanges", false), ("NoLine", false), ("NoInclude", false), ("NoStyle", false), ("NoMark", false), ("NoNumber", false), ("NoPlace", false), ("NoDocument", false), ("NoPrinting", false), ("Ring", false), ("Twice", false), ("TooMany", false), ("TooTall", false), ("Clash", false), ("TongueError", true), ("StandError", false), ("RoomError", false)]) (c.ex 53 (b := isB "NoTokens" [("NoTokens", true), ("NoRows", false), ("NoText", false), ("NoTexts", false), ("NoKind", false), ("NoSize", false), ("NoChanges", false), ("NoLine", false), ("NoInclude", false), ("NoStyle", false), ("NoMark", false), ("NoNumber", false), ("NoPlace", false), ("NoDocument", false), ("NoPrinting", false), ("Ring", false), ("Twice", false), ("TooMany", false), ("TooTall", false), ("Clash", false), ("TongueError", true), ("StandError", false), ("RoomError", false)])) 15, isB_ok (l := [("NoTokens", true), ("NoRows", false), ("NoText", false), ("NoTexts", false), ("NoKind", false), ("NoSize", false), ("NoChanges", false), ("NoLine", false), ("NoInclude", false), ("NoStyle", false), ("NoMark", false), ("NoNumber", false), ("NoPlace", false), ("NoDocument", false), ("NoPrinting", false), ("Ring", false), ("Twice", false), ("TooMany", false), ("TooTall", false), ("Clash", false), ("TongueError", true), ("StandError", false), ("RoomError", false)]) (c.ex 53 (b := isB "NoTokens" [("NoTokens", true), ("NoRows", false), ("NoText", false), ("NoTexts", false), ("NoKind", false), ("NoSize", false), ("NoChanges", false), ("NoLine", false), ("NoInclude", false), ("NoStyle", false), ("NoMark", false), ("NoNumber", false), ("NoPlace", false), ("NoDocument", false), ("NoPrinting", false), ("Ring", false), ("Twice", false), ("TooMany", false), ("TooTall", false), ("Clash", false), ("TongueError", true), ("StandError", false), ("RoomError", false)])) 16, isB_ok (l := [("NoTokens", true), ("NoRows", false), ("NoText", false), ("NoTexts", false), ("NoKind", false), ("NoSize", false), ("NoChanges", false), ("NoLine", false), ("NoInclude", false), ("NoStyle", false), ("NoMark", false), ("NoNumber", false), ("NoPlace", false), ("NoDocument", false), ("NoPrinting", false), ("Ring", false), ("Twice", false), ("TooMany", false), ("TooTall", false), ("Clash", false), ("TongueError", true), ("StandError", false), ("RoomError", false)]) (c.ex 53 (b := isB "NoTokens" [("NoTokens", true), ("NoRows", false), ("NoText", false), ("NoTexts", false), ("NoKind", false), ("NoSize", false), ("NoChanges", false), ("NoLine", false), ("NoInclude", false), ("NoStyle", false), ("NoMark", false), ("NoNumber", false), ("NoPlace", false), ("NoDocument", false), ("NoPrinting", false), ("Ring", false), ("Twice", false), ("TooMany", false), ("TooTall", false), ("Clash", false), ("TongueError", true), ("StandError", false), ("RoomError", false)])) 17, isB_ok (l := [("NoTokens", true), ("NoRows", false), ("NoText", false), ("NoTexts", false), ("NoKind", false), ("NoSize", false), ("NoChanges", false), ("NoLine", false), ("NoInclude", false), ("NoStyle", false), ("NoMark", false), ("NoNumber", false), ("NoPlace", false), ("NoDocument", false), ("NoPrinting", false), ("Ring", false), ("Twice", false), ("TooMany", false), ("TooTall", false), ("Clash", false), ("TongueError", true), ("StandError", false), ("RoomError", false)]) (c.ex 53 (b := isB "NoTokens" [("NoTokens", true), ("NoRows", false), ("NoText", false), ("NoTexts", false), ("NoKind", false), ("NoSize", false), ("NoChanges", false), ("NoLine", false), ("NoInclude", false), ("NoStyle", false), ("NoMark", false), ("NoNumber", false), ("NoPlace", false), ("NoDocument", false), ("NoPrinting", false), ("Ring", false), ("Twice", false), ("TooMany", false), ("TooTall", false), ("Clash", false), ("TongueError", true), ("StandError", false), ("RoomError", false)])) 18, isB_ok (l := [("NoTokens", true), ("NoRows", false), ("NoText", false), ("NoTexts", false), ("NoKind", false), ("NoSize", false), ("NoChanges", false), ("NoLine", false), ("NoInclude", false), ("NoStyle", false), ("NoMark", false), ("NoNumber", false), ("NoPlace", false), ("NoDocument", false), ("NoPrinting", false), ("Ring", false), ("Twice", false), ("TooMany", false), ("TooTall", false), ("Clash", false), ("TongueError", true), ("StandError", false), ("RoomError", false)]) (c.ex 53 (b := isB "NoTokens" [("NoTokens", true), ("NoRows", false), ("NoText", false), ("NoTexts", false), ("NoKind", false), ("NoSize", false), ("NoChanges", false), ("NoLine", false), ("NoInclude", false), ("NoStyle", false), ("NoMark", false), ("NoNumber", false), ("NoPlace", false), ("NoDocument", false), ("NoPrinting", false), ("Ring", false), ("Twice", false), ("TooMany", false), ("TooTall", false), ("Clash", false), ("TongueError", true), ("StandError", false), ("RoomError", false)])) 19, isB_ok (l := [("NoTokens", true), ("NoRows", false), ("NoText", false), ("NoTexts", false), ("NoKind", false), ("NoSize", false), ("NoChanges", false), ("NoLine", false), ("NoInclude", false), ("NoStyle", false), ("NoMark", false), ("NoNumber", false), ("NoPlace", false), ("NoDocument", false), ("NoPrinting", false), ("Ring", false), ("Twice", false), ("TooMany", false), ("TooTall", false), ("Clash", false), ("TongueError", true), ("StandError", false), ("RoomError", false)]) (c.ex 53 (b := isB "NoTokens" [("NoTokens", true), ("NoRows", false), ("NoText", false), ("NoTexts", false), ("NoKind", false), ("NoSize", false), ("NoChanges", false), ("NoLine", false), ("NoInclude", false), ("NoStyle", false), ("NoMark", false), ("NoNumber", false), ("NoPlace", false), ("NoDocument", false), ("NoPrinting", false), ("Ring", false), ("Twice", false), ("TooMany", false), ("TooTall", false), ("Clash", false), ("TongueError", true), ("StandError", false), ("RoomError", false)])) 20, isB_ok (l := [("NoTokens", true), ("NoRows", false), ("NoText", false), ("NoTexts", false), ("NoKind", false), ("NoSize", false), ("NoChanges", false), ("NoLine", false), ("NoInclude", false), ("NoStyle", false), ("NoMark", false), ("NoNumber", false), ("NoPlace", false), ("NoDocument", false), ("NoPrinting", false), ("Ring", false), ("Twice", false), ("TooMany", false), ("TooTall", false), ("Clash", false), ("TongueError", true), ("StandError", false), ("RoomError", false)]) (c.ex 53 (b := isB "NoTokens" [("NoTokens", true), ("NoRows", false), ("NoText", false), ("NoTexts", false), ("NoKind", false), ("NoSize", false), ("NoChanges", false), ("NoLine", false), ("NoInclude", false), ("NoStyle", false), ("NoMark", false), ("NoNumber", false), ("NoPlace", false), ("NoDocument", false), ("NoPrinting", false), ("Ring", false), ("Twice", false), ("TooMany", false), ("TooTall", false), ("Clash", false), ("TongueError", true), ("StandError", false), ("RoomError", false)])) 21, isB_ok (l := [("NoTokens", true), ("NoRows", false), ("NoText", false), ("NoTexts", false), ("NoKind", false), ("NoSize", false), ("NoChanges", false), ("NoLine", false), ("NoInclude", false), ("NoStyle", false), ("NoMark", false), ("NoNumber", false), ("NoPlace", false), ("NoDocument", false), ("NoPrinting", false), ("Ring", false), ("Twice", false), ("TooMany", false), ("TooTall", false), ("Clash", false), ("TongueError", true), ("StandError", false), ("RoomError", false)]) (c.ex 53 (b := isB "NoTokens" [("NoTokens", true), ("NoRows", false), ("NoText", false), ("NoTexts", false), ("NoKind", false), ("NoSize", false), ("NoChanges", false), ("NoLine", false), ("NoInclude", false), ("NoStyle", false), ("NoMark", false), ("NoNumber", false), ("NoPlace", false), ("NoDocument", false), ("NoPrinting", false), ("Ring", false), ("Twice", false), ("TooMany", false), ("TooTall", false), ("Clash", false), ("TongueError", true), ("StandError", false), ("RoomError", false)])) 22, itB_ok (l := [("ValueError", true), ("LookupError", false), ("ArithmeticError", false)]) (c.ex 54 (b := itB "NoTokens" [("ValueError", true), ("LookupError", false), ("ArithmeticError", false)])) 0, itB_ok (l := [("ValueError", true), ("LookupError", false), ("ArithmeticError", false)]) (c.ex 54 (b := itB "NoTokens" [("ValueError", true), ("LookupError", false), ("ArithmeticError", false)])) 1, itB_ok (l := [("ValueError", true), ("LookupError", false), ("ArithmeticError", false)]) (c.ex 54 (b := itB "NoTokens" [("ValueError", true), ("LookupError", false), ("ArithmeticError", false)])) 2⟩ (gaB_ok (c.ex 59 (b := gaB "TongueError"))) (gaB_ok (c.ex 60 (b := gaB "StandError"))) (gaB_ok (c.ex 61 (b := gaB "RoomError"))) (exmB_ok (l := ["TongueError", "StandError", "RoomError"]) (c.ex 62 (b := exmB "NoTokens" ["TongueError", "StandError", "RoomError"])))
end Tk
open PySem PySem.W PySem.Calls PyProof.Rows
set_option maxHeartbeats 0 in
theorem PySem.Challenge.cw_papertongue_k03_tokens_refused_holds : PySem.Challenge.rw_papertongue_k03_tokens_refused.Holds := by
  w_on; o_law
  refine HandSHeadRun.head_any (r := OpenLaw.row PySem.Challenge.rw_papertongue_k03_tokens_refused) (q := view (OpenLaw.row PySem.Challenge.rw_papertongue_k03_tokens_refused).prog [87]) (H := Tk.Hz.hk) (ob := Tk.Hz.ob) (M := 20000) (loose := Tk.Hz.names) (d := HandSHeadRun.topDef (OpenLaw.row PySem.Challenge.rw_papertongue_k03_tokens_refused).prog 87) (kwd := []) Tk.Hz.ob_eq
    (by kernel_rfl) (fun s => by kernel_rfl) Tk.Hz.run (by kernel_rfl) (by kernel_rfl) (by kernel_rfl) (by rfl) (by first | assumption | decide +kernel) (by decide +kernel) ⟨rfl, rfl, rfl, rfl, rfl, by decide +kernel⟩ ?hw ?hc
  case hw => w_witness2
  case hc =>
    refine L2.walk_ofE (l := PySem.Challenge.rw_papertongue_k03_tokens_refused) (n := 63) (k := 11) (x := "_law_script") (CX := L2.CX0) rfl (by decide) (by kernel_rfl) ⟨rfl, by decide, by decide⟩ ?F (fun _ _ _ _ z => z)
    intro w mg fa h Y G hmg0
    obtain ⟨K, KX, c⟩ := Y
    have hmg : mg ("law" : PySem.Str) = some (.ref fa) := by
      have e : (HandSHeadRun.topDef (OpenLaw.row PySem.Challenge.rw_papertongue_k03_tokens_refused).prog 87).name = ("law" : PySem.Str) := by kernel_rfl
      rw [← e]
      exact hmg0
    obtain ⟨fd, hb, hF⟩ := Tk.of_says (P := (PySem.Challenge.rw_papertongue_k03_tokens_refused).prog) (w := w) KX G hmg c rfl
    exact ⟨K, fd, Tk.spLaw K, KX, hb, fun H a ns hl _ hS => ⟨a, ns, rfl, hS, hl, fun _ => rfl⟩, hF⟩

