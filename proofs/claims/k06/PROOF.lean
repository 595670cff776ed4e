import PyProof.Rows.All
import HandS.ForMost
import HandS.ForExc
import HandS.IsInst
import HandS.TupAny
import HandS.TupMul
import HandS.Defaults
import HandS.Flow
import HandS.Style
import HandS.Zip
import HandS.Wide
import HandS.Walk
import HandS.Strs
import HandS.TryMany
import HandS.DeepEq
import HandS.MakeKw
import HandS.FStr
import HandS.Conv
import HandS.ListItems
import HandS.StrMore
import PyProof.TypeEq
import PyProof.Draws
import KE.GoesMore
import HandS.MakeKwOnly
import KE.KExcSuper
import HandS.ExcInit
import HandS.ExcCtx
import HandS.HotCalls
import HandS.ExcIs
import HandS.ExcField
import KE.KExcIs
import Wide.All
import OpenK.AllK
import Wide.FinOn
import KE.KStateDown
import KE.KSuper
import HandS.Base
import HandS.Call
import HandS.List
import HandS.Dict
import HandS.More
import HandS.Exc
import HandS.Head0
import HandS.Head1
import HandS.Head2
import HandS.HeadHook1
import HandS.HeadHook2
import HandS.HeadHook3
import HandS.HeadEnd
import HandS.Sort
import HandS.Small
import PySem.Challenge.RW_papertongue_k06_tables_by_their_cells
set_option Elab.async false
set_option linter.all false
set_option maxRecDepth 100000
set_option maxHeartbeats 4000000
namespace Lay
open PySem PySem.Spec PyProof.Rows L2
/-- what all contexts of a text share -/
structure LX (P : Program) (w : World) (K : PySem.W.Frag) (X : Cx) : Prop where
  prog : X.prog = P
  w : X.w = w
  K : X.K = K
  calm : X.calm = true
  un : X.A.units + 64 < cLine
section
variable {P : Program} {w : World} {K : PySem.W.Frag} {X : Cx}
theorem LX.b (L : LX P w K X) {s : Shared} {H : Hp} {sc : Scope} {ce : Env} {fp : List Addr} : LX P w K (X.blk s H sc ce fp) := ⟨L.prog, L.w, L.K, L.calm, L.un⟩
theorem LX.n (L : LX P w K X) : LX P w K X.nox := ⟨L.prog, L.w, L.K, L.calm, L.un⟩
/-! ### leaves: a rule is chosen where the values are known -/
def sB (P : Program) (w : World) (K : PySem.W.Frag) (f : Value → Value → Sem Value) : R2 := fun x y H Q => ∃ r : R2, (∀ X, LX P w K X → OpR X f r) ∧ r x y H Q
theorem ob {f : Value → Value → Sem Value} (L : LX P w K X) : OpR X f (sB P w K f) := by
  intro pins s σ H x y v u Q I rx ry h
  obtain ⟨r, hr, q⟩ := h
  exact hr X L pins s σ H x y v u Q I rx ry q
abbrev op_ {f : Value → Value → Sem Value} (L : LX P w K X) := @ob P w K X f L
def sU (P : Program) (w : World) (K : PySem.W.Frag) (f : Value → Sem Value) : V → Hp → VK → Prop := fun x H Q => ∃ r : V → Hp → VK → Prop, (∀ X, LX P w K X → UnR X f r) ∧ r x H Q
theorem ou {f : Value → Sem Value} (L : LX P w K X) : UnR X f (sU P w K f) := by
  intro pins s σ H x v Q I rx h
  obtain ⟨r, hr, q⟩ := h
  exact hr X L pins s σ H x v Q I rx q
def sC (P : Program) (w : World) (K : PySem.W.Frag) (f : Value) : List V → Hp → VK → Prop := fun xs H Q => ∃ r : List V → Hp → VK → Prop, (∀ X, LX P w K X → CallR X f r) ∧ r xs H Q
theorem oc {f : Value} (L : LX P w K X) : CallR X f (sC P w K f) := by
  intro pins s σ H xs us Q I rx h
  obtain ⟨r, hr, q⟩ := h
  exact hr X L pins s σ H xs us Q I rx q
def sM (P : Program) (w : World) (K : PySem.W.Frag) (id : String) : V → List V → Hp → VK → Prop := fun x xs H Q => ∃ r : V → List V → Hp → VK → Prop, (∀ X, LX P w K X → MtR X id r) ∧ r x xs H Q
theorem om {id : String} (L : LX P w K X) : MtR X id (sM P w K id) := by
  intro pins s σ H x xs v us Q I rx rs h
  obtain ⟨r, hr, q⟩ := h
  exact hr X L pins s σ H x xs v us Q I rx rs q
def sI (P : Program) (w : World) (K : PySem.W.Frag) : R2 := fun x y H Q => ∃ r : R2, (∀ X, LX P w K X → IxR X r) ∧ r x y H Q
theorem oi (L : LX P w K X) : IxR X (sI P w K) := by
  intro value slice pins s σ H x y v u Q I rx ry h hs
  obtain ⟨r, hr, q⟩ := h
  exact hr X L value slice pins s σ H x y v u Q I rx ry q hs
def sSl (P : Program) (w : World) (K : PySem.W.Frag) : V → Option Int → Option Int → Hp → VK → Prop := fun x lo hi H Q => ∃ r : V → Option Int → Option Int → Hp → VK → Prop, (∀ X, LX P w K X → SlR X r) ∧ r x lo hi H Q
def sSet (P : Program) (w : World) (K : PySem.W.Frag) : TSet := fun o i v H Q => ∃ r : TSet, (∀ X, LX P w K X → PSet X r) ∧ r o i v H Q
theorem ose (L : LX P w K X) : PSet X (sSet P w K) := by
  intro pins s σ H o i v ov iv u Q I r1 r2 r3 h
  obtain ⟨r, hr, q⟩ := h
  exact hr X L pins s σ H o i v ov iv u Q I r1 r2 r3 q
def sIp (P : Program) (w : World) (K : PySem.W.Frag) (op : Operator) : TIp := fun x y H Q => ∃ r : TIp, (∀ X, LX P w K X → PIp X op r) ∧ r x y H Q
theorem oip {op : Operator} (L : LX P w K X) : PIp X op (sIp P w K op) := by
  intro pins s σ H x y v u Q I r1 r2 h
  obtain ⟨r, hr, q⟩ := h
  exact hr X L pins s σ H x y v u Q I r1 r2 q
theorem osl (L : LX P w K X) : SlR X (sSl P w K) := by
  intro pins s σ H x v vl vu lo hi sl Q I rx hs pl pu h
  obtain ⟨r, hr, q⟩ := h
  exact hr X L pins s σ H x v vl vu lo hi sl Q I rx hs pl pu q
end
/-! ### what is asked where the values are known -/
section
variable {P : Program} {w : World} {K : PySem.W.Frag} {H : Hp} {Q : VK} {i j : Int} {x y : V} {a b : Addr} {xs ys : List V} {u v : Str}
theorem b_add (q : Q (.int (i + j)) H) : sB P w K (binaryOp .Add) (.int i) (.int j) H Q := ⟨_, fun _ _ => op_add, i, j, rfl, rfl, q⟩
theorem b_sub (q : Q (.int (i - j)) H) : sB P w K (binaryOp .Sub) (.int i) (.int j) H Q := ⟨_, fun _ _ => op_sub, i, j, rfl, rfl, q⟩
theorem b_mul (h : CMul i j) (q : Q (.int (i * j)) H) : sB P w K (binaryOp .Mult) (.int i) (.int j) H Q := ⟨_, fun _ _ => op_mul, i, j, rfl, rfl, h, q⟩
theorem b_mod (h : 0 < j) (q : Q (.int (i % j)) H) : sB P w K (binaryOp .Mod) (.int i) (.int j) H Q := ⟨_, fun _ _ => op_mod, i, j, rfl, rfl, h, q⟩
theorem b_fdiv (h : CDiv i j) (q : Q (.int (i / j)) H) : sB P w K (binaryOp .FloorDiv) (.int i) (.int j) H Q := ⟨_, fun _ _ => op_fdiv, i, j, rfl, rfl, h, q⟩
theorem b_pow (h : CPow i j) (q : Q (.int (i ^ j.toNat)) H) : sB P w K (binaryOp .Pow) (.int i) (.int j) H Q := ⟨_, fun _ _ => op_pow, i, j, rfl, rfl, h, q⟩
theorem b_adds (h : u.length + v.length ≤ sizeLine) (q : Q (.str (u ++ v)) H) : sB P w K (binaryOp .Add) (.str u) (.str v) H Q := ⟨_, fun _ _ => op_add_str, u, v, rfl, rfl, h, q⟩
theorem b_cat (h1 : H a = some (.lst xs)) (h2 : H b = some (.lst ys)) (hz : xs.length + ys.length ≤ sizeLine) (q : ∀ p, H p = none → Q (.ref p) (upd H p (.lst (xs ++ ys)))) : sB P w K (binaryOp .Add) (.ref a) (.ref b) H Q :=
  ⟨_, fun _ _ => op_cat, a, b, xs, ys, rfl, rfl, h1, h2, hz, q⟩
/-- tuples together: some address holds both -/
theorem b_catT (h1 : SqT K H a xs) (h2 : SqT K H b ys) (hz : xs.length + ys.length ≤ sizeLine) (q : ∀ p H', Same H H' → SqT K H' p (xs ++ ys) → Q (.ref p) H') : sB P w K (binaryOp .Add) (.ref a) (.ref b) H Q := by
  refine ⟨rCatA K, fun X L => L.K ▸ op_catA, a, b, xs, ys, rfl, rfl, h1, h2, hz, fun e => ?_, fun _ e => ?_, fun _ _ p hp => ?_⟩
  · subst e
    exact q b H (Same.refl H) h2
  · subst e
    exact q a H (Same.refl H) (by rw [List.append_nil]; exact h1)
  · exact q p _ (fun c o e => by rw [upd_ne (ne_of_none e hp)]; exact e) (SqT.of upd_same)
theorem b_rep {n : Int} (h1 : H a = some (.lst xs)) (h2 : -(2 ^ 63) ≤ n) (h3 : n < 2 ^ 63) (hz : xs.length * n.toNat ≤ sizeLine) (q : ∀ p, H p = none → Q (.ref p) (upd H p (.lst (List.replicate n.toNat xs).flatten))) : sB P w K (binaryOp .Mult) (.ref a) (.int n) H Q :=
  ⟨_, fun _ _ => op_rep, a, n, xs, rfl, rfl, h1, h2, h3, hz, q⟩
theorem c_lt (q : Q (.bl (decide (i < j))) H) : sB P w K (compareOp .Lt) (.int i) (.int j) H Q := ⟨_, fun _ _ => op_lt, i, j, rfl, rfl, q⟩
theorem c_le (q : Q (.bl (decide (i ≤ j))) H) : sB P w K (compareOp .LtE) (.int i) (.int j) H Q := ⟨_, fun _ _ => op_le, i, j, rfl, rfl, q⟩
theorem c_gt (q : Q (.bl (decide (j < i))) H) : sB P w K (compareOp .Gt) (.int i) (.int j) H Q := ⟨_, fun _ _ => op_gt, i, j, rfl, rfl, q⟩
theorem c_ge (q : Q (.bl (decide (j ≤ i))) H) : sB P w K (compareOp .GtE) (.int i) (.int j) H Q := ⟨_, fun _ _ => op_ge, i, j, rfl, rfl, q⟩
theorem c_eq (h : scal x y = true) (q : Q (.bl (decide (x = y))) H) : sB P w K (compareOp .Eq) x y H Q := ⟨_, fun _ _ => op_eq, h, q⟩
theorem c_ne (h : scal x y = true) (q : Q (.bl (!decide (x = y))) H) : sB P w K (compareOp .NotEq) x y H Q := ⟨_, fun _ _ => op_ne, h, q⟩
theorem c_isN (q : Q (.bl (decide (x = .non))) H) : sB P w K (compareOp .Is) x .non H Q := ⟨_, fun _ _ => op_isN, rfl, q⟩
theorem c_notN (q : Q (.bl (!decide (x = .non))) H) : sB P w K (compareOp .IsNot) x .non H Q := ⟨_, fun _ _ => op_notN, rfl, q⟩
theorem c_isB {c d : Bool} (q : Q (.bl (decide (c = d))) H) : sB P w K (compareOp .Is) (.bl c) (.bl d) H Q := ⟨_, fun _ _ => op_isBl, c, d, rfl, rfl, q⟩
theorem c_in (h : SqL K H a xs ∨ SqT K H a xs) (hx : flatV x = true) (hs : xs.all flatV = true) (q : Q (.bl (inV x xs)) H) : sB P w K (compareOp .In) x (.ref a) H Q := ⟨rIn K false, fun X L => L.K ▸ op_in_seq, a, xs, rfl, h, hx, hs, q⟩
theorem c_notin (h : SqL K H a xs ∨ SqT K H a xs) (hx : flatV x = true) (hs : xs.all flatV = true) (q : Q (.bl (!inV x xs)) H) : sB P w K (compareOp .NotIn) x (.ref a) H Q := ⟨rIn K true, fun X L => L.K ▸ op_notIn_seq, a, xs, rfl, h, hx, hs, q⟩
theorem c_insign {c : Nat} (q : Q (.bl (decide (c ∈ v.cps.toList))) H) : sB P w K (compareOp .In) (.str ⟨#[c]⟩) (.str v) H Q := ⟨_, fun _ _ => op_in_sign, c, v, rfl, rfl, q⟩
theorem i_lst (h : SqL K H a xs) (hi : atI xs i = some x) (q : Q x H) : sI P w K (.ref a) (.int i) H Q := ⟨rIxL K, fun X L => L.K ▸ ix_list, a, xs, i, x, rfl, rfl, h, hi, q⟩
theorem i_tup (h : SqT K H a xs) (hi : atI xs i = some x) (q : Q x H) : sI P w K (.ref a) (.int i) H Q := ⟨rIxT K, fun X L => L.K ▸ ix_tup, a, xs, i, x, rfl, rfl, h, hi, q⟩
theorem i_str {c : Nat} (hz : v.length ≤ sizeLine) (hi : atI v.cps.toList i = some c) (q : Q (.str ⟨#[c]⟩) H) : sI P w K (.str v) (.int i) H Q := ⟨rIxS, fun _ _ => ix_str, v, i, c, rfl, rfl, hz, hi, q⟩
theorem sl_l {lo hi : Option Int} (h : SqL K H a xs) (q : ∀ p, H p = none → Q (.ref p) (upd H p (.lst (cutV xs lo hi)))) : sSl P w K (.ref a) lo hi H Q := ⟨rSlL K, fun X L => L.K ▸ sl_list, a, xs, rfl, h, q⟩
theorem sl_s {lo hi : Option Int} (hz : v.length ≤ sizeLine) (q : Q (.str (cutS v lo hi)) H) : sSl P w K (.str v) lo hi H Q := ⟨rSlS, fun _ _ => sl_str, v, rfl, hz, q⟩
theorem cutV_whole {lo hi : Option Int} (h : HT.sIx xs.length 0 lo = 0 ∧ HT.sIx xs.length xs.length hi = xs.length) : cutV xs lo hi = xs := by
  unfold cutV
  rw [h.1, h.2, List.drop_zero, Nat.sub_zero, List.take_length]
theorem sl_t {lo hi : Option Int} (h : SqT K H a xs) (q : ∀ p H', Same H H' → SqT K H' p (cutV xs lo hi) → Q (.ref p) H') : sSl P w K (.ref a) lo hi H Q := by
  refine ⟨rSlA K, fun X L => L.K ▸ sl_tupA, a, xs, rfl, h, fun e => ?_, fun _ p hp => ?_⟩
  · exact q a H (Same.refl H) (by rw [cutV_whole e]; exact h)
  · exact q p _ (fun c o e => by rw [upd_ne (ne_of_none e hp)]; exact e) (SqT.of upd_same)
theorem st_l {k : Nat} {Q : Hp → Prop} (h : H a = some (.lst xs)) (hi : ixN xs.length i = some k) (q : Q (upd H a (.lst (xs.set k x)))) : sSet P w K (.ref a) (.int i) x H Q := ⟨rSetL, fun _ _ => set_list, a, xs, i, k, rfl, rfl, h, hi, q⟩
theorem k_lenl (h : SqL K H a xs ∨ SqT K H a xs) (q : Q (.int xs.length) H) : sC P w K (.builtin "len") [.ref a] H Q := ⟨_, fun X L => L.K ▸ call_len_seq, a, xs, rfl, h, q⟩
theorem k_lens (hz : v.length ≤ sizeLine) (q : Q (.int v.length) H) : sC P w K (.builtin "len") [.str v] H Q := ⟨_, fun _ _ => call_len_str, v, rfl, hz, q⟩
theorem k_int (q : Q (.int i) H) : sC P w K (.type "int") [.int i] H Q := ⟨_, fun _ _ => call_int1, .inl ⟨i, rfl, q⟩⟩
theorem k_intb {c : Bool} (q : Q (.int (if c then 1 else 0)) H) : sC P w K (.type "int") [.bl c] H Q := ⟨_, fun _ _ => call_int1, .inr ⟨c, rfl, q⟩⟩
theorem k_max (q : Q (.int (if j > i then j else i)) H) : sC P w K (.builtin "max") [.int i, .int j] H Q := ⟨_, fun X L => call_max2 L.calm, i, j, rfl, q⟩
theorem k_min (q : Q (.int (if j < i then j else i)) H) : sC P w K (.builtin "min") [.int i, .int j] H Q := ⟨_, fun X L => call_min2 L.calm, i, j, rfl, q⟩
theorem k_all {bs : List Bool} (h : SqL K H a (bs.map V.bl)) (q : Q (.bl (bs.all id)) H) : sC P w K (.builtin "all") [.ref a] H Q := ⟨rAll K, fun X L => L.K ▸ cr_all L.calm, a, bs, rfl, h, q⟩
theorem k_any {bs : List Bool} (h : SqL K H a (bs.map V.bl)) (q : Q (.bl (bs.any id)) H) : sC P w K (.builtin "any") [.ref a] H Q := ⟨rAny K, fun X L => L.K ▸ cr_any L.calm, a, bs, rfl, h, q⟩
theorem k_tupL (h : SqL K H a xs) (q : ∀ p, H p = none → Q (.ref p) (upd H p (.tup xs))) : sC P w K (.type "tuple") [.ref a] H Q := ⟨_, fun X L => L.K ▸ call_tuple_of, a, xs, rfl, .inl ⟨h, q⟩⟩
theorem k_tupT (h : SqT K H a xs) (q : Q (.ref a) H) : sC P w K (.type "tuple") [.ref a] H Q := ⟨_, fun X L => L.K ▸ call_tuple_of, a, xs, rfl, .inr ⟨h, q⟩⟩
theorem k_lst (h : SqL K H a xs ∨ SqT K H a xs) (q : ∀ p, H p = none → Q (.ref p) (upd H p (.lst xs))) : sC P w K (.type "list") [.ref a] H Q := ⟨_, fun X L => L.K ▸ call_list_of, a, xs, rfl, h, q⟩
theorem k_isi {t t' : Value} {c : Bool} (hc : ClsV y t') (ht : TyX K H x t) (hk : PySem.W.kitOne K t t' = some c) (q : Q (.bl c) H) : sC P w K (.builtin "isinstance") [x, y] H Q := ⟨rIsi K, fun X L => L.K ▸ call_isi, x, y, t, t', c, rfl, hc, ht, hk, q⟩
theorem m_join {p : Addr} {zs : List Str} (h : SqL K H p (zs.map V.str) ∨ SqT K H p (zs.map V.str)) (hz : (zs.map (·.length)).sum + zs.length * v.length ≤ 16777216) (q : Q (.str (Txt.join v zs)) H) : sM P w K "str.join" (.str v) [.ref p] H Q :=
  ⟨_, fun X L => L.K ▸ mt_join, v, p, zs, rfl, rfl, h, hz, q⟩
theorem m_split (h1 : (u.length == 0) = false) (h2 : v.length + 2 ≤ sizeLine) (q : rNewStrs (Txt.split v u) H Q) : sM P w K "str.split" (.str v) [.str u] H Q := ⟨_, fun _ _ => mt_split, v, u, rfl, rfl, h1, h2, q⟩
theorem u_neg (q : Q (.int (-i)) H) : sU P w K (unaryOp .USub) (.int i) H Q := ⟨_, fun _ _ => un_neg, i, rfl, q⟩
/-! ### combinators -/
variable {σ : L2.St} {ta tb : TE} {t : TT}
theorem r_var {n : Nat} (h : σ[n]? = some (some x)) (q : Q x H) : tVar n σ H Q := ⟨x, h, q⟩
theorem r_c (q : Q x H) : tC x σ H Q := q
theorem r_op {r : R2} (q : ta σ H fun x H1 => tb σ H1 fun y H2 => r x y H2 Q) : tOp r ta tb σ H Q := q
theorem r_un {r : V → Hp → VK → Prop} (q : ta σ H fun x H1 => r x H1 Q) : tUn r ta σ H Q := q
theorem r_cons {tr : TA} {Q : List V → Hp → Prop} (q : ta σ H fun x H1 => tr σ H1 fun xs H2 => Q (x :: xs) H2) : tCons ta tr σ H Q := q
theorem r_nil {Q : List V → Hp → Prop} (q : Q [] H) : tNil σ H Q := q
theorem r_cb {r : List V → Hp → VK → Prop} {tr : TA} (q : tr σ H fun vs H1 => r vs H1 Q) : tCB r tr σ H Q := q
theorem r_tup {tr : TA} (q : tr σ H fun xs H1 => xs.length ≤ sizeLine ∧ ∀ p, H1 p = none → Q (.ref p) (upd H1 p (.tup xs))) : tTup tr σ H Q := q
theorem r_lst {tr : TA} (q : tr σ H fun xs H1 => xs.length ≤ sizeLine ∧ ∀ p, H1 p = none → Q (.ref p) (upd H1 p (.lst xs))) : tLst tr σ H Q := q
theorem r_call {sp : Sp} {dvs : List V} {E : XK} {tr : TA} (q : tr σ H fun vs H1 => sp (vs ++ dvs) H1 Q E) : tCall sp dvs E tr σ H Q := q
theorem r_test {Q : Bool → Hp → Prop} (q : ta σ H fun x H1 => ∃ k, x = .bl k ∧ Q k H1) : tTest ta σ H Q := q
theorem r_if (q : t σ H fun c H1 => if c = true then ta σ H1 Q else tb σ H1 Q) : tIf t ta tb σ H Q := q
theorem r_not {Q : Bool → Hp → Prop} (q : t σ H fun c H1 => Q (!c) H1) : tNot t σ H Q := q
theorem r_bm {T : String} {r : V → List V → Hp → VK → Prop} {tr : TA} (q : ta σ H fun x H1 => tyV K T x H1 ∧ tr σ H1 fun xs H2 => r x xs H2 Q) : tBM K T r ta tr σ H Q := q
theorem r_sl {r : V → Option Int → Option Int → Hp → VK → Prop} {tl th : TO} (q : ta σ H fun x H1 => tl σ H1 fun l H2 => th σ H2 fun u H3 => r x l u H3 Q) : tSl r ta tl th σ H Q := q
theorem r_np {Q : Option Int → Hp → Prop} (q : Q none H) : tNoPart σ H Q := q
theorem r_part {Q : Option Int → Hp → Prop} (q : ta σ H fun x H1 => ∃ i, x = .int i ∧ Q (some i) H1) : tPart ta σ H Q := q
variable {D : Ends} {s1 s2 : TS} {g : TG} {nx bk ct : L2.St → Hp → Prop} {rt : VK}
theorem r_seq (q : s1 ⟨s2 ⟨nx, rt, bk, ct⟩, rt, bk, ct⟩ σ H) : tSeq s1 s2 ⟨nx, rt, bk, ct⟩ σ H := q
theorem r_asg (q : ta σ H fun x H1 => g x σ H1 nx) : tAsg ta g ⟨nx, rt, bk, ct⟩ σ H := q
theorem r_name {n : Nat} {Q : L2.St → Hp → Prop} (q : Q (σ.set n (some x)) H) : gName n x σ H Q := q
theorem r_ifs (q : t σ H fun b H1 => if b = true then s1 D σ H1 else s2 D σ H1) : tIfS t s1 s2 D σ H := q
theorem r_ret (q : ta σ H rt) : tRet ta ⟨nx, rt, bk, ct⟩ σ H := q
theorem r_next (q : nx σ H) : tNext ⟨nx, rt, bk, ct⟩ σ H := q
theorem r_brk (q : bk σ H) : tBreak ⟨nx, rt, bk, ct⟩ σ H := q
theorem r_cnt (q : ct σ H) : tCont ⟨nx, rt, bk, ct⟩ σ H := q
theorem r_par {n m : Nat} {tr : TA} (q : tr σ H fun vs H1 => ∃ v w, vs = [v, w] ∧ nx ((σ.set n (some v)).set m (some w)) H1) : tPar n m tr ⟨nx, rt, bk, ct⟩ σ H := q
theorem r_par3 {n m l : Nat} {tr : TA} (q : tr σ H fun vs H1 => ∃ u v w, vs = [u, v, w] ∧ nx (((σ.set n (some u)).set m (some v)).set l (some w)) H1) : tPar3 n m l tr ⟨nx, rt, bk, ct⟩ σ H := q
theorem r_sub {to ti : TE} {t : TSet} {v : V} {Q : L2.St → Hp → Prop} (q : to σ H fun o H1 => ti σ H1 fun i H2 => t o i v H2 fun H3 => Q σ H3) : gSub to ti t v σ H Q := q
theorem tru_b {c : Bool} {C : Bool → Prop} (q : C c) : ∃ k, TruV K (.bl c) H k ∧ C k := ⟨c, rfl, q⟩
end
/-! ### a def of the text -/
/-- it stands in the module under its name, its arguments bind -/
def Fn0 (K : PySem.W.Frag) (mg : Str → Option Value) (x : Str) (st : Stmt) (ps : List Str) : Prop := ∃ a fd, Fun K x x st a fd ∧ mg x = some (.ref a) ∧ Binds K fd ps []
/-- .. and keeps its promise -/
def FnG (P : Program) (w : World) (K : PySem.W.Frag) (mg : Str → Option Value) (base : Heap) (k : Nat) (x : Str) (ps : List Str) (sp : Sp) : Prop :=
  ∃ a fd, mg x = some (.ref a) ∧ PySem.W.keepIn K (.ref a) = true ∧ Binds K fd ps [] ∧ (∃ ob : Obj, K.lookup a = some ob ∧ ob.data = .func fd) ∧ FnOk P w K mg base CX0 k a fd ps sp
section
variable {P : Program} {w : World} {K : PySem.W.Frag} {mg : Str → Option Value} {base : Heap}
theorem Fn0.ok {x : Str} {st : Stmt} {N ps : List Str} {k : Nat} {sp : Sp} (F : Fn0 K mg x st ps) (S : FnScope N ps (defScope st)) (len : ∀ vs H Q E, sp vs H Q E → vs.length = ps.length)
    (body : ∀ (a : Addr) (cdv : Value) (A : Around) (outer : List Env) (s : Shared) (H : Hp) (vs : List V) (Q : VK) (E : XK), LX P w K (cxOf CX0 P w K mg base N x (defScope st) a cdv A outer s H E).nox →
      Room k (A.deeper (envOfC x (defScope st) s.heap.objs.size a cdv)) → sp vs H Q E →
      ∃ t, PSs (cxOf CX0 P w K mg base N x (defScope st) a cdv A outer s H E).nox (defBody st) t ∧ t { nx := fun _ H' => Q .non H', rt := Q } (start N vs) H) : FnG P w K mg base (k + 1) x ps sp := by
  obtain ⟨a, fd, F, hg, hb⟩ := F
  obtain ⟨oc, od, kV, doc, pm, an, cdv, ct, osl, _, lk, _⟩ := F.ex
  exact ⟨a, fd, hg, F.kp, hb, ⟨_, lk, rfl⟩, F.ok S len fun cdv A outer s H vs Q E hr h => body a cdv A outer s H vs Q E ⟨rfl, rfl, rfl, rfl, hr.units⟩ hr h⟩
end
section
variable {X : Cx} {k : Nat} {x : Str} {ps : List Str} {sp : Sp} {p pos : Pos} {e : Expr} {es : List Expr} {t : TA}
theorem pe_callG (F : FnG X.prog X.w X.K X.mg X.base k x ps sp) (hr : Room k X.A) (hg : Gl X x) (ha : PA X (e :: es) t) (hdb : (x == ("__debug__" : Str)) = false := by decide)
    (he : starEach (e :: es) X.env = (false, eval e X.env) :: starEach es X.env := by rfl) (hpl : (backTo pos (starEach es X.env)).any (·.1) = false := by rfl) : PE X (.Call (.Name x p) (e :: es) [] pos) (tCall sp [] E0 t) := by
  obtain ⟨a, fd, h1, h2, h3, _, h4⟩ := F
  exact pe_call h4 hr hg h1 h2 h3 .nil pass0 ha hdb he hpl
theorem pe_callG0 (F : FnG X.prog X.w X.K X.mg X.base k x ps sp) (hr : Room k X.A) (hg : Gl X x) (hdb : (x == ("__debug__" : Str)) = false := by decide) : PE X (.Call (.Name x p) [] [] pos) (tCall sp [] E0 tNil) := by
  obtain ⟨a, fd, h1, h2, h3, _, h4⟩ := F
  exact pe_call0 h4 hr hg h1 h2 h3 .nil pass0 hdb
end
end Lay

set_option Elab.async false
set_option linter.all false
set_option maxRecDepth 100000
set_option maxHeartbeats 4000000
namespace LayE
open PySem
open AutoSeq1 (wpAny_loadPart')
/-- enumerate made of a tuple -/
theorem made_tup (l : Addr) (items : Array Value) (n : Nat) (dd : Option Addr) (sl : Array (Option Value)) :
    Meets (Builtin.«enumerate.__new__» ⟨[.type "enumerate", .ref l], []⟩)
      (fun _ R s => s.heap.get? l = some { cls := .type "tuple", dict := dd, data := .seq items n, slots := sl } ∧
        R (.ok (.ret (.ref (s.heap.push { cls := .type "tuple_iterator", data := .fields #[.ref l, .int 0 0] }).objs.size)))
          { s with heap := (s.heap.push { cls := .type "tuple_iterator", data := .fields #[.ref l, .int 0 0] }).push { cls := .type "enumerate", data := .fields #[.none, .bool false, .ref s.heap.objs.size, rawInt 0, .none, .none] } }) :=
  .of_wp fun prog w A R s h => by
    obtain ⟨hp, g, d, tk, os⟩ := s
    obtain ⟨hl, h⟩ := h
    have hs := sub_enumerate
    have hT : Heap.IsTuple (Shared.heap ⟨hp, g, d, tk, os⟩) l items := ⟨_, hl, rfl, n, rfl⟩
    wp_walk using wpAny_loadPart' hl
    refine wpAny_stack_any fun st => wpAny_pure ?_
    split
    · rename_i c _ _ _ _ _
      cases (c == Value.type "enumerate") <;>
        (wp_walk using wpAny_loadPart' hl, wpAny_pyIter_tuple hT
         exact ⟨_, rfl, h⟩)
    · wp_walk using wpAny_loadPart' hl, wpAny_pyIter_tuple hT
      exact ⟨_, rfl, h⟩
section
variable {prog : Program} {w : World} {A : Around} {E : Value → Shared → Prop} {s : Shared}
theorem call_enum_tup {l : Addr} {items : Array Value} {Q : Value → Shared → Prop} (hL : s.heap.IsTuple l items)
    (h : ∀ h', IsEnum h' (s.heap.objs.size + 1) s.heap.objs.size 0 .none → h'.IsTupleIter s.heap.objs.size l 0 → (∀ b o, s.heap.get? b = some o → h'.get? b = some o) → Q (.ref (s.heap.objs.size + 1)) { s with heap := h' }) :
    wpAny (model prog w) A (call (.type "enumerate") [.ref l]) Q E s := by
  obtain ⟨⟨c, dct, dt, sl⟩, hl, hc, n, hd⟩ := hL
  obtain rfl : c = .type "tuple" := hc
  obtain rfl : dt = .seq items n := hd
  refine callType_new F.called_enumerate (by decide) (F.typeCall_enumerate_1 _) (F.newCall_enumerate_1 _) (fun obj => F.args_object_init_2 obj _) F.entry_enumerate_new (made_tup l items n dct sl) ⟨hl, ?_⟩
  generalize e1 : s.heap.push { cls := .type "tuple_iterator", data := .fields #[.ref l, .int 0 0] } = h1
  have z1 : h1.objs.size = s.heap.objs.size + 1 := by rw [← e1, Heap.size_push]
  have g1 : h1.get? s.heap.objs.size = some { cls := .type "tuple_iterator", data := .fields #[.ref l, .int 0 0] } := by
    rw [← e1]
    exact Heap.get?_push_size _ rfl
  have k1 : ∀ b o, s.heap.get? b = some o → h1.get? b = some o := fun b o q => by
    rw [← e1]
    exact Heap.get?_push_of_some _ q
  rw [z1]
  have he : IsEnum (h1.push { cls := .type "enumerate", data := .fields #[.none, .bool false, .ref s.heap.objs.size, rawInt 0, .none, .none] }) (s.heap.objs.size + 1) s.heap.objs.size 0 .none := by
    rw [← z1]
    exact Heap.get?_push_size _ rfl
  exact ⟨⟨_, he, rfl⟩, h _ he ⟨_, Heap.get?_push_of_some _ g1, rfl, rfl⟩ fun b o q => Heap.get?_push_of_some _ (k1 b o q)⟩
end
end LayE
namespace Lay
open PySem PySem.Spec PyProof.Rows L2
/-- enumerate(tuple): the items in new pairs -/
def Itet (K : PySem.W.Frag) (a : Addr) : It :=
  ⟨fun i H => ∃ (xs : List V) (x : V), SqT K H a xs ∧ xs[i]? = some x,
   fun i H v H' => ∃ T x, v = .ref T ∧ H T = none ∧ H' = upd H T (.tup [.int (i : Nat), x]) ∧ ∀ xs, SqT K H a xs → xs[i]? = some x,
   fun i H => ∃ xs : List V, SqT K H a xs ∧ xs.length ≤ i⟩
theorem turn_enumT {P : Program} {w : World} {K : PySem.W.Frag} {elts : List Expr} {kk : Nat} {tpos : Pos} (a e it : Addr) :
    Turn P w K (.Tuple elts kk tpos) (Itet K a) [e, it] e (fun i h => (∃ old, IsEnum h e it ((i : Nat) : Int) old) ∧ h.IsTupleIter it a i ∧ e ≠ it) where
  mem := List.mem_cons_self
  obj := by
    intro i h st b hb
    obtain ⟨⟨old, he⟩, ⟨o, ho, _, hd⟩, _⟩ := st
    rcases List.mem_cons.mp hb with rfl | hb
    · exact ⟨_, he, fun v q => nomatch q⟩
    · obtain rfl := List.mem_singleton.mp hb
      exact ⟨o, ho, fun v q => by
        rw [hd] at q
        cases q⟩
  keep := by
    intro i h h' st k
    obtain ⟨⟨old, he⟩, hi, hne⟩ := st
    exact ⟨⟨old, k e List.mem_cons_self _ he⟩, hi.at fun o q => k it (List.mem_cons_of_mem _ List.mem_cons_self) o q, hne⟩
  item := by
    intro X hP hw hK hc i pins s σ H E I hf st hg
    subst hP hw hK
    obtain ⟨⟨old, he⟩, hit, hne⟩ := st
    obtain ⟨xs, x, hq, hx⟩ := hg
    obtain ⟨its, rv, p, hz⟩ := I.tuple hq
    obtain ⟨u, hu, ru⟩ := rv.get hx
    have pt : s.heap.IsTuple a its.toArray := p
    have hea : e ≠ a := by
      rintro rfl
      obtain ⟨o, ho, hoc, _⟩ := pt
      rw [he] at ho
      cases ho
      exact absurd (show Value.type "enumerate" = Value.type "tuple" from hoc) (by decide +kernel)
    have hia : a ≠ it := by
      rintro rfl
      obtain ⟨o, ho, hoc, _⟩ := pt
      obtain ⟨o2, ho2, hc2, _⟩ := hit
      rw [ho] at ho2
      cases ho2
      rw [hoc] at hc2
      exact absurd hc2 (by decide +kernel)
    have hel : e < s.heap.objs.size := Heap.lt_size he
    have hil : it < s.heap.objs.size := by
      obtain ⟨_, q, _⟩ := hit
      exact Heap.lt_size q
    have hlt : i < its.toArray.size := by
      obtain ⟨z, _⟩ := List.getElem?_eq_some_iff.mp hu
      simpa using z
    refine wpAny_pyNext_enum_itemD (Draws.tuple (prog := X.prog) (w := X.w) (A := X.A.in1) (show X.A.in1.handled = none from I.ok.hd hc) it a hia its.toArray) he ⟨hit, pt⟩ hlt hne (by simp [hne, hea]) fun y h' tk hy ho hst' hT hsz hk => ?_
    have ey : u = y := by
      have e1 : its.toArray[i]? = some u := by simpa using hu
      exact Option.some.inj (e1.symm.trans hy)
    subst ey
    refine ⟨_, rfl, wpAny_letOwnedTupleGo_enum (s := { s with heap := h', toks := tk + 1 }) ho fun h'' he' sb => ?_⟩
    have hT2 : h''.get? s.heap.objs.size = some { cls := .type "tuple", data := .seq #[.int i tk, u] } := (sb.2 _ (Nat.ne_of_gt hel)).trans hT
    have new : ObjOk X.prog X.w (upd H s.heap.objs.size (.tup [.int (i : Nat), x])) h'' s.heap.objs.size (.tup [.int (i : Nat), x]) :=
      ⟨by
        show 2 ≤ sizeLine
        decide, [.int i tk, u], .cons ⟨_, rfl⟩ (.cons ru .nil), ⟨_, hT2, rfl, _, rfl⟩⟩
    have I1 : Inv X pins σ (upd H s.heap.objs.size (.tup [.int (i : Nat), x])) { s with heap := h'', toks := tk + 1 } := by
      refine I.turnedNew (ch := [e, it]) (fun b ob hb q => ?_) hf (Nat.le_refl _) new
      have b1 : b ≠ e := fun z => hb (by simp [z])
      have b2 : b ≠ it := fun z => hb (by simp [z])
      exact (sb.2 b b1).trans (hk b ob b1 b2 q)
    refine ⟨.ref s.heap.objs.size, _, I1, rfl, ⟨_, x, rfl, I.hok.fresh (Nat.le_refl _), rfl, fun ys hy2 => ?_⟩, ⟨⟨u, ?_⟩, hst'.1.at fun o q => (sb.2 it (Ne.symm hne)).trans q, hne⟩, fun b hb => ?_⟩
    · rw [I.tuple_inj hy2 hq]
      exact hx
    · have e1 : ((i + 1 : Nat) : Int) = (i : Int) + 1 := by omega
      rw [e1]
      exact he'
    · have hb' : b < s.heap.objs.size := by
        rcases List.mem_cons.mp hb with rfl | hb2
        · exact hel
        · obtain rfl := List.mem_singleton.mp hb2
          exact hil
      rw [upd_ne (Nat.ne_of_lt hb')]
      exact (hf b hb).1
  done := by
    intro X hP hw hK hc i pins s σ H E I hf st hg
    subst hP hw hK
    obtain ⟨⟨old, he⟩, hit, hne⟩ := st
    obtain ⟨xs, hq, hx⟩ := hg
    obtain ⟨its, rv, p, hz⟩ := I.tuple hq
    have pt : s.heap.IsTuple a its.toArray := p
    obtain ⟨f0, f1, f2, f3, f4, f5⟩ := hf it (by simp)
    have hl := rv.length
    -- the inner iterator stands at its end
    have hT : s.TypeIs (.ref e) "enumerate" := ⟨_, he, rfl⟩
    unfold pyNext
    refine wpAny_bind (wpAny_attempt (wpAny_callSpecial?_slot (name := Str.ofString "__next__") hT F.slot_enumerate_next
      (wpAny_call_entry F.slot_enumerate_next hT F.entry_enumerate_next ?_ (F.args_enumerate_next_1 _))))
    show wpAny _ _ (field (.ref e) 2 >>= _) _ _ _
    refine wpAny_bind (wpAny_field he rfl (x := .ref it) rfl ?_)
    refine wpAny_bind (wpAny_nextOf_tuple_end (I.ok.hd hc) hit pt (by simp; omega) fun h' y hey hy => ?_)
    obtain ⟨o, ho, hoc⟩ := hy
    refine wpAny_bind (wpAny_isInstance (T := "StopIteration") (b := true) ⟨o, ho, hoc⟩ isSubtype_stop ?_)
    exact wpAny_pure ⟨rfl, I.turned (t' := s.toks) (fun b o hb q => hey b o hb q) f0 f1 f3 f4 f5⟩
  self := by
    intro A i s Q E st h
    obtain ⟨⟨_, he⟩, _⟩ := st
    exact wpAny_pyIter_enum he h
/-- enumerate of a list or a tuple -/
def iEnumA (K : PySem.W.Frag) (ta : TA) : TI := fun σ H R => ta σ H fun vs H1 => ∃ a xs, vs = [.ref a] ∧ ((SqL K H1 a xs ∧ R (Ite K a) H1) ∨ (SqT K H1 a xs ∧ R (Itet K a) H1))
theorem pi_enumA {X : Cx} {e : Expr} {ta : TA} {p pos tpos : Pos} {elts : List Expr} {kk : Nat} (hg : Gl X "enumerate") (hm : X.mg "enumerate" = none) (ha : PA X [e] ta) (hs : starEach [e] X.env = [(false, eval e X.env)] := by rfl) :
    PI X (.Tuple elts kk tpos) (.Call (.Name "enumerate" p) [e] [] pos) (iEnumA X.K ta) := by
  refine ⟨fun pins s σ H R I h => ?_⟩
  refine Call_ (ld_blt I hg hm boot_enumerate (PyProof.Rows.callWith_type1 (thn (ha.run pos pins s σ H _ I h) fun us s1 ⟨vs, H1, I1, r1, q1⟩ => ?_) hs rfl))
  obtain ⟨a, xs, ex, q⟩ := q1
  subst ex
  cases r1 with
  | cons r rr =>
    cases rr
    cases r
    have fp : ∀ b ∈ [s1.heap.objs.size + 1, s1.heap.objs.size], FpOk X pins H1 b := fun b hb => by
      have hle : s1.heap.objs.size ≤ b := by
        rcases List.mem_cons.mp hb with rfl | hb
        · exact Nat.le_add_right _ _
        · exact Nat.le_of_eq (List.mem_singleton.mp hb).symm
      exact I1.fpOk hle (I1.hok.fresh hle)
    rcases q with ⟨hq, q⟩ | ⟨hq, q⟩
    · obtain ⟨its, rv, p', hz⟩ := I1.list hq
      refine call_enumerate_list p'.isList fun h' he hit hsz hk => wpAny_pyIter_enum he ?_
      exact ⟨s1.heap.objs.size + 1, _, _, _, H1, rfl, I1.kept (t' := s1.toks) hk, turn_enum a (s1.heap.objs.size + 1) s1.heap.objs.size, ⟨⟨.none, he⟩, hit, Nat.succ_ne_self _⟩, fp, q⟩
    · obtain ⟨its, rv, p', hz⟩ := I1.tuple hq
      refine LayE.call_enum_tup (show s1.heap.IsTuple a its.toArray from p') fun h' he hit hk => wpAny_pyIter_enum he ?_
      exact ⟨s1.heap.objs.size + 1, _, _, _, H1, rfl, I1.kept (t' := s1.toks) hk, turn_enumT a (s1.heap.objs.size + 1) s1.heap.objs.size, ⟨⟨.none, he⟩, hit, Nat.succ_ne_self _⟩, fp, q⟩
theorem walk_enumT {K : PySem.W.Frag} {a : Addr} {xs : List V} : Walk (Itet K a) xs.length (fun H => SqT K H a xs) (YPair (fun i => some (.int (i : Nat))) (fun i => xs[i]?)) := by
  refine ⟨fun i _ hi q => ⟨xs, xs[i], q, by simp [hi]⟩, fun _ q => ⟨xs, q, Nat.le_refl _⟩, fun i H v H' _ q y => ?_⟩
  obtain ⟨T, x, h1, h2, h3, h4⟩ := y
  exact ⟨T, _, x, h1, h2, h3, rfl, h4 xs q⟩
/-- a list, a tuple or a text walked -/
def iSeq (K : PySem.W.Frag) (te : TE) : TI := fun σ H R => te σ H fun x H1 => (∃ a xs, x = .ref a ∧ SqL K H1 a xs ∧ R (Itl K a) H1) ∨ (∃ a xs, x = .ref a ∧ SqT K H1 a xs ∧ R (Itt K a) H1) ∨ ∃ z, x = .str z ∧ R (Its z) H1
theorem pi_seq {X : Cx} {tg e : Expr} {te : TE} (he : PE X e te) : PI X tg e (iSeq X.K te) := by
  refine ⟨fun pins s σ H R I h => ?_⟩
  refine thn (he.run pins s σ H _ I h) fun v s1 hh => ?_
  obtain ⟨x, H1, I1, r1, q1⟩ := hh
  have fp : ∀ b ∈ [s1.heap.objs.size], FpOk X pins H1 b := fun b hb => by
    obtain rfl := List.mem_singleton.mp hb
    exact I1.fpOk (Nat.le_refl _) (I1.hok.fresh (Nat.le_refl _))
  rcases q1 with ⟨a, xs, rfl, hq, q⟩ | ⟨a, xs, rfl, hq, q⟩ | ⟨z, rfl, q⟩
  · cases r1
    obtain ⟨its, rv, p, _⟩ := I1.list hq
    exact wpAny_pyIter_list p.isList ⟨_, _, _, _, H1, rfl, I1.kept (t' := s1.toks) fun b o e => Heap.get?_push_of_some _ e, turn_list a _, ⟨_, Heap.get?_push_size _ rfl, rfl, rfl⟩, fp, q⟩
  · cases r1
    obtain ⟨its, rv, p, _⟩ := I1.tuple hq
    exact wpAny_pyIter_tuple (show s1.heap.IsTuple a its.toArray from p) ⟨_, _, _, _, H1, rfl, I1.kept (t' := s1.toks) fun b o e => Heap.get?_push_of_some _ e, turn_tuple a _, ⟨_, Heap.get?_push_size _ rfl, rfl, rfl⟩, fp, q⟩
  · obtain ⟨t, rfl⟩ := r1
    by_cases ha : z.cps.all (· < 128) = true
    · exact wpAny_pyIter_ascii ha (pi_one (tk := s1.toks) I1 _ (turn_str _ z t "str_ascii_iterator" (.inl rfl)) ⟨_, Heap.get?_push_size _ rfl, rfl, rfl⟩ q)
    · exact wpAny_pyIter_wide (by simpa using ha) (pi_one (tk := s1.toks) I1 _ (turn_str _ z t "str_iterator" (.inr rfl)) ⟨_, Heap.get?_push_size _ rfl, rfl, rfl⟩ q)
end Lay

set_option Elab.async false
set_option linter.all false
set_option maxRecDepth 100000
set_option maxHeartbeats 4000000
namespace Lay
open PySem PySem.Spec PyProof.Rows L2
/-! ### type(x) == T -/
/-! ### a class of the text beside a built-in type -/
theorem eq_cls {prog : Program} {w : World} {A : Around} {E : Value → Shared → Prop} {s : Shared} {C : Addr} {T : String} {o : Obj} {Q : Value → Shared → Prop} (hu : A.units < cLine) (hC : s.heap.get? C = some o) (hc : o.cls = .type "type")
    (hT : ∀ s' : Shared, s'.TypeIs (.type T) "type") (q : Q (.bool false) s) : wpAny (model prog w) A (compareOp .Eq (.ref C) (.type T)) Q E s := by
  have ha : s.TypeIs (.ref C) "type" := ⟨o, hC, hc⟩
  have hne : (Value.ref C == Value.type T) = false := rfl
  have hne' : (Value.type T == Value.ref C) = false := rfl
  have one : wpAny (model prog w) A (tryCompare (.ref C) "__eq__" (.type T)) (fun r s' => r = none ∧ s' = s) E s :=
    wpAny_tryCompare_declines ha TypeEq.slot_type_eq (call_gives TypeEq.slot_type_eq ha F.entry_object_eq (F.args_object_eq_2 _ _) (TypeEq.object_eq_other rfl hne) ⟨rfl, rfl, rfl⟩)
  have two : wpAny (model prog w) A (tryCompare (.type T) "__eq__" (.ref C)) (fun r s' => r = none ∧ s' = s) E s :=
    wpAny_tryCompare_declines (hT s) TypeEq.slot_type_eq_refl (call_gives TypeEq.slot_type_eq_refl (hT s) F.entry_object_eq (F.args_object_eq_2 _ _) (TypeEq.object_eq_other rfl hne') ⟨rfl, rfl, rfl⟩)
  show wpAny _ A (richCompare .Eq _ _) Q E s
  simp only [richCompare, cmpInfo_Eq, oneThing_ref]
  refine wpAny_holding (wpAny_bind (wpAny_cRoomFor hu ?_))
  refine wpAny_bind (wpAny_typeOf ha ?_)
  refine wpAny_bind (wpAny_typeOf (hT s) ?_)
  simp only [bne_self_eq_false, Bool.false_eq_true, if_false, pure_bind, Bool.not_false, if_true]
  refine wpAny_bind (m := tryCompare (.ref C) _ (.type T)) (wpAny_mono one (fun r s1 z => ?_) fun _ _ e => e)
  obtain ⟨z1, z2⟩ := z
  subst z1
  subst z2
  refine wpAny_bind (m := tryCompare (.type T) _ (.ref C)) (wpAny_mono two (fun r s2 z => ?_) fun _ _ e => e)
  obtain ⟨z1, z2⟩ := z
  subst z1
  subst z2
  exact wpAny_bind (wpAny_rule (wpAny_bind (wpAny_of_eq (PySem.isSame_plain rfl) (wpAny_pure q))))
/-- a class of the text whose objects are no text, no tuple, no truth value -/
structure OwnC (K : PySem.W.Frag) (C : Addr) : Prop where
  cls : Cls K C
  cl : PySem.W.findIn K (.ref C) "__class__" = some (some (.builtin "object.__class__"))
  gt : PySem.W.specialIn K (.builtin "object.__class__") "__get__" = some (some (.builtin "getset_descriptor.__get__"))
  tk : PySem.W.takesIn K (.builtin "object.__class__") = some true
  ob : PySem.W.mroIn K C (.type "object") = some true
  ty : ∃ o : Obj, K.lookup C = some o ∧ o.cls = .type "type"
  ks : PySem.W.kitOne K (.ref C) (.type "str") = some false
  kt : PySem.W.kitOne K (.ref C) (.type "tuple") = some false
  kb : PySem.W.kitOne K (.ref C) (.type "bool") = some false

/-- a value's built-in type -/
inductive Tyb (K : PySem.W.Frag) (H : Hp) : V → String → Prop
  | non : Tyb K H .non "NoneType"
  | bl (b : Bool) : Tyb K H (.bl b) "bool"
  | int (i : Int) : Tyb K H (.int i) "int"
  | str (x : Str) : Tyb K H (.str x) "str"
  | lst {a : Addr} {xs : List V} (e : SqL K H a xs) : Tyb K H (.ref a) "list"
  | tup {a : Addr} {xs : List V} (e : SqT K H a xs) : Tyb K H (.ref a) "tuple"
  | dic {a : Addr} {kvs : List (Key × V)} (e : H a = some (.dK kvs)) : Tyb K H (.ref a) "dict"
  | own {a C dx : Addr} {fs : List (Str × V)} (e : H a = some (.ins C dx fs)) (c : OwnC K C) : Tyb K H (.ref a) "?own"
theorem Tyb.is {X : Cx} {pins : List (Addr × Obj)} {σ : L2.St} {H : Hp} {s : Shared} {x : V} {u : Value} {T : String} (t : Tyb X.K H x T) (I : Inv X pins σ H s) (r : RelV x u) (hT : T ≠ "?own") :
    s.TypeIs u T ∧ (Value.type T == Value.type "builtin_function_or_method") = false := by
  cases t with
  | non =>
    cases r
    exact ⟨rfl, by decide +kernel⟩
  | bl b =>
    cases r
    exact ⟨rfl, by decide +kernel⟩
  | int i =>
    obtain ⟨k, rfl⟩ := r
    exact ⟨rfl, by decide +kernel⟩
  | str z =>
    obtain ⟨k, rfl⟩ := r
    exact ⟨rfl, by decide +kernel⟩
  | lst e =>
    cases r
    obtain ⟨_, _, p, _⟩ := I.list e
    exact ⟨p.isList.typeIs, by decide +kernel⟩
  | tup e =>
    cases r
    obtain ⟨_, _, p, _⟩ := I.tuple e
    exact ⟨p.typeIs, by decide +kernel⟩
  | dic e =>
    cases r
    obtain ⟨_, _, vs, _, d⟩ := I.hok _ _ e
    exact ⟨d.typeIs, by decide +kernel⟩
  | own e c => exact absurd rfl hT
theorem Tyb.kx {K : PySem.W.Frag} {H : Hp} {x : V} {T : String} (t : Tyb K H x T) (hT : T ≠ "?own") : TyX K H x (.type T) := by
  cases t with
  | non => exact .base .non
  | bl b => exact .base (.bl b)
  | int i => exact .base (.int i)
  | str z => exact .base (.str z)
  | lst e =>
    rcases e with (e | ⟨o, e⟩) | ⟨o, its, n, h1, h2, _⟩
    · exact .base (.lst e)
    · exact .base (.frz e)
    · exact .kList h1 h2
  | tup e =>
    rcases e with (e | ⟨o, e⟩) | ⟨o, its, n, h1, h2, _⟩
    · exact .base (.tup e)
    · exact .fTuple e
    · exact .kTuple h1 h2
  | dic e => exact .base (.dK e)
  | own e c => exact absurd rfl hT
/-- what type(x) gives -/
def TyV (K : PySem.W.Frag) (v : V) (T : String) : Prop := (v = .ty T ∧ ∀ s' : Shared, s'.TypeIs (.type T) "type") ∨ (T = "?own" ∧ ∃ (C : Addr) (o : Obj), v = .ref C ∧ K.lookup C = some o ∧ o.cls = .type "type")
section
variable {P : Program} {w : World} {K : PySem.W.Frag} {H : Hp} {Q : VK} {x : V} {T U : String}
/-- a type whose own type is `type` -/
def Meta (T : String) : Prop := ∀ s' : Shared, s'.TypeIs (.type T) "type"
theorem meta_of {T : String} (t : Tyb K H x T) (hT : T ≠ "?own") : Meta T := by
  cases t with
  | non => exact TypeEq.meta_NoneType
  | bl b => exact TypeEq.meta_bool
  | int i => exact TypeEq.meta_int
  | str z => exact TypeEq.meta_str
  | lst e => exact TypeEq.meta_list
  | tup e => exact TypeEq.meta_tuple
  | dic e => exact TypeEq.meta_dict
  | own e c => exact absurd rfl hT
theorem k_type (t : Tyb K H x T) (q : ∀ v, TyV K v T → Q v H) : sC P w K (.type "type") [x] H Q := by
  by_cases hT : T = "?own"
  · subst hT
    have : ∃ (a C dx : Addr) (fs : List (Str × V)), x = .ref a ∧ H a = some (.ins C dx fs) ∧ OwnC K C := by
      generalize hU : "?own" = U at t
      cases t with
      | own e c => exact ⟨_, _, _, _, rfl, e, c⟩
      | _ => exact absurd hU (by decide)
    obtain ⟨a, C, dx, fs, rfl, e, c⟩ := this
    obtain ⟨o, o1, o2⟩ := c.ty
    have q2 := q (.ref C) (.inr ⟨rfl, C, o, rfl, o1, o2⟩)
    refine ⟨fun xs H Q => ∃ (a C dx : Addr) (fs : List (Str × V)), xs = [.ref a] ∧ H a = some (.ins C dx fs) ∧ Q (.ref C) H, fun X L => ?_, a, C, dx, fs, rfl, e, q2⟩
    intro pins s σ H xs us Q I r h
    obtain ⟨a, C, dx, fs, rfl, e, q⟩ := h
    obtain ⟨u, rfl, rx⟩ := vals1 r
    obtain rfl : u = Value.ref a := rx
    obtain ⟨_, _, _, ho, _⟩ := I.hok _ _ e
    obtain ⟨hh, g, d, t, os⟩ := s
    exact call_type_obj ho rfl ⟨.ref C, H, I, rfl, q⟩
  · refine ⟨fun xs H Q => ∃ x T, xs = [x] ∧ Tyb K H x T ∧ T ≠ "?own" ∧ Q (.ty T) H, fun X L => ?_, x, T, rfl, t, hT, q _ (.inl ⟨rfl, meta_of t hT⟩)⟩
    intro pins s σ H xs us Q I r h
    obtain ⟨x, T, rfl, t, hT, q⟩ := h
    obtain ⟨u, rfl, rx⟩ := vals1 r
    obtain ⟨h1, h2⟩ := (L.K ▸ t : Tyb X.K H x T).is I rx hT
    exact call_type_of h1 h2 ⟨.ty T, H, I, rfl, q⟩
theorem c_eqty {v : V} (h1 : TyV K v T) (h2 : Meta U) (hU : (U == "?own") = false) (q : Q (.bl (T == U)) H) : sB P w K (compareOp .Eq) v (.ty U) H Q := by
  rcases h1 with ⟨rfl, h1⟩ | ⟨rfl, C, o, rfl, hC, hc⟩
  · refine ⟨fun x y H Q => ∃ T U, x = .ty T ∧ y = .ty U ∧ Meta T ∧ Meta U ∧ Q (.bl (T == U)) H, fun X L => ?_, T, U, rfl, rfl, h1, h2, q⟩
    intro pins s σ H x y v u Q I rx ry h
    obtain ⟨T, U, rfl, rfl, h1, h2, q⟩ := h
    obtain rfl : v = Value.type T := rx
    obtain rfl : u = Value.type U := ry
    by_cases e : T = U
    · subst e
      refine TypeEq.eq_type_same h1 ⟨.bl true, H, I, rfl, ?_⟩
      rw [beq_self_eq_true] at q
      exact q
    · refine TypeEq.eq_type_other h1 h2 (beq_eq_false_iff_ne.mpr fun z => e (Value.type.inj z)) ⟨.bl false, H, I, rfl, ?_⟩
      rw [beq_eq_false_iff_ne.mpr e] at q
      exact q
  · have e : ("?own" == U) = false := beq_eq_false_iff_ne.mpr fun z => (beq_eq_false_iff_ne.mp hU) z.symm
    rw [e] at q
    refine ⟨fun x y H Q => ∃ C o U, x = .ref C ∧ y = .ty U ∧ K.lookup C = some o ∧ o.cls = .type "type" ∧ Meta U ∧ Q (.bl false) H, fun X L => ?_, C, o, U, rfl, rfl, hC, hc, h2, q⟩
    intro pins s σ H x y v u Q I rx ry h
    obtain ⟨C, o, U, rfl, rfl, hC, hc, h2, q⟩ := h
    obtain rfl : v = Value.ref C := rx
    obtain rfl : u = Value.type U := ry
    have := L.un
    exact eq_cls (by omega) (I.kIn _ _ (L.K ▸ hC)) hc h2 ⟨.bl false, H, I, rfl, q⟩
end
/-! ### text * number -/
theorem foldl_app (l : List Nat) : ∀ (n : Nat) (acc : Array Nat), ((List.replicate n l.toArray).foldl (· ++ ·) acc) = acc ++ (List.replicate n l).flatten.toArray
  | 0, acc => by simp
  | n + 1, acc => by
    rw [List.replicate_succ, List.replicate_succ, List.foldl_cons, foldl_app l n]
    simp [Array.append_assoc]
/-- z, n times -/
def repS (z : Str) (n : Nat) : Str := ⟨(List.replicate n z.cps.toList).flatten.toArray⟩
theorem repS_length (z : Str) (n : Nat) : (repS z n).length = n * z.length := by
  unfold repS Str.length
  simp
section
variable {P : Program} {w : World} {K : PySem.W.Frag} {H : Hp} {Q : VK}
theorem b_mulS {z : Str} {n : Int} (hn : n < 1000000) (hz : z.length ≤ 1000) (hl : -1000000 < n) (hm : z.length * n.toNat ≤ sizeLine) (q : Q (.str (repS z n.toNat)) H) : sB P w K (binaryOp .Mult) (.str z) (.int n) H Q := by
  refine ⟨fun x y H Q => ∃ (z : Str) (n : Int), x = .str z ∧ y = .int n ∧ n < 1000000 ∧ z.length ≤ 1000 ∧ -1000000 < n ∧ z.length * n.toNat ≤ sizeLine ∧ Q (.str (repS z n.toNat)) H, fun X L => ?_, z, n, rfl, rfl, hn, hz, hl, hm, q⟩
  intro pins s σ H x y v u Q I rx ry h
  obtain ⟨z, n, rfl, rfl, hn, hz, hl, hm, q⟩ := h
  obtain ⟨t, rfl⟩ := rx
  obtain ⟨t', rfl⟩ := ry
  have e0 : n < 1 → repS z n.toNat = Str.empty := fun h => by
    have : n.toNat = 0 := by omega
    rw [this]
    rfl
  refine PySem.P.mul_str ?_ ?_ ?_ ?_
  · rw [decide_eq_false (by omega), decide_eq_false (by omega)]
    rfl
  · intro h1 _ h2
    have h3 : (1000 : Int) ≤ (2 ^ 63 - 1) / n := Int.le_ediv_of_mul_le (by omega) (by omega)
    omega
  · intro _ _
    show decide (z.length * n.toNat > sizeLine) = false
    exact decide_eq_false (by omega)
  · by_cases h1 : n < 1
    · rw [if_pos h1]
      rw [e0 h1] at q
      exact ⟨by decide, .str Str.empty, H, I.tok _, ⟨_, rfl⟩, q⟩
    · rw [if_neg h1]
      by_cases h2 : (n == 1 || z.length == 0) = true
      · rw [if_pos h2]
        have e : repS z n.toNat = z := by
          have hz0 : z.length = 0 → repS z n.toNat = z := fun h => by
            have h3 : z.cps.toList = [] := by
              have : z.cps.toList.length = 0 := by simpa [Str.length] using h
              exact List.length_eq_zero_iff.mp this
            have h4 : z = ⟨#[]⟩ := by
              cases z with
              | mk c =>
                have : c = #[] := by simpa using h3
                rw [this]
            rw [h4]
            unfold repS
            simp
          rw [Bool.or_eq_true] at h2
          rcases h2 with h2 | h2
          · have : n = 1 := by simpa using h2
            subst this
            unfold repS
            simp
          · exact hz0 (by simpa using h2)
        rw [e] at q
        exact ⟨.str z, H, I, ⟨_, rfl⟩, q⟩
      · rw [if_neg h2]
        have e : (⟨(List.replicate n.toNat z.cps).foldl (· ++ ·) #[]⟩ : Str) = repS z n.toNat := by
          unfold repS
          have := foldl_app z.cps.toList n.toNat #[]
          simp only [Array.toArray_toList] at this
          rw [this]
          simp
        rw [e]
        refine ⟨?_, .str (repS z n.toNat), H, I.tok _, ⟨_, rfl⟩, q⟩
        rw [repS_length]
        rw [Nat.mul_comm] at hm
        exact hm
end
/-! ### calls with keywords alone, defaults -/
/-- n values by place, keywords ks: the parameters get gV of both -/
def FnGK (P : Program) (w : World) (K : PySem.W.Frag) (mg : Str → Option Value) (base : Heap) (k : Nat) (x : Str) (n : Nat) (ks : List Str) (gV : List V → List V → List V) (sp : Sp) : Prop :=
  ∃ a fd ps g, mg x = some (.ref a) ∧ PySem.W.keepIn K (.ref a) = true ∧ KBn K fd ps n ks g gV ∧ FnOk P w K mg base CX0 k a fd ps sp
/-- values by place, the defaults dvs behind -/
def FnGD (P : Program) (w : World) (K : PySem.W.Frag) (mg : Str → Option Value) (base : Heap) (k : Nat) (x : Str) (dvs : List V) (sp : Sp) : Prop :=
  ∃ a fd ps ds, mg x = some (.ref a) ∧ PySem.W.keepIn K (.ref a) = true ∧ Vals dvs ds ∧ Binds K fd ps ds ∧ FnOk P w K mg base CX0 k a fd ps sp
section
variable {X : Cx} {k n : Nat} {x : Str} {ks : List Str} {gV : List V → List V → List V} {dvs : List V} {sp : Sp} {p pos : Pos} {e : Expr} {es : List Expr} {kws : List Keyword} {t tk : TA}
theorem pe_callKw0 (F : FnGK X.prog X.w X.K X.mg X.base k x 0 ks gV sp) (hr : Room k X.A) (hg : Gl X x) (hkw : PK X kws tk) (hall : (backToKw pos (keywordEach kws X.env)).all (·.1.isSome) = true := by rfl)
    (hks : (backToKw pos (keywordEach kws X.env)).filterMap (·.1) = ks := by rfl) (hdb : (x == ("__debug__" : Str)) = false := by decide)
    (hpl : ((backTo pos (starEach [] X.env)).any (·.1) || (backToKw pos (keywordEach kws X.env)).any (·.1.isNone)) = false := by rfl) :
    PE X (.Call (.Name x p) [] kws pos) (tCallN 0 ks.length sp gV E0 tNil tk) := by
  obtain ⟨a, fd, ps, g, h1, h2, h3, h4⟩ := F
  refine ⟨fun pins s σ H Q I h => ?_⟩
  refine wpAny_Call_Name_kw (ld_glob I hg h1 ?_ hdb)
  refine PySem.W.callWith_KW0 (h₀ := X.base) I.ok.mod.kin h2 hall (thn (hkw.run pos pins s σ H _ I h) fun ws s2 hh => ?_) hpl
  obtain ⟨zs, H2, I2, rz, _, l2, q⟩ := hh
  refine ⟨I2.kIn, ?_⟩
  rw [hks]
  exact run_fnN (us := []) h4 hr h3 pass0 I2 .nil rz rfl l2 q
theorem pe_callKw (F : FnGK X.prog X.w X.K X.mg X.base k x n ks gV sp) (hr : Room k X.A) (hg : Gl X x) (ha : PA X (e :: es) t) (hkw : PK X kws tk) (hall : (backToKw pos (keywordEach kws X.env)).all (·.1.isSome) = true := by rfl)
    (hks : (backToKw pos (keywordEach kws X.env)).filterMap (·.1) = ks := by rfl) (hdb : (x == ("__debug__" : Str)) = false := by decide) (he : starEach (e :: es) X.env = (false, eval e X.env) :: starEach es X.env := by rfl)
    (hpl : ((backTo pos (starEach (e :: es) X.env)).any (·.1) || (backToKw pos (keywordEach kws X.env)).any (·.1.isNone)) = false := by rfl) :
    PE X (.Call (.Name x p) (e :: es) kws pos) (tCallN n ks.length sp gV E0 t tk) := by
  obtain ⟨a, fd, ps, g, h1, h2, h3, h4⟩ := F
  exact pe_callN h4 hr hg h1 h2 h3 pass0 ha hkw hall hks hdb he hpl
theorem pe_callD (F : FnGD X.prog X.w X.K X.mg X.base k x dvs sp) (hr : Room k X.A) (hg : Gl X x) (ha : PA X (e :: es) t) (hdb : (x == ("__debug__" : Str)) = false := by decide)
    (he : starEach (e :: es) X.env = (false, eval e X.env) :: starEach es X.env := by rfl) (hpl : (backTo pos (starEach es X.env)).any (·.1) = false := by rfl) : PE X (.Call (.Name x p) (e :: es) [] pos) (tCall sp dvs E0 t) := by
  obtain ⟨a, fd, ps, ds, h1, h2, h3, h4, h5⟩ := F
  exact pe_call h5 hr hg h1 h2 h4 h3 pass0 ha hdb he hpl
/-! ### names of the module -/
/-- it holds this value -/
def Gv (mg : Str → Option Value) (x : Str) (v : V) : Prop := ∃ u, mg x = some u ∧ RelV v u
theorem pe_gv {v : V} (h : Gv X.mg x v) (hg : Gl X x) (hd : (x == ("__debug__" : Str)) = false := by decide) : PE X (.Name x pos) (tC v) := by
  obtain ⟨u, h1, h2⟩ := h
  exact pe_glob hg h1 h2 hd
/-- it holds a tuple of these -/
def Gt (K : PySem.W.Frag) (mg : Str → Option Value) (x : Str) (xs : List V) : Prop := ∃ a, mg x = some (.ref a) ∧ ∀ H, SqT K H a xs
def tGt (K : PySem.W.Frag) (xs : List V) : TE := fun _ H Q => ∀ a, (∀ H, SqT K H a xs) → Q (.ref a) H
theorem pe_gt {xs : List V} (h : Gt X.K X.mg x xs) (hg : Gl X x) (hd : (x == ("__debug__" : Str)) = false := by decide) : PE X (.Name x pos) (tGt X.K xs) := by
  obtain ⟨a, h1, h2⟩ := h
  refine ⟨fun pins s σ H Q I q => ?_⟩
  exact (pe_glob (v := .ref a) hg h1 rfl hd).run pins s σ H Q I (q a h2)
/-- it holds a dict with text keys -/
def KD (K : PySem.W.Frag) (w : World) (d : Addr) (kv : List (Str × V)) : Prop := ∃ es n, KDict K w d es n ∧ ∀ p ∈ kv, ∃ u, PySem.W.nsIn K d p.1 = some (some u) ∧ RelV p.2 u
def KDno (K : PySem.W.Frag) (d : Addr) (z : Str) : Prop := PySem.W.nsIn K d z = some none
def Gd (K : PySem.W.Frag) (w : World) (mg : Str → Option Value) (x : Str) (kv : List (Str × V)) (no : List Str) : Prop := ∃ d, mg x = some (.ref d) ∧ KD K w d kv ∧ ∀ z ∈ no, KDno K d z
def tGd (K : PySem.W.Frag) (w : World) (kv : List (Str × V)) (no : List Str) : TE := fun _ H Q => ∀ d, KD K w d kv → (∀ z ∈ no, KDno K d z) → Q (.ref d) H
theorem pe_gd {kv : List (Str × V)} {no : List Str} (h : Gd X.K X.w X.mg x kv no) (hg : Gl X x) (hd : (x == ("__debug__" : Str)) = false := by decide) : PE X (.Name x pos) (tGd X.K X.w kv no) := by
  obtain ⟨d, h1, h2, h3⟩ := h
  refine ⟨fun pins s σ H Q I q => ?_⟩
  exact (pe_glob (v := .ref d) hg h1 rfl hd).run pins s σ H Q I (q d h2 h3)
end
section
variable {P : Program} {w : World} {K : PySem.W.Frag} {H : Hp} {Q : VK} {d : Addr} {kv : List (Str × V)} {z : Str} {v : V}
def rInD (K : PySem.W.Frag) (d : Addr) (neg : Bool) : R2 := fun x y H Q => ∃ (z : Str) (r : Option Value), x = .str z ∧ y = .ref d ∧ PySem.W.nsIn K d z = some r ∧ Q (.bl (if neg then !r.isSome else r.isSome)) H
theorem c_inkd (h : KD K w d kv) (m : (z, v) ∈ kv) (q : Q (.bl true) H) : sB P w K (compareOp .In) (.str z) (.ref d) H Q := by
  obtain ⟨es, n, D, f⟩ := h
  obtain ⟨u, e, _⟩ := f _ m
  refine ⟨rInD K d false, fun X L => ?_, z, some u, rfl, rfl, e, q⟩
  obtain ⟨rfl, rfl, rfl, _, _⟩ := L
  exact op_in_kd D
theorem c_notinkd (h : KD K w d kv) (m : (z, v) ∈ kv) (q : Q (.bl false) H) : sB P w K (compareOp .NotIn) (.str z) (.ref d) H Q := by
  obtain ⟨es, n, D, f⟩ := h
  obtain ⟨u, e, _⟩ := f _ m
  refine ⟨rInD K d true, fun X L => ?_, z, some u, rfl, rfl, e, q⟩
  obtain ⟨rfl, rfl, rfl, _, _⟩ := L
  exact op_notIn_kd D
theorem c_inkdF (h : KD K w d kv) (m : KDno K d z) (q : Q (.bl false) H) : sB P w K (compareOp .In) (.str z) (.ref d) H Q := by
  obtain ⟨es, n, D, f⟩ := h
  refine ⟨rInD K d false, fun X L => ?_, z, none, rfl, rfl, m, q⟩
  obtain ⟨rfl, rfl, rfl, _, _⟩ := L
  exact op_in_kd D
theorem c_notinkdT (h : KD K w d kv) (m : KDno K d z) (q : Q (.bl true) H) : sB P w K (compareOp .NotIn) (.str z) (.ref d) H Q := by
  obtain ⟨es, n, D, f⟩ := h
  refine ⟨rInD K d true, fun X L => ?_, z, none, rfl, rfl, m, q⟩
  obtain ⟨rfl, rfl, rfl, _, _⟩ := L
  exact op_notIn_kd D
theorem i_kd (h : KD K w d kv) (m : (z, v) ∈ kv) (q : Q v H) : sI P w K (.ref d) (.str z) H Q := by
  obtain ⟨es, n, D, f⟩ := h
  obtain ⟨u, e, r⟩ := f _ m
  refine ⟨rIxD K w, fun X L => ?_, d, z, v, rfl, rfl, ⟨es, n, u, D.at_, D.lit, e, r⟩, q⟩
  obtain ⟨rfl, rfl, rfl, _, _⟩ := L
  exact ix_kdict
end
end Lay

set_option Elab.async false
set_option linter.all false
set_option maxRecDepth 100000
set_option maxHeartbeats 4000000
namespace Lay
open PySem PySem.Spec PyProof.Rows L2
/-! ### built-ins by their names -/
theorem bt_len : bootBuiltins "len" = some (.builtin "len") := by decide +kernel
theorem bt_all : bootBuiltins "all" = some (.builtin "all") := by decide +kernel
theorem bt_any : bootBuiltins "any" = some (.builtin "any") := by decide +kernel
theorem bt_isinstance : bootBuiltins "isinstance" = some (.builtin "isinstance") := by decide +kernel
theorem bt_max : bootBuiltins "max" = some (.builtin "max") := by decide +kernel
theorem bt_min : bootBuiltins "min" = some (.builtin "min") := by decide +kernel
theorem bt_repr : bootBuiltins "repr" = some (.builtin "repr") := by decide +kernel
theorem bt_sorted : bootBuiltins "sorted" = some (.builtin "sorted") := by decide +kernel
theorem bt_sum : bootBuiltins "sum" = some (.builtin "sum") := by decide +kernel
theorem bt_str : bootBuiltins "str" = some (.type "str") := by decide +kernel
theorem bt_tuple : bootBuiltins "tuple" = some (.type "tuple") := by decide +kernel
theorem bt_list : bootBuiltins "list" = some (.type "list") := by decide +kernel
theorem bt_int : bootBuiltins "int" = some (.type "int") := by decide +kernel
theorem bt_bool : bootBuiltins "bool" = some (.type "bool") := by decide +kernel
theorem bt_dict : bootBuiltins "dict" = some (.type "dict") := by decide +kernel
theorem bt_type : bootBuiltins "type" = some (.type "type") := by decide +kernel
/-- the module has no names of its own for these -/
structure Md (mg : Str → Option Value) : Prop where
  len_ : mg "len" = none
  all_ : mg "all" = none
  any_ : mg "any" = none
  isinstance_ : mg "isinstance" = none
  max_ : mg "max" = none
  min_ : mg "min" = none
  repr_ : mg "repr" = none
  sorted_ : mg "sorted" = none
  sum_ : mg "sum" = none
  str_ : mg "str" = none
  tuple_ : mg "tuple" = none
  list_ : mg "list" = none
  int_ : mg "int" = none
  bool_ : mg "bool" = none
  dict_ : mg "dict" = none
  type_ : mg "type" = none
  range_ : mg "range" = none
  enumerate_ : mg "enumerate" = none
  zip_ : mg "zip" = none
structure MdK (K : PySem.W.Frag) : Prop where
  len_ : PySem.W.nsIn K mainGlobals "len" = some none
  all_ : PySem.W.nsIn K mainGlobals "all" = some none
  any_ : PySem.W.nsIn K mainGlobals "any" = some none
  isinstance_ : PySem.W.nsIn K mainGlobals "isinstance" = some none
  max_ : PySem.W.nsIn K mainGlobals "max" = some none
  min_ : PySem.W.nsIn K mainGlobals "min" = some none
  repr_ : PySem.W.nsIn K mainGlobals "repr" = some none
  sorted_ : PySem.W.nsIn K mainGlobals "sorted" = some none
  sum_ : PySem.W.nsIn K mainGlobals "sum" = some none
  str_ : PySem.W.nsIn K mainGlobals "str" = some none
  tuple_ : PySem.W.nsIn K mainGlobals "tuple" = some none
  list_ : PySem.W.nsIn K mainGlobals "list" = some none
  int_ : PySem.W.nsIn K mainGlobals "int" = some none
  bool_ : PySem.W.nsIn K mainGlobals "bool" = some none
  dict_ : PySem.W.nsIn K mainGlobals "dict" = some none
  type_ : PySem.W.nsIn K mainGlobals "type" = some none
  range_ : PySem.W.nsIn K mainGlobals "range" = some none
  enumerate_ : PySem.W.nsIn K mainGlobals "enumerate" = some none
  zip_ : PySem.W.nsIn K mainGlobals "zip" = some none
section
variable {K : PySem.W.Frag} {mg : Str → Option Value} {h : Heap}
theorem MdK.md (t : MdK K) (X : K.In h) (G : h.Ns mainGlobals mg) : Md mg := by
  obtain ⟨a1, a2, a3, a4, a5, a6, a7, a8, a9, a10, a11, a12, a13, a14, a15, a16, a17, a18, a19⟩ := t
  have f : ∀ {x : Str}, PySem.W.nsIn K mainGlobals x = some none → mg x = none := fun {x} q => PySem.W.mg_none_of X G q
  exact ⟨f a1, f a2, f a3, f a4, f a5, f a6, f a7, f a8, f a9, f a10, f a11, f a12, f a13, f a14, f a15, f a16, f a17, f a18, f a19⟩
/-! ### a def as the top leaves it -/
def FnK (K : PySem.W.Frag) (x : Str) (st : Stmt) : Prop := ∃ (f : Addr) (oc : Value) (od : Option Addr) (kV doc pm : Value) (an : Option Addr) (cd ct : Value) (sl : Array (Option Value)),
  PySem.W.nsIn K mainGlobals x = some (some (.ref f)) ∧ K.lookup f = some ⟨oc, od, .func (PySem.W.fnOf x x (defArgs st) (defBody st) (defScope st) .none kV doc pm an cd ct), sl⟩ ∧ PySem.W.codeIn K cd x = true ∧ PySem.W.keepIn K (.ref f) = true
theorem FnK.mk {x : Str} {st : Stmt} {f : Addr} {oc : Value} {od : Option Addr} {kV doc pm : Value} {an : Option Addr} {cd ct : Value} {sl : Array (Option Value)} (h1 : PySem.W.nsIn K mainGlobals x = some (some (.ref f)))
    (h2 : K.lookup f = some ⟨oc, od, .func (PySem.W.fnOf x x (defArgs st) (defBody st) (defScope st) .none kV doc pm an cd ct), sl⟩) (h3 : PySem.W.codeIn K cd x = true) (h4 : PySem.W.keepIn K (.ref f) = true) : FnK K x st :=
  ⟨f, oc, od, kV, doc, pm, an, cd, ct, sl, h1, h2, h3, h4⟩
theorem FnK.fn0 {x : Str} {st : Stmt} {ps : List Str} (t : FnK K x st) (X : K.In h) (G : h.Ns mainGlobals mg)
    (hb : ∀ (kV doc pm : Value) (an : Option Addr) (cdv ct : Value) (us : List Value), us.length = ps.length → bindArgs (PySem.W.fnOf x x (defArgs st) (defBody st) (defScope st) .none kV doc pm an cdv ct) ⟨us, []⟩ = pure (ps.zip us)) : Fn0 K mg x st ps := by
  obtain ⟨f, oc, od, kV, doc, pm, an, cd, ct, sl, h1, h2, h3, h4⟩ := t
  have F := fun_mk h2 h3 h4
  exact ⟨f, _, F, PySem.W.mg_of X G h1, F.binds hb⟩
/-- a constant of the module -/
def GvK (K : PySem.W.Frag) (x : Str) (v : V) : Prop := ∃ u, PySem.W.nsIn K mainGlobals x = some (some u) ∧ RelV v u
theorem GvK.mk {x : Str} {v : V} {u : Value} (h1 : PySem.W.nsIn K mainGlobals x = some (some u)) (h2 : RelV v u) : GvK K x v := ⟨u, h1, h2⟩
theorem GvK.gv {x : Str} {v : V} (t : GvK K x v) (X : K.In h) (G : h.Ns mainGlobals mg) : Gv mg x v := by
  obtain ⟨u, h1, h2⟩ := t
  exact ⟨u, PySem.W.mg_of X G h1, h2⟩
/-- a tuple of the module -/
def GtK (K : PySem.W.Frag) (x : Str) (xs : List V) : Prop := ∃ (a : Addr) (o : Obj) (its : Array Value) (n : Nat), PySem.W.nsIn K mainGlobals x = some (some (.ref a)) ∧ K.lookup a = some o ∧ o.cls = .type "tuple" ∧ o.data = .seq its n ∧ its.size ≤ sizeLine ∧ Vals xs its.toList
theorem GtK.mk {x : Str} {xs : List V} {a : Addr} {o : Obj} {its : Array Value} {n : Nat} (h1 : PySem.W.nsIn K mainGlobals x = some (some (.ref a))) (h2 : K.lookup a = some o) (h3 : o.cls = .type "tuple") (h4 : o.data = .seq its n) (h5 : its.size ≤ sizeLine) (h6 : Vals xs its.toList) : GtK K x xs :=
  ⟨a, o, its, n, h1, h2, h3, h4, h5, h6⟩
theorem GtK.gt {x : Str} {xs : List V} (t : GtK K x xs) (X : K.In h) (G : h.Ns mainGlobals mg) : Gt K mg x xs := by
  obtain ⟨a, o, its, n, h1, h2⟩ := t
  exact ⟨a, PySem.W.mg_of X G h1, fun H => .inr ⟨o, its, n, h2⟩⟩
def GdK (K : PySem.W.Frag) (w : World) (x : Str) (kv : List (Str × V)) (no : List Str) : Prop := ∃ d, PySem.W.nsIn K mainGlobals x = some (some (.ref d)) ∧ KD K w d kv ∧ ∀ z ∈ no, KDno K d z
theorem GdK.mk {w : World} {x : Str} {kv : List (Str × V)} {no : List Str} {d : Addr} {es : Array DictEntry} {n : Nat} (h1 : PySem.W.nsIn K mainGlobals x = some (some (.ref d))) (h2 : K.lookup d = some ⟨.type "dict", none, .dict es n, #[]⟩) (h3 : PySem.W.KeysLit w.params es.toList) (h4 : (d == sysModules) = false)
    (h5 : ∀ p ∈ kv, ∃ u, PySem.W.nsIn K d p.1 = some (some u) ∧ RelV p.2 u) (h6 : ∀ z ∈ no, PySem.W.nsIn K d z = some none) : GdK K w x kv no := ⟨d, h1, ⟨es, n, ⟨h2, h3, h4⟩, h5⟩, h6⟩
theorem kvs_nil {d : Addr} : ∀ p ∈ ([] : List (Str × V)), ∃ u, PySem.W.nsIn K d p.1 = some (some u) ∧ RelV p.2 u := fun _ h => nomatch h
theorem kvs_cons {d : Addr} {z : Str} {v : V} {u : Value} {kv : List (Str × V)} (h : PySem.W.nsIn K d z = some (some u)) (r : RelV v u) (t : ∀ p ∈ kv, ∃ u, PySem.W.nsIn K d p.1 = some (some u) ∧ RelV p.2 u) : ∀ p ∈ (z, v) :: kv, ∃ u, PySem.W.nsIn K d p.1 = some (some u) ∧ RelV p.2 u := fun p hp => by
  rcases List.mem_cons.mp hp with rfl | hp
  · exact ⟨u, h, r⟩
  · exact t p hp
theorem nos_nil {d : Addr} : ∀ z ∈ ([] : List Str), PySem.W.nsIn K d z = some none := fun _ h => nomatch h
theorem nos_cons {d : Addr} {z : Str} {no : List Str} (h : PySem.W.nsIn K d z = some none) (t : ∀ z ∈ no, PySem.W.nsIn K d z = some none) : ∀ y ∈ z :: no, PySem.W.nsIn K d y = some none := fun y hy => by
  rcases List.mem_cons.mp hy with rfl | hy
  · exact h
  · exact t y hy
theorem GdK.gd {w : World} {x : Str} {kv : List (Str × V)} {no : List Str} (t : GdK K w x kv no) (X : K.In h) (G : h.Ns mainGlobals mg) : Gd K w mg x kv no := by
  obtain ⟨d, h1, h2, h3⟩ := t
  exact ⟨d, PySem.W.mg_of X G h1, h2, h3⟩
/-- the law's own def -/
theorem law_end {P : Program} {w : World} {fa : Addr} {x y : Str} {st : Stmt} {k : Nat} {sp : Sp} (t : FnK K x st) (X : K.In h) (G : h.Ns mainGlobals mg) (hfa : mg x = some (.ref fa))
    (hb : ∀ (kV doc pm : Value) (an : Option Addr) (cdv ct : Value) (u : Value), bindArgs (PySem.W.fnOf x x (defArgs st) (defBody st) (defScope st) .none kV doc pm an cdv ct) ⟨[u], []⟩ = pure [(y, u)])
    (hok : ∀ (base : Heap) (mg : Str → Option Value) (fd : FuncData), K.In base → base.Ns mainGlobals mg → Fun K x x st fa fd → FnOk P w K mg base CX0 k fa fd [y] sp) :
    ∃ fd : FuncData, (∀ (s : Shared) (u : Value), BindsTo s fd ⟨[u], []⟩ [(y, u)]) ∧ ∀ base : Heap, K.In base → base.Ns mainGlobals mg → FnOk P w K mg base CX0 k fa fd [y] sp := by
  obtain ⟨f, oc, od, kV, doc, pm, an, cd, ct, sl, h1, h2, h3, h4⟩ := t
  have e := hfa.symm.trans (PySem.W.mg_of X G h1)
  cases e
  exact ⟨_, fun s u => .of_eq (hb kV doc pm an cd ct u), fun base B1 B2 => hok base mg _ B1 B2 (fun_mk h2 h3 h4)⟩
end
/-! ### many written texts -/
section
variable {X : Cx} {K : PySem.W.Frag} {H : Hp}
def tVals (vs : List V) : TA := fun _ H Q => Q vs H
def strE (ps : List (Nat × Pos)) (xs : List Str) : List Expr := (xs.zip ps).map fun p => .Constant (.str p.1) p.2.1 p.2.2
end
end Lay

set_option Elab.async false
set_option linter.all false
set_option maxRecDepth 100000
set_option maxHeartbeats 4000000
namespace Lay
open PySem PySem.Spec PyProof.Rows L2
/-! ### more combinators -/
section
variable {P : Program} {w : World} {K : PySem.W.Frag} {H : Hp} {Q : VK} {x y : V} {σ : L2.St} {ta tb tc : TE} {t : TT}
theorem r_andT (q : ta σ H fun x H1 => ∃ k, TruV K x H1 k ∧ if k = true then tb σ H1 Q else Q x H1) : tAndT K ta tb σ H Q := q
theorem r_orT (q : ta σ H fun x H1 => ∃ k, TruV K x H1 k ∧ if k = true then Q x H1 else tb σ H1 Q) : tOrT K ta tb σ H Q := q
theorem r_notT (q : ta σ H fun x H1 => ∃ k, TruV K x H1 k ∧ Q (.bl (!k)) H1) : tNotT K ta σ H Q := q
theorem r_or {t u : TT} {Q : Bool → Hp → Prop} (q : t σ H fun c H1 => if c = true then Q true H1 else u σ H1 Q) : tOr t u σ H Q := q
theorem r_and {t u : TT} {Q : Bool → Hp → Prop} (q : t σ H fun c H1 => if c = true then u σ H1 Q else Q false H1) : tAnd t u σ H Q := q
theorem r_tB {Q : Bool → Hp → Prop} (q : ta σ H fun x H1 => ∃ c, x = .bl c ∧ Q c H1) : tB ta σ H Q := q
theorem r_chain {r r' : R2} (q : ta σ H fun x H1 => tb σ H1 fun y H2 => r x y H2 fun z H3 => ∃ k, z = .bl k ∧ if k = true then tc σ H3 fun u H4 => r' y u H4 Q else Q (.bl false) H3) : tChain r r' ta tb tc σ H Q := q
theorem ty_s {z : Str} {C : Prop} (q : C) : tyV K "str" (.str z) H ∧ C := ⟨rfl, q⟩
theorem ty_l {a : Addr} {xs : List V} {C : Prop} (h : SqL K H a xs) (q : C) : tyV K "list" (.ref a) H ∧ C := ⟨.inl ⟨rfl, xs, h⟩, q⟩
theorem r_gt {xs : List V} (q : ∀ a, (∀ H, SqT K H a xs) → Q (.ref a) H) : tGt K xs σ H Q := q
theorem r_gd {kv : List (Str × V)} {no : List Str} (q : ∀ d, KD K w d kv → (∀ z ∈ no, KDno K d z) → Q (.ref d) H) : tGd K w kv no σ H Q := q
theorem r_drop {nx bk ct : L2.St → Hp → Prop} {rt : VK} (q : ta σ H fun _ H1 => nx σ H1) : tDrop ta ⟨nx, rt, bk, ct⟩ σ H := q
theorem r_callN {n m : Nat} {sp : Sp} {gV : List V → List V → List V} {E : XK} {tr tk : TA} (q : tr σ H fun vs H1 => tk σ H1 fun zs H2 => vs.length = n ∧ zs.length = m ∧ sp (gV vs zs) H2 Q E) : tCallN n m sp gV E tr tk σ H Q := q
/-- a for's reading: J what is walked -/
def Fo (J : It) (g : TG) (tb : TS) (nx bk ct : L2.St → Hp → Prop) (rt : VK) (σ : L2.St) (H1 : Hp) : Prop := ∃ W : Nat → Nat → L2.St → Hp → Prop, (∃ m, W 0 m σ H1) ∧ ∀ i m σ H, W i m σ H →
  (J.stop i H ∧ nx σ H) ∨ (J.go i H ∧ ∃ N : L2.St → Hp → Prop, (∀ σ' H', N σ' H' → ∃ m', m' < m ∧ W (i + 1) m' σ' H') ∧ ∀ x H', J.yld i H x H' → g x σ H' fun σ2 H2 => tb ⟨N, rt, nx, N⟩ σ2 H2)
theorem r_for {wi : TI} {g : TG} {tb : TS} {nx bk ct : L2.St → Hp → Prop} {rt : VK} (q : wi σ H fun J H1 => Fo J g tb nx bk ct rt σ H1) : tFor wi g tb ⟨nx, rt, bk, ct⟩ σ H := q
theorem fo_it {J : It} {n : Nat} {G : Hp → Prop} {Y : Nat → Hp → V → Hp → Prop} (w : Walk J n G Y) {g : TG} {tb : TS} {nx bk ct : L2.St → Hp → Prop} {rt : VK} (Pv : Nat → L2.St → Hp → Prop) (h0 : Pv 0 σ H) (hG : ∀ i σ H, i ≤ n → Pv i σ H → G H)
    (hs : ∀ i x σ H H', i < n → Pv i σ H → Y i H x H' → g x σ H' fun σ2 H2 => tb ⟨Pv (i + 1), rt, nx, Pv (i + 1)⟩ σ2 H2) (hd : ∀ σ H, Pv n σ H → nx σ H) : Fo J g tb nx bk ct rt σ H :=
  for_it (D := ⟨nx, rt, bk, ct⟩) w Pv h0 hG hs hd
/-- a comprehension's reading -/
def Lc (J : It) (g : TG) (tt : TT) (te : TE) (vs : List Nat) (σ : L2.St) (D : Addr) (Qd : Hp → Prop) (H1 : Hp) : Prop := ∃ W : Nat → Nat → Hp → Prop, (∃ m, W 0 m (upd H1 D (.lst []))) ∧ ∀ i m H, W i m H →
  (J.stop i H ∧ Qd H) ∨ (J.go i H ∧ ∃ Nx : Hp → Prop, (∀ H', Nx H' → ∃ m', m' < m ∧ W (i + 1) m' H') ∧ ∀ x H', J.yld i H x H' → g x (wipe σ vs) H' fun σ2 H2 => wipe σ2 vs = wipe σ vs ∧ tt σ2 H2 fun b H3 =>
    if b = true then te σ2 H3 fun y H4 => ∃ acc, H4 D = some (.lst acc) ∧ acc.length < sizeLine ∧ Nx (upd H4 D (.lst (acc ++ [y]))) else Nx H3)
theorem r_lc {wi : TI} {g : TG} {tt : TT} {vs : List Nat} (q : wi σ H fun J H1 => ∀ D, H1 D = none → Lc J g tt ta vs σ D (fun H => Q (.ref D) H) H1) : tLc wi g tt ta vs σ H Q := q
theorem r_iseq {R : It → Hp → Prop} (q : ta σ H fun x H1 => (∃ a xs, x = .ref a ∧ SqL K H1 a xs ∧ R (Itl K a) H1) ∨ (∃ a xs, x = .ref a ∧ SqT K H1 a xs ∧ R (Itt K a) H1) ∨ ∃ z, x = .str z ∧ R (Its z) H1) : iSeq K ta σ H R := q
theorem r_rng1 {tr : TA} {R : It → Hp → Prop} (q : tr σ H fun vs H1 => ∃ j : Int, vs = [.int j] ∧ -(2 ^ 62) ≤ j ∧ j < 2 ^ 62 ∧ R (Itr 0 j.toNat) H1) : iRng1 tr σ H R := q
theorem r_enum {tr : TA} {R : It → Hp → Prop} (q : tr σ H fun vs H1 => ∃ a xs, vs = [.ref a] ∧ ((SqL K H1 a xs ∧ R (Ite K a) H1) ∨ (SqT K H1 a xs ∧ R (Itet K a) H1))) : iEnumA K tr σ H R := q
theorem r_yes {Q : Bool → Hp → Prop} (q : Q true H) : tYes σ H Q := q
theorem r_gtup {n : Nat} {g : TGs} {v : V} {Q : L2.St → Hp → Prop} (q : ∃ a xs, v = .ref a ∧ SqT K H a xs ∧ xs.length = n ∧ g xs σ H Q) : gTup K n g v σ H Q := q
theorem r_gcons {g : TG} {gs : TGs} {v : V} {r : List V} {Q : L2.St → Hp → Prop} (q : g v σ H fun σ' H' => gs r σ' H' Q) : gCons g gs (v :: r) σ H Q := ⟨v, r, rfl, q⟩
theorem r_gnil {Q : L2.St → Hp → Prop} (q : Q σ H) : gNil [] σ H Q := ⟨rfl, q⟩
theorem tru_s {z : Str} {C : Bool → Prop} (hz : z.length ≤ sizeLine) (q : C (decide (z.length ≠ 0))) : ∃ k, TruV K (.str z) H k ∧ C k := by
  refine ⟨_, ⟨hz, rfl⟩, ?_⟩
  have e : ((z.length : Int) != 0) = decide (z.length ≠ 0) := by
    by_cases h : z.length = 0
    · rw [h]
      rfl
    · rw [decide_eq_true h]
      exact bne_iff_ne.mpr fun z => h (by omega)
  rw [e]
  exact q
end
theorem itnT {A B : Prop} (h : B) : if (!true) = true then A else B := h
theorem itnF {A B : Prop} (h : A) : if (!false) = true then A else B := h
/-! ### which context is meant -/
theorem inE {P : Program} {w : World} {K : PySem.W.Frag} {X : Cx} {e : Expr} {t : TE} (_ : LX P w K X) (h : PE X e t) : PE X e t := h
theorem inT {P : Program} {w : World} {K : PySem.W.Frag} {X : Cx} {e : List Expr} {t : TT} (_ : LX P w K X) (h : PTs X e t) : PTs X e t := h
section
variable {P : Program} {w : World} {K : PySem.W.Frag} {X : Cx} {a b o e : Expr} {ta tb to te : TE} {t : TA} {rest es : List Expr} {pos apos cpos : Pos} {x : Str} {name : Str} {T id : String} {tg : Expr}
def tTru (K : PySem.W.Frag) (ta : TE) : TT := fun σ H Q => ta σ H fun x H' => ∃ k, TruV K x H' k ∧ Q k H'
theorem r_tru {H : Hp} {σ : L2.St} {Q : Bool → Hp → Prop} (q : ta σ H fun x H' => ∃ k, TruV K x H' k ∧ Q k H') : tTru K ta σ H Q := q
theorem pt_truthL (L : LX P w K X) (ha : PE X a ta) (he : ∀ whole, isTrue a X.env whole = (do let v ← whole; standAt a.pos; holding [v] (truthy v)) := by intro _; rfl) : PT X a (tTru K ta) := by
  obtain ⟨_, _, rfl, _, _⟩ := L
  exact pt_truth ha he
theorem pe_andL (L : LX P w K X) (ha : PE X a ta) (hb : PE X (.BoolOp .And (b :: rest) pos) tb) : PE X (.BoolOp .And (a :: b :: rest) pos) (tAndT K ta tb) := by
  obtain ⟨_, _, rfl, _, _⟩ := L
  exact pe_andT ha hb
theorem pe_orL (L : LX P w K X) (ha : PE X a ta) (hb : PE X (.BoolOp .Or (b :: rest) pos) tb) : PE X (.BoolOp .Or (a :: b :: rest) pos) (tOrT K ta tb) := by
  obtain ⟨_, _, rfl, _, _⟩ := L
  exact pe_orT ha hb
theorem pe_notL (L : LX P w K X) (ha : PE X a ta) : PE X (.UnaryOp .Not a pos) (tNotT K ta) := by
  obtain ⟨_, _, rfl, _, _⟩ := L
  exact pe_notT ha
theorem pe_bmL (L : LX P w K X) (pa : PlainAttrs T) (slot : Slot T name id) (hty : typeOf (.builtin id) = pure (.type "method_descriptor")) (ho : PE X o to) (ha : PA X (e :: es) t)
    (hbase : attributeBase o name X.env (eval o X.env) = eval o X.env := by rfl)
    (hfew : ((backTo cpos (starEach (e :: es) X.env)).all (fun x => !x.1) && (backToKw cpos (keywordEach [] X.env)).all (fun x => x.1.isSome) && decide ((e :: es).length + ([] : List Keyword).length + (if ([] : List Keyword).isEmpty then 0 else 1) < 30)) = true := by rfl)
    (hline : (apos.endLine == cpos.line) = true := by rfl) (hs : starEach (e :: es) X.env = (false, eval e X.env) :: starEach es X.env := by rfl) (hplain : (backTo cpos (starEach es X.env)).any (·.1) = false := by rfl) :
    PE X (.Call (.Attribute o name apos) (e :: es) [] cpos) (tBM K T (sM P w K id) to t) := by
  have hm : MtR X id (sM P w K id) := om L
  obtain ⟨_, _, rfl, _, _⟩ := L
  exact pe_bm pa slot hty hm ho ha hbase hfew hline hs hplain
theorem pe_bm0L (L : LX P w K X) (pa : PlainAttrs T) (slot : Slot T name id) (hty : typeOf (.builtin id) = pure (.type "method_descriptor")) (ho : PE X o to)
    (hbase : attributeBase o name X.env (eval o X.env) = eval o X.env := by rfl) (hline : (apos.endLine == cpos.line) = true := by rfl) : PE X (.Call (.Attribute o name apos) [] [] cpos) (tBM0 K T (sM P w K id) to) := by
  have hm : MtR X id (sM P w K id) := om L
  obtain ⟨_, _, rfl, _, _⟩ := L
  exact pe_bm0 pa slot hty hm ho hbase hline
theorem pi_seqL (L : LX P w K X) (he : PE X e te) : PI X tg e (iSeq K te) := by
  obtain ⟨_, _, rfl, _, _⟩ := L
  exact pi_seq he
theorem pi_enumL {tpos p : Pos} {elts : List Expr} {kk : Nat} (L : LX P w K X) (hg : Gl X "enumerate") (hm : X.mg "enumerate" = none) (ha : PA X [e] t) (hs : starEach [e] X.env = [(false, eval e X.env)] := by rfl) :
    PI X (.Tuple elts kk tpos) (.Call (.Name "enumerate" p) [e] [] pos) (iEnumA K t) := by
  obtain ⟨_, _, rfl, _, _⟩ := L
  exact pi_enumA hg hm ha hs
theorem pe_gtL {xs : List V} (L : LX P w K X) (h : Gt K X.mg x xs) (hg : Gl X x) (hd : (x == ("__debug__" : Str)) = false := by decide) : PE X (.Name x pos) (tGt K xs) := by
  obtain ⟨_, _, rfl, _, _⟩ := L
  exact pe_gt h hg hd
theorem pe_gdL {kv : List (Str × V)} {no : List Str} (L : LX P w K X) (h : Gd K w X.mg x kv no) (hg : Gl X x) (hd : (x == ("__debug__" : Str)) = false := by decide) : PE X (.Name x pos) (tGd K w kv no) := by
  obtain ⟨_, rfl, rfl, _, _⟩ := L
  exact pe_gd h hg hd
theorem pg_tupL {k n : Nat} {t : TGs} (L : LX P w K X) (h : PGs X es t) (hn : (assignEach es X.env).length = n := by rfl) (hst : (assignEach es X.env).findIdx? (·.1) = none := by rfl) : PG X (.Tuple es k pos) (gTup K n t) := by
  obtain ⟨_, _, rfl, hc, _⟩ := L
  exact pg_tup hc h hn hst
end
/-! ### heaps -/
/-- all but p is as it was -/
def But (p : Addr) (H H' : Hp) : Prop := ∀ a o, a ≠ p → H a = some o → H' a = some o
theorem But.refl {p : Addr} {H : Hp} : But p H H := fun _ _ _ h => h
theorem But.trans {p : Addr} {H H1 H2 : Hp} (a : But p H H1) (b : But p H1 H2) : But p H H2 := fun c o n h => b c o n (a c o n h)
theorem Same.but {p : Addr} {H H' : Hp} (a : Same H H') : But p H H' := fun c o _ h => a c o h
theorem Same.new {H : Hp} {p : Addr} {o : HO} (h : H p = none) : Same H (upd H p o) := fun a u e => by
  rw [upd_ne (ne_of_none e h)]
  exact e
/-- an object that H does not know may change -/
theorem Same.mut {H H' : Hp} {p : Addr} {o : HO} (e : Same H H') (h : H p = none) : Same H (upd H' p o) := fun a u ha => by
  rw [upd_ne (ne_of_none ha h)]
  exact e a u ha
theorem But.new {q : Addr} {H : Hp} {p : Addr} {o : HO} (h : H p = none) : But q H (upd H p o) := Same.but (Same.new h)
theorem But.mut {q : Addr} {H H' : Hp} {p : Addr} {o : HO} (e : But q H H') (h : H p = none) : But q H (upd H' p o) := fun a u n ha => by
  rw [upd_ne (ne_of_none ha h)]
  exact e a u n ha
theorem Same.sqt {K : PySem.W.Frag} {H H' : Hp} {a : Addr} {xs : List V} (e : Same H H') (h : SqT K H a xs) : SqT K H' a xs := by
  rcases h with (h | ⟨o, h⟩) | h
  · exact .inl (.inl (e _ _ h))
  · exact .inl (.inr ⟨o, e _ _ h⟩)
  · exact .inr h
theorem But.sqt {K : PySem.W.Frag} {H H' : Hp} {p a : Addr} {xs : List V} (e : But p H H') (hp : ∀ ys, H p ≠ some (.tup ys)) (hf : ∀ o u, H p ≠ some (.frz o u)) (h : SqT K H a xs) : SqT K H' a xs := by
  rcases h with (h | ⟨o, h⟩) | h
  · exact .inl (.inl (e _ _ (fun z => hp xs (z ▸ h)) h))
  · exact .inl (.inr ⟨o, e _ _ (fun z => hf _ _ (z ▸ h)) h⟩)
  · exact .inr h
theorem But.sql {K : PySem.W.Frag} {H H' : Hp} {p a : Addr} {xs : List V} (e : But p H H') (hne : a ≠ p) (h : SqL K H a xs) : SqL K H' a xs := by
  rcases h with (h | ⟨o, h⟩) | h
  · exact .inl (.inl (e _ _ hne h))
  · exact .inl (.inr ⟨o, e _ _ hne h⟩)
  · exact .inr h
theorem free_of {H H' : Hp} {p : Addr} (e : Same H H') (h : H' p = none) : H p = none := e.free h
/-! ### lists by places -/
theorem range_getD {α : Type} (l : List α) (d : α) : (List.range l.length).map (fun i => l.getD i d) = l := by
  refine List.ext_getElem (by simp) fun i h1 h2 => ?_
  rw [List.getElem_map, List.getElem_range, List.getD_eq_getElem?_getD, List.getElem?_eq_getElem h2]
  rfl
theorem range_fm {α β : Type} (l : List α) (d : α) (p : α → Bool) (f : α → β) : ((List.range l.length).filter fun i => p (l.getD i d)).map (fun i => f (l.getD i d)) = (l.filter p).map f := by
  have e := range_getD l d
  have h : (l.filter p).map f = (((List.range l.length).map fun i => l.getD i d).filter p).map f := by rw [e]
  rw [h, List.filter_map, List.map_map]
  rfl
theorem getD_of {α : Type} {l : List α} {i : Nat} {x d : α} (h : l[i]? = some x) : l.getD i d = x := by
  rw [List.getD_eq_getElem?_getD, h]
  rfl
/-! ### comprehensions that only make -/
section
variable {J : It} {n : Nat} {G : Hp → Prop} {Y : Nat → Hp → V → Hp → Prop} {g : TG} {tt : TT} {te : TE} {vs : List Nat} {σ : L2.St} {H1 : Hp} {D : Addr} {Qd : Hp → Prop}
theorem range_step (p : Nat → Bool) (f : Nat → V) (i : Nat) : ((List.range (i + 1)).filter p).map f = if p i = true then ((List.range i).filter p).map f ++ [f i] else ((List.range i).filter p).map f := by
  rw [List.range_succ, List.filter_append, List.map_append]
  by_cases h : p i = true
  · rw [if_pos h]
    simp [h]
  · rw [if_neg h]
    simp [h]
theorem range_len (p : Nat → Bool) (f : Nat → V) (i : Nat) : (((List.range i).filter p).map f).length ≤ i := by
  rw [List.length_map]
  refine Nat.le_trans (List.length_filter_le _ _) ?_
  rw [List.length_range]
  exact Nat.le_refl _
/-- [e for x in .. if t], e and t make at most; what comes is told by places -/
theorem lc_pure (w : Walk J n G Y) (p : Nat → Bool) (f : Nat → V) (hn : n < sizeLine) (hD : H1 D = none) (hG : ∀ H, Same H1 H → G H)
    (hs : ∀ i x H H', i < n → Same H1 H → Y i H x H' → ∀ (C1 : VK) (C0 : Hp → Prop), (p i = true → ∀ H4, Same H H4 → C1 (f i) H4) → (p i = false → ∀ H3, Same H H3 → C0 H3) →
      g x (wipe σ vs) H' fun σ2 H2 => wipe σ2 vs = wipe σ vs ∧ tt σ2 H2 fun b H3 => if b = true then te σ2 H3 C1 else C0 H3)
    (hd : ∀ H, Same H1 H → H D = some (.lst (((List.range n).filter p).map f)) → Qd H) :
    Lc J g tt te vs σ D Qd H1 := by
  refine lc_it w (fun i H => Same H1 H ∧ H D = some (.lst (((List.range i).filter p).map f))) ⟨Same.new hD, upd_same⟩ (fun i H _ q => hG H q.1) (fun i x H H' hi q y => ?_) fun H q => hd H q.1 q.2
  refine hs i x H H' hi q.1 y _ _ (fun h H4 s4 => ?_) (fun h H3 s3 => ?_)
  · refine ⟨_, s4 _ _ q.2, Nat.lt_of_le_of_lt (range_len p f i) (Nat.lt_trans hi hn), Same.mut (q.1.trans s4) hD, ?_⟩
    rw [upd_same, range_step, if_pos h]
  · refine ⟨q.1.trans s3, ?_⟩
    rw [range_step, if_neg (by rw [h]; exact Bool.false_ne_true)]
    exact s3 _ _ q.2
/-- .. told by the items of a list -/
theorem lc_pureL {α : Type} (l : List α) (d : α) (w : Walk J l.length G Y) (p : α → Bool) (f : α → V) (hn : l.length < sizeLine) (hD : H1 D = none) (hG : ∀ H, Same H1 H → G H)
    (hs : ∀ i a x H H', l[i]? = some a → Same H1 H → Y i H x H' → ∀ (C1 : VK) (C0 : Hp → Prop), (p a = true → ∀ H4, Same H H4 → C1 (f a) H4) → (p a = false → ∀ H3, Same H H3 → C0 H3) →
      g x (wipe σ vs) H' fun σ2 H2 => wipe σ2 vs = wipe σ vs ∧ tt σ2 H2 fun b H3 => if b = true then te σ2 H3 C1 else C0 H3)
    (hd : ∀ H, Same H1 H → H D = some (.lst ((l.filter p).map f)) → Qd H) :
    Lc J g tt te vs σ D Qd H1 := by
  refine lc_pure w (fun i => p (l.getD i d)) (fun i => f (l.getD i d)) hn hD hG (fun i x H H' hi sm y C1 C0 h1 h0 => ?_) fun H sm h => ?_
  · have e : l[i]? = some (l.getD i d) := by
      rw [List.getD_eq_getElem?_getD, List.getElem?_eq_getElem hi]
      rfl
    exact hs i _ x H H' e sm y C1 C0 h1 h0
  · rw [range_fm] at h
    exact hd H sm h
theorem filter_yes {α : Type} (l : List α) : l.filter (fun _ => true) = l := List.filter_eq_self.mpr fun _ _ => rfl
theorem walk_strL {z : Str} : Walk (Its z) z.cps.toList.length (fun _ => True) (fun i H v H' => H' = H ∧ ∃ c, z.cps.toList[i]? = some c ∧ v = .str ⟨#[c]⟩) := by
  refine Walk.mono (show Walk (Its z) z.cps.toList.length _ _ from walk_str) (fun _ h => h) fun i H x H' _ _ y => ?_
  obtain ⟨e, c, h, q⟩ := y
  exact ⟨e, c, by rw [Array.getElem?_toList]; exact h, q⟩
/-- [e for x in ..], e draws from what stands at pu: so many, each as R tells -/
theorem lc_draw {pu : Addr} {Pu : Hp → Prop} (w : Walk J n G Y) (R : V → Prop) (hn : n < sizeLine) (hD : H1 D = none) (hP : Pu H1) (hpu : H1 pu ≠ none) (hG : ∀ H, But pu H1 H → G H) (hPm : ∀ H o, D ≠ pu → Pu H → Pu (upd H D o))
    (hs : ∀ i x H H', i < n → But pu H1 H → Pu H → Y i H x H' → ∀ C1 : VK, (∀ y H4, But pu H H4 → Pu H4 → R y → C1 y H4) →
      g x (wipe σ vs) H' fun σ2 H2 => wipe σ2 vs = wipe σ vs ∧ tt σ2 H2 fun b H3 => b = true ∧ te σ2 H3 C1)
    (tm : ∀ σ2 H2 (Q Q' : Bool → Hp → Prop), (∀ b H, Q b H → Q' b H) → tt σ2 H2 Q → tt σ2 H2 Q') (gm : ∀ x σ2 H2 (Q Q' : L2.St → Hp → Prop), (∀ b H, Q b H → Q' b H) → g x σ2 H2 Q → g x σ2 H2 Q')
    (hd : ∀ H ys, But pu H1 H → Pu H → H D = some (.lst ys) → ys.length = n → (∀ y ∈ ys, R y) → Qd H) :
    Lc J g tt te vs σ D Qd H1 := by
  have hne : D ≠ pu := fun z => hpu (z ▸ hD)
  refine lc_it w (fun i H => But pu H1 H ∧ Pu H ∧ ∃ ys, H D = some (.lst ys) ∧ ys.length = i ∧ ∀ y ∈ ys, R y) ⟨But.new hD, hPm _ _ hne hP, [], upd_same, rfl, fun _ h => nomatch h⟩ (fun i H _ q => hG H q.1)
    (fun i x H H' hi q y => ?_) fun H q => ?_
  · obtain ⟨q1, q2, ys, q3, q4, q5⟩ := q
    refine gm _ _ _ _ _ (fun σ2 H2 q6 => ⟨q6.1, tm _ _ _ _ (fun b H3 q7 => ?_) q6.2⟩) (hs i x H H' hi q1 q2 y (fun y H4 => ∃ acc, H4 D = some (.lst acc) ∧ acc.length < sizeLine ∧ (But pu H1 (upd H4 D (.lst (acc ++ [y]))) ∧ Pu (upd H4 D (.lst (acc ++ [y]))) ∧ ∃ ys, (upd H4 D (.lst (acc ++ [y]))) D = some (.lst ys) ∧ ys.length = i + 1 ∧ ∀ y ∈ ys, R y)) fun y H4 s4 p4 r4 => ?_)
    · rw [q7.1, if_pos rfl]
      exact q7.2
    · refine ⟨ys, s4 _ _ hne q3, by omega, But.mut (q1.trans s4) hD, hPm _ _ hne p4, _, upd_same, by rw [List.length_append, q4]; rfl, fun z hz => ?_⟩
      rcases List.mem_append.mp hz with hz | hz
      · exact q5 z hz
      · rw [List.mem_singleton.mp hz]
        exact r4
  · obtain ⟨q1, q2, ys, q3, q4, q5⟩ := q
    exact hd H ys q1 q2 q3 q4 q5
theorem yes_m : ∀ (σ2 : L2.St) H2 (Q Q' : Bool → Hp → Prop), (∀ b H, Q b H → Q' b H) → tYes σ2 H2 Q → tYes σ2 H2 Q' := fun _ _ _ _ h q => h _ _ q
theorem name_m {i : Nat} : ∀ x (σ2 : L2.St) H2 (Q Q' : L2.St → Hp → Prop), (∀ b H, Q b H → Q' b H) → gName i x σ2 H2 Q → gName i x σ2 H2 Q' := fun _ _ _ _ _ h q => h _ _ q
end
end Lay
namespace Lay
open PySem PySem.Spec PyProof.Rows L2
/-! ### written texts in a row -/
def strCs : List Expr → Option (List Str)
  | [] => some []
  | .Constant (.str x) _ _ :: r => (strCs r).map (x :: ·)
  | _ => none
theorem strCs_cons {e : Expr} {r : List Expr} {zs : List Str} (h : strCs (e :: r) = some zs) : ∃ x k p ys, e = .Constant (.str x) k p ∧ zs = x :: ys ∧ strCs r = some ys := by
  unfold strCs at h
  split at h
  · rename_i q
    cases q
  · rename_i x k p r2 q
    cases q
    cases hr : strCs r with
    | none =>
      rw [hr] at h
      cases h
    | some ys =>
      rw [hr] at h
      cases h
      exact ⟨x, k, p, ys, rfl, rfl, rfl⟩
  · cases h
theorem pa_strs {X : Cx} : ∀ {es : List Expr} (zs : List Str) (_ : strCs es = some zs := by rfl), PA X es (tVals (zs.map V.str)) := fun {es} => by
  induction es with
  | nil =>
    intro zs h
    cases h
    exact ⟨fun _ _ _ _ H Q I h => Calls.spliced_nil ⟨[], H, I, .nil, h⟩⟩
  | cons e r ih =>
    intro zs h
    obtain ⟨x, k, p, ys, rfl, rfl, hr⟩ := strCs_cons h
    have := pa_cons (X := X) (e := .Constant (.str x) k p) (es := r) pe_str (ih ys hr) rfl
    exact ⟨fun pos pins s σ H Q I q => this.run pos pins s σ H Q I q⟩
theorem r_vals {vs : List V} {H : Hp} {σ : L2.St} {Q : List V → Hp → Prop} (q : Q vs H) : tVals vs σ H Q := q
/-! ### places -/
theorem atI_ex {α : Type} {xs : List α} {i : Int} (h0 : 0 ≤ i) (h1 : i < xs.length) : ∃ x, atI xs i = some x ∧ x ∈ xs := by
  have e : i = ((i.toNat : Nat) : Int) := by omega
  have hl : i.toNat < xs.length := by omega
  refine ⟨xs[i.toNat], ?_, List.getElem_mem hl⟩
  have := atI_nat (List.getElem?_eq_getElem hl)
  rw [← e] at this
  exact this
theorem sz1000 {n : Nat} (h : n ≤ 1000) : n ≤ sizeLine := Nat.le_trans h (by decide)
theorem strs_ex {P : Str → Prop} : ∀ {ys : List V}, (∀ y ∈ ys, ∃ z, y = V.str z ∧ P z) → ∃ zs : List Str, ys = zs.map V.str ∧ ∀ z ∈ zs, P z
  | [], _ => ⟨[], rfl, fun _ h => nomatch h⟩
  | y :: r, h => by
    obtain ⟨z, rfl, hz⟩ := h y List.mem_cons_self
    obtain ⟨zs, e, hr⟩ := strs_ex (ys := r) fun u hu => h u (List.mem_cons_of_mem _ hu)
    refine ⟨z :: zs, by rw [e]; rfl, fun u hu => ?_⟩
    rcases List.mem_cons.mp hu with rfl | hu
    · exact hz
    · exact hr u hu
theorem cutV_to (xs : List V) {n : Nat} (h : n ≤ xs.length) : cutV xs none (some (n : Int)) = xs.take n := by
  unfold cutV
  rw [HT.sIx_none, HT.sIx_nat, Nat.min_eq_left h, List.drop_zero, Nat.sub_zero]
theorem cutV_to' (xs : List V) (n : Nat) : cutV xs none (some (n : Int)) = xs.take n := by
  unfold cutV
  rw [HT.sIx_none, HT.sIx_nat, List.drop_zero, Nat.sub_zero]
  by_cases h : n ≤ xs.length
  · rw [Nat.min_eq_left h]
  · rw [Nat.min_eq_right (by omega), List.take_length, List.take_of_length_le (by omega)]
theorem cutV_from (xs : List V) (n : Nat) : cutV xs (some (n : Int)) none = xs.drop n := by
  unfold cutV
  rw [HT.sIx_none, HT.sIx_nat]
  by_cases h : n ≤ xs.length
  · rw [Nat.min_eq_left h, List.take_of_length_le (by rw [List.length_drop]; exact Nat.le_refl _)]
  · rw [Nat.min_eq_right (by omega), Nat.sub_self, List.take_zero, List.drop_eq_nil_of_le (by omega)]
/-! ### a purse: three numbers -/
def Pu (H : Hp) (p : Addr) : Prop := ∃ a b c, H p = some (.lst [.int a, .int b, .int c])
theorem Pu.ne {H : Hp} {p a : Addr} (h : Pu H p) (n : H a = none) : a ≠ p := fun z => by
  obtain ⟨_, _, _, e⟩ := h
  rw [← z, n] at e
  cases e
theorem Pu.some {H : Hp} {p : Addr} (h : Pu H p) : H p ≠ none := fun z => by
  obtain ⟨_, _, _, e⟩ := h
  rw [z] at e
  cases e
theorem Pu.up {H : Hp} {p a : Addr} {o : HO} (h : Pu H p) (n : a ≠ p) : Pu (upd H a o) p := by
  obtain ⟨x, y, z, e⟩ := h
  exact ⟨x, y, z, by rw [upd_ne (Ne.symm n)]; exact e⟩
theorem Pu.same {H H' : Hp} {p : Addr} (h : Pu H p) (s : Same H H') : Pu H' p := by
  obtain ⟨x, y, z, e⟩ := h
  exact ⟨x, y, z, s _ _ e⟩
theorem But.sqtP {K : PySem.W.Frag} {H H' : Hp} {p a : Addr} {xs : List V} (e : But p H H') (hp : Pu H p) (h : SqT K H a xs) : SqT K H' a xs := by
  obtain ⟨x, y, z, q⟩ := hp
  exact e.sqt (fun ys h => by rw [q] at h; cases h) (fun o u h => by rw [q] at h; cases h) h
theorem But.freeP {H H' : Hp} {p a : Addr} (e : But p H H') (hp : Pu H' p) (n : H' a = none) : H a = none := by
  cases h : H a with
  | none => rfl
  | some o =>
    have := e a o (hp.ne n) h
    rw [n] at this
    cases this
theorem ite_i {p : Prop} [Decidable p] (h : p) {α : Type} {a b : α} : (if decide p = true then a else b) = a := if_pos (decide_eq_true h)
end Lay
namespace Lay
open PySem PySem.Spec PyProof.Rows L2
section
variable {P : Program} {w : World} {K : PySem.W.Frag} {H : Hp} {Q : VK} {l : Addr} {xs : List V} {r : Int}
/-- an item at a drawn place -/
theorem i_draw (h : SqL K H l xs) (h0 : 0 ≤ r) (h1 : r < xs.length) (q : ∀ x ∈ xs, Q x H) : sI P w K (.ref l) (.int r) H Q := by
  obtain ⟨x, hx, hm⟩ := atI_ex h0 h1
  exact i_lst h hx (q x hm)
theorem i_drawT (h : SqT K H l xs) (h0 : 0 ≤ r) (h1 : r < xs.length) (q : ∀ x ∈ xs, Q x H) : sI P w K (.ref l) (.int r) H Q := by
  obtain ⟨x, hx, hm⟩ := atI_ex h0 h1
  exact i_tup h hx (q x hm)
/-- a sign at a drawn place -/
theorem i_sign {z : Str} (hz : z.length ≤ sizeLine) (h0 : 0 ≤ r) (h1 : r < z.length) (q : ∀ c ∈ z.cps.toList, Q (.str ⟨#[c]⟩) H) : sI P w K (.str z) (.int r) H Q := by
  obtain ⟨c, hx, hm⟩ := atI_ex (xs := z.cps.toList) h0 (by simpa [Str.length] using h1)
  exact i_str hz hx (q c hm)
end
end Lay

set_option Elab.async false
set_option linter.all false
set_option maxRecDepth 100000
set_option maxHeartbeats 4000000
namespace Lay
open PySem PySem.Spec PyProof.Rows L2
/-! ### texts in a row, compared -/
section
variable {P : Program} {w : World} {K : PySem.W.Frag} {H : Hp} {Q : VK} {a b : Addr} {xs ys : List Str}
theorem dp_strs : ∀ xs : List Str, DpAll K H (xs.map V.str) (xs.map PyData.str)
  | [] => .nil
  | x :: r => .cons (.str x) (dp_strs r)
def SOk (xs : List Str) : Prop := ∀ x ∈ xs, PyData.strOk x = true
theorem lay_strs : ∀ {xs : List Str}, SOk xs → PyData.canLayAll0 (xs.map PyData.str) = true
  | [], _ => rfl
  | x :: r, h => by
    show ((PyData.str x).canLay0 && PyData.canLayAll0 (r.map PyData.str)) = true
    rw [lay_strs (xs := r) fun y hy => h y (List.mem_cons_of_mem _ hy), Bool.and_true, PyData.canLay0]
    exact h x List.mem_cons_self
theorem dep_strs : ∀ xs : List Str, PyData.depthAll (xs.map PyData.str) ≤ 1
  | [] => by decide
  | x :: r => by
    have := dep_strs r
    simp [PyData.depthAll, PyData.depth] at this ⊢
    try omega
theorem shT (h : SOk xs) : SeqAt.shaped (.tuple (xs.map PyData.str)) = true := by
  unfold SeqAt.shaped
  have h1 := lay_strs h
  have h2 := dep_strs xs
  simp [PyData.canLay0, PyData.depth, h1]
  omega
theorem shL (h : SOk xs) : SeqAt.shaped (.list (xs.map PyData.str)) = true := by
  unfold SeqAt.shaped
  have h1 := lay_strs h
  have h2 := dep_strs xs
  simp [PyData.canLay0, PyData.depth, h1]
  omega
theorem eqv_strs : ∀ xs ys : List Str, PyData.eqvAll (xs.map PyData.str) (ys.map PyData.str) = decide (xs = ys)
  | [], [] => rfl
  | [], _ :: _ => rfl
  | _ :: _, [] => rfl
  | x :: r, y :: t => by
    show (PyData.eqv (.str x) (.str y) && PyData.eqvAll (r.map PyData.str) (t.map PyData.str)) = _
    rw [eqv_strs r t]
    by_cases h : x = y
    · subst h
      simp [PyData.eqv]
    · simp [PyData.eqv, h]
theorem c_eqT (o1 : SOk xs) (o2 : SOk ys) (h1 : SqT K H a (xs.map V.str)) (h2 : SqT K H b (ys.map V.str)) (q : Q (.bl (decide (xs = ys))) H) : sB P w K (compareOp .Eq) (.ref a) (.ref b) H Q :=
  ⟨rEqD K, fun X L => L.K ▸ op_eqD L.un, _, _, .tup h1 (dp_strs xs), .tup h2 (dp_strs ys), shT o1, shT o2, by
    rw [PyData.eqv, eqv_strs]
    exact q⟩
theorem c_neT (o1 : SOk xs) (o2 : SOk ys) (h1 : SqT K H a (xs.map V.str)) (h2 : SqT K H b (ys.map V.str)) (q : Q (.bl (!decide (xs = ys))) H) : sB P w K (compareOp .NotEq) (.ref a) (.ref b) H Q :=
  ⟨rNeD K, fun X L => L.K ▸ op_neD L.un, _, _, .tup h1 (dp_strs xs), .tup h2 (dp_strs ys), shT o1, shT o2, by
    rw [PyData.eqv, eqv_strs]
    exact q⟩
theorem c_neL (o1 : SOk xs) (o2 : SOk ys) (h1 : SqL K H a (xs.map V.str)) (h2 : SqL K H b (ys.map V.str)) (q : Q (.bl (!decide (xs = ys))) H) : sB P w K (compareOp .NotEq) (.ref a) (.ref b) H Q :=
  ⟨rNeD K, fun X L => L.K ▸ op_neD L.un, _, _, .lst h1 (dp_strs xs), .lst h2 (dp_strs ys), shL o1, shL o2, by
    rw [PyData.eqv, eqv_strs]
    exact q⟩
end
/-! ### pieces between blanks -/
open TL (tl spl spl_hit spl_miss spl_nil pre)
theorem pre1 (c d : Nat) (r : List Nat) : pre [c] (d :: r) = decide (d = c) := by
  show ((d :: r).take 1 == [c]) = _
  by_cases h : d = c
  · subst h
    simp
  · simp [h]
/-- the pieces that hold a sign -/
def pcs (l : List Nat) : List (List Nat) := (spl [32] 0 [] l).filter fun p => decide (p ≠ [])
theorem spl_app (s : Nat) : ∀ (l acc r : List Nat), s ∉ l → spl [s] 0 acc (l ++ s :: r) = (acc ++ l) :: spl [s] 0 [] r
  | [], acc, r, _ => by
    rw [List.nil_append, spl_hit (by rw [pre1]; simp), List.append_nil]
    rfl
  | c :: l, acc, r, h => by
    rw [List.cons_append, spl_miss (by rw [pre1]; exact decide_eq_false fun e => h (e ▸ List.mem_cons_self)), spl_app s l _ r fun z => h (List.mem_cons_of_mem _ z), List.append_assoc]
    rfl
theorem spl_fin (s : Nat) : ∀ (l acc : List Nat), s ∉ l → spl [s] 0 acc l = [acc ++ l]
  | [], acc, _ => by rw [spl_nil, List.append_nil]
  | c :: l, acc, h => by
    rw [spl_miss (by rw [pre1]; exact decide_eq_false fun e => h (e ▸ List.mem_cons_self)), spl_fin s l _ fun z => h (List.mem_cons_of_mem _ z), List.append_assoc]
    rfl
theorem pcs_nil : pcs [] = [] := by
  unfold pcs
  rw [spl_nil]
  rfl
theorem pcs_blank (r : List Nat) : pcs (32 :: r) = pcs r := by
  unfold pcs
  rw [spl_hit (by rw [pre1]; simp)]
  rfl
theorem pcs_blanks : ∀ (n : Nat) (r : List Nat), pcs (List.replicate n 32 ++ r) = pcs r
  | 0, _ => rfl
  | n + 1, r => by
    rw [List.replicate_succ, List.cons_append, pcs_blank, pcs_blanks n r]
theorem pcs_word {p : List Nat} (r : List Nat) (h : 32 ∉ p) (h0 : p ≠ []) : pcs (p ++ 32 :: r) = p :: pcs r := by
  unfold pcs
  rw [spl_app 32 p [] r h, List.nil_append, List.filter_cons, if_pos (by simpa using h0)]
theorem pcs_last {p : List Nat} (h : 32 ∉ p) (h0 : p ≠ []) : pcs p = [p] := by
  unfold pcs
  rw [spl_fin 32 p [] h, List.nil_append, List.filter_cons, if_pos (by simpa using h0)]
  rfl
/-- blanks may follow -/
theorem pcs_words {ps : List (List Nat)} (h : ∀ p ∈ ps, 32 ∉ p ∧ p ≠ []) : pcs (TL.joinL [32] ps) = ps := by
  induction ps with
  | nil => exact pcs_nil
  | cons p r ih =>
    have hp := h p List.mem_cons_self
    cases r with
    | nil => exact pcs_last hp.1 hp.2
    | cons q r =>
      show pcs (p ++ ([32] ++ TL.joinL [32] (q :: r))) = _
      rw [List.singleton_append, pcs_word _ hp.1 hp.2, ih fun z hz => h z (List.mem_cons_of_mem _ hz)]
/-- pieces, each with a blank and more behind it -/
theorem pcs_wide (n : Nat) : ∀ (ps : List (List Nat)) (ks : List Nat) (r : List Nat), (∀ p ∈ ps, 32 ∉ p ∧ p ≠ []) → ps.length = ks.length →
    pcs ((List.zipWith (fun p k => p ++ List.replicate (k + 1) 32) ps ks).flatten ++ r) = ps ++ pcs r
  | [], _, r, _, e => by simp
  | _ :: _, [], _, _, e => by simp at e
  | p :: ps, k :: ks, r, h, e => by
    have hp := h p List.mem_cons_self
    rw [List.zipWith_cons_cons, List.flatten_cons, List.replicate_succ]
    have e2 : (p ++ 32 :: List.replicate k 32 ++ (List.zipWith (fun p k => p ++ List.replicate (k + 1) 32) ps ks).flatten ++ r) = p ++ 32 :: (List.replicate k 32 ++ ((List.zipWith (fun p k => p ++ List.replicate (k + 1) 32) ps ks).flatten ++ r)) := by simp
    rw [e2, pcs_word _ hp.1 hp.2, pcs_blanks, pcs_wide n ps ks r (fun z hz => h z (List.mem_cons_of_mem _ hz)) (by simpa using e)]
    rfl
theorem spl_len (s : Nat) : ∀ (l acc : List Nat), (spl [s] 0 acc l).length ≤ l.length + 1
  | [], acc => by rw [spl_nil]; simp
  | c :: l, acc => by
    by_cases h : pre [s] (c :: l) = true
    · rw [spl_hit h]
      have := spl_len s l []
      simp only [List.length_cons] at *
      show (spl [s] 0 [] l).length + 1 ≤ _
      omega
    · rw [spl_miss (by simpa using h)]
      have := spl_len s l (acc ++ [c])
      simp only [List.length_cons] at *
      omega
theorem spl_each (s : Nat) : ∀ (l acc : List Nat), ∀ p ∈ spl [s] 0 acc l, p.length ≤ acc.length + l.length
  | [], acc => by
    intro p hp
    rw [spl_nil] at hp
    rw [List.mem_singleton.mp hp]
    simp
  | c :: l, acc => by
    intro p hp
    by_cases h : pre [s] (c :: l) = true
    · rw [spl_hit h] at hp
      rcases List.mem_cons.mp hp with rfl | hp
      · simp
      · have := spl_each s l [] p hp
        simp only [List.length_cons, List.length_nil] at *
        omega
    · rw [spl_miss (by simpa using h)] at hp
      have := spl_each s l (acc ++ [c]) p hp
      simp only [List.length_cons, List.length_append, List.length_nil] at *
      omega
theorem split_tl {y : Str} {s : Nat} (ey : tl y = [s]) (hk : y.cps.all (· < 256) = true) (z : Str) : (Txt.split z y).map tl = spl [s] 0 [] (tl z) := by
  rw [TL.split_spl z y (by rw [ey]; simp) (TL.kind_ok hk), ey]
theorem ex_par {a b : V} {C : V → V → Prop} (q : C a b) : ∃ v w, [a, b] = [v, w] ∧ C v w := ⟨a, b, rfl, q⟩
theorem ex_par3 {a b c : V} {C : V → V → V → Prop} (q : C a b c) : ∃ u v w, [a, b, c] = [u, v, w] ∧ C u v w := ⟨a, b, c, rfl, q⟩
theorem itE {α : Type} {a : α} [Decidable (a = a)] {A B : Prop} (h : B) : if (!decide (a = a)) = true then A else B := by
  rw [if_neg (by simp)]
  exact h
/-- isinstance(x, T) by the type's name -/
def kitT (T U : String) : Option Bool := if T = "?own" then (if U = "str" ∨ U = "tuple" ∨ U = "bool" then some false else none) else kitB T U
theorem k_isT {P : Program} {w : World} {K : PySem.W.Frag} {H : Hp} {Q : VK} {x : V} {T U : String} {c : Bool} (t : Tyb K H x T) (h : kitT T U = some c) (q : Q (.bl c) H) : sC P w K (.builtin "isinstance") [x, .ty U] H Q := by
  unfold kitT at h
  by_cases hT : T = "?own"
  · rw [if_pos hT] at h
    subst hT
    have : ∃ (a C dx : Addr) (fs : List (Str × V)), x = .ref a ∧ H a = some (.ins C dx fs) ∧ OwnC K C := by
      generalize hU : "?own" = V at t
      cases t with
      | own e c => exact ⟨_, _, _, _, rfl, e, c⟩
      | _ => exact absurd hU (by decide)
    obtain ⟨a, C, dx, fs, rfl, e, o⟩ := this
    split at h
    · rename_i hU
      cases h
      refine k_isi (.ty U) (.base (.ins e o.cls o.cl o.gt o.tk o.ob)) ?_ q
      rcases hU with rfl | rfl | rfl
      · exact o.ks
      · exact o.kt
      · exact o.kb
    · cases h
  · rw [if_neg hT] at h
    exact k_isi (.ty U) (t.kx hT) (kit_ty h) q
/-- what comes next is cut off -/
theorem r_cut {s : TS} {nx bk ct : L2.St → Hp → Prop} {rt : VK} {σ : L2.St} {H : Hp} (Pm : L2.St → Hp → Prop) (q : ∀ nx' : L2.St → Hp → Prop, (∀ σ' H', Pm σ' H' → nx' σ' H') → s ⟨nx', rt, bk, ct⟩ σ H) (k : ∀ σ' H', Pm σ' H' → nx σ' H') : s ⟨nx, rt, bk, ct⟩ σ H := q nx k
theorem Same.via {H H1 H2 : Hp} {p : Addr} (s : Same H H1) (n : H p = none) (b : But p H1 H2) : Same H H2 := fun a o h => b a o (ne_of_none h n) (s a o h)
theorem ixN_at {n j : Nat} (h : j < n) : ixN n (j : Int) = some j := by
  unfold ixN
  rw [if_pos (by omega), if_pos (by omega), Int.toNat_natCast]
end Lay

set_option Elab.async false
set_option linter.all false
set_option maxRecDepth 100000
set_option maxHeartbeats 4000000
namespace Lay
open PySem PySem.Spec PyProof.Rows L2
section
variable {K : PySem.W.Frag} {h : Heap} {mg : Str → Option Value} {P : Program} {w : World} {base : Heap}
/-- called by keywords alone -/
theorem FnK.kw {x : Str} {st : Stmt} {ps ks : List Str} {k : Nat} {sp : Sp} (t : FnK K x st) (X : K.In h) (G : h.Ns mainGlobals mg) (F : FnG P w K mg base k x ps sp)
    (hb : ∀ (kV doc pm : Value) (an : Option Addr) (cdv ct : Value) (ws : List Value), ws.length = ks.length → bindArgs (PySem.W.fnOf x x (defArgs st) (defBody st) (defScope st) .none kV doc pm an cdv ct) ⟨[], ks.zip ws⟩ = pure (ps.zip ws)) : FnGK P w K mg base k x 0 ks (fun _ zs => zs) sp := by
  obtain ⟨f, oc, od, kV, doc, pm, an, cd, ct, sl, h1, h2, h3, h4⟩ := t
  obtain ⟨a, fd, e1, e2, e3, ⟨ob, e4, e5⟩, e6⟩ := F
  have ea := (PySem.W.mg_of X G h1).symm.trans e1
  cases ea
  have eo := h2.symm.trans e4
  cases eo
  cases e5
  refine ⟨f, _, ps, fun _ ws => ws, e1, e2, ⟨fun s us ws _ l1 l2 => ?_, fun _ r => r⟩, e6⟩
  rw [List.length_eq_zero_iff.mp l1]
  exact .of_eq (hb kV doc pm an cd ct ws l2)
/-- a def with keyword-only defaults -/
def FnKD (K : PySem.W.Frag) (x : Str) (st : Stmt) (kws : List (Str × V)) : Prop := ∃ (f : Addr) (oc : Value) (od : Option Addr) (D : Addr) (doc pm : Value) (an : Option Addr) (cd ct : Value) (sl : Array (Option Value)),
  PySem.W.nsIn K mainGlobals x = some (some (.ref f)) ∧ K.lookup f = some ⟨oc, od, .func (PySem.W.fnOf x x (defArgs st) (defBody st) (defScope st) .none (.ref D) doc pm an cd ct), sl⟩ ∧ PySem.W.codeIn K cd x = true ∧ PySem.W.keepIn K (.ref f) = true ∧ ∀ q ∈ kws, ∃ u, PySem.W.nsIn K D q.1 = some (some u) ∧ RelV q.2 u
theorem FnKD.mk {x : Str} {st : Stmt} {kws : List (Str × V)} {f : Addr} {oc : Value} {od : Option Addr} {D : Addr} {doc pm : Value} {an : Option Addr} {cd ct : Value} {sl : Array (Option Value)} (h1 : PySem.W.nsIn K mainGlobals x = some (some (.ref f)))
    (h2 : K.lookup f = some ⟨oc, od, .func (PySem.W.fnOf x x (defArgs st) (defBody st) (defScope st) .none (.ref D) doc pm an cd ct), sl⟩) (h3 : PySem.W.codeIn K cd x = true) (h4 : PySem.W.keepIn K (.ref f) = true) (h5 : ∀ q ∈ kws, ∃ u, PySem.W.nsIn K D q.1 = some (some u) ∧ RelV q.2 u) : FnKD K x st kws :=
  ⟨f, oc, od, D, doc, pm, an, cd, ct, sl, h1, h2, h3, h4, h5⟩
/-- .. called with its keyword-only parameters left out -/
theorem FnKD.fnD {x : Str} {st : Stmt} {kws : List (Str × V)} {ps : List Str} {k n : Nat} {sp : Sp} (t : FnKD K x st kws) (X : K.In h) (G : h.Ns mainGlobals mg) (hk : kws ≠ []) (hn : n + kws.length = ps.length)
    (hb : ∀ (D : Addr) (doc pm : Value) (an : Option Addr) (cdv ct : Value) (us ks : List Value), us.length = n → ks.length = kws.length →
      KwChain D ((kws.map (·.1)).zip ks) (bindArgs (PySem.W.fnOf x x (defArgs st) (defBody st) (defScope st) .none (.ref D) doc pm an cdv ct) ⟨us, []⟩) (ps.zip (us ++ ks)))
    (F : ∀ a fd, Fun K x x st a fd → FnOk P w K mg base CX0 k a fd ps sp) : FnGD P w K mg base k x (kws.map (·.2)) sp := by
  obtain ⟨f, oc, od, D, doc, pm, an, cd, ct, sl, h1, h2, h3, h4, h5⟩ := t
  have F1 := fun_mk h2 h3 h4
  have FD : FunD K x x (defArgs st) (defBody st) (defScope st) [] kws f (PySem.W.fnOf x x (defArgs st) (defBody st) (defScope st) .none (.ref D) doc pm an cd ct) := ⟨⟨oc, od, .none, .ref D, doc, pm, an, cd, ct, sl, rfl, h2, h3, .inl ⟨rfl, rfl⟩, .inr ⟨D, rfl, h5⟩⟩, h4⟩
  obtain ⟨ds, r, b⟩ := FD.binds0 n hk hn hb
  exact ⟨f, _, ps, ds, PySem.W.mg_of X G h1, h4, r, b, F _ _ F1⟩
/-- .. called by n places and the keywords ks, no parameter left out -/
theorem FnKD.kwAll {x : Str} {st : Stmt} {kws : List (Str × V)} {ps ks : List Str} {k n : Nat} {gV : List V → List V → List V} {g : List Value → List Value → List Value} {sp : Sp} (t : FnKD K x st kws) (X : K.In h) (G : h.Ns mainGlobals mg)
    (rel : ∀ {vs : List V} {us : List Value} {zs : List V} {ws : List Value}, Vals vs us → Vals zs ws → Vals (gV vs zs) (g us ws))
    (hb : ∀ (D : Addr) (doc pm : Value) (an : Option Addr) (cdv ct : Value) (us ws : List Value), us.length = n → ws.length = ks.length →
      bindArgs (PySem.W.fnOf x x (defArgs st) (defBody st) (defScope st) .none (.ref D) doc pm an cdv ct) ⟨us, ks.zip ws⟩ = pure (ps.zip (g us ws)))
    (F : ∀ a fd, Fun K x x st a fd → FnOk P w K mg base CX0 k a fd ps sp) : FnGK P w K mg base k x n ks gV sp := by
  obtain ⟨f, oc, od, D, doc, pm, an, cd, ct, sl, h1, h2, h3, h4, h5⟩ := t
  exact ⟨f, _, ps, g, PySem.W.mg_of X G h1, h4, ⟨fun s us ws _ l1 l2 => .of_eq (hb D doc pm an cd ct us ws l1 l2), rel⟩, F _ _ (fun_mk h2 h3 h4)⟩
end
end Lay

set_option Elab.async false
set_option linter.all false
set_option maxRecDepth 100000
set_option maxHeartbeats 4000000
namespace Lay
open PySem PySem.Spec PyProof.Rows L2
/-! ### a dict of the heap -/
section
variable {P : Program} {w : World} {K : PySem.W.Frag} {H : Hp} {Q : VK} {x v : V} {a : Addr} {o : Option V}
theorem LX.un1 {X : Cx} (L : LX P w K X) : X.A.units + 1 < cLine := by
  have := L.un
  omega
theorem c_ind (g : DGet H a x o) (q : Q (.bl o.isSome) H) : sB P w K (compareOp .In) x (.ref a) H Q := by
  refine ⟨fun x y H Q => ∃ a o, y = .ref a ∧ DGet H a x o ∧ Q (.bl o.isSome) H, fun X L => ?_, a, o, rfl, g, q⟩
  intro pins s σ H x y v u Q I rx ry h
  obtain ⟨a, o, rfl, g, q⟩ := h
  obtain rfl : u = Value.ref a := ry
  exact d_in L.un1 I g rx fun s3 I3 => ⟨.bl o.isSome, H, I3, rfl, q⟩
theorem i_d (g : DGet H a x (some v)) (q : Q v H) : sI P w K (.ref a) x H Q := by
  refine ⟨fun x y H Q => ∃ a v, x = .ref a ∧ DGet H a y (some v) ∧ Q v H, fun X L => ?_, a, v, rfl, g, q⟩
  intro value slice pins s σ H x y u i Q I rx ry h hs
  obtain ⟨a, v, rfl, g, q⟩ := h
  obtain rfl : u = Value.ref a := rx
  exact tail_any (dict_typeIs I g) PySem.F.slot_dict_getitem.lookup (d_getItem L.un1 I g ry fun w' s3 I3 rw' => ⟨v, H, I3, rw', q⟩) hs
/-- two texts name two texts -/
theorem dg2 {k1 k2 z : Str} {v1 v2 : V} (e : H a = some (.dK [(.inr k1, v1), (.inr k2, v2)])) (n : k1 ≠ k2) : DGet H a (.str z) (if z = k1 then some v1 else if z = k2 then some v2 else none) := by
  have := DGet.k (k := .inr z) e
  have e2 : valV [((Sum.inr k1 : Key), v1), (.inr k2, v2)] (.inr z) = if z = k1 then some v1 else if z = k2 then some v2 else none := by
    unfold valV
    by_cases h1 : z = k1
    · subst h1
      simp
    · by_cases h2 : z = k2
      · subst h2
        have h3 : ¬ k1 = z := fun q => n q
        simp [h1, h3]
      · have h3 : ¬ k1 = z := fun q => h1 q.symm
        have h4 : ¬ k2 = z := fun q => h2 q.symm
        simp [h1, h2, h3, h4]
  rw [e2] at this
  exact this
theorem c_isN0 {k : Bool} (h : decide (x = .non) = k) (q : Q (.bl k) H) : sB P w K (compareOp .Is) x .non H Q := c_isN (h ▸ q)
end
section
variable {H : Hp} {Q : VK} {σ : L2.St}
theorem r_disp {trs : List (TE × TE)} (q : ∀ p, H p = none → tPairs trs σ (upd H p (.dK [])) fun ps H2 => H2 p = some (.dK []) ∧ ∃ kvs : List (Key × V), ps = kvs.map (fun kv => (kV kv.1, kv.2)) ∧ kvs.length ≤ 15 ∧ Q (.ref p) (upd H2 p (.dK (mergeK [] kvs)))) : tDisp trs σ H Q := q
theorem r_pnil {Q : List (V × V) → Hp → Prop} (q : Q [] H) : tPairs [] σ H Q := q
theorem r_pcons {tk tv : TE} {r : List (TE × TE)} {Q : List (V × V) → Hp → Prop} (q : tk σ H fun x H1 => tv σ H1 fun y H2 => tPairs r σ H2 fun ps H3 => Q ((x, y) :: ps) H3) : tPairs ((tk, tv) :: r) σ H Q := q
end
end Lay
namespace Lay
open PySem PySem.Spec PyProof.Rows L2 HT
/-! ### a tuple turned round -/
theorem adj_back (n : Nat) : Builtin.Slice.sliceAdjust none none (-1) (n : Int) = ((n : Int) - 1, -1) := by
  simp [Builtin.Slice.sliceAdjust]
theorem places_back (n : Nat) : Builtin.Slice.slicePlaces ((n : Int) - 1) (-1) (-1) = n := by
  simp [Builtin.Slice.slicePlaces]
  split <;> omega
theorem fm_some {α β : Type} {f : α → Option β} {g : α → β} : ∀ {l : List α}, (∀ m ∈ l, f m = some (g m)) → l.filterMap f = l.map g
  | [], _ => rfl
  | x :: r, h => by
    rw [List.filterMap_cons_some (h x List.mem_cons_self), fm_some fun m hm => h m (List.mem_cons_of_mem _ hm), List.map_cons]
theorem back_items (xs : Array Value) : ((List.range xs.size).filterMap fun (m : Nat) => xs[((xs.size : Int) - 1 + (m : Int) * (-1)).toNat]?).toArray = xs.toList.reverse.toArray := by
  congr 1
  have e : ∀ m ∈ List.range xs.size, xs[((xs.size : Int) - 1 + (m : Int) * (-1)).toNat]? = some (xs.toList.reverse.getD m .none) := fun m hm => by
    have h1 := List.mem_range.mp hm
    have h2 : ((xs.size : Int) - 1 + (m : Int) * (-1)).toNat = xs.size - 1 - m := by omega
    rw [h2, List.getD_eq_getElem?_getD, List.getElem?_reverse (by rw [Array.length_toList]; exact h1), Array.length_toList, Array.getElem?_toList, Array.getElem?_eq_getElem (by omega)]
    rfl
  rw [fm_some e]
  have := range_getD xs.toList.reverse Value.none
  rw [List.length_reverse, Array.length_toList] at this
  exact this
theorem slice_back {prog : Program} {w : World} {A : Around} {E : Value → Shared → Prop} {s : Shared} {sl : Addr} {vs : Value} {n : Nat} {Q : Int × Int × Nat → Shared → Prop} (hs : s.heap.IsSliceOf sl .none .none vs) (ps : IsPart vs (some (-1)))
    (h : Q ((n : Int) - 1, -1, n) s) : wpAny (model prog w) A (Builtin.Slice.sliceApplied (.ref sl) (pure (n : Int))) Q E s := by
  obtain ⟨o, o1, o2, o3⟩ := id hs
  unfold Builtin.Slice.sliceApplied Builtin.Slice.sliceFields
  refine wpAny_bind (wpAny_bind (wpAny_field o1 o3 (x := .none) rfl (wpAny_bind (wpAny_field o1 o3 (x := .none) rfl (wpAny_bind (wpAny_field o1 o3 (x := vs) rfl (wpAny_pure ?_)))))))
  refine wpAny_bind (slicePart_ ps ?_)
  show wpAny _ _ (if ((-1 : Int) == 0) = true then _ else _) _ _ s
  rw [if_neg (by decide)]
  refine wpAny_bind (slicePart_none (wpAny_bind (slicePart_none (wpAny_bind (wpAny_pure ?_)))))
  show wpAny _ _ (match Builtin.Slice.sliceAdjust none none (-1) (n : Int) with | (lo, hi) => pure (lo, (-1 : Int), Builtin.Slice.slicePlaces lo hi (-1))) _ _ s
  rw [adj_back]
  show wpAny _ _ (pure ((n : Int) - 1, (-1 : Int), Builtin.Slice.slicePlaces ((n : Int) - 1) (-1) (-1))) _ _ s
  rw [places_back]
  exact wpAny_pure h
theorem getItem_back {prog : Program} {w : World} {A : Around} {E : Value → Shared → Prop} {s : Shared} {t sl : Addr} {items : Array Value} {vs : Value} {Q : Value → Shared → Prop} (ht : IsTup s.heap t items) (hs : s.heap.IsSliceOf sl .none .none vs) (ps : IsPart vs (some (-1)))
    (h : Q (.ref s.heap.objs.size) { s with heap := s.heap.push { cls := .type "tuple", data := .seq items.toList.reverse.toArray } }) (hz : items.size ≤ sizeLine) : wpAny (model prog w) A (getItem (.ref t) (.ref sl)) Q E s := by
  have fits : sizeOk (.seq items.toList.reverse.toArray) := by
    show items.toList.reverse.toArray.size ≤ sizeLine
    rw [List.size_toArray, List.length_reverse, Array.length_toList]
    exact hz
  obtain ⟨o, o1, o2, o3⟩ := id hs
  have hT : s.TypeIs (.ref sl) "slice" := ⟨o, o1, o2⟩
  unfold getItem
  try with_reducible refine wpAny_holding ?_
  try refine wpAny_bind (wpAny_pure ?_)
  refine wpAny_bind (wpAny_sequenceKey ht.typeIs (by decide) ?_)
  refine wpAny_bind (wpAny_callSpecial?_slot (name := Str.ofString "__getitem__") ht.typeIs PyProof.Rows.slot_tuple_getitem (wpAny_call_entry PyProof.Rows.slot_tuple_getitem ht.typeIs entry_tuple_getitem ?_ (args_tuple_getitem _ _)))
  show wpAny _ _ (Builtin.Tuple.tupleItemsOf (.ref t) >>= _) _ _ s
  refine wpAny_bind (tupleItemsOf_ ht (wpAny_bind (wpAny_typeOf hT ?_)))
  rw [if_pos (by decide)]
  refine wpAny_bind (slice_back hs ps ?_)
  show wpAny _ _ (if (((items.size : Int) - 1) == 0 && (-1 : Int) == 1 && items.size == items.size) = true then _ else _) _ _ s
  rw [if_neg (by simp), back_items]
  first
    | exact wpAny_bind (m := Builtin.Tuple.tupleExact _) (wpAny_newObj_type (wpAny_pure ⟨_, rfl, wpAny_pure h⟩) fits)
    | exact wpAny_bind (m := Builtin.Tuple.tupleExact _) (wpAny_newObj_type (wpAny_bind (wpAny_pure (wpAny_pure ⟨_, rfl, wpAny_pure h⟩))) fits)
    | exact wpAny_bind (wpAny_bind (m := Builtin.Tuple.tupleExact _) (wpAny_newObj_type (wpAny_pure (wpAny_pure ⟨_, rfl, wpAny_pure h⟩)) fits))
    | exact wpAny_bind (wpAny_bind (m := Builtin.Tuple.tupleExact _) (wpAny_newObj_type (wpAny_pure ⟨_, rfl, wpAny_pure h⟩) fits))
/-- t[::-1] -/
def tBack (K : PySem.W.Frag) (te : TE) : TE := fun σ H Q => te σ H fun x H1 => ∃ a xs, x = .ref a ∧ SqT K H1 a xs ∧ ∀ p, H1 p = none → Q (.ref p) (upd H1 p (.tup xs.reverse))
theorem pe_revA {P : Program} {w : World} {K : PySem.W.Frag} {X : Cx} {e : Expr} {te : TE} {k : Nat} {p1 p2 p3 pos : Pos} (L : LX P w K X) (he : PE X e te) : PE X (.Subscript e (.Slice none none (some (.UnaryOp .USub (.Constant (.int 1) k p1) p2)) p3) pos) (tBack K te) := by
  obtain ⟨_, _, rfl, _, _⟩ := L
  refine ⟨fun pins s σ H Q I h => Subscript_ (thn (he.run pins s σ H _ I h) fun v s1 ⟨x, H1, I1, r1, a, xs, ex, hx, q⟩ => ?_)⟩
  subst ex
  cases r1
  have hst : PO X (some (.UnaryOp .USub (.Constant (.int 1) k p1) p2)) (tPart (tUn (rU fun i => .int (-i)) (tC (.int 1)))) := po_some (pe_un un_neg pe_int)
  refine wpAny_Slice (thn (po_none.run pins s1 σ H1 (fun o H2 => o = none ∧ H2 = H1) I1 ⟨rfl, rfl⟩) fun vl s2 ⟨l, H2, I2, pl, el, e2⟩ => ?_)
  subst el e2
  refine thn (po_none.run pins s2 σ H2 (fun o H3 => o = none ∧ H3 = H2) I2 ⟨rfl, rfl⟩) fun vu s3 ⟨u, H3, I3, pu, eu, e3⟩ => ?_
  subst eu e3
  cases pl
  cases pu
  refine thn (hst.run pins s3 σ H3 (fun o H4 => o = some (-1) ∧ H4 = H3) I3 ⟨1, rfl, -1, rfl, rfl, rfl⟩) fun vs s4 ⟨o, H4, I4, ps, eo, e4⟩ => ?_
  subst eo e4
  have I5 : Inv X pins σ H4 { s4 with heap := s4.heap.push { cls := .type "slice", data := .fields #[.none, .none, vs] } } := I4.kept (t' := s4.toks) fun b ob q => Heap.get?_push_of_some _ q
  obtain ⟨its, r, ht, hz⟩ := I5.tuple hx
  have hl := r.length
  show wpAny (model X.prog X.w) X.A (subscriptTail e (.Slice none none (some (.UnaryOp .USub (.Constant (.int 1) k p1) p2)) p3) (.ref a) (.ref s4.heap.objs.size)) (EP X pins σ Q) X.xe { s4 with heap := s4.heap.push { cls := .type "slice", data := .fields #[.none, .none, vs] } }
  refine tail_any (ops := [.ref a, .ref s4.heap.objs.size]) ht.typeIs PyProof.Rows.slot_tuple_getitem.lookup ?_ (by with_unfolding_all rfl)
  refine getItem_back ht (Heap.IsSliceOf.new _ .none .none vs) ps ?_ (by rw [List.size_toArray]; omega)
  refine ⟨.ref _, _, I5.laid (t' := s4.toks) (o := .tup xs.reverse) (fun b ob q => Heap.get?_push_of_some _ q) (Nat.le_refl _) ?_, rfl, q _ (I5.hok.fresh (Nat.le_refl _))⟩
  exact ⟨by rw [List.length_reverse]; exact hz, _, r.reverse, IsTup.new _ _⟩
theorem r_back {K : PySem.W.Frag} {te : TE} {σ : L2.St} {H : Hp} {Q : VK} (q : te σ H fun x H1 => ∃ a xs, x = .ref a ∧ SqT K H1 a xs ∧ ∀ p, H1 p = none → Q (.ref p) (upd H1 p (.tup xs.reverse))) : tBack K te σ H Q := q
end Lay

set_option Elab.async false
set_option linter.all false
set_option maxRecDepth 100000
set_option maxHeartbeats 4000000
namespace Lay
open PySem PySem.Spec PyProof.Rows L2
/-! ### fields of an object -/
theorem pf_nil {f : Str} {v : V} : putF f v [] = [(f, v)] := rfl
theorem pf_ne {f g : Str} {v x : V} {r r' : List (Str × V)} (h : ¬ g = f) (q : putF f v r = r') : putF f v ((g, x) :: r) = (g, x) :: r' := by
  show (if g = f then (g, v) :: r else (g, x) :: putF f v r) = _
  rw [if_neg h, q]
theorem pf_eq {f : Str} {v x : V} {r : List (Str × V)} : putF f v ((f, x) :: r) = (f, v) :: r := by
  show (if f = f then (f, v) :: r else (f, x) :: putF f v r) = _
  rw [if_pos rfl]
theorem lf_nil {f : Str} : ([] : List (Str × V)).lookup f = none := rfl
theorem lf_eq {f : Str} {v : V} {r : List (Str × V)} : List.lookup f ((f, v) :: r) = some v := by
  unfold List.lookup
  rw [beq_self_eq_true]
theorem lf_ne {f g : Str} {x : V} {o : Option V} {r : List (Str × V)} (h : (f == g) = false) (q : r.lookup f = o) : List.lookup f ((g, x) :: r) = o := by
  unfold List.lookup
  rw [h]
  exact q
theorem itnT' {A B : Prop} {b : Bool} (e : b = true) (h : B) : if (!b) = true then A else B := by
  rw [e]
  exact itnT h
/-! ### methods, classes -/
/-- a method as it stands behind the top -/
def Mt0 (K : PySem.W.Frag) (C : Addr) (m qual : Str) (st : Stmt) (ps : List Str) : Prop := ∃ f fd, Fun K m qual st f fd ∧ Meth K C m f ∧ Binds K fd ps []
/-- .. and keeps its promise -/
def MtG (P : Program) (w : World) (K : PySem.W.Frag) (mg : Str → Option Value) (base : Heap) (k : Nat) (C : Addr) (m : Str) (sp : Sp) : Prop :=
  ∃ f fd ps, Meth K C m f ∧ Binds K fd ps [] ∧ FnOk P w K mg base CX0 k f fd ps sp
/-- a class, made by its name with the defaults dvs -/
def MkG (P : Program) (w : World) (K : PySem.W.Frag) (mg : Str → Option Value) (base : Heap) (k : Nat) (x : Str) (C : Addr) (dvs : List V) (sp : Sp) : Prop :=
  ∃ f fd ps ds, Mk K C f ∧ mg x = some (.ref C) ∧ Vals dvs ds ∧ Binds K fd ps ds ∧ FnOk P w K mg base CX0 k f fd ps sp
/-- an __init__ without defaults -/
def In0 (K : PySem.W.Frag) (mg : Str → Option Value) (x : Str) (C : Addr) (qual : Str) (st : Stmt) (ps : List Str) : Prop := ∃ f fd, Fun K "__init__" qual st f fd ∧ Mk K C f ∧ mg x = some (.ref C) ∧ Binds K fd ps []
/-- an __init__ with defaults dvs -/
def InD (K : PySem.W.Frag) (mg : Str → Option Value) (x : Str) (C : Addr) (qual : Str) (st : Stmt) (ps : List Str) (dvs : List V) : Prop :=
  ∃ f fd ds, FunD K "__init__" qual (defArgs st) (defBody st) (defScope st) dvs [] f fd ∧ Mk K C f ∧ mg x = some (.ref C) ∧ Vals dvs ds ∧ Binds K fd ps ds
section
variable {P : Program} {w : World} {K : PySem.W.Frag} {mg : Str → Option Value} {base : Heap} {C : Addr} {x m qual : Str} {st : Stmt} {N ps : List Str} {k : Nat} {sp : Sp}
abbrev BodyOk (P : Program) (w : World) (K : PySem.W.Frag) (mg : Str → Option Value) (base : Heap) (qual : Str) (st : Stmt) (N : List Str) (k : Nat) (sp : Sp) : Prop :=
  ∀ (a : Addr) (cdv : Value) (A : Around) (outer : List Env) (s : Shared) (H : Hp) (vs : List V) (Q : VK) (E : XK), LX P w K (cxOf CX0 P w K mg base N qual (defScope st) a cdv A outer s H E).nox →
      Room k (A.deeper (envOfC qual (defScope st) s.heap.objs.size a cdv)) → sp vs H Q E →
      ∃ t, PSs (cxOf CX0 P w K mg base N qual (defScope st) a cdv A outer s H E).nox (defBody st) t ∧ t { nx := fun _ H' => Q .non H', rt := Q } (start N vs) H
theorem Mt0.ok (F : Mt0 K C m qual st ps) (S : FnScope N ps (defScope st)) (len : ∀ vs H Q E, sp vs H Q E → vs.length = ps.length) (body : BodyOk P w K mg base qual st N k sp) : MtG P w K mg base (k + 1) C m sp := by
  obtain ⟨f, fd, F, h, b⟩ := F
  exact ⟨f, fd, ps, h, b, F.ok S len fun cdv A outer s H vs Q E hr h => body f cdv A outer s H vs Q E ⟨rfl, rfl, rfl, rfl, hr.units⟩ hr h⟩
theorem In0.ok (F : In0 K mg x C qual st ps) (S : FnScope N ps (defScope st)) (len : ∀ vs H Q E, sp vs H Q E → vs.length = ps.length) (body : BodyOk P w K mg base qual st N k sp) : MkG P w K mg base (k + 1) x C [] sp := by
  obtain ⟨f, fd, F, h, hm, b⟩ := F
  exact ⟨f, fd, ps, [], h, hm, .nil, b, F.ok S len fun cdv A outer s H vs Q E hr h => body f cdv A outer s H vs Q E ⟨rfl, rfl, rfl, rfl, hr.units⟩ hr h⟩
/-- .. called with its defaults -/
theorem InD.ok {dvs : List V} (F : InD K mg x C qual st ps dvs) (S : FnScope N ps (defScope st)) (len : ∀ vs H Q E, sp vs H Q E → vs.length = ps.length) (body : BodyOk P w K mg base qual st N k sp) : MkG P w K mg base (k + 1) x C dvs sp := by
  obtain ⟨f, fd, ds, F, h, hm, hv, b⟩ := F
  refine ⟨f, fd, ps, ds, h, hm, hv, b, F.ok S len fun cdv A outer s H vs Q E hr h => ?_⟩
  obtain ⟨t, h1, h2⟩ := body f cdv A outer s H vs Q E ⟨rfl, rfl, rfl, rfl, hr.units⟩ hr h
  exact ⟨t, h1.nox, h2⟩
theorem MtG.mono {j : Nat} (F : MtG P w K mg base j C m sp) (h : j ≤ k) : MtG P w K mg base k C m sp := by
  obtain ⟨f, fd, ps, h1, h2, h3⟩ := F
  exact ⟨f, fd, ps, h1, h2, h3.mono h⟩
end
section
variable {P : Program} {w : World} {K : PySem.W.Frag} {X : Cx} {k : Nat} {C : Addr} {x m f : Str} {dvs : List V} {sp : Sp} {p pos apos pos' : Pos} {e o value : Expr} {es : List Expr} {ta tv : TE} {t : TA}
theorem pe_mkG0 (F : MkG X.prog X.w X.K X.mg X.base k x C dvs sp) (hr : Room (k + 1) X.A) (hg : Gl X x) (hdb : (x == ("__debug__" : Str)) = false := by decide) : PE X (.Call (.Name x p) [] [] pos) (tMake C sp dvs E0 tNil) := by
  obtain ⟨f, fd, ps, ds, h1, h2, h3, h4, h5⟩ := F
  exact pe_make0 h1 h5 hr hg h2 h4 h3 pass0 hdb
theorem pe_mkG (F : MkG X.prog X.w X.K X.mg X.base k x C dvs sp) (hr : Room (k + 1) X.A) (hg : Gl X x) (ha : PA X (e :: es) t) (hdb : (x == ("__debug__" : Str)) = false := by decide)
    (he : starEach (e :: es) X.env = (false, eval e X.env) :: starEach es X.env := by rfl) (hpl : (backTo pos (starEach es X.env)).any (·.1) = false := by rfl) : PE X (.Call (.Name x p) (e :: es) [] pos) (tMake C sp dvs E0 t) := by
  obtain ⟨f, fd, ps, ds, h1, h2, h3, h4, h5⟩ := F
  exact pe_make h1 h5 hr hg h2 h4 h3 pass0 ha hdb he hpl
theorem pe_mtG {pl : Sem Bool} (c : Cls X.K C) (F : MtG X.prog X.w X.K X.mg X.base k C m sp) (hr : Room k X.A) (he : PE X o ta) (ha : PA X (e :: es) t)
    (hst : starEach (e :: es) X.env = (false, eval e X.env) :: starEach es X.env := by rfl) (hpl : (backTo pos (starEach es X.env)).any (·.1) = false := by rfl)
    (ht : eval (.Call (.Attribute o m apos) (e :: es) [] pos) X.env = (do
      let ov ← eval o X.env
      standAt apos.atName
      let (f, first) ← holding [ov] (getMethod ov m pl)
      callWith pos f first (backTo pos (starEach (e :: es) X.env)) (backToKw pos (keywordEach [] X.env))) := by rfl) :
    PE X (.Call (.Attribute o m apos) (e :: es) [] pos) (tMeth C m sp [] E0 ta t) := by
  obtain ⟨f, fd, ps, h1, h2, h3⟩ := F
  exact pe_meth (pl := pl) he c h1 h3 hr h2 .nil pass0 ha hst hpl ht
theorem pe_mtG0 {pl : Sem Bool} (c : Cls X.K C) (F : MtG X.prog X.w X.K X.mg X.base k C m sp) (hr : Room k X.A) (he : PE X o ta)
    (ht : eval (.Call (.Attribute o m apos) [] [] pos) X.env = (do
      let ov ← eval o X.env
      standAt apos.atName
      let (f, first) ← holding [ov] (getMethod ov m pl)
      callWith pos f first (backTo pos (starEach [] X.env)) (backToKw pos (keywordEach [] X.env))) := by rfl) :
    PE X (.Call (.Attribute o m apos) [] [] pos) (tMeth C m sp [] E0 ta tNil) := by
  obtain ⟨f, fd, ps, h1, h2, h3⟩ := F
  exact pe_meth0 (pl := pl) he c h1 h3 hr h2 .nil pass0 ht
theorem pe_fldL (L : LX P w K X) (he : PE X e ta) (hb : attributeBase e f X.env (eval e X.env) = eval e X.env := by rfl) : PE X (.Attribute e f pos) (tFld K ta f) := by
  obtain ⟨_, _, rfl, _, _⟩ := L
  exact pe_fld he hb
theorem ps_fldL (L : LX P w K X) (ha : PE X o ta) (hv : PE X value tv) (hs : swapsWith value (some (.Attribute o f pos')) pos.line X.env = pure false := by rfl) : PS X (.Assign [.Attribute o f pos'] value pos) (sFld K ta tv f) := by
  obtain ⟨_, _, rfl, _, _⟩ := L
  exact ps_fld ha hv hs
end
/-! ### readings -/
section
variable {P : Program} {w : World} {K : PySem.W.Frag} {H : Hp} {Q : VK} {σ : L2.St} {ta tv : TE} {t : TA} {C a dx : Addr} {fs fs' : List (Str × V)} {f m : Str} {v y : V} {sp : Sp} {dvs : List V}
theorem r_fld (q : ta σ H fun x H1 => ∃ a C dx fs v, x = .ref a ∧ H1 a = some (.ins C dx fs) ∧ Cls K C ∧ NoAttr K C f ∧ fs.lookup f = some v ∧ Q v H1) : tFld K ta f σ H Q := q
theorem f_get {R : V → Prop} (e : H a = some (.ins C dx fs)) (c : Cls K C) (n : NoAttr K C f) (l : fs.lookup f = some v) (q : R v) : ∃ a' C dx fs v, V.ref a = .ref a' ∧ H a' = some (.ins C dx fs) ∧ Cls K C ∧ NoAttr K C f ∧ fs.lookup f = some v ∧ R v := ⟨a, C, dx, fs, v, rfl, e, c, n, l, q⟩
theorem r_sfld {nx bk ct : L2.St → Hp → Prop} {rt : VK} (q : tv σ H fun y H1 => ta σ H1 fun x H2 => ∃ a C dx fs, x = .ref a ∧ H2 a = some (.ins C dx fs) ∧ Cls K C ∧ NoAttr K C f ∧ fs.length < 1000 ∧ nx σ (upd H2 a (.ins C dx (putF f y fs)))) : sFld K ta tv f ⟨nx, rt, bk, ct⟩ σ H := q
theorem f_put {R : Hp → Prop} (e : H a = some (.ins C dx fs)) (c : Cls K C) (n : NoAttr K C f) (p : putF f y fs = fs') (l : fs.length < 1000) (q : R (upd H a (.ins C dx fs'))) : ∃ a' C dx fs, V.ref a = .ref a' ∧ H a' = some (.ins C dx fs) ∧ Cls K C ∧ NoAttr K C f ∧ fs.length < 1000 ∧ R (upd H a' (.ins C dx (putF f y fs))) :=
  ⟨a, C, dx, fs, rfl, e, c, n, l, by rw [p]; exact q⟩
theorem r_make (q : t σ H fun vs H1 => ∀ x dx, H1 x = none → H1 dx = none → dx ≠ x → sp (.ref x :: (vs ++ dvs)) (upd (upd H1 dx (.own x)) x (.ins C dx [])) (fun v H2 => v = .non ∧ Q (.ref x) H2) E0) : tMake C sp dvs E0 t σ H Q := q
theorem r_meth (q : ta σ H fun x H1 => ∃ a dx fs, x = .ref a ∧ H1 a = some (.ins C dx fs) ∧ fs.lookup m = none ∧ t σ H1 fun vs H2 => sp (x :: (vs ++ dvs)) H2 Q E0) : tMeth C m sp dvs E0 ta t σ H Q := q
theorem m_on {R : V → Prop} (e : H a = some (.ins C dx fs)) (l : fs.lookup m = none) (q : R (.ref a)) : ∃ a' dx fs, V.ref a = .ref a' ∧ H a' = some (.ins C dx fs) ∧ fs.lookup m = none ∧ R (.ref a) := ⟨a, dx, fs, rfl, e, l, q⟩
theorem r_dnewK (q : ∀ p, H p = none → Q (.ref p) (upd H p (.dK []))) : tDNewK σ H Q := q
/-- a new object -/
theorem same_made {x dx : Addr} {o o' : HO} (n : H x = none) (n' : H dx = none) : Same H (upd (upd H dx o) x o') := fun b u e => by
  rw [upd_ne (ne_of_none e n), upd_ne (ne_of_none e n')]
  exact e
end
/-! ### what the top has written of classes -/
section
variable {K : PySem.W.Frag} {mg : Str → Option Value} {h : Heap} {cn m qual f : Str} {st : Stmt} {C : Addr}
def ClK (K : PySem.W.Frag) (cn : Str) : Prop := ∃ C, PySem.W.nsIn K mainGlobals cn = some (some (.ref C)) ∧ Cls K C
theorem ClK.mk (h1 : PySem.W.nsIn K mainGlobals cn = some (some (.ref C))) (h2 : PySem.W.plainGet K C Str.empty = true) (h3 : PySem.W.hasDictIn K C = true) (h4 : PySem.W.plainOver K C = true) (h5 : PySem.W.findIn K (.ref C) "__setattr__" = some (some (.builtin "object.__setattr__"))) : ClK K cn := ⟨C, h1, h2, h3, h4, h5⟩
def NoK (K : PySem.W.Frag) (cn f : Str) : Prop := ∃ C, PySem.W.nsIn K mainGlobals cn = some (some (.ref C)) ∧ NoAttr K C f
theorem NoK.mk (h1 : PySem.W.nsIn K mainGlobals cn = some (some (.ref C))) (h2 : PySem.W.findIn K (.ref C) f = some none) : NoK K cn f := ⟨C, h1, h2⟩
theorem NoK.at (t : NoK K cn f) (e : PySem.W.nsIn K mainGlobals cn = some (some (.ref C))) : NoAttr K C f := by
  obtain ⟨C', e', n⟩ := t
  cases e.symm.trans e'
  exact n
theorem kit_own {T : String} (h : PySem.W.subIn K (.ref C) (.type T) = some false) (m : PySem.W.kitMeta T = true := by decide +kernel) : PySem.W.kitOne K (.ref C) (.type T) = some false := by
  unfold PySem.W.kitOne PySem.W.kitCls
  rw [if_neg (by simp)]
  show (if PySem.W.kitMeta T = true then _ else _) = _
  rw [if_pos m]
  exact h
def OwnK (K : PySem.W.Frag) (cn : Str) : Prop := ∃ C, PySem.W.nsIn K mainGlobals cn = some (some (.ref C)) ∧ OwnC K C
theorem OwnK.mk {o : Obj} (h1 : PySem.W.nsIn K mainGlobals cn = some (some (.ref C))) (h2 : PySem.W.plainGet K C Str.empty = true) (h3 : PySem.W.hasDictIn K C = true) (h4 : PySem.W.plainOver K C = true) (h5 : PySem.W.findIn K (.ref C) "__setattr__" = some (some (.builtin "object.__setattr__")))
    (a1 : PySem.W.findIn K (.ref C) "__class__" = some (some (.builtin "object.__class__"))) (a2 : PySem.W.specialIn K (.builtin "object.__class__") "__get__" = some (some (.builtin "getset_descriptor.__get__"))) (a3 : PySem.W.takesIn K (.builtin "object.__class__") = some true)
    (a4 : PySem.W.mroIn K C (.type "object") = some true) (a5 : K.lookup C = some o) (a6 : o.cls = .type "type") (a7 : PySem.W.subIn K (.ref C) (.type "str") = some false) (a8 : PySem.W.subIn K (.ref C) (.type "tuple") = some false) (a9 : PySem.W.subIn K (.ref C) (.type "bool") = some false) : OwnK K cn :=
  ⟨C, h1, ⟨h2, h3, h4, h5⟩, a1, a2, a3, a4, ⟨o, a5, a6⟩, kit_own a7, kit_own a8, kit_own a9⟩
theorem OwnK.at (t : OwnK K cn) (e : PySem.W.nsIn K mainGlobals cn = some (some (.ref C))) : OwnC K C := by
  obtain ⟨C', e', n⟩ := t
  cases e.symm.trans e'
  exact n
/-- a method (or __init__) without defaults -/
def MtK (K : PySem.W.Frag) (cn m qual : Str) (st : Stmt) : Prop := ∃ (C f : Addr) (oc : Value) (od : Option Addr) (kV doc pm : Value) (an : Option Addr) (cd ct : Value) (sl : Array (Option Value)),
  PySem.W.nsIn K mainGlobals cn = some (some (.ref C)) ∧ PySem.W.findIn K (.ref C) m = some (some (.ref f)) ∧ PySem.W.isFn K (.ref f) = true ∧ K.lookup f = some ⟨oc, od, .func (PySem.W.fnOf m qual (defArgs st) (defBody st) (defScope st) .none kV doc pm an cd ct), sl⟩ ∧ PySem.W.codeIn K cd qual = true ∧ PySem.W.keepIn K (.ref f) = true
theorem MtK.mk {f : Addr} {oc : Value} {od : Option Addr} {kV doc pm : Value} {an : Option Addr} {cd ct : Value} {sl : Array (Option Value)} (h1 : PySem.W.nsIn K mainGlobals cn = some (some (.ref C))) (h2 : PySem.W.findIn K (.ref C) m = some (some (.ref f))) (h3 : PySem.W.isFn K (.ref f) = true)
    (h4 : K.lookup f = some ⟨oc, od, .func (PySem.W.fnOf m qual (defArgs st) (defBody st) (defScope st) .none kV doc pm an cd ct), sl⟩) (h5 : PySem.W.codeIn K cd qual = true) (h6 : PySem.W.keepIn K (.ref f) = true) : MtK K cn m qual st := ⟨C, f, oc, od, kV, doc, pm, an, cd, ct, sl, h1, h2, h3, h4, h5, h6⟩
theorem MtK.mt0 {ps : List Str} (t : MtK K cn m qual st) (e : PySem.W.nsIn K mainGlobals cn = some (some (.ref C)))
    (hb : ∀ (kV doc pm : Value) (an : Option Addr) (cdv ct : Value) (us : List Value), us.length = ps.length → bindArgs (PySem.W.fnOf m qual (defArgs st) (defBody st) (defScope st) .none kV doc pm an cdv ct) ⟨us, []⟩ = pure (ps.zip us)) : Mt0 K C m qual st ps := by
  obtain ⟨C', f, oc, od, kV, doc, pm, an, cd, ct, sl, h1, h2, h3, h4, h5, h6⟩ := t
  cases e.symm.trans h1
  have F := fun_mk h4 h5 h6
  exact ⟨f, _, F, ⟨h2, h3, h6⟩, F.binds hb⟩
def MakesK (K : PySem.W.Frag) (cn : Str) : Prop := ∃ C, PySem.W.nsIn K mainGlobals cn = some (some (.ref C)) ∧ PySem.W.makesIn K C = true ∧ PySem.W.keepIn K (.ref C) = true
theorem MakesK.mk (h1 : PySem.W.nsIn K mainGlobals cn = some (some (.ref C))) (h2 : PySem.W.makesIn K C = true) (h3 : PySem.W.keepIn K (.ref C) = true) : MakesK K cn := ⟨C, h1, h2, h3⟩
theorem MtK.in0 {ps : List Str} (t : MtK K cn "__init__" qual st) (k : MakesK K cn) (X : K.In h) (G : h.Ns mainGlobals mg) (e : PySem.W.nsIn K mainGlobals cn = some (some (.ref C)))
    (hb : ∀ (kV doc pm : Value) (an : Option Addr) (cdv ct : Value) (us : List Value), us.length = ps.length → bindArgs (PySem.W.fnOf "__init__" qual (defArgs st) (defBody st) (defScope st) .none kV doc pm an cdv ct) ⟨us, []⟩ = pure (ps.zip us)) : In0 K mg cn C qual st ps := by
  obtain ⟨C', f, oc, od, kV, doc, pm, an, cd, ct, sl, h1, h2, h3, h4, h5, h6⟩ := t
  cases e.symm.trans h1
  obtain ⟨C', k1, k2, k3⟩ := k
  cases e.symm.trans k1
  have F := fun_mk h4 h5 h6
  exact ⟨f, _, F, ⟨k2, h2, h3, k3⟩, PySem.W.mg_of X G e, F.binds hb⟩
/-- an __init__ with one default: a tuple of nothing -/
def InEK (K : PySem.W.Frag) (cn qual : Str) (st : Stmt) : Prop := ∃ (C f T t : Addr) (oc : Value) (od : Option Addr) (kV doc pm : Value) (an : Option Addr) (cd ct : Value) (sl : Array (Option Value)) (o o2 : Obj) (its its2 : Array Value) (n n2 : Nat),
  PySem.W.nsIn K mainGlobals cn = some (some (.ref C)) ∧ PySem.W.findIn K (.ref C) "__init__" = some (some (.ref f)) ∧ PySem.W.isFn K (.ref f) = true ∧ K.lookup f = some ⟨oc, od, .func (PySem.W.fnOf "__init__" qual (defArgs st) (defBody st) (defScope st) (.ref T) kV doc pm an cd ct), sl⟩ ∧ PySem.W.codeIn K cd qual = true ∧ PySem.W.keepIn K (.ref f) = true ∧
  K.lookup T = some o ∧ o.data = .seq its n ∧ its.toList = [.ref t] ∧ K.lookup t = some o2 ∧ o2.cls = .type "tuple" ∧ o2.data = .seq its2 n2 ∧ its2.toList = []
theorem InEK.mk {f T t : Addr} {oc : Value} {od : Option Addr} {kV doc pm : Value} {an : Option Addr} {cd ct : Value} {sl : Array (Option Value)} {o o2 : Obj} {its its2 : Array Value} {n n2 : Nat} (h1 : PySem.W.nsIn K mainGlobals cn = some (some (.ref C))) (h2 : PySem.W.findIn K (.ref C) "__init__" = some (some (.ref f))) (h3 : PySem.W.isFn K (.ref f) = true)
    (h4 : K.lookup f = some ⟨oc, od, .func (PySem.W.fnOf "__init__" qual (defArgs st) (defBody st) (defScope st) (.ref T) kV doc pm an cd ct), sl⟩) (h5 : PySem.W.codeIn K cd qual = true) (h6 : PySem.W.keepIn K (.ref f) = true) (a1 : K.lookup T = some o) (a2 : o.data = .seq its n) (a3 : its.toList = [.ref t]) (a4 : K.lookup t = some o2)
    (a5 : o2.cls = .type "tuple") (a6 : o2.data = .seq its2 n2) (a7 : its2.toList = []) : InEK K cn qual st := ⟨C, f, T, t, oc, od, kV, doc, pm, an, cd, ct, sl, o, o2, its, its2, n, n2, h1, h2, h3, h4, h5, h6, a1, a2, a3, a4, a5, a6, a7⟩
theorem InEK.inD {ps : List Str} (t : InEK K cn qual st) (k : MakesK K cn) (X : K.In h) (G : h.Ns mainGlobals mg) (e : PySem.W.nsIn K mainGlobals cn = some (some (.ref C))) (hn : 1 + 1 = ps.length)
    (hb : ∀ (T : Addr) (kV doc pm : Value) (an : Option Addr) (cdv ct : Value) (us its : List Value), us.length = 1 → its.length = 1 →
      ∃ k, bindArgs (PySem.W.fnOf "__init__" qual (defArgs st) (defBody st) (defScope st) (.ref T) kV doc pm an cdv ct) ⟨us, []⟩ = seqItems? (.ref T) >>= k ∧ k (some its.toArray) = pure (ps.zip (us ++ its.drop 0))) :
    ∃ r : Addr, (∀ H, SqT K H r []) ∧ InD K mg cn C qual st ps [.ref r] := by
  obtain ⟨C', f, T, t, oc, od, kV, doc, pm, an, cd, ct, sl, o, o2, its, its2, n, n2, h1, h2, h3, h4, h5, h6, a1, a2, a3, a4, a5, a6, a7⟩ := t
  cases e.symm.trans h1
  obtain ⟨C', k1, k2, k3⟩ := k
  cases e.symm.trans k1
  have hv : Vals [V.ref t] its.toList := by
    rw [a3]
    exact .cons rfl .nil
  have FD : FunD K "__init__" qual (defArgs st) (defBody st) (defScope st) [.ref t] [] f (PySem.W.fnOf "__init__" qual (defArgs st) (defBody st) (defScope st) (.ref T) kV doc pm an cd ct) :=
    ⟨⟨oc, od, .ref T, kV, doc, pm, an, cd, ct, sl, rfl, h4, h5, .inr ⟨by simp, T, o, its.toList, n, rfl, a1, by rw [Array.toArray_toList]; exact a2, hv⟩, .inl rfl⟩, h6⟩
  obtain ⟨ds, hv2, hb2⟩ := FD.binds1 1 0 (by simp) hn hb
  refine ⟨t, fun H => .inr ⟨o2, its2, n2, a4, a5, a6, ?_, ?_⟩, f, _, ds, FD, ⟨k2, h2, h3, k3⟩, PySem.W.mg_of X G e, hv2, hb2⟩
  · have : its2.size = 0 := by rw [← Array.length_toList, a7]; rfl
    rw [this]
    exact Nat.zero_le _
  · rw [a7]
    exact .nil
end
/-- a def called by keywords alone, its keyword-only parameters left out -/
theorem FnKD.kwD {P : Program} {w : World} {K : PySem.W.Frag} {mg : Str → Option Value} {base h : Heap} {x : Str} {st : Stmt} {kws : List (Str × V)} {ps ks : List Str} {k : Nat} {sp : Sp} (t : FnKD K x st kws) (X : K.In h) (G : h.Ns mainGlobals mg)
    (hb : ∀ (D : Addr) (doc pm : Value) (an : Option Addr) (cdv ct : Value) (mv ws : List Value), mv.length = kws.length → ws.length = ks.length →
      KwChain D ((kws.map (·.1)).zip mv) (bindArgs (PySem.W.fnOf x x (defArgs st) (defBody st) (defScope st) .none (.ref D) doc pm an cdv ct) ⟨[], ks.zip ws⟩) (ps.zip (ws ++ mv)))
    (F : ∀ a fd, Fun K x x st a fd → FnOk P w K mg base CX0 k a fd ps sp) (hk : kws ≠ [] := by simp) : FnGK P w K mg base k x 0 ks (fun _ zs => zs ++ kws.map (·.2)) sp := by
  obtain ⟨f, oc, od, D, doc, pm, an, cd, ct, sl, h1, h2, h3, h4, h5⟩ := t
  have F1 := fun_mk h2 h3 h4
  have FD : FunD K x x (defArgs st) (defBody st) (defScope st) [] kws f (PySem.W.fnOf x x (defArgs st) (defBody st) (defScope st) .none (.ref D) doc pm an cd ct) := ⟨⟨oc, od, .none, .ref D, doc, pm, an, cd, ct, sl, rfl, h2, h3, .inl ⟨rfl, rfl⟩, .inr ⟨D, rfl, h5⟩⟩, h4⟩
  obtain ⟨mv, b⟩ := FD.kbinds0 (ps := ps) 0 ks kws (fun us mv ws => ws ++ mv) hk (fun q hq => hq) (fun a b c => c.append b) (fun D doc pm an cdv ct us mv ws l1 l2 l3 => by
    rw [List.length_eq_zero_iff.mp l1]
    exact hb D doc pm an cdv ct mv ws l2 l3)
  exact ⟨f, _, ps, _, PySem.W.mg_of X G h1, h4, b, F _ _ F1⟩
end Lay

set_option Elab.async false
set_option linter.all false
set_option maxRecDepth 100000
set_option maxHeartbeats 4000000
namespace LayX
open PySem PySem.W PySem.Calls PyProof.Rows
/-- an own exception class (own classes above it, ValueError at last) whose __init__ says super().__init__('..') and keeps one field -/
structure XcK (P : Program) (K : Frag) (C fI : Addr) (fld qual : Str) (body : List Stmt) : Prop where
  init : ∃ (oc : Value) (od : Option Addr) (params : Arguments) (scope : Scope) (kV doc pm : Value) (an : Option Addr) (cda cc : Addr) (ct : Value) (osl : Array (Option Value)) (ccl cl : Value) (cdd cld : Option Addr) (ccs csl : Array (Option Value)) (vs : Array Value) (file : Str) (tf : Tok) (ar : Arg),
    K.lookup fI = some ⟨oc, od, .func (ksFn "__init__" qual params body scope .none kV doc pm an (.ref cda) ct cc), osl⟩ ∧ codeIn K (.ref cda) qual = true ∧ K.lookup cda = some ⟨ccl, cdd, .fields vs, ccs⟩ ∧ vs[2]? = some (.str file tf) ∧ ((P.main.file : Str) == file) = true ∧
    K.lookup cc = some ⟨cl, cld, .cell (some (.ref C)), csl⟩ ∧ (params.posonlyargs ++ params.args).head? = some ar ∧ ar.arg = "self" ∧
    (∀ us : List Value, us.length = 2 → bindArgs (ksFn "__init__" qual params body scope .none kV doc pm an (.ref cda) ct cc) ⟨us, []⟩ = pure ([("self" : Str), fld].zip us)) ∧
    scope.kind = .function ∧ scope.isCoroutine = false ∧ scope.isGenerator = false ∧ (∀ x ∈ scope.names, x.2 ≠ .cell) ∧ scope.names.lookup ("super" : Str) = some .globalImplicit ∧ scope.names.lookup ("__class__" : Str) = some .free ∧
    scope.names.lookup ("self" : Str) = some .local ∧ scope.names.lookup fld = some .local
  top : (P.main.scope.names.lookup ("super" : Str)).isSome = false
  cls : ∃ nm q N bs bm sn sub ab col dd k0 k1 k2 k3 k5, K.lookup C = some (excClassObj nm q C N bs bm true sn sub ab col dd k0 k1 k2 k3 k5 "ValueError.__new__") ∧ PySem.HandSPX.refsVE bm = true
  find : findIn K (.ref C) "__init__" = some (some (.ref fI))
  tI : typeIn K (.ref fI) = some (.type "function")
  own : mroIn K C (.ref C) = some true
  sup : nsIn K mainGlobals "super" = some none
  opq : nsIn K cStatics "thirdparty.any" = some none
  ks : ks_superIn K C C "__init__" = some (some (.builtin "ValueError.__init__"))
  ve : subIn K (.ref C) (.type "ValueError") = some true
  xi : excInitIn K C PySem.HandSPX.veTail "ValueError.__new__" = true
  sa : findIn K (.ref C) "__setattr__" = some (some (.builtin "object.__setattr__"))
  no : findIn K (.ref C) fld = some none
  exC : subIn K (.ref C) (.type "BaseException") = some true
  tyC : typeIn K (.ref C) = some (.type "type")
  kC : keepIn K (.ref C) = true
  hd : (fld == ("__debug__" : Str)) = false
/-- its body -/
def XcBody (fld : Str) (body : List Stmt) : Prop := ∃ (msg : Str) (j : Nat) (p0 p1 p2 p3 p4 p5 p6 p7 p8 p9 : Pos) (pl : Sem Bool),
  body = [.Expr (.Call (.Attribute (.Call (.Name "super" p0) [] [] p1) "__init__" p2) [.Constant (.str msg) j p3] [] p4) p5, .Assign [.Attribute (.Name "self" p6) fld p7] (.Name fld p8) p9] ∧
  (∀ env : Env, eval (.Call (.Attribute (.Call (.Name "super" p0) [] [] p1) "__init__" p2) [.Constant (.str msg) j p3] [] p4) env = (do
    let ov ← attributeBase (.Call (.Name "super" p0) [] [] p1) "__init__" env (eval (.Call (.Name "super" p0) [] [] p1) env)
    standAt p2.atName
    let (f, first) ← holding [ov] (getMethod ov "__init__" pl)
    callWith p4 f first (backTo p4 (starEach [.Constant (.str msg) j p3] env)) [])) ∧
  (∀ env : Env, swapsWith (.Call (.Attribute (.Call (.Name "super" p0) [] [] p1) "__init__" p2) [.Constant (.str msg) j p3] [] p4) none p5.line env = pure false) ∧ ∀ env : Env, swapsWith (.Name fld p8) (some (.Attribute (.Name "self" p6) fld p7)) p9.line env = pure false
section
variable {P : Program} {w : World} {K : Frag} {A : Around} {s : Shared} {R : Result → Shared → Prop} {C fI e t0 : Addr} {fld qual : Str} {body : List Stmt} {u : Value} {mg : Str → Option Value}
open PySem.HandSPX in
theorem xinit {hp0 : Heap} (T : XcK P K C fI fld qual body) (B : XcBody fld body) (X₀ : K.In hp0) (hk0 : ∀ b o, hp0.get? b = some o → s.heap.get? b = some o) (ne : hp0.get? e = none) (hz : hp0.objs.size ≤ s.heap.objs.size) (lim : s.heap.NoLimit)
    (gl : s.heap.Ns mainGlobals mg) (bl : ∃ mb, s.heap.Ns builtinsNs mb ∧ ∀ x : Str, x ≠ "__name__" → mb x = bootBuiltins x) (room : A.depth < recursionLimit)
    (he : s.heap.get? e = some (excObj C t0 none .none)) (sn : fld ≠ "self")
    (hq : ∀ h' tk' dx t1, (∀ b o, hp0.get? b = some o → h'.get? b = some o) → hp0.objs.size ≤ dx → dx ≠ e → h'.get? e = some ({ cls := .ref C, dict := some dx, data := .fields #[.ref t1, .none, .none, .none, .bool false, .none] } : Obj) →
      h'.Ns1 dx (fun y => if y = fld then some u else none) → R (.ok (.ret .none)) { s with heap := h', toks := tk' }) : codeAny (model P w) A (.call (.ref fI) ⟨[.ref e, u], []⟩) R s := by
  have X : K.In s.heap := X₀.keeps hk0
  obtain ⟨oc, od, params, scope, kV, doc, pm, an, cda, cc, ct, osl, ccl, cl, cdd, cld, ccs, csl, vs, file, tf, ar, lk, hcd, hcode, hvs, hfile, hcell, hp_, har, hb, hk, hco, hgen, hnc, hks, hkc, hkself, hkf⟩ := T.init
  obtain ⟨nm, q, N, bs, bm, sn', sub, ab, col, dd, k0, k1, k2, k3, k5, hC, hbm⟩ := T.cls
  obtain ⟨msg, j, p0, p1, p2, p3, p4, p5, p6, p7, p8, p9, pl, rfl, hev, hs1, hs2⟩ := B
  refine ks_codeAny_call_defAt (fd := ksFn "__init__" qual params _ scope .none kV doc pm an (.ref cda) ct cc) (binds := [("self", .ref e), (fld, u)]) room (X _ _ lk) rfl lim (codeRec_of X hcd) rfl (.of_eq (hb [.ref e, u] rfl)) hnc ?_ (fun h1 hns hk1 => ?_) hco hgen hk
  · intro y hy
    rcases List.mem_cons.mp hy with rfl | hy
    · exact hkself
    · obtain rfl := List.mem_singleton.mp hy
      exact hkf
  obtain ⟨hp, g, d, t, os⟩ := s
  dsimp only at *
  have F1 : Fr hp0 hp.objs.size h1 (fun x => ([("self", Value.ref e), (fld, u)] : List (Str × Value)).reverse.lookup x) := ⟨hns, fun b o z => hk1 b o (hk0 b o z), hz⟩
  have N1 : News hp0 hp.objs.size h1 [(e, excObj C t0 none .none)] := fun p hp => by
    obtain rfl := List.mem_singleton.mp hp
    exact ⟨hk1 _ _ he, Nat.ne_of_lt (Heap.lt_size he), ne⟩
  have vself : ([("self", Value.ref e), (fld, u)] : List (Str × Value)).reverse.lookup ("self" : Str) = some (.ref e) := by
    show List.lookup _ [(fld, u), (("self" : Str), Value.ref e)] = _
    rw [List.lookup_cons, show (("self" : Str) == fld) = false from beq_eq_false_iff_ne.mpr (Ne.symm sn)]
    simp
  have vfld : ([("self", Value.ref e), (fld, u)] : List (Str × Value)).reverse.lookup fld = some u := by
    show List.lookup _ [(fld, u), (("self" : Str), Value.ref e)] = _
    simp
  obtain ⟨mb, bl1, bl2⟩ := bl
  have hcl : clsIn K C = some { name := nm, bases := bs, mro := .ref C :: bm, ns := N, qualname := q, hasDict := true, slotNames := sn', subclasses := sub, abstract := ab, collection := col, hasDel := false } := by
    unfold clsIn
    rw [hC] <;> rfl
  have hee : (e ≠ C) := fun z => by
    have := X₀ _ _ hC
    rw [← z, ne] at this
    cases this
  have hC1 : h1.get? C = some (excClassObj nm q C N bs bm true sn' sub ab col dd k0 k1 k2 k3 k5 "ValueError.__new__") := hk1 _ _ (X _ _ hC)
  have key : ∀ (A : Around) (E' : Value → Shared → Prop), _root_.PySem.wpAt (model P w) A (.func [.Expr (.Call (.Attribute (.Call (.Name "super" p0) [] [] p1) "__init__" p2) [.Constant (.str msg) j p3] [] p4) p5, .Assign [.Attribute (.Name "self" p6) fld p7] (.Name fld p8) p9] (ksEnv qual scope hp.objs.size fI (.ref cda) cc)) (execs [.Expr (.Call (.Attribute (.Call (.Name "super" p0) [] [] p1) "__init__" p2) [.Constant (.str msg) j p3] [] p4) p5, .Assign [.Attribute (.Name "self" p6) fld p7] (.Name fld p8) p9] (ksEnv qual scope hp.objs.size fI (.ref cda) cc))
      (fun f s' => R (.ok (.ret (match f with | .ret v => v | _ => .none))) s') E' { heap := h1, gens := g, drawn := d, toks := t + 2, os := os } := fun A E' => by
    refine ks_wpAt_execs_cons (ks_wpAt_Expr_any (ks_wpAt_MethodCall (pl := pl) ?ba (hev _)) ?hi (hs1 _))
    case hi =>
      unfold interactive
      rw [show (ksEnv qual scope hp.objs.size fI (.ref cda) cc).scope.kind = .function from hk]
      rfl
    case ba =>
      refine ks_wpAt_super_base (env := ksEnv qual scope hp.objs.size fI (.ref cda) cc) hks hkc (by decide) rfl (hk1 _ _ (X _ _ lk)) rfl hp_ rfl (hk1 _ _ (X _ _ hcode)) rfl hvs hfile T.top ?_
      refine ks_loadName_global hk hks (loadGlobal_builtin (env := ksEnv qual scope hp.objs.size fI (.ref cda) cc) (gl.keeps hk1) (mg_none_of X gl T.sup) (bl1.keeps hk1) ((bl2 _ (by decide +kernel)).trans (by decide +kernel)) ⟨rfl, ?_⟩)
      refine wpAny_loadName_free hk hkc rfl ⟨_, hk1 _ _ (X _ _ hcell), rfl⟩ ?_
      rw [har]
      refine wpAny_loadName_local hk hkself F1.ns vself ?_
      refine ks_wpAny_isType_cls hC1 rfl ⟨rfl, ?_⟩
      refine ks_wpAny_call_super hC1 rfl (hk1 _ _ he) rfl (fun c z => by cases z) (looks_mroIn (X.keeps hk1) T.own) (fun h2 e2 k2 => ?_)
      have F2 : Fr hp0 hp.objs.size h2 _ := ⟨F1.ns.keeps k2, fun b o z => k2 b o (F1.keep b o z), hz⟩
      have X2 : K.In h2 := (X.keeps hk1).keeps k2
      have lt1 : hp.objs.size < h1.objs.size := by
        obtain ⟨o, _, _, z, _⟩ := hns
        exact Heap.lt_size z
      have N2 : News hp0 hp.objs.size h2 [(h1.objs.size, ks_superObj C e C), (e, excObj C t0 none .none)] := fun p hp => by
        rcases List.mem_cons.mp hp with rfl | hp
        · refine ⟨e2, Nat.ne_of_gt lt1, ?_⟩
          cases z : hp0.get? h1.objs.size with
          | none => rfl
          | some o =>
            exact absurd (Nat.lt_of_lt_of_le (Heap.lt_size z) (Nat.le_trans hz (Nat.le_of_lt lt1))) (Nat.lt_irrefl _)
        · obtain ⟨a1, a2, a3⟩ := N1 p hp
          exact ⟨k2 _ _ a1, a2, a3⟩
      refine kxs_method kxs_ValueError F2 X₀ N2 (List.mem_cons_self) (InstAt.of_exc0 N2 (List.mem_cons_of_mem _ List.mem_cons_self)) T.opq T.ks T.ve (by decide) (fun q3 h3 F3 N3 l3 => ?_)
      refine kxs_callWith1 N3 List.mem_cons_self ?_
      show wpAny _ _ (spliced [(false, eval (.Constant (.str msg) j p3) (ksEnv qual scope hp.objs.size fI (.ref cda) cc))]) _ _ _
      refine spliced_cons (Constant_str (spliced_nil ⟨kxs_at N3 List.mem_cons_self, ?_⟩))
      have lq : e < q3 := l3 (e, _) (List.mem_cons_of_mem _ List.mem_cons_self)
      have le1 : e < h1.objs.size := Heap.lt_size (hk1 _ _ he)
      refine kxs_call (dv := none) (c2 := .none) (t := t0) F3 X₀ N3 PySem.F.excBase_ValueError T.xi List.mem_cons_self (.tail (Nat.ne_of_gt lq) (.tail (Nat.ne_of_gt le1) (.head fun _ z => nomatch z))) (by show 1 ≤ sizeLine; decide) (fun t4 h4 F4 N4 l4 => ?_)
      have X4 : K.In h4 := X₀.keeps F4.keep
      have m4 : (e, excObj C t4 none .none) ∈ [(t4, excTup [.str msg (t + 2 + 1)]), (q3, kxs_mw "ValueError.__init__" e), (h1.objs.size, ks_superObj C e C), (e, excObj C t4 none .none)] := by simp
      refine ks_wpAt_execs_cons (ks_wpAt_Assign_Attr (wpAt_of_wpAny (wpAny_Name (wpAny_loadName_local hk hkf F4.ns vfld (wpAny_Name (wpAny_loadName_local hk hkself F4.ns vself ?_))) T.hd)) (hs2 _))
      refine set_plain X4 (InstAt.of_exc0 N4 m4) T.sa ?_
      refine exc_osa X4 (N4 _ m4).1 hcl (show refsVE (.ref C :: bm) = true from hbm) rfl T.no (fun h5 tk5 dx k5 dn dne hx hn => ?_)
      refine wpAt_of_wpAny (wpAny_execs_nil ?_)
      have l4 : hp0.objs.size ≤ h4.objs.size := by
        obtain ⟨o, _, _, z, _⟩ := F4.ns
        exact Nat.le_trans hz (Nat.le_of_lt (Heap.lt_size z))
      refine hq h5 tk5 dx t4 (fun b o z => k5 b o (fun y => ?_) (F4.keep b o z)) (Nat.le_trans l4 dn) dne hx hn
      rw [y, ne] at z
      cases z
  exact key _ _
end
end LayX
namespace Lay
open PySem PySem.Spec PyProof.Rows L2
open LayX (XcK XcBody)
/-- C(e), an own exception that keeps e -/
def tXc (C : Addr) (fld : Str) (te : TE) : L2.St → Hp → XK → Prop := fun σ H Q => te σ H fun x H1 => ∃ v, [x] = [v] ∧ ∀ d, H1 d = none → Q (.ref C) (some d) (upd H1 d (.xd [(fld, v)]))
theorem pmk_xc {X : Cx} {C fI : Addr} {x fld qual : Str} {body : List Stmt} {e : Expr} {te : TE} {p pos : Pos} (T : XcK X.prog X.K C fI fld qual body) (B : XcBody fld body) (sn : fld ≠ "self") (hr : Room 1 X.A) (hg : Gl X x) (hm : X.mg x = some (.ref C)) (he : PE X e te)
    (hdb : (x == ("__debug__" : Str)) = false := by decide) (hs : starEach [e] X.env = (false, eval e X.env) :: starEach [] X.env := by rfl) (hpl : (backTo pos (starEach [] X.env)).any (·.1) = false := by rfl) : L2N.PMk X (.Call (.Name x p) [e] [] pos) (tXc C fld te) := by
  intro pins s σ H Q I h
  obtain ⟨nm, q, N, bs, bm, sn', sub, ab, col, dd, k0, k1, k2, k3, k5, hC, hbm⟩ := T.cls
  refine wpAny_Call_Name_kw (ld_glob I hg hm ?_ hdb)
  have ha : PA X [e] (tCons te tNil) := pa_cons he pa_nil hs
  refine PySem.W.callWith_K (h₀ := X.base) I.ok.mod.kin T.kC (thn (ha.run pos pins s σ H (fun vs H1 => ∃ v, vs = [v] ∧ ∀ d, H1 d = none → Q (.ref C) (some d) (upd H1 d (.xd [(fld, v)]))) I h) fun us s1 ⟨vs, H1, I1, r1, q1⟩ => ⟨I1.kIn, ?_⟩) hs hpl
  obtain ⟨v, rfl, q1⟩ := q1
  obtain ⟨u, rfl, ru⟩ := vals1 r1
  obtain ⟨m, fr⟩ := I1.fr
  have M := I1.ok.mod
  obtain ⟨hp, g, dr, tk, os⟩ := s1
  have ne : hp.get? (hp.objs.size + 1) = none := by
    cases z : hp.get? (hp.objs.size + 1) with
    | none => rfl
    | some o => exact absurd (Heap.lt_size z) (Nat.not_lt.mpr (Nat.le_succ _))
  have kk : ∀ b o, hp.get? b = some o → ((hp.push (PySem.W.kdv_tup [u])).push (PySem.HandSPX.excO C hp.objs.size)).get? b = some o := fun b o e => Heap.get?_push_of_some _ (Heap.get?_push_of_some _ e)
  have hget : ((hp.push (PySem.W.kdv_tup [u])).push (PySem.HandSPX.excO C hp.objs.size)).get? (hp.objs.size + 1) = some (PySem.HandSPX.excO C hp.objs.size) := by heap_get
  have kb : ∀ b o, X.base.get? b = some o → ((hp.push (PySem.W.kdv_tup [u])).push (PySem.HandSPX.excO C hp.objs.size)).get? b = some o := fun b o e => kk b o (fr.keep b o e)
  refine wpAny_call (PySem.HandSPX.call_own F.excBase_ValueError (fun Y => PySem.HandSPX.refsVE_contains Y bm hbm) (I1.kIn _ _ hC) (PySem.W.looks_findIn I1.kIn T.find) (fun self => PySem.W.bind_fn I1.kIn self T.tI) (by show 1 ≤ sizeLine; decide) ?_)
  obtain ⟨mb, b1, b2⟩ := M.blt
  refine LayX.xinit (hp0 := hp) (mg := X.mg) T B I1.kIn kk ne (by rw [Heap.size_push, Heap.size_push]; omega) (M.nolimit.keeps kb) (M.glob.keeps kb) ⟨mb, b1.keeps kb, b2⟩ (hr.make C [u] []).depth hget sn (fun h' tk' dx t1 k dn dne he' hn => ?_)
  obtain ⟨G, g1, g2⟩ := restrict h' fun b => decide (b ≠ hp.objs.size + 1)
  have gk : ∀ b, b ≠ hp.objs.size + 1 → G.get? b = h'.get? b := fun b hb => g1 b (decide_eq_true hb)
  have ge : G.get? (hp.objs.size + 1) = none := g2 _ (by simp)
  have kG : ∀ b o, hp.get? b = some o → G.get? b = some o := fun b o z => by
    rw [gk b (fun y => by rw [y, ne] at z; cases z)]
    exact k b o z
  have hd1 : H1 dx = none := I1.hok.fresh dn
  have J := I1.laid (t' := tk') (a := dx) (o := .xd [(fld, v)]) (h' := G) kG dn ⟨_, hn.at fun o z => (gk dx dne).trans z, relO_put (fs := []) ru fun _ => True.intro⟩
  refine ⟨rfl, _, _, _, ⟨G, g, dr, tk', os⟩, _, .ref C, some dx, rfl, J, fun b o z => ?_, ge, he', ⟨rfl, rfl, fun vs z => by cases z; rfl⟩, rfl, rfl, ?_, rfl, I1.bare, raises_own T.exC T.tyC, q1 dx hd1⟩
  · by_cases hb : b = hp.objs.size + 1
    · rw [hb, ge] at z
      cases z
    · exact (gk b hb).symm.trans z
  · rw [upd_ne (Ne.symm dne)]
    exact I1.hok.fresh (Nat.le_succ _)
end Lay

set_option Elab.async false
set_option linter.all false
set_option maxRecDepth 100000
set_option maxHeartbeats 4000000
namespace Lay
open PySem PySem.Spec PyProof.Rows L2
/-! ### try: .. except (A, B, C) as n: .. -/
theorem flying_kept {B : Heap} {l : List Env} {a : Addr} {Z : Obj → Prop} {h h' : Heap} (f : HandSPX.FlyingZ B l a Z h) (k : ∀ b o, h.get? b = some o → h'.get? b = some o) : HandSPX.FlyingZ B l a Z h' := by
  obtain ⟨f1, f2, f3, oe, vs, T, oT, ts, g1, g2, g3, g4, g5, g6, g7, g8⟩ := f
  exact ⟨fun b o z => k b o (f1 b o z), f2, Heap.FunFrames.of_keeps (fun b o z _ => ⟨o, k b o z, rfl⟩) f3, oe, vs, T, oT, ts, k _ _ g1, g2, g3, g4, g5, g6, k _ _ g7, g8⟩
/-- what the clause wishes of an exception of the body: slot i is the name's -/
def wTup (K : PySem.W.Frag) (cs : List Value) (i : Nat) (ts : Addr → Obj → Value → Option Addr → TS) (Wout : WX) (D : Ends) : WX := fun cls d σ H =>
  ∃ b, PySem.W.exmAny K cls cs = some b ∧ (b = true → ∀ a oe, L2N.Zn cls d oe → (∃ vs, oe.data = .fields vs) → H a = none → ts a oe cls d ⟨fun σ' H' => D.nx (σ'.set i none) H', D.rt, fun σ' H' => D.bk (σ'.set i none) H', fun σ' H' => D.ct (σ'.set i none) H'⟩ (σ.set i (some (.ref a))) H) ∧ (b = false → Wout cls d σ H)
section
variable {X : Cx} {x1 x2 x3 n : Str} {c1 c2 c3 : Value} {i kk : Nat} {body suite : List Stmt} {b₀ : Stmt} {q1 q2 q3 qt pos pos' : Pos} {tb : WX → TS} {ts : Addr → Obj → Value → Option Addr → TS} {Wout : WX}
theorem ps_try_tup3 (hs : X.stack = X.env :: X.outer) (hf : X.env.frame = some X.env.locals) (hN : X.N.Nodup) (hi : X.N[i]? = some n) (hln : X.env.kindOf n = some .local) (hc1 : Names X x1 c1) (hc2 : Names X x2 c2) (hc3 : Names X x3 c3) (tk : L2N.Takes X Wout)
    (hb : ∀ (W : WX) (pn : List (Addr × Obj)) (xe : Value → Shared → Prop), L2N.Takes (X.tr pn xe) W → PassesOwn (model X.prog X.w) X.A X.env xe → PSs (X.tr pn xe) body (tb W))
    (hsu : ∀ (a : Addr) (oe : Obj) (cls : Value) (d : Option Addr) (pn : List (Addr × Obj)), L2N.Zn cls d oe → (∃ vs, oe.data = .fields vs) → PSs (X.suite a ((a, oe) :: pn)) (b₀ :: suite) (ts a oe cls d)) :
    PS X (.Try body [.ExceptHandler (some (.Tuple [.Name x1 q1, .Name x2 q2, .Name x3 q3] kk qt)) (some n) (b₀ :: suite) pos'] [] [] pos) (fun D σ H => tb (wTup X.K [c1, c2, c3] i ts Wout D) D σ H) := by
  refine ⟨fun pins s σ H D I h => ?_⟩
  have ok := I.ok
  have fr : X.A.frames = some (X.env :: X.outer) := ok.frames.trans (congrArg some hs)
  let hd : List ExceptHandler := [.ExceptHandler (some (.Tuple [.Name x1 q1, .Name x2 q2, .Name x3 q3] kk qt)) (some n) (b₀ :: suite) pos']
  let caught : Value → Shared → Prop := fun e s₁ => wpAny (model X.prog X.w) X.A (noteFrame e X.env) (fun _ s₂ => wpAny (model X.prog X.w) X.A (setFlight e none) (fun _ s₃ => wpAny (model X.prog X.w) X.A (handleBy e X.env hd) (SP X pins D) X.xe s₃) X.xe s₂) X.xe s₁
  have taken : L2N.Takes (X.tr (X.pn ++ pins) caught) (wTup X.K [c1, c2, c3] i ts Wout D) := by
    intro u s' xx
    obtain ⟨a, B, sI, pins', σ', H', cls, d, rfl, J', nb, up, sky, na, os, ag, b, hx, yes, no⟩ := xx
    have J : Inv X pins σ' H' sI := J'.ofTry ok
    have sky2 : Sky B (X.env :: X.outer) a (L2N.Zn cls d) X.env.locals s'.heap := by
      rw [← hs]
      exact sky
    show wpAny (model X.prog X.w) X.A (noteFrame (.ref a) X.env) _ _ _
    refine L2N.Sky.land L2N.Zn.steady fr hf sky2 fun h3 fl up3 => ?_
    have J3 : Inv X pins σ' H' { s' with heap := h3 } := J.landed nb fl.1 (up.trans up3) os ag
    obtain ⟨oe, vs, ge, ze, de⟩ := fl.there
    -- the exception is no frame
    have away : a ∉ frs (X.env :: X.outer) := fun hm => by
      obtain ⟨_, o', z1, z2⟩ := fl.2.2.1.mem hm
      cases ge.symm.trans z1
      exact z2 _ de
    have nL : a ≠ X.env.locals := fun z => away (List.mem_filterMap.mpr ⟨X.env, List.mem_cons_self, by rw [hf, z]⟩)
    have nF : a ∉ X.fs := fun hm => by
      obtain ⟨e, m1, m2⟩ := List.mem_filterMap.mp hm
      exact away (List.mem_filterMap.mpr ⟨e, List.mem_cons_of_mem _ m1, m2⟩)
    have S3 := J3.suite ge de na nL nF
    refine wpAny_handleBy_cons (codeAny_handlers_test ?_) (by intro z; cases z)
    -- the names
    have name : ∀ {x : Str} {c : Value} {np : Pos} {Q : Value → Shared → Prop} {E : Value → Shared → Prop}, Names X x c → Q c { s' with heap := h3 } → wpAny (model X.prog X.w) (X.A.mark (some (.ref a))) (eval (.Name x np) X.env) Q E { s' with heap := h3 } := fun {x c np Q E} hc q => by
      obtain ⟨hg, hdbg, hm | ⟨hm, hv, hnn⟩⟩ := hc
      · exact ld_glob (X := X.suite a ((a, oe) :: (X.pn ++ pins))) S3 hg hm q hdbg
      · exact ld_blt (X := X.suite a ((a, oe) :: (X.pn ++ pins))) S3 hg hm hv q hnn hdbg
    refine wpAny_Tuple (wpAny_items_cons (name hc1 (wpAny_items_cons (name hc2 (wpAny_items_cons (name hc3 (wpAny_items_nil ⟨by show 3 ≤ sizeLine; decide, ?_⟩)))))))
    generalize hh4 : h3.push { cls := .type "tuple", data := .seq [c1, c2, c3].toArray } = h4
    have k4 : ∀ b o, h3.get? b = some o → h4.get? b = some o := fun b o z => by
      rw [← hh4]
      exact Heap.get?_push_of_some _ z
    have gt : h4.get? h3.objs.size = some { cls := .type "tuple", data := .seq [c1, c2, c3].toArray } := by
      rw [← hh4]
      exact Heap.get?_push_size _ rfl
    have J4 : Inv X pins σ' H' { s' with heap := h4 } := J3.kept (t' := s'.toks) k4
    have fl4 := flying_kept fl k4
    have LT : PySem.W.Looks (model X.prog X.w) h4 (typeOf (.ref a)) cls := fun A Q E s k q => wpAny_typeOf_ref (k _ _ (k4 _ _ ge)) (by rw [ze.1]; exact q)
    refine (PySem.W.exm_tup3 (M := model X.prog X.w) J4.kIn LT gt hx).here ?_
    cases b with
    | true =>
      refine codeAny_handlers_suite_as (HandSPX.lands_againZ fl4 fun h5 fl5 up5 => ?_)
      have J5 : Inv X pins σ' H' { s' with heap := h5 } := J.landed nb fl5.1 (((up.trans up3).trans (Heap.UpToSlots.of_keeps k4)).trans up5) os ag
      obtain ⟨oe5, vs5, ge5, ze5, de5⟩ := fl5.there
      have S5 := J5.suite ge5 de5 na nL nF
      refine store_ok (X := X.suite a ((a, oe5) :: (X.pn ++ pins))) (v := .ref a) S5 hN hi (.inl hln) rfl (fun s6 S6 => ?_) (.inr hln)
      refine wpAny_mono ((hsu a oe5 cls d (X.pn ++ pins) ze5 ⟨_, de5⟩).run [] s6 _ H' _ S6 (yes rfl a oe5 ze5 ⟨_, de5⟩ na)) (fun fw s7 hsp => ?_) (fun _ _ z => z.elim)
      have leave : ∀ {σ7 : L2.St} {H7 : Hp} {Q : Shared → Prop}, Inv (X.suite a ((a, oe5) :: (X.pn ++ pins))) [] σ7 H7 s7 → (∀ s8, Inv X pins (σ7.set i none) H7 s8 → Q s8) →
          wpAny (model X.prog X.w) X.A (do bindName X.env n .none; unbindBehindTheSuite X.env n pos') (fun _ s8 => Q s8) X.xe s7 := fun S7 hq => gone_ok (S7.unsuite ok) hN hi hln hq
      rcases fw with _ | _ | _ | u
      all_goals first
        | (obtain ⟨v7, σ7, H7, S7, r7, p7⟩ := hsp; exact leave S7 fun s8 J8 => ⟨_, _, _, J8, r7, p7⟩)
        | (obtain ⟨σ7, H7, S7, p7⟩ := hsp; exact leave S7 fun s8 J8 => ⟨_, _, J8, p7⟩)
    | false =>
      show wpAny _ X.A (handleBy (.ref a) X.env []) _ _ _
      refine wpAny_handleBy_nil ?_
      obtain ⟨_, _, _, oe6, vs6, T6, oT6, ts6, a1, a2, a3, a4, _⟩ := id fl4
      have again : wpAny (model X.prog X.w) X.A (setFlight (.ref a) X.env.frame) (fun _ s5 => wpAny (model X.prog X.w) X.A (throw (.ref a) : Sem Flow) (SP X pins D) X.xe s5) X.xe { s' with heap := h4 } := by
        rw [hf]
        refine HandSPX.setFlight_upZ fl4 fun h5 held up5 => wpAny_throw (tk _ _ ?_)
        exact ⟨a, B, sI, pins, σ', H', cls, d, rfl, J, nb, ((up.trans up3).trans (Heap.UpToSlots.of_keeps k4)).trans up5, .inr (.inr (by rw [hs]; exact held)), na, os, ag, no rfl⟩
      unfold PySem.passOn
      refine wpAny_bind (wpAny_field a1 a3 a4 ?_)
      rw [if_neg (by simp)]
      first
        | exact wpAny_bind again
        | exact wpAny_bind (wpAny_pure (wpAny_bind again))
  refine wpAny_Try_except (wpAny_mono ((hb _ (X.pn ++ pins) caught taken PassesOwn.looking).run [] s σ H D (I.toTry _) h) (fun fw s1 hsp => ?_) fun _ _ z => z)
  rcases fw with _ | _ | _ | u
  all_goals first
    | (obtain ⟨v, σ', H', J', r, p⟩ := hsp; exact ⟨v, σ', H', J'.ofTry ok, r, p⟩)
    | (obtain ⟨σ', H', J', p⟩ := hsp; exact wpAny_execs_nil ⟨σ', H', J'.ofTry ok, p⟩)
    | (obtain ⟨σ', H', J', p⟩ := hsp; exact ⟨σ', H', J'.ofTry ok, p⟩)
end
end Lay

set_option Elab.async false
set_option linter.all false
set_option maxRecDepth 100000
set_option maxHeartbeats 4000000
namespace Lay
open PySem PySem.Spec PyProof.Rows L2
open L2H (RoomH Hot1 PinOk HotC cxH inv_startH)
/-! ### defs called while an exception is handled: p is that exception -/
structure FnZ (P : Program) (w : World) (K : PySem.W.Frag) (mg : Str → Option Value) (base : Heap) (k : Nat) (f : Addr) (fd : FuncData) (ps : List Str) (sp : Addr × Obj → Sp) : Prop where
  len : ∀ p vs H Q E, sp p vs H Q E → vs.length = ps.length
  run : ∀ (A : Around) (outer : List Env) (s : Shared) (H : Hp) (args : Args) (us : List Value) (vs : List V) (Q : VK) (E : XK) (p : Addr × Obj), RoomH k A → Hot1 A p → PinOk outer H s p → Env0 P w K mg base A outer s H → BindsTo s fd args (ps.zip us) → Vals vs us → sp p vs H Q E →
    codeAny (model P w) A (.call (.ref f) args) (CR CX0 outer P w H s Q E) s
section
variable {P : Program} {w : World} {K : PySem.W.Frag} {mg : Str → Option Value} {base : Heap} {k : Nat} {f : Addr} {fd : FuncData} {x qual : Str} {st : Stmt} {N ps : List Str} {sp : Addr × Obj → Sp}
theorem Fun.okZ (F : Fun K x qual st f fd) (S : FnScope N ps (defScope st)) (len : ∀ p vs H Q E, sp p vs H Q E → vs.length = ps.length)
    (body : ∀ (cdv : Value) (A : Around) (outer : List Env) (s : Shared) (H : Hp) (vs : List V) (Q : VK) (E : XK) (p : Addr × Obj), Hot1 A p → RoomH k (A.deeper (envOfC qual (defScope st) s.heap.objs.size f cdv)) → sp p vs H Q E →
      ∃ t, PSs (cxH CX0 P w K mg base N qual (defScope st) f cdv A outer s H E p).nox (defBody st) t ∧ t { nx := fun _ H' => Q .non H', rt := Q } (L2.start N vs) H) : FnZ P w K mg base (k + 1) f fd ps sp := by
  obtain ⟨oc, od, kV, doc, pm, an, cdv, ct, osl, rfl, lk, hcd⟩ := F.ex
  refine ⟨len, fun A outer s H args us vs Q E p hr hot pin e0 hb r hsp => ?_⟩
  have hl := len _ _ _ _ _ hsp
  have keep : ∀ b o, base.get? b = some o → s.heap.get? b = some o := fun b o e => (e0.bs b o e).1
  have KX : K.In s.heap := e0.mod.kin.keeps keep
  have kinds : ∀ y ∈ ps.zip us, (defScope st).names.lookup y.1 = some .local ∨ ((defScope st).names.lookup y.1 = some .cell ∧ ((cellsFrom (s.heap.objs.size + 1) (defScope st).names []).lookup y.1).isSome = true) := by
    intro ⟨n, v⟩ hy
    exact (S.par n (List.of_mem_zip hy).1).imp id fun q => ⟨q, PySem.W.cellsFrom_some _ _ _ (.inl q)⟩
  refine codeAny_call_function hr.depth (KX _ _ lk) rfl S.co S.gen rfl (PySem.W.codeRec_of KX hcd) (hb _ _ _ _ (wpAny_newFunctionEnv_cells S.kind kinds fun env he s1 x1 => ?_))
  subst he
  refine ⟨(e0.mod.nolimit.keeps keep).keeps x1.toInCall.keep, codeAny_func ?_⟩
  obtain ⟨t, ht, hq⟩ := body cdv A outer s H vs Q E p hot (hr.deeper _) hsp
  have I := inv_startH (CX := CX0) (E := E) S pin e0 hl r x1
  have done : ∀ {σ' : L2.St} {H' : Hp} {v : V} {u : Value} {s' : Shared}, Inv (cxH CX0 P w K mg base N qual (defScope st) f cdv A outer s H E p) [] σ' H' s' → RelV v u → Q v H' → CE outer P w H s Q u s' := fun J rv q => ⟨_, _, J.os, J.bare, J.base, J.hok, rv, q⟩
  refine wpAny_mono (ht.nox.run [] s1 (L2.start N vs) H _ I hq) (fun fl s' hs => ?_) fun _ _ z => z
  rcases fl with _ | _ | _ | u
  · obtain ⟨_, _, J, q⟩ := hs
    exact done (v := V.non) (u := Value.none) J rfl q
  · obtain ⟨_, _, _, q⟩ := hs
    exact q.elim
  · obtain ⟨_, _, _, q⟩ := hs
    exact q.elim
  · obtain ⟨_, _, _, J, rv, q⟩ := hs
    exact done J rv q
end
/-- .. by its name -/
def FnY (P : Program) (w : World) (K : PySem.W.Frag) (mg : Str → Option Value) (base : Heap) (k : Nat) (x : Str) (ps : List Str) (sp : Addr × Obj → Sp) : Prop :=
  ∃ a fd, mg x = some (.ref a) ∧ PySem.W.keepIn K (.ref a) = true ∧ Binds K fd ps [] ∧ FnZ P w K mg base k a fd ps sp
section
variable {X : Cx} {k : Nat} {x : Str} {ps : List Str} {sp : Addr × Obj → Sp} {p : Addr × Obj} {p1 pos : Pos} {e : Expr} {es : List Expr} {t : TA}
theorem pe_callY (F : FnY X.prog X.w X.K X.mg X.base k x ps sp) (hr : RoomH k X.A) (hot : Hot1 X.A p) (hp : p ∈ X.pn) (hg : Gl X x) (ha : PA X (e :: es) t) (hdb : (x == ("__debug__" : Str)) = false := by decide)
    (he : starEach (e :: es) X.env = (false, eval e X.env) :: starEach es X.env := by rfl) (hpl : (backTo pos (starEach es X.env)).any (·.1) = false := by rfl) : PE X (.Call (.Name x p1) (e :: es) [] pos) (tCall (sp p) [] E0 t) := by
  obtain ⟨f, fd, hm, hk, hb, F⟩ := F
  refine ⟨fun pins s σ H Q I h => wpAny_Call_Name_kw (ld_glob I hg hm ?_ hdb)⟩
  refine PySem.W.callWith_K (h₀ := X.base) I.ok.mod.kin hk (thn (ha.run pos pins s σ H _ I h) fun us s1 ⟨vs, H1, I1, r, q⟩ => ⟨I1.kIn, ?_⟩) he hpl
  replace q : sp p (vs ++ []) H1 Q E0 := q
  rw [List.append_nil] at q
  have hl : us.length = ps.length := r.length.symm.trans (F.len _ _ _ _ _ q)
  have b := hb s1 us I1.kIn (by rw [List.append_nil]; exact hl)
  rw [List.append_nil] at b
  have pn := I1.pin p (List.mem_append_left _ hp)
  have pin : PinOk X.stack H1 s1 p := ⟨pn.1, pn.2.1, fun hm => (List.mem_cons.mp (I1.stkSub p.1 hm)).elim pn.2.2.1 pn.2.2.2.1, pn.2.2.2.2⟩
  refine wpAny_call (codeAny_mono (F.run X.A X.stack s1 H1 ⟨us, []⟩ us vs Q E0 p hr hot pin I1.env0 b r q) fun r s' hq => ?_)
  rcases r with e | (_ | _ | _ | u)
  · exact hq.elim
  · exact hq.elim
  · exact hq.elim
  · exact hq.elim
  · exact I1.after hq
end
/-! ### isinstance of the exception -/
/-- isinstance(e, c), e the exception p, an instance of D, its dict at d -/
def rIsP (K : PySem.W.Frag) (D d : Addr) (a : Addr) : List V → Hp → VK → Prop := fun xs H Q => ∃ (c : V) (cv : Value) (b : Bool) (fs : List (Str × V)), xs = [.ref a, c] ∧ (∀ u, RelV c u → u = cv) ∧ PySem.W.kitOne K (.ref D) cv = some b ∧ H d = some (.xd fs) ∧ Q (.bl b) H
theorem call_isP {X : Cx} {a D d : Addr} {oe : Obj} (C : ExcC X.K D) (hz : L2N.Zn (.ref D) (some d) oe) (hf : ∃ vs, oe.data = .fields vs) (hp : (a, oe) ∈ X.pn) : CallR X (.builtin "isinstance") (rIsP X.K D d a) := by
  intro pins s σ H xs us Q I r h
  obtain ⟨c, cv, b, fs, rfl, hcv, e, hd, q⟩ := h
  obtain ⟨u1, u2, rfl, rx, rt⟩ : ∃ u1 u2, us = [u1, u2] ∧ RelV (.ref a) u1 ∧ RelV c u2 := by
    cases r with
    | cons r1 rr =>
      cases rr with
      | cons r2 rr =>
        cases rr
        exact ⟨_, _, rfl, r1, r2⟩
  obtain rfl : u1 = Value.ref a := rx
  obtain rfl := hcv _ rt
  have hget := (I.pin (a, oe) (List.mem_append_left _ hp)).1
  obtain ⟨vs, hv⟩ := hf
  have hx : ObjOk X.prog X.w H s.heap d (.xd fs) := I.hok d _ hd
  obtain ⟨mA, hns, _⟩ := hx
  obtain ⟨od, ho, _⟩ := lookIn_ns hns
  have J : PySem.W.InstAt s.heap a oe D (some od) := ⟨hget, hz.1, by unfold PySem.W.notCls; rw [hv] <;> rfl, by rw [hz.2.1]; exact ho⟩
  obtain ⟨cd, hcd, _⟩ := PySem.W.any_some C.hd
  exact PySem.W.kia_one (PySem.W.kitx_exc (by rw [hcd]; rfl) C.hg C.hk C.hs C.ha C.hn C.ht C.hm) I.kIn J e (fun z => nomatch z) fun tk => ⟨.bl b, H, I.kept (t' := tk) fun _ _ z => z, rfl, q⟩
end Lay

set_option Elab.async false
set_option linter.all false
set_option maxRecDepth 100000
set_option maxHeartbeats 4000000
namespace Lay
open PySem PySem.Spec PyProof.Rows L2
open L2H (RoomH Hot1 PinOk HotC cxH PIH TurnH)
/-! ### [e for x in ..] while the exception p is handled -/
abbrev blkP (X : Cx) (p : Addr × Obj) (s : Shared) (H : Hp) (scope : Scope) (cenv : Env) (fp : List Addr) : Cx := { X.blk s H scope cenv fp with pn := [p] }
theorem inv_blkP {X : Cx} {p : Addr × Obj} {s0 s : Shared} {H0 H : Hp} {scope : Scope} {ce : Env} {fp : List Addr} {σ : L2.St} (I : Inv (X.blk s0 H0 scope ce fp) [] σ H s)
    (h : s.heap.get? p.1 = some p.2 ∧ H p.1 = none ∧ p.1 ≠ ce.locals ∧ p.1 ∉ frs X.stack ∧ ∀ v, p.2.data ≠ .cell v) : Inv (blkP X p s0 H0 scope ce fp) [] σ H s := by
  obtain ⟨⟨a1, a2, a3, a4, a5, a6, a7, a8, a9, a10, a11, a12, a13, a14, a15, a16, a17, a18⟩, b2, b3, b4, b5, b6, b7, b8, _, b10, b11⟩ := I
  refine ⟨⟨a1, a2, a3, a4, a5, a6, a7, a8, a9, a10, a11, a12, a13, a14, a15, a16, a17, a18⟩, b2, b3, b4, b5, b6, b7, b8, fun q hq => ?_, b10, b11⟩
  obtain rfl : q = p := by simpa using hq
  exact h
section
variable {X : Cx} {p : Addr × Obj} {elt tg iter : Expr} {scope : Scope} {own : List (Str × Nat)} {pos : Pos} {wi : TI} {g : TG} {te : TE}
theorem pe_lcH (hot : Hot1 X.A p) (hp : p ∈ X.pn) (hN : X.N.Nodup) (hi : PIH X tg iter wi) (ok : BlkOk X.N X.env.scope scope own)
    (hg : ∀ (s : Shared) (H : Hp) (C : Addr) (cl : List (Str × Addr)) (fp : List Addr), PG (blkP X p s H scope (compEnvC scope cl C X.env) fp) tg g) (he : ∀ (s : Shared) (H : Hp) (C : Addr) (cl : List (Str × Addr)) (fp : List Addr), PE (blkP X p s H scope (compEnvC scope cl C X.env) fp) elt te)
    (hs : ∀ x, foldedSetIterable iter X.env x = pure x := by intro _; rfl) : PE X (.ListComp elt [⟨tg, iter, [], 0⟩] scope pos) (tLc wi g tYes te (own.map (·.2))) := by
  refine ⟨fun pins s σ H Q I h => ?_⟩
  rw [eval_ListComp]
  have cells : ∀ y ∈ scope.names, y.2 = .free → ∃ c, X.env.cells.lookup y.1 = some c := fun y hy e => (ok.free y hy e).elim (fun k => I.ok.has _ (.inl k)) fun k => I.ok.has _ (.inr k)
  refine wpAny_comprehension_free rfl hs (closure_ok cells) ok.kind (fun y hy e => (ok.uniq y hy).trans (congrArg some e)) (thn (hi.run pins s σ H _ I h) fun xv s1 hx => thn hx fun itv s2 h2 => ?_)
  obtain ⟨it, fp, tn, J, Hb, rfl, I2, T, st2, f2, q⟩ := h2
  refine wpAny_newObj_type (newEnv_comp ?_) (show 0 ≤ sizeLine from Nat.zero_le _)
  generalize hD : s2.heap.objs.size = D
  have freeD : Hb D = none := I2.hok.fresh (Nat.le_of_eq hD)
  obtain ⟨W, ⟨m0, w0⟩, turn⟩ := q D freeD
  generalize e3 : ({ s2 with heap := s2.heap.push { cls := .type "list", data := .seq ([] : List Value).toArray } } : Shared) = s3
  have heap3 : s3.heap = s2.heap.push { cls := .type "list", data := .seq ([] : List Value).toArray } := by rw [← e3]
  have k23 : ∀ b o, s2.heap.get? b = some o → s3.heap.get? b = some o := fun b o z => by
    rw [heap3]
    exact Heap.get?_push_of_some _ z
  have I3 : Inv X pins σ (upd Hb D (.lst [])) s3 := by
    rw [← e3]
    refine I2.laid (t' := s2.toks) (fun b o z => Heap.get?_push_of_some _ z) (Nat.le_of_eq hD) ⟨Nat.zero_le _, [], 0, .nil, ?_⟩
    rw [← hD]
    exact Heap.get?_push_size _ rfl
  have below : ∀ b ∈ fp, b < s2.heap.objs.size := fun b hb => by
    obtain ⟨o, z, _⟩ := T.obj _ _ st2 b hb
    exact Heap.lt_size z
  have f3 : ∀ b ∈ fp, FpOk X pins (upd Hb D (.lst [])) b ∧ b < s3.heap.objs.size := fun b hb => by
    refine ⟨⟨?_, (f2 b hb).2⟩, ?_⟩
    · rw [upd_ne (by rw [← hD]; exact Nat.ne_of_lt (below b hb))]
      exact (f2 b hb).1
    · rw [heap3, Heap.size_push]
      exact Nat.lt_succ_of_lt (below b hb)
  have st3 : tn 0 s3.heap := T.keep _ _ _ st2 fun b _ o z => k23 b o z
  have I4 := block_start I3 ok hN f3
  generalize hcl : cellsFrom (s3.heap.objs.size + 1) scope.names (cloFrom X.env.cells scope.names []) = cl at I4
  have G := hg s3 (upd Hb D (.lst [])) s3.heap.objs.size cl fp
  have EL := he s3 (upd Hb D (.lst [])) s3.heap.objs.size cl fp
  generalize e4 : ({ s3 with heap := pushCells (s3.heap.push { cls := .type "dict", data := .dict #[] }) scope.names } : Shared) = s4 at I4
  have k34 : ∀ b o, s3.heap.get? b = some o → s4.heap.get? b = some o := fun b o z => by
    rw [← e4]
    exact pushCells_keeps _ _ _ _ (Heap.get?_push_of_some _ z)
  show codeAny (model X.prog X.w) X.A (.compStart (.ListComp elt [⟨tg, iter, [], 0⟩] scope pos) 0 (.ref it) (.ref D) (compEnvC scope cl s3.heap.objs.size X.env)) (compPost (model X.prog X.w) X.A X.xe none (EP X pins σ Q) (.ref D) s3.heap.objs.size) s4
  generalize ece : compEnvC scope cl s3.heap.objs.size X.env = ce at I4 G EL ⊢
  have eL : ce.locals = s3.heap.objs.size := by
    subst ece
    rfl
  generalize e5 : upd Hb D (.lst []) = H3 at I3 f3 I4 G EL w0
  have pin3 := I3.pin p (List.mem_append_left _ hp)
  have lp3 : p.1 < s3.heap.objs.size := Heap.lt_size pin3.1
  -- the exception among what the block bears
  have bear : ∀ {s' : Shared} {H' : Hp}, (∀ b o, s3.heap.get? b = some o → p.1 = b → s'.heap.get? b = some o ∧ H' b = none) → s'.heap.get? p.1 = some p.2 ∧ H' p.1 = none ∧ p.1 ≠ ce.locals ∧ p.1 ∉ frs X.stack ∧ ∀ v, p.2.data ≠ .cell v := fun hk =>
    ⟨(hk _ _ pin3.1 rfl).1, (hk _ _ pin3.1 rfl).2, by rw [eL]; exact Nat.ne_of_lt lp3, fun hm => (List.mem_cons.mp (I3.stkSub p.1 hm)).elim pin3.2.2.1 pin3.2.2.2.1, pin3.2.2.2.2⟩
  have I4' : Inv (blkP X p s3 H3 scope ce fp) [] (wipe σ (own.map (·.2))) H3 s4 := inv_blkP I4 (bear fun b o z e => ⟨k34 b o z, by rw [← e]; exact pin3.2.1⟩)
  have hotB : HotC (blkP X p s3 H3 scope ce fp) := ⟨p, hot, List.mem_cons_self⟩
  have st4 : tn 0 s4.heap := T.keep _ _ _ st3 fun b _ o z => k34 b o z
  have stat : ∀ {σ' : L2.St} {H' : Hp} {s' : Shared}, Inv (blkP X p s3 H3 scope ce fp) [] σ' H' s' → (∀ b ∈ fp, H' b = none) → ∀ b ∈ fp, FpOk (blkP X p s3 H3 scope ce fp) [] H' b := fun I' hn b hb =>
    ⟨hn b hb, (I'.ok.exf b hb).1, I'.ok.exfs b hb, .inl hb, fun x c z => (I'.ok.exf b hb).2 x c z, fun q hq => by
      obtain rfl : q = p := by simpa using hq
      exact (f3 b hb).1.2.2.2.2.2 q (List.mem_append_left _ hp)⟩
  have loop : codeAny (model X.prog X.w) X.A (.compLoop (.ListComp elt [⟨tg, iter, [], 0⟩] scope pos) 0 (.ref it) (.ref D) ce) (compPost (model X.prog X.w) X.A X.xe none (EP X pins σ Q) (.ref D) s3.heap.objs.size) s4 := by
    refine compLoop_any (fun n s' => ∃ i H', Inv (blkP X p s3 H3 scope ce fp) [] (wipe σ (own.map (·.2))) H' s' ∧ tn i s'.heap ∧ (∀ b ∈ fp, H' b = none) ∧ W i n H') ?_ m0 ⟨0, H3, I4', st4, fun b hb => (f3 b hb).1.1, w0⟩
    intro n s5 hI
    obtain ⟨i, H5, I5, st5, n5, w5⟩ := hI
    rcases turn i n H5 w5 with ⟨stop, last⟩ | ⟨go, Nx, hNx, step⟩
    · refine thnF (T.done (blkP X p s3 H3 scope ce fp) rfl rfl rfl hotB i [] s5 _ H5 (fun _ _ => False) I5 (stat I5 n5) st5 stop) fun r s6 hr => ?_
      obtain ⟨rfl, I6⟩ := hr
      have I7 : Inv X pins σ H5 s6 := I3.call' (ch := fp) I6.os I6.base I6.hok I6.bare fun b hb => ⟨(f3 b hb).1.2.2.2.1, (f3 b hb).1.2.1, (f3 b hb).1.2.2.2.2.1, (f3 b hb).1.2.2.2.2.2⟩
      have nC : H5 s3.heap.objs.size = none := by
        have z : H5 ce.locals = none := I6.free
        rwa [eL] at z
      obtain ⟨m, hn, _⟩ := I6.loc
      replace hn : s6.heap.Ns ce.locals m := hn
      rw [eL] at hn
      obtain ⟨g0, g1, g2, g3, g4, g5⟩ := I3.fpOk (Nat.le_refl _) nC
      exact ⟨m, hn, fun h'' sb => ⟨.ref D, H5, I7.turned (t' := s6.toks) (fun b o hb z => (sb.2 b hb).trans z) g0 g1 g3 g4 g5, rfl, last⟩⟩
    · refine thnF (T.item (blkP X p s3 H3 scope ce fp) rfl rfl rfl hotB i [] s5 _ H5 (fun _ _ => False) I5 (stat I5 n5) st5 go) fun r s6 hr => ?_
      obtain ⟨u, rfl, h6⟩ := hr
      refine thnF h6 fun _ s7 ⟨x, H7, I7, r7, y7, st7, n7⟩ => ?_
      refine thnF (G.run _ s7 _ H7 x u _ (I7.pinned (stat I7 n7) (T.obj _ _ st7)) r7 (step x H7 y7)) fun _ s8 ⟨σ8, H8, I8, hw8, q8⟩ => ?_
      refine wpAny_tests_nil ?_
      refine thnF (EL.run _ s8 σ8 H8 _ I8 q8) fun z s10 ⟨yv, H10, I10, r10, acc, hD10, hz10, nx⟩ => ?_
      refine app_ok (X := blkP X p s3 H3 scope ce fp) I10 hD10 hz10 r10 fun s11 I11 => ?_
      obtain ⟨m', hm, w'⟩ := hNx _ nx
      have pinned : ∀ b ∈ fp, ∀ o, s7.heap.get? b = some o → s11.heap.get? b = some o ∧ (upd H10 D (.lst (acc ++ [yv]))) b = none := fun b hb o z =>
        have zz := I11.pin (b, o) (List.mem_append_right _ (List.mem_append_right _ (mem_pinsAt hb z)))
        ⟨zz.1, zz.2.1⟩
      refine ⟨m', hm, i + 1, _, (I11.unpinned (pins := [])).weak (by rw [← hw8, wipe_length]) (fun j v z => ?_), T.keep _ _ _ st7 fun b hb o z => (pinned b hb o z).1, fun b hb => ?_, w'⟩
      · rw [← hw8] at z
        exact (wipe_some z).1
      · obtain ⟨o, z, _⟩ := T.obj _ _ st7 b hb
        exact (pinned b hb o z).2
  exact codeAny_compStart_list loop (T.self X.A 0 _ _ _ st4 loop)
end
end Lay

set_option Elab.async false
set_option linter.all false
set_option maxRecDepth 100000
set_option maxHeartbeats 4000000
namespace Lay
open PySem PySem.Spec PyProof.Rows L2
open L2H (RoomH Hot1 PinOk HotC cxH PIH TurnH)
/-! ### leaves where the exception p is handled -/
structure LH (P : Program) (w : World) (K : PySem.W.Frag) (p : Addr × Obj) (X : Cx) : Prop where
  prog : X.prog = P
  w : X.w = w
  K : X.K = K
  un : X.A.units + 64 < cLine
  hot : Hot1 X.A p
  pn : p ∈ X.pn
section
variable {P : Program} {w : World} {K : PySem.W.Frag} {p : Addr × Obj} {X : Cx}
theorem LH.b (L : LH P w K p X) {s : Shared} {H : Hp} {sc : Scope} {ce : Env} {fp : List Addr} : LH P w K p (blkP X p s H sc ce fp) := ⟨L.prog, L.w, L.K, L.un, L.hot, List.mem_cons_self⟩
def hB (P : Program) (w : World) (K : PySem.W.Frag) (p : Addr × Obj) (f : Value → Value → Sem Value) : R2 := fun x y H Q => ∃ r : R2, (∀ X, LH P w K p X → OpR X f r) ∧ r x y H Q
theorem obH {f : Value → Value → Sem Value} (L : LH P w K p X) : OpR X f (hB P w K p f) := by
  intro pins s σ H x y v u Q I rx ry h
  obtain ⟨r, hr, q⟩ := h
  exact hr X L pins s σ H x y v u Q I rx ry q
abbrev op_H {f : Value → Value → Sem Value} (L : LH P w K p X) := @obH P w K p X f L
def hC (P : Program) (w : World) (K : PySem.W.Frag) (p : Addr × Obj) (f : Value) : List V → Hp → VK → Prop := fun xs H Q => ∃ r : List V → Hp → VK → Prop, (∀ X, LH P w K p X → CallR X f r) ∧ r xs H Q
theorem ocH {f : Value} (L : LH P w K p X) : CallR X f (hC P w K p f) := by
  intro pins s σ H xs us Q I rx h
  obtain ⟨r, hr, q⟩ := h
  exact hr X L pins s σ H xs us Q I rx q
def hM (P : Program) (w : World) (K : PySem.W.Frag) (p : Addr × Obj) (id : String) : V → List V → Hp → VK → Prop := fun x xs H Q => ∃ r : V → List V → Hp → VK → Prop, (∀ X, LH P w K p X → MtR X id r) ∧ r x xs H Q
theorem omH {id : String} (L : LH P w K p X) : MtR X id (hM P w K p id) := by
  intro pins s σ H x xs v us Q I rx rs h
  obtain ⟨r, hr, q⟩ := h
  exact hr X L pins s σ H x xs v us Q I rx rs q
def hI (P : Program) (w : World) (K : PySem.W.Frag) (p : Addr × Obj) : R2 := fun x y H Q => ∃ r : R2, (∀ X, LH P w K p X → IxR X r) ∧ r x y H Q
theorem oiH (L : LH P w K p X) : IxR X (hI P w K p) := by
  intro value slice pins s σ H x y v u Q I rx ry h hs
  obtain ⟨r, hr, q⟩ := h
  exact hr X L value slice pins s σ H x y v u Q I rx ry q hs
end
section
variable {P : Program} {w : World} {K : PySem.W.Frag} {p : Addr × Obj} {X : Cx} {a b o e tg : Expr} {ta tb to te : TE} {t : TA} {es : List Expr} {pos apos cpos : Pos} {name : Str} {T id : String} {x : Str}
theorem pe_notLH (L : LH P w K p X) (ha : PE X a ta) : PE X (.UnaryOp .Not a pos) (tNotT K ta) := by
  obtain ⟨_, _, rfl, _, _, _⟩ := L
  exact pe_notT ha
theorem pe_bmLH (L : LH P w K p X) (pa : PlainAttrs T) (slot : Slot T name id) (hty : typeOf (.builtin id) = pure (.type "method_descriptor")) (ho : PE X o to) (ha : PA X (e :: es) t)
    (hbase : attributeBase o name X.env (eval o X.env) = eval o X.env := by rfl)
    (hfew : ((backTo cpos (starEach (e :: es) X.env)).all (fun x => !x.1) && (backToKw cpos (keywordEach [] X.env)).all (fun x => x.1.isSome) && decide ((e :: es).length + ([] : List Keyword).length + (if ([] : List Keyword).isEmpty then 0 else 1) < 30)) = true := by rfl)
    (hline : (apos.endLine == cpos.line) = true := by rfl) (hs : starEach (e :: es) X.env = (false, eval e X.env) :: starEach es X.env := by rfl) (hplain : (backTo cpos (starEach es X.env)).any (·.1) = false := by rfl) :
    PE X (.Call (.Attribute o name apos) (e :: es) [] cpos) (tBM K T (hM P w K p id) to t) := by
  have hm : MtR X id (hM P w K p id) := omH L
  obtain ⟨_, _, rfl, _, _, _⟩ := L
  exact pe_bm pa slot hty hm ho ha hbase hfew hline hs hplain
theorem pt_truthLH (L : LH P w K p X) (ha : PE X a ta) (he : ∀ whole, isTrue a X.env whole = (do let v ← whole; standAt a.pos; holding [v] (truthy v)) := by intro _; rfl) : PT X a (tTru K ta) := by
  obtain ⟨_, _, rfl, _, _, _⟩ := L
  exact pt_truth ha he
end
/-! ### list.count of flat items -/
def rCntF (K : PySem.W.Frag) : V → List V → Hp → VK → Prop := fun x xs H Q => ∃ (a : Addr) (ys : List V) (y : V), x = V.ref a ∧ xs = [y] ∧ SqL K H a ys ∧ flatV y = true ∧ ys.all flatV = true ∧ Q (.int (ys.countP (fun z => eqV z y) : Nat)) H
theorem count_vals {y : V} : ∀ {ys : List V} {us : List Value}, Vals ys us → ys.all flatV = true → us.countP (eqU y) = ys.countP (fun z => eqV z y)
  | _, _, .nil, _ => rfl
  | z :: zs, u :: us, .cons r rr, f => by
    rw [List.all_cons, Bool.and_eq_true] at f
    rw [List.countP_cons, List.countP_cons, count_vals rr f.2, eqU_of r f.1]
theorem mt_countF {X : Cx} : MtR X "list.count" (rCntF X.K) := by
  intro pins s σ H x xs v us Q I rx rxs h
  obtain ⟨a, ys, y, rfl, rfl, hs, fy, fys, q⟩ := h
  cases rx
  obtain ⟨uy, rfl, ry⟩ := rxs.one
  obtain ⟨its, rv, ⟨⟨cls, dd, data, sl⟩, n, ho, hc, hdn, hd⟩, hlen⟩ := I.list hs
  simp only at hc hd
  subst hc hd
  have ec := count_vals (y := y) rv fys
  refine call_meets PySem.F.slot_list_count ⟨_, ho, rfl⟩ PySem.F.entry_list_count (PySem.F.args_list_count_2 _ _) (SeqAt.list_countAt a its.toArray n dd sl uy (eqU y)) ⟨ho, fun u' hu' => mem_eqAt ry fy rv fys u' (by simpa using hu'), ?_⟩
  refine ⟨.int (ys.countP (fun z => eqV z y) : Nat), H, I.tok _, ⟨s.toks, ?_⟩, q⟩
  show Value.int ((its.toArray.toList.countP (eqU y) : Nat) : Int) s.toks = _
  rw [show its.toArray.toList = its by simp, ec]
section
variable {P : Program} {w : World} {K : PySem.W.Frag} {p : Addr × Obj} {H : Hp} {Q : VK} {i j : Int} {x y : V} {a b : Addr} {xs ys : List V}
theorem bh_add (q : Q (.int (i + j)) H) : hB P w K p (binaryOp .Add) (.int i) (.int j) H Q := ⟨_, fun _ _ => op_add, i, j, rfl, rfl, q⟩
theorem bh_cat (h1 : H a = some (.lst xs)) (h2 : H b = some (.lst ys)) (hz : xs.length + ys.length ≤ sizeLine) (q : ∀ c, H c = none → Q (.ref c) (upd H c (.lst (xs ++ ys)))) : hB P w K p (binaryOp .Add) (.ref a) (.ref b) H Q := ⟨_, fun _ _ => op_cat, a, b, xs, ys, rfl, rfl, h1, h2, hz, q⟩
theorem ch_gt (q : Q (.bl (decide (j < i))) H) : hB P w K p (compareOp .Gt) (.int i) (.int j) H Q := ⟨_, fun _ _ => op_gt, i, j, rfl, rfl, q⟩
theorem ch_eq (h : scal x y = true) (q : Q (.bl (decide (x = y))) H) : hB P w K p (compareOp .Eq) x y H Q := ⟨_, fun _ _ => op_eq, h, q⟩
theorem ch_ne (h : scal x y = true) (q : Q (.bl (!decide (x = y))) H) : hB P w K p (compareOp .NotEq) x y H Q := ⟨_, fun _ _ => op_ne, h, q⟩
theorem ih_lst (h : SqL K H a xs) (hi : atI xs i = some x) (q : Q x H) : hI P w K p (.ref a) (.int i) H Q := ⟨rIxL K, fun X L => L.K ▸ ix_list, a, xs, i, x, rfl, rfl, h, hi, q⟩
theorem kh_intb {c : Bool} (q : Q (.int (if c then 1 else 0)) H) : hC P w K p (.type "int") [.bl c] H Q := ⟨_, fun _ _ => call_int1, .inr ⟨c, rfl, q⟩⟩
theorem kh_isi {t t' : Value} {c : Bool} (hc : ClsV y t') (ht : TyX K H x t) (hk : PySem.W.kitOne K t t' = some c) (q : Q (.bl c) H) : hC P w K p (.builtin "isinstance") [x, y] H Q := ⟨rIsi K, fun X L => L.K ▸ call_isi, x, y, t, t', c, rfl, hc, ht, hk, q⟩
theorem kh_isP {D d : Addr} {cv : Value} {c : Bool} {fs : List (Str × V)} (C : ExcC K D) (hz : L2N.Zn (.ref D) (some d) p.2) (hf : ∃ vs, p.2.data = .fields vs) (hv : ∀ u, RelV y u → u = cv) (hk : PySem.W.kitOne K (.ref D) cv = some c) (hd : H d = some (.xd fs)) (q : Q (.bl c) H) : hC P w K p (.builtin "isinstance") [.ref p.1, y] H Q := by
  refine ⟨rIsP K D d p.1, fun X L => ?_, y, cv, c, fs, rfl, hv, hk, hd, q⟩
  obtain ⟨rfl, rfl, rfl, _, _, hp⟩ := L
  exact call_isP C hz hf hp
theorem mh_count (h : SqL K H a ys) (fy : flatV y = true) (f : ys.all flatV = true) (q : Q (.int (ys.countP (fun z => eqV z y) : Nat)) H) : hM P w K p "list.count" (.ref a) [y] H Q := ⟨rCntF K, fun X L => L.K ▸ mt_countF, a, ys, y, rfl, rfl, h, fy, f, q⟩
theorem mh_index {n : Nat} {z : V} (h : SqL K H a ys) (fy : flatV y = true) (f : ys.all flatV = true) (hj : ys[n]? = some z) (hz : eqV z y = true) (hn : ∀ (m : Nat) (z' : V), m < n → ys[m]? = some z' → eqV z' y = false) (q : Q (.int (n : Nat)) H) : hM P w K p "list.index" (.ref a) [y] H Q :=
  ⟨rIndex K, fun X L => L.K ▸ mt_index, a, ys, y, n, z, rfl, rfl, h, fy, f, hj, hz, hn, q⟩
theorem dp_bls : ∀ bs : List Bool, DpAll K H (bs.map V.bl) (bs.map PyData.bool)
  | [] => .nil
  | b :: r => .cons (.bl b) (dp_bls r)
theorem lay_bls : ∀ bs : List Bool, PyData.canLayAll0 (bs.map PyData.bool) = true
  | [] => rfl
  | b :: r => by
    show ((PyData.bool b).canLay0 && PyData.canLayAll0 (r.map PyData.bool)) = true
    rw [lay_bls r]
    rfl
theorem dep_bls : ∀ bs : List Bool, PyData.depthAll (bs.map PyData.bool) ≤ 1
  | [] => by decide
  | b :: r => by
    have z := dep_bls r
    simp [PyData.depthAll, PyData.depth] at z ⊢
    try omega
theorem eqv_bls : ∀ bs cs : List Bool, PyData.eqvAll (bs.map PyData.bool) (cs.map PyData.bool) = decide (bs = cs)
  | [], [] => rfl
  | [], _ :: _ => rfl
  | _ :: _, [] => rfl
  | b :: r, c :: t => by
    show (PyData.eqv (.bool b) (.bool c) && PyData.eqvAll (r.map PyData.bool) (t.map PyData.bool)) = _
    rw [eqv_bls r t]
    cases b <;> cases c <;> simp [PyData.eqv]
theorem sh_bls (bs : List Bool) : SeqAt.shaped (.list (bs.map PyData.bool)) = true := by
  unfold SeqAt.shaped
  have z1 := lay_bls bs
  have z2 := dep_bls bs
  simp [PyData.canLay0, PyData.depth, z1]
  omega
theorem ch_neBL {bs cs : List Bool} (h1 : SqL K H a (bs.map V.bl)) (h2 : SqL K H b (cs.map V.bl)) (q : Q (.bl (!decide (bs = cs))) H) : hB P w K p (compareOp .NotEq) (.ref a) (.ref b) H Q :=
  ⟨rNeD K, fun X L => L.K ▸ op_neD L.un, _, _, .lst h1 (dp_bls bs), .lst h2 (dp_bls cs), sh_bls bs, sh_bls cs, by
    rw [PyData.eqv, eqv_bls]
    exact q⟩
end
end Lay

set_option Elab.async false
set_option linter.all false
set_option maxRecDepth 100000
set_option maxHeartbeats 4000000
namespace Lay
open PySem PySem.Spec PyProof.Rows L2
open L2H (RoomH Hot1 PinOk HotC cxH PIH TurnH)
open LayX (XcK XcBody)
/-! ### defs that may raise -/
def FnE (P : Program) (w : World) (K : PySem.W.Frag) (mg : Str → Option Value) (base : Heap) (k : Nat) (x : Str) (ps : List Str) (sp : Sp) : Prop :=
  ∃ a fd, mg x = some (.ref a) ∧ PySem.W.keepIn K (.ref a) = true ∧ Binds K fd ps [] ∧ (∃ ob : Obj, K.lookup a = some ob ∧ ob.data = .func fd) ∧ FnOk P w K mg base (L2N.CX P w) k a fd ps sp
/-- .. called by keywords alone -/
def FnEK (P : Program) (w : World) (K : PySem.W.Frag) (mg : Str → Option Value) (base : Heap) (k : Nat) (x : Str) (ks : List Str) (sp : Sp) : Prop :=
  ∃ a fd ps g, mg x = some (.ref a) ∧ PySem.W.keepIn K (.ref a) = true ∧ KBn K fd ps 0 ks g (fun _ zs => zs) ∧ FnOk P w K mg base (L2N.CX P w) k a fd ps sp
/-- an own exception class under its name -/
def XcG (P : Program) (K : PySem.W.Frag) (mg : Str → Option Value) (x : Str) (C : Addr) (fld : Str) : Prop := ∃ fI qual body, XcK P K C fI fld qual body ∧ XcBody fld body ∧ fld ≠ "self" ∧ mg x = some (.ref C)
abbrev BodyE (P : Program) (w : World) (K : PySem.W.Frag) (mg : Str → Option Value) (base : Heap) (x : Str) (st : Stmt) (N : List Str) (k : Nat) (sp : Sp) : Prop :=
  ∀ (a : Addr) (cdv : Value) (A : Around) (outer : List Env) (s : Shared) (H : Hp) (vs : List V) (Q : VK) (E : XK), LX P w K (cxOf (L2N.CX P w) P w K mg base N x (defScope st) a cdv A outer s H E) → Room k (A.deeper (envOfC x (defScope st) s.heap.objs.size a cdv)) →
      L2N.Takes (cxOf (L2N.CX P w) P w K mg base N x (defScope st) a cdv A outer s H E) (fun cls d _ H => E cls d H) → sp vs H Q E →
      ∃ t, PSs (cxOf (L2N.CX P w) P w K mg base N x (defScope st) a cdv A outer s H E) (defBody st) t ∧ t { nx := fun _ H' => Q .non H', rt := Q } (start N vs) H
section
variable {P : Program} {w : World} {K : PySem.W.Frag} {mg : Str → Option Value} {base : Heap} {x : Str} {st : Stmt} {N ps : List Str} {k : Nat} {sp : Sp}
theorem Fn0.okE (F : Fn0 K mg x st ps) (S : FnScope N ps (defScope st)) (len : ∀ vs H Q E, sp vs H Q E → vs.length = ps.length) (body : BodyE P w K mg base x st N k sp) : FnE P w K mg base (k + 1) x ps sp := by
  obtain ⟨a, fd, F, hg, hb⟩ := F
  obtain ⟨oc, od, kV, doc, pm, an, cdv, ct, osl, rfl, lk, hcd⟩ := F.ex
  exact ⟨a, _, hg, F.kp, hb, ⟨_, lk, rfl⟩, fn_of lk hcd S len fun A outer s H vs Q E hr h => body a cdv A outer s H vs Q E ⟨rfl, rfl, rfl, rfl, hr.units⟩ hr (L2N.takes_of rfl rfl rfl rfl) h⟩
end
theorem takes0N {X : Cx} : L2N.Takes X (fun _ _ _ _ => False) := fun _ _ x => by
  obtain ⟨_, _, _, _, _, _, _, _, _, _, _, _, _, _, _, _, z⟩ := x
  exact z.elim
def tCallE (sp : Sp) (W : WX) (t : TA) : TE := fun σ H Q => t σ H fun vs H1 => sp vs H1 Q (fun cls d H' => W cls d σ H')
def tCallEK (m : Nat) (sp : Sp) (W : WX) (tk : TA) : TE := fun σ H Q => tk σ H fun zs H1 => zs.length = m ∧ sp zs H1 Q (fun cls d H' => W cls d σ H')
def sRz (C : Addr) (fld : Str) (te : TE) (W : WX) : TS := fun _ σ H => te σ H fun x H1 => ∃ v, [x] = [v] ∧ ∀ d, H1 d = none → W (.ref C) (some d) σ (upd H1 d (.xd [(fld, v)]))
section
variable {P : Program} {w : World} {K : PySem.W.Frag} {X : Cx} {k : Nat} {x fld : Str} {C : Addr} {ps ks : List Str} {sp : Sp} {W : WX} {p pos : Pos} {e : Expr} {es : List Expr} {kws : List Keyword} {t tk : TA} {te : TE}
theorem pe_callE (F : FnE X.prog X.w X.K X.mg X.base k x ps sp) (hr : Room k X.A) (hg : Gl X x) (tk : L2N.Takes X W) (ha : PA X (e :: es) t) (hdb : (x == ("__debug__" : Str)) = false := by decide)
    (he : starEach (e :: es) X.env = (false, eval e X.env) :: starEach es X.env := by rfl) (hpl : (backTo pos (starEach es X.env)).any (·.1) = false := by rfl) : PE X (.Call (.Name x p) (e :: es) [] pos) (tCallE sp W t) := by
  obtain ⟨a, fd, h1, h2, h3, _, h4⟩ := F
  exact pe_callS h4 hr hg h1 h2 h3 (fun σ => L2N.passAt tk σ) ha hdb he hpl
theorem pe_callEK (F : FnEK X.prog X.w X.K X.mg X.base k x ks sp) (hr : Room k X.A) (hg : Gl X x) (tx : L2N.Takes X W) (hkw : PK X kws tk) (hall : (backToKw pos (keywordEach kws X.env)).all (·.1.isSome) = true := by rfl)
    (hks : (backToKw pos (keywordEach kws X.env)).filterMap (·.1) = ks := by rfl) (hdb : (x == ("__debug__" : Str)) = false := by decide)
    (hpl : ((backTo pos (starEach [] X.env)).any (·.1) || (backToKw pos (keywordEach kws X.env)).any (·.1.isNone)) = false := by rfl) : PE X (.Call (.Name x p) [] kws pos) (tCallEK ks.length sp W tk) := by
  obtain ⟨a, fd, ps, g, h1, h2, h3, h4⟩ := F
  refine ⟨fun pins s σ H Q I h => wpAny_Call_Name_kw (ld_glob I hg h1 ?_ hdb)⟩
  refine PySem.W.callWith_KW0 (h₀ := X.base) I.ok.mod.kin h2 hall (thn (hkw.run pos pins s σ H _ I h) fun ws s2 hh => ?_) hpl
  obtain ⟨zs, H2, I2, rz, l2, q⟩ := hh
  refine ⟨I2.kIn, ?_⟩
  rw [hks]
  refine wpAny_call (codeAny_mono (h4.run X.A X.stack s2 H2 ⟨[], ks.zip ws⟩ (g [] ws) zs Q _ hr I2.env0 (h3.to s2 [] ws I2.kIn rfl (rz.length.symm.trans l2)) (h3.rel .nil rz) q) fun r s' hq => ?_)
  rcases r with e | (_ | _ | _ | u)
  · exact L2N.passAt tx σ pins H2 s2 e s' I2 hq
  · exact hq.elim
  · exact hq.elim
  · exact hq.elim
  · exact I2.after hq
theorem ps_raiseE (L : LX P w K X) (tk : L2N.Takes X W) (T : XcG X.prog X.K X.mg x C fld) (hr : Room 1 X.A) (hg : Gl X x) (he : PE X e te) (hdb : (x == ("__debug__" : Str)) = false := by decide)
    (hs : starEach [e] X.env = (false, eval e X.env) :: starEach [] X.env := by rfl) (hpl : (backTo pos (starEach [] X.env)).any (·.1) = false := by rfl) {rpos : Pos} : PS X (.Raise (some (.Call (.Name x p) [e] [] pos)) none rpos) (sRz C fld te W) := by
  obtain ⟨fI, qual, body, T, B, sn, hm⟩ := T
  exact L2N.ps_raise L.calm tk (pmk_xc T B sn hr hg hm he hdb hs hpl)
theorem nm_own (h : X.mg x = some (.ref C)) (hg : Gl X x) (hdb : (x == ("__debug__" : Str)) = false := by decide) : Names X x (.ref C) := ⟨hg, hdb, .inl h⟩
/-- the contexts of a try's body and of an except clause's suite -/
theorem LX.try_ (L : LX P w K X) {pn : List (Addr × Obj)} {xe : Value → Shared → Prop} : LX P w K (X.tr pn xe) := ⟨L.prog, L.w, L.K, L.calm, L.un⟩
theorem LX.suite_ (L : LX P w K X) {a : Addr} {oe : Obj} {cls : Value} {d : Option Addr} {pn : List (Addr × Obj)} (hz : L2N.Zn cls d oe) (hf : ∃ vs, oe.data = .fields vs) : LH P w K (a, oe) (X.suite a ((a, oe) :: pn)) := by
  obtain ⟨vs, hv⟩ := hf
  exact ⟨L.prog, L.w, L.K, L.un, ⟨rfl, vs, hv, hz.2.2 vs hv⟩, List.mem_cons_self⟩
theorem room_s (hr : Room k X.A) {a : Addr} {pn : List (Addr × Obj)} : RoomH k (X.suite a pn).A := ⟨hr.dp, hr.un⟩
end
section
variable {P : Program} {w : World} {K : PySem.W.Frag} {H : Hp} {Q : VK} {σ : L2.St} {sp : Sp} {W : WX} {t tk : TA} {te : TE} {D : Ends} {C : Addr} {fld : Str}
theorem r_callE (q : t σ H fun vs H1 => sp vs H1 Q (fun cls d H' => W cls d σ H')) : tCallE sp W t σ H Q := q
theorem r_callEK {m : Nat} (q : tk σ H fun zs H1 => zs.length = m ∧ sp zs H1 Q (fun cls d H' => W cls d σ H')) : tCallEK m sp W tk σ H Q := q
theorem r_rz (q : te σ H fun x H1 => ∃ v, [x] = [v] ∧ ∀ d, H1 d = none → W (.ref C) (some d) σ (upd H1 d (.xd [(fld, v)]))) : sRz C fld te W D σ H := q
end
/-- what a class must have for its instances' field n to be read -/
structure XfG (K : PySem.W.Frag) (C : Addr) (n : Str) : Prop where
  xf : XfC K C
  no : PySem.W.findIn K (.ref C) n = some none
theorem pe_xfH {X : Cx} {a C : Addr} {oe : Obj} {cls : Value} {d : Option Addr} {pn : List (Addr × Obj)} {e : Expr} {te : TE} {pos : Pos} {n : Str} (T : XfG X.K C n) (hz : L2N.Zn cls d oe) (hf : ∃ vs, oe.data = .fields vs) (he : PE (X.suite a ((a, oe) :: pn)) e te)
    (hb : attributeBase e n X.env (eval e X.env) = eval e X.env := by rfl) : PE (X.suite a ((a, oe) :: pn)) (.Attribute e n pos) (tXf a cls d C n te) := pe_xf T.xf T.no hz.zc hf he hb
theorem r_xf {a C : Addr} {cls : Value} {d : Option Addr} {f : Str} {te : TE} {σ : L2.St} {H : Hp} {Q : VK} (q : te σ H fun x H1 => x = .ref a ∧ cls = .ref C ∧ ∃ (dd : Addr) (fs : List (Str × V)) (v : V), d = some dd ∧ H1 dd = some (.xd fs) ∧ fs.lookup f = some v ∧ Q v H1) : tXf a cls d C f te σ H Q := q
theorem r_never {H : Hp} {σ : L2.St} {D : Ends} (h : False) : tNever D σ H := h.elim
/-- the rest of the block stands aside while a statement is walked -/
theorem r_seqH {s1 s2 : TS} {nx bk ct : L2.St → Hp → Prop} {rt : VK} {σ : L2.St} {H : Hp} (q : ∀ N : L2.St → Hp → Prop, (∀ σ' H', s2 ⟨nx, rt, bk, ct⟩ σ' H' → N σ' H') → s1 ⟨N, rt, bk, ct⟩ σ H) : tSeq s1 s2 ⟨nx, rt, bk, ct⟩ σ H := q _ fun _ _ h => h
theorem un_of {A : Around} {k : Nat} (hr : RoomH k A) : A.units + 64 < cLine := by
  have := hr.un
  omega
/-! ### isinstance of classes -/
/-- the class D of the module is (not) above C -/
def IsK (K : PySem.W.Frag) (mg : Str → Option Value) (C : Addr) (x : Str) (b : Bool) : Prop := ∃ D, mg x = some (.ref D) ∧ PySem.W.kitOne K (.ref C) (.ref D) = some b
end Lay

set_option Elab.async false
set_option linter.all false
set_option maxRecDepth 100000
set_option maxHeartbeats 4000000
namespace Lay
open PySem PySem.Spec PyProof.Rows L2
/-! ### data without lists, told again and again -/
mutual
def nlD : PyData → Bool
  | .list _ => false
  | .dict _ => false
  | .tuple ds => nlA ds
  | _ => true
def nlA : List PyData → Bool
  | [] => true
  | d :: r => nlD d && nlA r
end
section
variable {K : PySem.W.Frag} {H H' : Hp} {D : Addr} {l : List V}
mutual
theorem Dp.stay (b : But D H H') (e : H D = some (.lst l)) : ∀ (d : PyData) (v : V), nlD d = true → Dp K H v d → Dp K H' v d
  | .none, _, _, h => by
    cases h
    exact .non
  | .bool _, _, _, h => by
    cases h
    exact .bl _
  | .int _, _, _, h => by
    cases h
    exact .int _
  | .str _, _, _, h => by
    cases h
    exact .str _
  | .list _, _, n, _ => absurd n (by simp [nlD])
  | .dict _, _, n, _ => absurd n (by simp [nlD])
  | .tuple ds, _, n, h => by
    cases h with
    | tup hs ha => exact .tup (b.sqt (fun ys z => by rw [e] at z; cases z) (fun o u z => by rw [e] at z; cases z) hs) (Dp.stayA b e ds _ (by simpa [nlD] using n) ha)
theorem Dp.stayA (b : But D H H') (e : H D = some (.lst l)) : ∀ (ds : List PyData) (vs : List V), nlA ds = true → DpAll K H vs ds → DpAll K H' vs ds
  | [], _, _, h => by
    cases h
    exact .nil
  | d :: ds, _, n, h => by
    have n2 : nlD d = true ∧ nlA ds = true := by simpa [nlA] using n
    cases h with
    | cons h1 h2 => exact .cons (Dp.stay b e d _ n2.1 h1) (Dp.stayA b e ds _ n2.2 h2)
end
theorem DpAll.push {d : PyData} {v : V} (h : Dp K H v d) : ∀ {n : Nat} {vs : List V}, DpAll K H vs (List.replicate n d) → DpAll K H (vs ++ [v]) (List.replicate (n + 1) d)
  | 0, _, g => by
    cases g
    exact .cons h .nil
  | n + 1, _, g => by
    rw [List.replicate_succ] at g
    cases g with
    | cons g1 g2 => exact .cons g1 (DpAll.push h g2)
theorem nlA_rep {d : PyData} (h : nlD d = true) : ∀ n, nlA (List.replicate n d) = true
  | 0 => rfl
  | n + 1 => by
    rw [List.replicate_succ, nlA, h, nlA_rep h n]
    rfl
/-- what can be held against itself -/
structure DGd (d : PyData) : Prop where
  nl : nlD d = true
  lay : d.canLay0 = true
  dep : d.depth ≤ 9
theorem lay_rep {d : PyData} (h : d.canLay0 = true) : ∀ n, PyData.canLayAll0 (List.replicate n d) = true
  | 0 => rfl
  | n + 1 => by
    rw [List.replicate_succ, PyData.canLayAll0, h, lay_rep h n]
    rfl
theorem dep_rep {d : PyData} (h : d.depth ≤ 9) : ∀ n, PyData.depthAll (List.replicate n d) ≤ 9
  | 0 => by simp [PyData.depthAll]
  | n + 1 => by
    have := dep_rep h n
    rw [List.replicate_succ, PyData.depthAll]
    omega
theorem sh_rep {d : PyData} (g : DGd d) (n : Nat) : SeqAt.shaped (.list (List.replicate n d)) = true := by
  unfold SeqAt.shaped
  have h1 := lay_rep g.lay n
  have h2 := dep_rep g.dep n
  simp [PyData.canLay0, PyData.depth, h1]
  omega
section
variable {P : Program} {w : World} {Q : VK} {a b : Addr} {xs ys : List V} {d : PyData} {n : Nat}
theorem eqR (g : DGd d) : PyData.eqv (.list (List.replicate n d)) (.list (List.replicate n d)) = true := SeqAt.eqv_refl _ (by rw [PyData.canLay0]; exact lay_rep g.lay n)
theorem c_eqR (g : DGd d) (h1 : SqL K H a xs) (a1 : DpAll K H xs (List.replicate n d)) (h2 : SqL K H b ys) (a2 : DpAll K H ys (List.replicate n d)) (q : Q (.bl true) H) : sB P w K (compareOp .Eq) (.ref a) (.ref b) H Q :=
  ⟨rEqD K, fun X L => L.K ▸ op_eqD L.un, _, _, .lst h1 a1, .lst h2 a2, sh_rep g n, sh_rep g n, by rw [eqR g]; exact q⟩
theorem c_neR (g : DGd d) (h1 : SqL K H a xs) (a1 : DpAll K H xs (List.replicate n d)) (h2 : SqL K H b ys) (a2 : DpAll K H ys (List.replicate n d)) (q : Q (.bl false) H) : sB P w K (compareOp .NotEq) (.ref a) (.ref b) H Q :=
  ⟨rNeD K, fun X L => L.K ▸ op_neD L.un, _, _, .lst h1 a1, .lst h2 a2, sh_rep g n, sh_rep g n, by rw [eqR g]; exact q⟩
/-- [x] * n, of a thing with such data -/
theorem b_repD {x : V} {k : Int} (e : H a = some (.lst [x])) (hk : k = (n : Int)) (hn : n ≤ 100) (g : DGd d) (h : Dp K H x d) (q : ∀ b ys H', Same H H' → SqL K H' b ys → DpAll K H' ys (List.replicate n d) → Q (.ref b) H') : sB P w K (binaryOp .Mult) (.ref a) (.int k) H Q := by
  subst hk
  refine b_rep e (by omega) (by omega) ?_ fun p np => ?_
  · rw [Int.toNat_natCast, sizeLine_eq]
    simp only [List.length_cons, List.length_nil]
    omega
  refine q p _ _ (Same.new np) (SqL.of upd_same) ?_
  rw [Int.toNat_natCast]
  have h2 : Dp K (upd H p (.lst (List.replicate n [x]).flatten)) x d := Dp.stay (D := a) (l := [x]) (Same.but (Same.new np)) e d x g.nl h
  generalize upd H p (.lst (List.replicate n [x]).flatten) = H2 at h2 ⊢
  clear q np e
  induction n with
  | zero => exact .nil
  | succ n ih =>
    rw [List.replicate_succ, List.flatten_cons, List.replicate_succ]
    exact .cons h2 (ih (by omega))
end
/-! ### a list of tellings -/
section
variable {J : It} {n : Nat} {G : Hp → Prop} {Y : Nat → Hp → V → Hp → Prop} {g : TG} {tt : TT} {te : TE} {vs : List Nat} {σ : L2.St} {H1 : Hp} {Qd : Hp → Prop} {d : PyData}
theorem lc_tell (w : Walk J n G Y) (gd : DGd d) (hn : n < sizeLine) (hD : H1 D = none) (hG : ∀ H, Same H1 H → G H)
    (hs : ∀ i x H H', i < n → Same H1 H → Y i H x H' → ∀ (C1 : VK) (C0 : Hp → Prop), (∀ y H4, Same H H4 → Dp K H4 y d → C1 y H4) →
      g x (wipe σ vs) H' fun σ2 H2 => wipe σ2 vs = wipe σ vs ∧ tt σ2 H2 fun b H3 => if b = true then te σ2 H3 C1 else C0 H3)
    (hd : ∀ H ys, Same H1 H → H D = some (.lst ys) → DpAll K H ys (List.replicate n d) → Qd H) :
    Lc J g tt te vs σ D Qd H1 := by
  refine lc_it w (fun i H => Same H1 H ∧ ∃ ys, H D = some (.lst ys) ∧ ys.length = i ∧ DpAll K H ys (List.replicate i d)) ⟨Same.new hD, [], upd_same, rfl, .nil⟩ (fun i H _ q => hG H q.1) (fun i x H H' hi q y => ?_) fun H q => ?_
  · obtain ⟨q1, ys, q2, q3, q4⟩ := q
    refine hs i x H H' hi q1 y _ _ (fun y H4 s4 h4 => ?_)
    have e4 := s4 _ _ q2
    refine ⟨ys, e4, by omega, Same.mut (q1.trans s4) hD, ys ++ [y], upd_same, by rw [List.length_append, q3]; rfl, ?_⟩
    have b4 : But D H4 (upd H4 D (.lst (ys ++ [y]))) := fun c o nc ec => by
      rw [upd_ne nc]
      exact ec
    exact DpAll.push (Dp.stay b4 e4 d y gd.nl h4) (Dp.stayA b4 e4 _ _ (nlA_rep gd.nl i) (Dp.stayA (Same.but s4) q2 _ _ (nlA_rep gd.nl i) q4))
  · obtain ⟨q1, ys, q2, q3, q4⟩ := q
    exact hd H ys q1 q2 q4
end
end
end Lay

set_option Elab.async false
set_option linter.all false
set_option maxRecDepth 100000
set_option maxHeartbeats 4000000
namespace L2
open PySem PySem.Spec PyProof.Rows
theorem tuple_mul0W (l : Addr) (items : Array Value) (n : Nat) (dd : Option Addr) (sl : Array (Option Value)) (u : Tok) (hi : items.isEmpty = false) :
    Meets (Builtin.«tuple.__mul__» ⟨[.ref l, .int 0 u], []⟩) (fun _ R s => s.heap.get? l = some { cls := .type "tuple", dict := dd, data := .seq items n, slots := sl } ∧
      R (.ok (.ret (Value.ref s.heap.objs.size))) { s with heap := s.heap.push { cls := Value.type "tuple", data := Data.seq #[] }, toks := s.toks }) :=
  .of_wp fun prog w A R s h => by
    obtain ⟨hp, g, d, tk, os⟩ := s
    obtain ⟨hl, h⟩ := h
    have f1 := AutoSeq1.idx_int
    have c1 : (items.isEmpty || (0 : Int) == 1) = false := by rw [hi]; rfl
    wp_walk using wpAny_loadPart' hl
    repeat (first
      | (refine wpAny_ite_false (decide_eq_false (by rw [c1]; exact Bool.false_ne_true)) ?_; wp_walk using wpAny_loadPart' hl)
      | (refine wpAny_ite_true (decide_eq_true (by rfl)) ?_; wp_walk using wpAny_loadPart' hl))
    exact ⟨_, rfl, h⟩
theorem tuple_mul1W (l : Addr) (items : Array Value) (n : Nat) (dd : Option Addr) (sl : Array (Option Value)) (u : Tok) :
    Meets (Builtin.«tuple.__mul__» ⟨[.ref l, .int 1 u], []⟩) (fun _ R s => s.heap.get? l = some { cls := .type "tuple", dict := dd, data := .seq items n, slots := sl } ∧
      R (.ok (.ret (Value.ref l))) s) :=
  .of_wp fun prog w A R s h => by
    obtain ⟨hp, g, d, tk, os⟩ := s
    obtain ⟨hl, h⟩ := h
    have f1 := AutoSeq1.idx_int
    have c1 : (items.isEmpty || (1 : Int) == 1) = true := by cases items.isEmpty <;> rfl
    wp_walk using wpAny_loadPart' hl
    repeat (first
      | (refine wpAny_ite_true (decide_eq_true (by rw [c1])) ?_; wp_walk using wpAny_loadPart' hl))
    exact ⟨_, rfl, h⟩
def rRepTA (K : PySem.W.Frag) : R2 := fun x y H Q => ∃ l k xs, x = .ref l ∧ y = .int k ∧ SqT K H l xs ∧ xs ≠ [] ∧ 0 ≤ k ∧ k ≤ 1000 ∧ xs.length ≤ 1000 ∧ (k = 1 → Q (.ref l) H) ∧ (k ≠ 1 → ∀ p, H p = none → Q (.ref p) (upd H p (.tup (List.replicate k.toNat xs).flatten)))
section
variable {X : Cx}
theorem op_repTA : OpR X (binaryOp .Mult) (rRepTA X.K) := by
  intro pins s σ H x y v u Q I rx ry h
  obtain ⟨l, k, xs, rfl, rfl, hT, hne, h1, h2, hz, q1, q2⟩ := h
  by_cases h3 : 2 ≤ k
  · exact op_repT pins s σ H _ _ v u Q I rx ry ⟨l, k, xs, rfl, rfl, hT, hne, h3, h2, hz, q2 (by omega)⟩
  cases rx
  obtain ⟨t, rfl⟩ := ry
  obtain ⟨its, r, ⟨⟨cls, dd, data, sl⟩, ho, hc, n, hd⟩, hs⟩ := I.tuple hT
  simp only at hc hd
  subst hc hd
  have hle : its.length = xs.length := r.length.symm
  have hn : its ≠ [] := fun e => hne (by
    rw [e] at hle
    exact List.eq_nil_of_length_eq_zero hle.symm)
  have hi : its.toArray.isEmpty = false := by
    cases its with
    | nil => exact absurd rfl hn
    | cons a b => rfl
  have hk : k = 0 ∨ k = 1 := by omega
  rcases hk with rfl | rfl
  · refine wpAny_binaryOp_repeat_ref (T := "tuple") (U := "int") (by decide) ⟨_, ho, rfl⟩ (fun s' => typeIs_int s' 0 t) noFill_tuple_mul F.fills_int_mul F.slot_int_rmul repeat_tuple F.slot_int_index.lookup
      (call_meets F.slot_int_rmul (typeIs_int s 0 t) F.entry_int_rmul (F.args_int_rmul_2 _ _) (int_rmul_tuple 0 t l its.toArray n dd sl)
        ⟨ho, rfl, ⟨_, ho, rfl⟩, call_meets F.slot_tuple_mul ⟨_, ho, rfl⟩ F.entry_tuple_mul (F.args_tuple_mul_2 _ _) (tuple_mul0W l its.toArray n dd sl t hi) ⟨ho, ?_⟩⟩)
    refine ⟨.ref s.heap.objs.size, _, I.laid (t' := s.toks) (o := .tup []) (fun b ob q => Heap.get?_push_of_some _ q) (Nat.le_refl _) ?_, rfl, q2 (by decide) _ (I.hok.fresh (Nat.le_refl _))⟩
    exact ⟨by rw [sizeLine_eq]; decide, _, .nil, IsTup.new _ _⟩
  · refine wpAny_binaryOp_repeat_ref (T := "tuple") (U := "int") (by decide) ⟨_, ho, rfl⟩ (fun s' => typeIs_int s' 1 t) noFill_tuple_mul F.fills_int_mul F.slot_int_rmul repeat_tuple F.slot_int_index.lookup
      (call_meets F.slot_int_rmul (typeIs_int s 1 t) F.entry_int_rmul (F.args_int_rmul_2 _ _) (int_rmul_tuple 1 t l its.toArray n dd sl)
        ⟨ho, rfl, ⟨_, ho, rfl⟩, call_meets F.slot_tuple_mul ⟨_, ho, rfl⟩ F.entry_tuple_mul (F.args_tuple_mul_2 _ _) (tuple_mul1W l its.toArray n dd sl t) ⟨ho, ?_⟩⟩)
    exact ⟨.ref l, H, I, rfl, q1 rfl⟩
end
end L2
namespace Lay
open PySem PySem.Spec PyProof.Rows L2
section
variable {P : Program} {w : World} {K : PySem.W.Frag} {H : Hp} {Q : VK} {a : Addr} {x : V} {n : Int}
/-- (x,) * n -/
theorem b_rep1 (h : SqT K H a [x]) (h0 : 0 ≤ n) (h1 : n ≤ 1000) (q : ∀ c H', Same H H' → SqT K H' c (List.replicate n.toNat x) → Q (.ref c) H') : sB P w K (binaryOp .Mult) (.ref a) (.int n) H Q := by
  refine ⟨rRepTA K, fun X L => L.K ▸ op_repTA, a, n, [x], rfl, rfl, h, List.cons_ne_nil _ _, h0, h1, by simp, fun e => ?_, fun _ p np => ?_⟩
  · subst e
    exact q a H (Same.refl H) h
  · refine q p _ (Same.new np) ?_
    have e : (List.replicate n.toNat [x]).flatten = List.replicate n.toNat x := by
      generalize n.toNat = k
      induction k with
      | zero => rfl
      | succ k ih => rw [List.replicate_succ, List.flatten_cons, ih, List.replicate_succ]; rfl
    rw [← e]
    exact SqT.of upd_same
end
end Lay

set_option Elab.async false
set_option linter.all false
set_option maxRecDepth 100000
set_option maxHeartbeats 4000000
namespace Lay
open PySem PySem.Spec PyProof.Rows L2
open LayX (XcK XcBody)
/-! ### what the written part tells of an own exception -/
section
variable {K : PySem.W.Frag} {h : Heap} {mg : Str → Option Value} {P : Program} {w : World} {base : Heap}
/-- a def that may raise, called by keywords alone -/
theorem FnK.kwE {x : Str} {st : Stmt} {ps ks : List Str} {k : Nat} {sp : Sp} (t : FnK K x st) (X : K.In h) (G : h.Ns mainGlobals mg) (F : FnE P w K mg base k x ps sp)
    (hb : ∀ (kV doc pm : Value) (an : Option Addr) (cdv ct : Value) (ws : List Value), ws.length = ks.length → bindArgs (PySem.W.fnOf x x (defArgs st) (defBody st) (defScope st) .none kV doc pm an cdv ct) ⟨[], ks.zip ws⟩ = pure (ps.zip ws)) : FnEK P w K mg base k x ks sp := by
  obtain ⟨f, oc, od, kV, doc, pm, an, cd, ct, sl, h1, h2, h3, h4⟩ := t
  obtain ⟨a, fd, e1, e2, e3, ⟨ob, e4, e5⟩, e6⟩ := F
  have ea := (PySem.W.mg_of X G h1).symm.trans e1
  cases ea
  have eo := h2.symm.trans e4
  cases eo
  cases e5
  refine ⟨f, _, ps, fun _ ws => ws, e1, e2, ⟨fun s us ws _ l1 l2 => ?_, fun _ r => r⟩, e6⟩
  rw [List.length_eq_zero_iff.mp l1]
  exact .of_eq (hb kV doc pm an cd ct ws l2)
/-- the class x of the module is (not) above C -/
def IsKK (K : PySem.W.Frag) (C : Addr) (x : Str) (b : Bool) : Prop := ∃ D, PySem.W.nsIn K mainGlobals x = some (some (.ref D)) ∧ PySem.W.kitOne K (.ref C) (.ref D) = some b
theorem IsKK.mk {C D : Addr} {x : Str} {b : Bool} (h1 : PySem.W.nsIn K mainGlobals x = some (some (.ref D))) (h2 : PySem.W.kitOne K (.ref C) (.ref D) = some b) : IsKK K C x b := ⟨D, h1, h2⟩
theorem IsKK.is {C : Addr} {x : Str} {b : Bool} (t : IsKK K C x b) (X : K.In h) (G : h.Ns mainGlobals mg) : IsK K mg C x b := by
  obtain ⟨D, h1, h2⟩ := t
  exact ⟨D, PySem.W.mg_of X G h1, h2⟩
theorem ExcC.mk' {D : Addr} (h1 : PySem.W.findIn K (.ref D) "__getattribute__" = some (some (.builtin "BaseException.__getattribute__"))) (h2 : PySem.W.findIn K (.ref D) "__getattr__" = some none) (h3 : PySem.W.subIn K (.ref D) (.type "BaseException") = some true) (h4 : PySem.W.hasDictIn K D = true)
    (h5 : PySem.W.findIn K (.ref D) "__class__" = some (some (.builtin "object.__class__"))) (h6 : PySem.W.specialIn K (.builtin "object.__class__") "__get__" = some (some (.builtin "getset_descriptor.__get__"))) (h7 : PySem.W.takesIn K (.builtin "object.__class__") = some true) (h8 : PySem.W.mroIn K D (.type "object") = some true) : ExcC K D := ⟨h1, h2, h3, h4, h5, h6, h7, h8⟩
theorem XfG.mk' {D : Addr} {n : Str} (h1 : PySem.W.findIn K (.ref D) "__getattribute__" = some (some (.builtin "BaseException.__getattribute__"))) (h2 : PySem.W.findIn K (.ref D) "__getattr__" = some none) (h3 : PySem.W.subIn K (.ref D) (.type "BaseException") = some true) (h4 : PySem.W.hasDictIn K D = true) (h5 : PySem.W.findIn K (.ref D) n = some none) : XfG K D n := ⟨⟨h1, h2, h3, h4⟩, h5⟩
/-- .. with all that is to be found as implicit arguments -/
theorem xck_mk {C fI cda cc : Addr} {fld qual : Str} {body : List Stmt} {oc : Value} {od : Option Addr} {params : Arguments} {scope : Scope} {kV doc pm : Value} {an : Option Addr} {ct : Value} {osl : Array (Option Value)} {ccl cl : Value} {cdd cld : Option Addr} {ccs csl : Array (Option Value)} {vs : Array Value} {file : Str} {tf : Tok} {ar : Arg}
    {nm q : Str} {N : Addr} {bs bm : List Value} {sn : List Str} {sub : List Value} {ab : Bool} {col : Option Bool} {dd : Option Addr} {k0 k1 k2 k3 k5 : Option Value}
    (find : PySem.W.findIn K (.ref C) "__init__" = some (some (.ref fI)))
    (l1 : K.lookup fI = some ⟨oc, od, .func (PySem.W.ksFn "__init__" qual params body scope .none kV doc pm an (.ref cda) ct cc), osl⟩) (l2 : PySem.W.codeIn K (.ref cda) qual = true) (l3 : K.lookup cda = some ⟨ccl, cdd, .fields vs, ccs⟩) (l4 : vs[2]? = some (.str file tf)) (l5 : ((P.main.file : Str) == file) = true)
    (l6 : K.lookup cc = some ⟨cl, cld, .cell (some (.ref C)), csl⟩) (l7 : (params.posonlyargs ++ params.args).head? = some ar) (l8 : ar.arg = "self")
    (l9 : ∀ us : List Value, us.length = 2 → bindArgs (PySem.W.ksFn "__init__" qual params body scope .none kV doc pm an (.ref cda) ct cc) ⟨us, []⟩ = pure ([("self" : Str), fld].zip us))
    (m1 : scope.kind = .function) (m2 : scope.isCoroutine = false) (m3 : scope.isGenerator = false) (m4 : ∀ x ∈ scope.names, x.2 ≠ .cell) (m5 : scope.names.lookup ("super" : Str) = some .globalImplicit) (m6 : scope.names.lookup ("__class__" : Str) = some .free)
    (m7 : scope.names.lookup ("self" : Str) = some .local) (m8 : scope.names.lookup fld = some .local)
    (top : (P.main.scope.names.lookup ("super" : Str)).isSome = false)
    (c1 : K.lookup C = some (excClassObj nm q C N bs bm true sn sub ab col dd k0 k1 k2 k3 k5 "ValueError.__new__")) (c2 : PySem.HandSPX.refsVE bm = true)
    (tI : PySem.W.typeIn K (.ref fI) = some (.type "function")) (own : PySem.W.mroIn K C (.ref C) = some true) (sup : PySem.W.nsIn K mainGlobals "super" = some none) (opq : PySem.W.nsIn K PySem.cStatics "thirdparty.any" = some none)
    (ks : PySem.W.ks_superIn K C C "__init__" = some (some (.builtin "ValueError.__init__"))) (ve : PySem.W.subIn K (.ref C) (.type "ValueError") = some true) (xi : PySem.W.excInitIn K C PySem.HandSPX.veTail "ValueError.__new__" = true)
    (sa : PySem.W.findIn K (.ref C) "__setattr__" = some (some (.builtin "object.__setattr__"))) (no : PySem.W.findIn K (.ref C) fld = some none) (exC : PySem.W.subIn K (.ref C) (.type "BaseException") = some true) (tyC : PySem.W.typeIn K (.ref C) = some (.type "type"))
    (kC : PySem.W.keepIn K (.ref C) = true) (hd : (fld == ("__debug__" : Str)) = false) : XcK P K C fI fld qual body :=
  ⟨⟨oc, od, params, scope, kV, doc, pm, an, cda, cc, ct, osl, ccl, cl, cdd, cld, ccs, csl, vs, file, tf, ar, l1, l2, l3, l4, l5, l6, l7, l8, l9, m1, m2, m3, m4, m5, m6, m7, m8⟩, top, ⟨nm, q, N, bs, bm, sn, sub, ab, col, dd, k0, k1, k2, k3, k5, c1, c2⟩, find, tI, own, sup, opq, ks, ve, xi, sa, no, exC, tyC, kC, hd⟩
end
end Lay

set_option Elab.async false
set_option linter.all false
set_option maxRecDepth 100000
set_option maxHeartbeats 4000000
namespace Lay
open PySem PySem.Spec PyProof.Rows L2 RZ
/-! ### zip of two tuples -/
theorem walk_zipT {K : PySem.W.Frag} {a b : Addr} {xs ys : List V} {n : Nat} (hn : n = min xs.length ys.length) : Walk (ItzT K a b) n (fun H => SqT K H a xs ∧ SqT K H b ys) (YPair (fun i => xs[i]?) (fun i => ys[i]?)) := by
  subst hn
  refine ⟨fun i _ hi q => ?_, fun _ q => ⟨xs, ys, q.1, q.2, by omega⟩, fun i H v H' _ q y => ?_⟩
  · have h1 : i < xs.length := by omega
    have h2 : i < ys.length := by omega
    exact ⟨xs, ys, xs[i], ys[i], q.1, q.2, by simp [h1], by simp [h2]⟩
  · obtain ⟨T, x, z, h1, h2, h3, h4, h5⟩ := y
    exact ⟨T, x, z, h1, h2, h3, h4 xs q.1, h5 ys q.2⟩
theorem r_zipA {K : PySem.W.Frag} {σ : L2.St} {H : Hp} {ta : TA} {R : It → Hp → Prop} (q : ta σ H fun vs H1 => ∃ a b xs ys, vs = [.ref a, .ref b] ∧ ((SqL K H1 a xs ∧ SqL K H1 b ys ∧ R (Itz K a b) H1) ∨ (SqT K H1 a xs ∧ SqT K H1 b ys ∧ R (ItzT K a b) H1))) : iZipA K ta σ H R := q
/-! ### a dict of the module, words that are no key of it -/
def keysOf : List DictEntry → List Str
  | [] => []
  | e :: r => (match e.key with | .str y _ => [y] | _ => []) ++ keysOf r
theorem find_no {P : Params} {z : Str} : ∀ {l : List DictEntry}, PySem.W.KeysLit P l → z ∉ keysOf l → l.find? (·.key.isStr z) = none ∧ l.any (·.refKey) = false
  | [], _, _ => ⟨rfl, rfl⟩
  | e :: r, h, hz => by
    obtain ⟨⟨y, t, ek, _⟩, hr⟩ := h
    have hz2 : z ∉ y :: keysOf r := by
      have e1 : keysOf (e :: r) = y :: keysOf r := by
        show (match e.key with | .str y _ => [y] | _ => []) ++ keysOf r = _
        rw [ek]
        rfl
      rw [e1] at hz
      exact hz
    obtain ⟨i1, i2⟩ := find_no hr fun m => hz2 (List.mem_cons_of_mem _ m)
    have ny : e.key.isStr z = false := by
      rw [ek]
      show (y == z) = false
      exact beq_eq_false_iff_ne.mpr fun q => hz2 (q ▸ List.mem_cons_self)
    refine ⟨?_, ?_⟩
    · rw [List.find?_cons, ny]
      exact i1
    · rw [List.any_cons, i2, Bool.or_false]
      unfold DictEntry.refKey
      rw [ek]
theorem kdno_of {K : PySem.W.Frag} {P : Params} {d : Addr} {es : Array DictEntry} {n : Nat} {z : Str} (h2 : K.lookup d = some ⟨.type "dict", none, .dict es n, #[]⟩) (hl : PySem.W.KeysLit P es.toList) (hz : z ∉ keysOf es.toList) : KDno K d z := by
  show PySem.W.nsIn K d z = some none
  unfold PySem.W.nsIn
  rw [h2]
  obtain ⟨e1, e2⟩ := find_no hl hz
  simp only [e1, e2]
  rfl
end Lay

set_option Elab.async false
set_option linter.all false
set_option maxRecDepth 100000
set_option maxHeartbeats 4000000
/-! a head by a Hook of one's own: Bools of the written part, the defs' syntax, the tables' keys; the written part is read at listed addresses -/
namespace LayHd
open PySem PySem.Spec PyProof.Rows L2 He
/-- a def (closure names cl) at the address at_ -/
structure FdZ where
  at_ : PySem.W.Frag → Addr
  name : Str
  qual : Str
  params : Arguments
  body : List Stmt
  scope : Scope
  clo : List Str
abbrev FnZ : Type := Option (Str × Str × Arguments × FuncBody × Scope × Addr × List Str × Addr)
def fnZ (K : PySem.W.Frag) (a : Addr) : FnZ := match K.lookup a with
  | some ⟨_, _, .func fd, _⟩ => some (fd.name, fd.qualname, fd.params, fd.body, fd.scope, fd.globals, fd.closure.map (·.1), fd.builtins)
  | _ => none
def FdZ.val (d : FdZ) : FnZ := some (d.name, d.qual, d.params, .stmts d.body, d.scope, mainGlobals, d.clo, builtinsNs)
abbrev AlZ : Type := Bool × List FnZ × List (Option (List (Option (Str × Int))))
def allB (K : PySem.W.Frag) : List (PySem.W.Frag → Bool) → Bool
  | [] => true
  | b :: r => match b K with
    | true => allB K r
    | false => false
def obsZ (ex : List (PySem.W.Frag → Bool)) (fn : List FdZ) (ts : List Tab) (K : PySem.W.Frag) : AlZ := (allB K ex, fn.map fun d => fnZ K (d.at_ K), ts.map fun t => dicW K (t.1 K))
def valZ (fn : List FdZ) (ts : List Tab) (w : World) : AlZ := (true, fn.map FdZ.val, ts.map fun t => some (keysIn w.params t.2))
def obsZG (as : List Addr) (ex : List (PySem.W.Frag → Bool)) (fn : List FdZ) (ts : List Tab) (g : Addr → Option Obj) : AlZ := obsZ ex fn ts (frG g as)
def SaysZ (ex : List (PySem.W.Frag → Bool)) (fn : List FdZ) (ts : List Tab) (w : World) (K : PySem.W.Frag) : Prop := obsZ ex fn ts K = valZ fn ts w
def hookZ (as : List Addr) (ex : List (PySem.W.Frag → Bool)) (fn : List FdZ) (ts : List Tab) : PySem.W.Hook where
  α := AlZ
  obs := fun s => obsZG as ex fn ts s.heap.get?
  val := fun w => valZ fn ts w
  says := fun w h => ∃ K : PySem.W.Frag, K.In h ∧ SaysZ ex fn ts w K
  of := fun w s q => Exists.intro _ (And.intro frG_in q)
  keeps := fun w h h' y st => y.elim fun K z => Exists.intro K (And.intro (PySem.W.Frag.In.keeps z.1 st) z.2)
theorem obsZG_eq {as : List Addr} {ex : List (PySem.W.Frag → Bool)} {fn : List FdZ} {ts : List Tab} {g : Addr → Option Obj} {s : Shared} (h : ∀ a, g a = s.heap.get? a) : obsZG as ex fn ts g = (hookZ as ex fn ts).obs s := by
  obtain rfl : g = s.heap.get? := funext fun a => h a
  rfl
theorem allB_at {K : PySem.W.Frag} : ∀ {l : List (PySem.W.Frag → Bool)} {i : Nat} {b : PySem.W.Frag → Bool}, allB K l = true → l[i]? = some b → b K = true
  | [], i, b, _, h => by simp at h
  | c :: r, i, b, a, h => by
    have a1 : (match c K with | true => allB K r | false => false) = true := a
    cases e : c K with
    | false =>
      rw [e] at a1
      cases a1
    | true =>
      rw [e] at a1
      cases i with
      | zero =>
        cases h
        exact e
      | succ i => exact allB_at (l := r) (i := i) a1 h
section
variable {exs : List (PySem.W.Frag → Bool)} {fns : List FdZ} {ts : List Tab} {w : World} {K : PySem.W.Frag}
theorem SaysZ.ex (c : SaysZ exs fns ts w K) (i : Nat) {b : PySem.W.Frag → Bool} (h : exs[i]? = some b := by rfl) : b K = true := allB_at (congrArg (fun z : AlZ => z.1) c) h
theorem SaysZ.fn (c : SaysZ exs fns ts w K) (i : Nat) {d : FdZ} (h : fns[i]? = some d := by rfl) : fnZ K (d.at_ K) = d.val := by
  have e : fns.map (fun d => fnZ K (d.at_ K)) = fns.map FdZ.val := congrArg (fun z : AlZ => z.2.1) c
  have z := congrArg (fun l : List FnZ => l[i]?) e
  simp only [List.getElem?_map, h, Option.map_some, Option.some.injEq] at z
  exact z
theorem SaysZ.tab (c : SaysZ exs fns ts w K) (i : Nat) {t : Tab} (h : ts[i]? = some t := by rfl) : ∃ es n, KDict K w (t.1 K) es n := by
  have e : ts.map (fun t => dicW K (t.1 K)) = ts.map fun t => some (keysIn w.params t.2) := congrArg (fun z : AlZ => z.2.2) c
  have z := congrArg (fun l : List (Option (List (Option (Str × Int)))) => l[i]?) e
  simp only [List.getElem?_map, h, Option.map_some, Option.some.injEq] at z
  exact dicW_ok z
end
/-! ### the run's equation in two -/
section
open PySem.W
variable {r : OpenRow} {q : Program} {M : Nat} {loose : List PySem.Str} {w : World}
def RunA (r : OpenRow) (q : Program) (M : Nat) (loose : List PySem.Str) (w : World) : Prop := ∀ os : OsState, (HandSHeadRun.endF (HandSHeadRun.stepQ (HandSHeadRun.denQ HandSHeadRun.tabQ) r.prog w) M r.prog w os).map (fun z => (HandSHeadRun.looksF r.prog (boot_heap w.params) z.abs, HandSHeadRun.seenQ q loose (importedModules r.prog.main.body) (fun y => xlAt q [] y && recOk r.toRowW.records y) z.abs)) = some (true, openGood q loose)
def RunB (r : OpenRow) (H : Hook) (ob : SharedT → H.α) (M : Nat) (w : World) : Prop := ∀ os : OsState, (HandSHeadRun.endF (HandSHeadRun.stepQ (HandSHeadRun.denQ HandSHeadRun.tabQ) r.prog w) M r.prog w os).map ob = some (H.val w)
theorem run_two {H : Hook} {ob : SharedT → H.α} (a : RunA r q M loose w) (b : RunB r H ob M w) : HandSHeadRun.RunEq r q H ob M loose w := fun os => by
  have a := a os
  have b := b os
  cases e : HandSHeadRun.endF (HandSHeadRun.stepQ (HandSHeadRun.denQ HandSHeadRun.tabQ) r.prog w) M r.prog w os with
  | none =>
    rw [e] at a
    cases a
  | some z =>
    rw [e] at a b
    obtain ⟨a1, a2⟩ := Prod.mk.inj (Option.some.inj a)
    have b1 : ob z = H.val w := Option.some.inj b
    show some (_, _, ob z) = _
    rw [b1]
    exact congrArg some (Prod.ext a1 (Prod.ext a2 rfl))
end
end LayHd

set_option Elab.async false
set_option linter.all false
set_option maxRecDepth 100000
set_option maxHeartbeats 4000000
/-! facts of the written part, each from a Bool of it (and a def's syntax) -/
namespace Lay
open PySem PySem.Spec PyProof.Rows L2 He
open LayHd (FdZ fnZ)
open LayX (XcK XcBody)
abbrev Fg : Type := PySem.W.Frag
/-- all of a list of Bools -/
theorem al {α : Type} {p : α → Bool} {l : List α} (h : l.all p = true) {x : α} (m : x ∈ l) : p x = true := List.all_eq_true.mp h x m
/-! ### defs -/
def fz (x : Str) (st : Stmt) : FdZ := ⟨fun K => ga K x, x, x, defArgs st, defBody st, defScope st, []⟩
def fm (cn m qual : Str) (st : Stmt) : FdZ := ⟨fun K => ma K (ga K cn) m, m, qual, defArgs st, defBody st, defScope st, []⟩
def fx (cn qual : Str) (st : Stmt) : FdZ := ⟨fun K => ma K (ga K cn) "__init__", "__init__", qual, defArgs st, defBody st, defScope st, ["__class__"]⟩
def dfOf (K : Fg) (a : Addr) : Value := match K.lookup a with
  | some ⟨_, _, .func fd, _⟩ => fd.defaults
  | _ => .ellipsis
def kwOf (K : Fg) (a : Addr) : Value := match K.lookup a with
  | some ⟨_, _, .func fd, _⟩ => fd.kwdefaults
  | _ => .ellipsis
def cdOf (K : Fg) (a : Addr) : Value := match K.lookup a with
  | some ⟨_, _, .func fd, _⟩ => fd.code
  | _ => .ellipsis
def ccOf (K : Fg) (a : Addr) : Addr := match K.lookup a with
  | some ⟨_, _, .func fd, _⟩ => (match fd.closure with
    | p :: _ => p.2
    | [] => 0)
  | _ => 0
def isNone : Value → Bool
  | .none => true
  | _ => false
theorem isNone_ok {v : Value} (h : isNone v = true) : v = .none := by
  cases v with
  | none => rfl
  | _ => cases h
section
variable {K : Fg} {w : World} {x cn m qual f : Str} {st : Stmt} {a : Addr}
theorem fn_of0 {name qual : Str} {params : Arguments} {body : List Stmt} {scope : Scope} (e : fnZ K a = some (name, qual, params, .stmts body, scope, mainGlobals, [], builtinsNs)) :
    ∃ oc od doc pm an ct sl, K.lookup a = some ⟨oc, od, .func (PySem.W.fnOf name qual params body scope (dfOf K a) (kwOf K a) doc pm an (cdOf K a) ct), sl⟩ := by
  unfold fnZ at e
  cases q : K.lookup a with
  | none =>
    rw [q] at e
    cases e
  | some o =>
    obtain ⟨oc, od, dt, sl⟩ := o
    rw [q] at e
    cases dt with
    | func fd =>
      obtain ⟨m1, m2, m3, m4, m5, m6, n7, m8, m9, n10, n11, n12, m13, n14, m15⟩ := fd
      have e2 : (some (m1, m2, m3, m4, m5, m6, n7.map (·.1), m15) : LayHd.FnZ) = some (name, qual, params, .stmts body, scope, mainGlobals, [], builtinsNs) := e
      simp only [Option.some.injEq, Prod.mk.injEq, List.map_eq_nil_iff] at e2
      obtain ⟨h1, h2, h3, h4, h5, h6, h7, h8⟩ := e2
      subst h1 h2 h3 h4 h5 h6 h7 h8
      refine ⟨oc, od, n10, n11, n12, n14, sl, ?_⟩
      unfold dfOf kwOf cdOf
      rw [q]
    | _ => cases e
theorem fn_ofC {name qual : Str} {params : Arguments} {body : List Stmt} {scope : Scope} (e : fnZ K a = some (name, qual, params, FuncBody.stmts body, scope, mainGlobals, (["__class__"] : List Str), builtinsNs)) :
    ∃ oc od doc pm an ct sl, K.lookup a = some ⟨oc, od, .func (PySem.W.ksFn name qual params body scope (dfOf K a) (kwOf K a) doc pm an (cdOf K a) ct (ccOf K a)), sl⟩ := by
  unfold fnZ at e
  cases q : K.lookup a with
  | none =>
    rw [q] at e
    cases e
  | some o =>
    obtain ⟨oc, od, dt, sl⟩ := o
    rw [q] at e
    cases dt with
    | func fd =>
      obtain ⟨m1, m2, m3, m4, m5, m6, n7, m8, m9, n10, n11, n12, m13, n14, m15⟩ := fd
      have e2 : (some (m1, m2, m3, m4, m5, m6, n7.map (·.1), m15) : LayHd.FnZ) = some (name, qual, params, FuncBody.stmts body, scope, mainGlobals, (["__class__"] : List Str), builtinsNs) := e
      simp only [Option.some.injEq, Prod.mk.injEq] at e2
      obtain ⟨h1, h2, h3, h4, h5, h6, h7, h8⟩ := e2
      subst h1 h2 h3 h4 h5 h6 h8
      cases n7 with
      | nil => cases h7
      | cons p r =>
        obtain ⟨y, c⟩ := p
        cases r with
        | nil =>
          have hy : y = ("__class__" : Str) := by
            have h8 : [y] = [("__class__" : Str)] := h7
            exact (List.cons.inj h8).1
          subst hy
          refine ⟨oc, od, n10, n11, n12, n14, sl, ?_⟩
          unfold dfOf kwOf cdOf ccOf
          rw [q]
        | cons p2 r2 => cases h7
    | _ => cases e
def gaB (x : Str) (K : Fg) : Bool := eqO (PySem.W.nsIn K mainGlobals x) (some (some (.ref (ga K x))))
theorem gaB_ok (h : gaB x K = true) : PySem.W.nsIn K mainGlobals x = some (some (.ref (ga K x))) := eqO_ok h
def frB (x : Str) (K : Fg) : Bool := eqO (PySem.W.nsIn K mainGlobals x) (some none)
theorem frB_ok (h : frB x K = true) : PySem.W.nsIn K mainGlobals x = some none := eqO_ok h
/-- a def of the module, nothing left out in its calls -/
def fnB (x : Str) (K : Fg) : Bool := gaB x K && (PySem.W.keepIn K (.ref (ga K x)) && (isNone (dfOf K (ga K x)) && PySem.W.codeIn K (cdOf K (ga K x)) x))
theorem FnK.ofZ (e : fnZ K ((fz x st).at_ K) = (fz x st).val) (b : fnB x K = true) : FnK K x st := by
  obtain ⟨b1, b⟩ := ba b
  obtain ⟨b2, b⟩ := ba b
  obtain ⟨b3, b4⟩ := ba b
  obtain ⟨oc, od, doc, pm, an, ct, sl, h⟩ := fn_of0 (a := ga K x) e
  rw [isNone_ok b3] at h
  exact ⟨ga K x, oc, od, _, doc, pm, an, _, ct, sl, gaB_ok b1, h, b4, b2⟩
/-- .. with keyword-only defaults -/
def fnkB (x : Str) (kws : List (Str × V)) (K : Fg) : Bool := fnB x K && kwdB K (kwOf K (ga K x)) kws
theorem FnKD.ofZ {kws : List (Str × V)} (e : fnZ K ((fz x st).at_ K) = (fz x st).val) (b : fnkB x kws K = true) (hk : kws ≠ []) : FnKD K x st kws := by
  obtain ⟨b, b5⟩ := ba b
  obtain ⟨b1, b⟩ := ba b
  obtain ⟨b2, b⟩ := ba b
  obtain ⟨b3, b4⟩ := ba b
  obtain ⟨oc, od, doc, pm, an, ct, sl, h⟩ := fn_of0 (a := ga K x) e
  rw [isNone_ok b3] at h
  rcases kwdB_ok b5 with e5 | ⟨D, e5, q⟩
  · exact absurd e5 hk
  · rw [e5] at h
    exact ⟨ga K x, oc, od, D, doc, pm, an, _, ct, sl, gaB_ok b1, h, b4, b2, q⟩
/-! ### constants of the module -/
def gvB (x : Str) (v : V) (K : Fg) : Bool := match PySem.W.nsIn K mainGlobals x with
  | some (some u) => relB v u
  | _ => false
theorem GvK.ofZ {v : V} (h : gvB x v K = true) : GvK K x v := by
  unfold gvB at h
  cases e : PySem.W.nsIn K mainGlobals x with
  | none =>
    rw [e] at h
    cases h
  | some r =>
    rw [e] at h
    cases r with
    | none => cases h
    | some u => exact ⟨u, e, relB_ok h⟩
/-- a tuple at a -/
def tpB (a : Addr) (xs : List V) (K : Fg) : Bool := match K.lookup a with
  | some ⟨.type c, _, .seq its _, _⟩ => decide (c = "tuple") && (Nat.ble its.size 1000 && relAll xs its.toList)
  | _ => false
theorem tpB_ok {xs : List V} (h : tpB a xs K = true) : ∃ (o : Obj) (its : Array Value) (n : Nat), K.lookup a = some o ∧ o.cls = .type "tuple" ∧ o.data = .seq its n ∧ its.size ≤ sizeLine ∧ Vals xs its.toList := by
  unfold tpB at h
  cases q : K.lookup a with
  | none =>
    rw [q] at h
    cases h
  | some o =>
    obtain ⟨oc, od, dt, osl⟩ := o
    rw [q] at h
    cases oc with
    | type c =>
      cases dt with
      | seq its n =>
        obtain ⟨h1, h2⟩ := ba (show (decide (c = "tuple") && (Nat.ble its.size 1000 && relAll xs its.toList)) = true from h)
        obtain ⟨h3, h4⟩ := ba h2
        exact ⟨_, its, n, rfl, congrArg Value.type (of_decide_eq_true h1), rfl, sz1000 (Nat.le_of_ble_eq_true h3), relAll_ok h4⟩
      | _ => cases h
    | _ => cases dt <;> cases h
def gtB (x : Str) (xs : List V) (K : Fg) : Bool := gaB x K && tpB (ga K x) xs K
theorem GtK.ofZ {xs : List V} (h : gtB x xs K = true) : GtK K x xs := by
  obtain ⟨h1, h2⟩ := ba h
  obtain ⟨o, its, n, q⟩ := tpB_ok h2
  exact ⟨ga K x, o, its, n, gaB_ok h1, q⟩
def kvB (d : Addr) (kv : List (Str × V)) (K : Fg) : Bool := kv.all fun q => match PySem.W.nsIn K d q.1 with
  | some (some u) => relB q.2 u
  | _ => false
theorem kvB_ok {d : Addr} {kv : List (Str × V)} (h : kvB d kv K = true) : ∀ p ∈ kv, ∃ u, PySem.W.nsIn K d p.1 = some (some u) ∧ RelV p.2 u := fun p hp => by
  have h2 := al h hp
  cases e : PySem.W.nsIn K d p.1 with
  | none =>
    rw [e] at h2
    cases h2
  | some r =>
    rw [e] at h2
    cases r with
    | none => cases h2
    | some u => exact ⟨u, rfl, relB_ok h2⟩
def noB (d : Addr) (no : List Str) (K : Fg) : Bool := no.all fun z => eqO (PySem.W.nsIn K d z) (some none)
def gdB (x : Str) (kv : List (Str × V)) (no : List Str) (K : Fg) : Bool := gaB x K && (kvB (ga K x) kv K && noB (ga K x) no K)
/-- the table's keys are looked at apart -/
def gdT (x : Str) (ks : List Str) : Tab := (fun K => ga K x, ks)
theorem GdK.ofZ {kv : List (Str × V)} {no : List Str} (h : gdB x kv no K = true) (t : ∃ es n, KDict K w (ga K x) es n) : GdK K w x kv no := by
  obtain ⟨h1, h⟩ := ba h
  obtain ⟨h2, h3⟩ := ba h
  obtain ⟨es, n, D⟩ := t
  exact ⟨ga K x, gaB_ok h1, ⟨es, n, D, kvB_ok h2⟩, fun z hz => eqO_ok (al h3 hz)⟩
/-! ### built-ins' names -/
def mdNames : List Str := ["len", "all", "any", "isinstance", "max", "min", "repr", "sorted", "sum", "str", "tuple", "list", "int", "bool", "dict", "type", "range", "enumerate", "zip"]
def mdB (K : Fg) : Bool := mdNames.all fun x => frB x K
theorem MdK.ofZ (h : mdB K = true) : MdK K := by
  have f : ∀ i : Nat, ∀ x, mdNames[i]? = some x → PySem.W.nsIn K mainGlobals x = some none := fun i x e => frB_ok (al h (List.mem_of_getElem? e))
  exact ⟨f 0 _ rfl, f 1 _ rfl, f 2 _ rfl, f 3 _ rfl, f 4 _ rfl, f 5 _ rfl, f 6 _ rfl, f 7 _ rfl, f 8 _ rfl, f 9 _ rfl, f 10 _ rfl, f 11 _ rfl, f 12 _ rfl, f 13 _ rfl, f 14 _ rfl, f 15 _ rfl, f 16 _ rfl, f 17 _ rfl, f 18 _ rfl⟩
/-! ### classes -/
def clB (cn : Str) (K : Fg) : Bool := gaB cn K && (Fa.cls cn).ok K
theorem ClK.ofZ (h : clB cn K = true) : ClK K cn := by
  obtain ⟨h1, h2⟩ := ba h
  exact ⟨ga K cn, gaB_ok h1, cls_ok h2⟩
def naB (cn f : Str) (K : Fg) : Bool := gaB cn K && eqO (PySem.W.findIn K (.ref (ga K cn)) f) (some none)
theorem NoK.ofZ (h : naB cn f K = true) : NoK K cn f := by
  obtain ⟨h1, h2⟩ := ba h
  exact ⟨ga K cn, gaB_ok h1, eqO_ok h2⟩
def mkB (cn : Str) (K : Fg) : Bool := gaB cn K && (PySem.W.makesIn K (ga K cn) && PySem.W.keepIn K (.ref (ga K cn)))
theorem MakesK.ofZ (h : mkB cn K = true) : MakesK K cn := by
  obtain ⟨h1, h⟩ := ba h
  obtain ⟨h2, h3⟩ := ba h
  exact ⟨ga K cn, gaB_ok h1, h2, h3⟩
def mtB0 (cn m qual : Str) (K : Fg) : Bool := gaB cn K && (eqO (PySem.W.findIn K (.ref (ga K cn)) m) (some (some (.ref (ma K (ga K cn) m)))) && (PySem.W.isFn K (.ref (ma K (ga K cn) m)) && (PySem.W.keepIn K (.ref (ma K (ga K cn) m)) && PySem.W.codeIn K (cdOf K (ma K (ga K cn) m)) qual)))
def mtB (cn m qual : Str) (K : Fg) : Bool := mtB0 cn m qual K && isNone (dfOf K (ma K (ga K cn) m))
theorem MtK.ofZ (e : fnZ K ((fm cn m qual st).at_ K) = (fm cn m qual st).val) (h : mtB cn m qual K = true) : MtK K cn m qual st := by
  obtain ⟨h, h6⟩ := ba h
  obtain ⟨h1, h⟩ := ba h
  obtain ⟨h2, h⟩ := ba h
  obtain ⟨h3, h⟩ := ba h
  obtain ⟨h4, h5⟩ := ba h
  obtain ⟨oc, od, doc, pm, an, ct, sl, l⟩ := fn_of0 (a := ma K (ga K cn) m) e
  rw [isNone_ok h6] at l
  exact ⟨ga K cn, ma K (ga K cn) m, oc, od, _, doc, pm, an, _, ct, sl, gaB_ok h1, eqO_ok h2, h3, l, h5, h4⟩
def ieB (cn qual : Str) (K : Fg) : Bool := mtB0 cn "__init__" qual K && (match dfOf K (ma K (ga K cn) "__init__") with
  | .ref T => (match K.lookup T with
    | some ⟨_, _, .seq its _, _⟩ => (match its.toList with
      | [.ref t] => tpB t [] K
      | _ => false)
    | _ => false)
  | _ => false)
theorem InEK.ofZ (e : fnZ K ((fm cn "__init__" qual st).at_ K) = (fm cn "__init__" qual st).val) (h : ieB cn qual K = true) : InEK K cn qual st := by
  obtain ⟨h, h6⟩ := ba h
  obtain ⟨h1, h⟩ := ba h
  obtain ⟨h2, h⟩ := ba h
  obtain ⟨h3, h⟩ := ba h
  obtain ⟨h4, h5⟩ := ba h
  obtain ⟨oc, od, doc, pm, an, ct, sl, l⟩ := fn_of0 (a := ma K (ga K cn) "__init__") e
  split at h6
  · rename_i T eT
    rw [eT] at l
    split at h6
    · rename_i oc1 od1 its n1 sl1 lT
      split at h6
      · rename_i t et
        obtain ⟨o2, its2, n2, q1, q2, q3, _, q5⟩ := tpB_ok h6
        have e0 : its2.toList = [] := by
          cases q : its2.toList with
          | nil => rfl
          | cons v r =>
            rw [q] at q5
            cases q5
        exact ⟨ga K cn, ma K (ga K cn) "__init__", T, t, oc, od, _, doc, pm, an, _, ct, sl, _, o2, its, its2, n1, n2, gaB_ok h1, eqO_ok h2, h3, l, h5, h4, lT, rfl, et, q1, q2, q3, e0⟩
      · cases h6
    · cases h6
  · cases h6
def owB (cn : Str) (K : Fg) : Bool := clB cn K && (eqO (PySem.W.findIn K (.ref (ga K cn)) "__class__") (some (some (.builtin "object.__class__"))) && (eqO (PySem.W.specialIn K (.builtin "object.__class__") "__get__") (some (some (.builtin "getset_descriptor.__get__"))) && (decide (PySem.W.takesIn K (.builtin "object.__class__") = some true) &&
  (decide (PySem.W.mroIn K (ga K cn) (.type "object") = some true) && (decide (PySem.W.typeIn K (.ref (ga K cn)) = some (.type "type")) && (decide (PySem.W.subIn K (.ref (ga K cn)) (.type "str") = some false) && (decide (PySem.W.subIn K (.ref (ga K cn)) (.type "tuple") = some false) && decide (PySem.W.subIn K (.ref (ga K cn)) (.type "bool") = some false))))))))
theorem typeIn_lk (h : PySem.W.typeIn K (.ref a) = some (.type "type")) : ∃ o : Obj, K.lookup a = some o ∧ o.cls = .type "type" := by
  have h2 : (K.lookup a).map (·.cls) = some (.type "type") := h
  cases q : K.lookup a with
  | none =>
    rw [q] at h2
    cases h2
  | some o =>
    rw [q] at h2
    exact ⟨o, rfl, Option.some.inj h2⟩
theorem OwnK.ofZ (h : owB cn K = true) : OwnK K cn := by
  obtain ⟨h1, h⟩ := ba h
  obtain ⟨g1, g2⟩ := ba h1
  obtain ⟨h2, h⟩ := ba h
  obtain ⟨h3, h⟩ := ba h
  obtain ⟨h4, h⟩ := ba h
  obtain ⟨h5, h⟩ := ba h
  obtain ⟨h6, h⟩ := ba h
  obtain ⟨h7, h⟩ := ba h
  obtain ⟨h8, h9⟩ := ba h
  exact ⟨ga K cn, gaB_ok g1, cls_ok g2, eqO_ok h2, eqO_ok h3, of_decide_eq_true h4, of_decide_eq_true h5, typeIn_lk (of_decide_eq_true h6), kit_own (of_decide_eq_true h7), kit_own (of_decide_eq_true h8), kit_own (of_decide_eq_true h9)⟩
/-! ### own exceptions -/
def exB (cn : Str) (K : Fg) : Bool := gaB cn K && (eqO (PySem.W.findIn K (.ref (ga K cn)) "__getattribute__") (some (some (.builtin "BaseException.__getattribute__"))) && (eqO (PySem.W.findIn K (.ref (ga K cn)) "__getattr__") (some none) && (decide (PySem.W.subIn K (.ref (ga K cn)) (.type "BaseException") = some true) && (PySem.W.hasDictIn K (ga K cn) &&
  (eqO (PySem.W.findIn K (.ref (ga K cn)) "__class__") (some (some (.builtin "object.__class__"))) && (eqO (PySem.W.specialIn K (.builtin "object.__class__") "__get__") (some (some (.builtin "getset_descriptor.__get__"))) && (decide (PySem.W.takesIn K (.builtin "object.__class__") = some true) && decide (PySem.W.mroIn K (ga K cn) (.type "object") = some true))))))))
theorem ExcC.ofZ (h : exB cn K = true) : ExcC K (ga K cn) := by
  obtain ⟨_, h⟩ := ba h
  obtain ⟨h2, h⟩ := ba h
  obtain ⟨h3, h⟩ := ba h
  obtain ⟨h4, h⟩ := ba h
  obtain ⟨h5, h⟩ := ba h
  obtain ⟨h6, h⟩ := ba h
  obtain ⟨h7, h⟩ := ba h
  obtain ⟨h8, h9⟩ := ba h
  exact ⟨eqO_ok h2, eqO_ok h3, of_decide_eq_true h4, h5, eqO_ok h6, eqO_ok h7, of_decide_eq_true h8, of_decide_eq_true h9⟩
theorem XfG.ofZ (h : exB cn K = true) (n : naB cn f K = true) : XfG K (ga K cn) f := by
  have q := ExcC.ofZ h
  obtain ⟨_, h⟩ := ba h
  obtain ⟨h2, h⟩ := ba h
  obtain ⟨h3, h⟩ := ba h
  obtain ⟨h4, h⟩ := ba h
  obtain ⟨h5, h⟩ := ba h
  exact ⟨⟨eqO_ok h2, eqO_ok h3, of_decide_eq_true h4, h5⟩, eqO_ok (ba n).2⟩
def clsB (C : Addr) (K : Fg) : Bool := match K.lookup C with
  | some ⟨.type t, _, .cls cd, sl⟩ => (match cd.mro, sl.toList with
    | .ref C' :: bm, [_, _, _, _, some (.builtin n), _] => decide (t = "type") && (decide (C' = C) && (decide (n = "ValueError.__new__") && (!cd.hasDel && (cd.hasDict && PySem.HandSPX.refsVE bm))))
    | _, _ => false)
  | _ => false
theorem clsB_ok {C : Addr} (h : clsB C K = true) : ∃ nm q N bs bm sn sub ab col dd k0 k1 k2 k3 k5, K.lookup C = some (excClassObj nm q C N bs bm true sn sub ab col dd k0 k1 k2 k3 k5 "ValueError.__new__") ∧ PySem.HandSPX.refsVE bm = true := by
  unfold clsB at h
  split at h
  · rename_i t dd cd sl lk
    split at h
    · rename_i C' bm k0 k1 k2 k3 n k5 hm hs
      obtain ⟨h1, h⟩ := ba h
      obtain ⟨h2, h⟩ := ba h
      obtain ⟨h3, h⟩ := ba h
      obtain ⟨h4, h⟩ := ba h
      obtain ⟨h5, h6⟩ := ba h
      have e1 := of_decide_eq_true h1
      have e2 := of_decide_eq_true h2
      have e3 := of_decide_eq_true h3
      obtain ⟨nm, bs, mro, ns, qn, hdc, sn, sub, ab, col, del⟩ := cd
      have e4 : del = false := by
        cases del with
        | false => rfl
        | true => cases h4
      have e5 : hdc = true := h5
      dsimp only at hm
      subst e1 e2 e3 e4 e5 hm
      have hsl : sl = #[k0, k1, k2, k3, some (.builtin "ValueError.__new__"), k5] := by
        obtain ⟨l⟩ := sl
        simp only at hs
        rw [hs]
      subst hsl
      exact ⟨nm, qn, ns, bs, bm, sn, sub, ab, col, dd, k0, k1, k2, k3, k5, lk, h6⟩
    · cases h
  · cases h
def xcB (cn fld qual : Str) (file : Str) (K : Fg) : Bool :=
  gaB cn K && (eqO (PySem.W.findIn K (.ref (ga K cn)) "__init__") (some (some (.ref (ma K (ga K cn) "__init__")))) && (isNone (dfOf K (ma K (ga K cn) "__init__")) && (PySem.W.codeIn K (cdOf K (ma K (ga K cn) "__init__")) qual && ((match cdOf K (ma K (ga K cn) "__init__") with
    | .ref c => (match K.lookup c with
      | some ⟨_, _, .fields vs, _⟩ => (match vs[2]? with
        | some (Value.str z _) => file == z
        | _ => false)
      | _ => false)
    | _ => false) && ((match K.lookup (ccOf K (ma K (ga K cn) "__init__")) with
    | some ⟨_, _, .cell (some (.ref C)), _⟩ => decide (C = ga K cn)
    | _ => false) && (clsB (ga K cn) K && (decide (PySem.W.typeIn K (.ref (ma K (ga K cn) "__init__")) = some (.type "function")) && (decide (PySem.W.mroIn K (ga K cn) (.ref (ga K cn)) = some true) && (frB "super" K && (eqO (PySem.W.nsIn K PySem.cStatics "thirdparty.any") (some none) &&
    (eqO (PySem.W.ks_superIn K (ga K cn) (ga K cn) "__init__") (some (some (.builtin "ValueError.__init__"))) && (decide (PySem.W.subIn K (.ref (ga K cn)) (.type "ValueError") = some true) && (PySem.W.excInitIn K (ga K cn) PySem.HandSPX.veTail "ValueError.__new__" && (eqO (PySem.W.findIn K (.ref (ga K cn)) "__setattr__") (some (some (.builtin "object.__setattr__"))) &&
    (eqO (PySem.W.findIn K (.ref (ga K cn)) fld) (some none) && (decide (PySem.W.subIn K (.ref (ga K cn)) (.type "BaseException") = some true) && (decide (PySem.W.typeIn K (.ref (ga K cn)) = some (.type "type")) && PySem.W.keepIn K (.ref (ga K cn)))))))))))))))))))
theorem XcK.ofZ {P : Program} {fld file : Str} {ar : Arg} (e : fnZ K ((fx cn qual st).at_ K) = (fx cn qual st).val) (h : xcB cn fld qual file K = true) (hf : (P.main.file : Str) = file) (l7 : ((defArgs st).posonlyargs ++ (defArgs st).args).head? = some ar) (l8 : ar.arg = "self")
    (l9 : ∀ (kV doc pm : Value) (an : Option Addr) (cda : Addr) (ct : Value) (cc : Addr) (us : List Value), us.length = 2 → bindArgs (PySem.W.ksFn "__init__" qual (defArgs st) (defBody st) (defScope st) .none kV doc pm an (.ref cda) ct cc) ⟨us, []⟩ = pure ([("self" : Str), fld].zip us))
    (m1 : (defScope st).kind = .function) (m2 : (defScope st).isCoroutine = false) (m3 : (defScope st).isGenerator = false) (m4 : ∀ x ∈ (defScope st).names, x.2 ≠ .cell) (m5 : (defScope st).names.lookup ("super" : Str) = some .globalImplicit) (m6 : (defScope st).names.lookup ("__class__" : Str) = some .free)
    (m7 : (defScope st).names.lookup ("self" : Str) = some .local) (m8 : (defScope st).names.lookup fld = some .local)
    (top : (P.main.scope.names.lookup ("super" : Str)).isSome = false) (hd : (fld == ("__debug__" : Str)) = false) : XcK P K (ga K cn) (ma K (ga K cn) "__init__") fld qual (defBody st) := by
  obtain ⟨a1, h⟩ := ba h
  obtain ⟨a2, h⟩ := ba h
  obtain ⟨a3, h⟩ := ba h
  obtain ⟨a4, h⟩ := ba h
  obtain ⟨a5, h⟩ := ba h
  obtain ⟨a6, h⟩ := ba h
  obtain ⟨a7, h⟩ := ba h
  obtain ⟨a8, h⟩ := ba h
  obtain ⟨a9, h⟩ := ba h
  obtain ⟨b1, h⟩ := ba h
  obtain ⟨b2, h⟩ := ba h
  obtain ⟨b3, h⟩ := ba h
  obtain ⟨b4, h⟩ := ba h
  obtain ⟨b5, h⟩ := ba h
  obtain ⟨b6, h⟩ := ba h
  obtain ⟨b7, h⟩ := ba h
  obtain ⟨b8, h⟩ := ba h
  obtain ⟨b9, c1⟩ := ba h
  obtain ⟨oc, od, doc, pm, an, ct, sl, l1⟩ := fn_ofC (a := ma K (ga K cn) "__init__") e
  rw [isNone_ok a3] at l1
  obtain ⟨nm, q, N, bs, bm, sn, sub, ab, col, dd, k0, k1, k2, k3, k5, c2, c3⟩ := clsB_ok a7
  split at a5
  · rename_i c ec
    rw [ec] at l1 a4
    split at a5
    · rename_i ccl cdd vs ccs lc
      split at a5
      · rename_i z tf hz
        split at a6
        · rename_i cl cld C csl lcc
          have eC := of_decide_eq_true a6
          subst eC
          exact xck_mk (eqO_ok a2) l1 a4 lc hz (by rw [hf]; exact a5) lcc l7 l8 (fun us hl => l9 _ _ _ _ _ _ _ us hl) m1 m2 m3 m4 m5 m6 m7 m8 top c2 c3 (of_decide_eq_true a8) (of_decide_eq_true a9) (frB_ok b1) (eqO_ok b2) (eqO_ok b3) (of_decide_eq_true b4) b5 (eqO_ok b6) (eqO_ok b7) (of_decide_eq_true b8) (of_decide_eq_true b9) c1 hd
        · cases a6
      · cases a5
    · cases a5
  · cases a5
/-- which classes of the module stand above cn -/
def isB (cn : Str) (l : List (Str × Bool)) (K : Fg) : Bool := l.all fun p => gaB p.1 K && decide (PySem.W.kitOne K (.ref (ga K cn)) (.ref (ga K p.1)) = some p.2)
theorem isB_ok {l : List (Str × Bool)} (h : isB cn l K = true) (i : Nat) {y : Str} {b : Bool} (e : l[i]? = some (y, b) := by rfl) : IsKK K (ga K cn) y b := by
  obtain ⟨h1, h2⟩ := ba (al h (List.mem_of_getElem? e))
  exact ⟨ga K y, gaB_ok h1, of_decide_eq_true h2⟩
def itB (cn : Str) (l : List (String × Bool)) (K : Fg) : Bool := l.all fun p => decide (PySem.W.kitOne K (.ref (ga K cn)) (.type p.1) = some p.2)
theorem itB_ok {l : List (String × Bool)} (h : itB cn l K = true) (i : Nat) {y : String} {b : Bool} (e : l[i]? = some (y, b) := by rfl) : PySem.W.kitOne K (.ref (ga K cn)) (.type y) = some b := of_decide_eq_true (al h (List.mem_of_getElem? e))
def exmB (cn : Str) (l : List Str) (K : Fg) : Bool := decide (PySem.W.exmAny K (.ref (ga K cn)) (l.map fun x => .ref (ga K x)) = some true)
theorem exmB_ok {l : List Str} (h : exmB cn l K = true) : PySem.W.exmAny K (.ref (ga K cn)) (l.map fun x => .ref (ga K x)) = some true := of_decide_eq_true h
end
end Lay

set_option Elab.async false
set_option linter.all false
set_option maxRecDepth 100000
set_option maxHeartbeats 4000000
namespace Lay
open PySem PySem.Spec PyProof.Rows L2 RZ
theorem bt_range : bootBuiltins "range" = some (.type "range") := by decide +kernel
/-! ### a range kept under a name -/
def iRngV (te : TE) : TI := fun σ H R => te σ H fun x H1 => ∃ a lo hi, x = .ref a ∧ H1 a = some (.rng lo hi) ∧ (-(2 ^ 62) ≤ lo ∧ lo < 2 ^ 62 ∧ -(2 ^ 62) ≤ hi ∧ hi < 2 ^ 62) ∧ R (Itr lo (hi - lo).toNat) H1
theorem pi_rngV {X : Cx} {tg e : Expr} {te : TE} (he : PE X e te) : PI X tg e (iRngV te) := by
  refine ⟨fun pins s σ H R I h => ?_⟩
  refine thn (he.run pins s σ H _ I h) fun v s1 hh => ?_
  obtain ⟨x, H1, I1, r1, a, lo, hi, rfl, ha, ⟨h1, h2, h3, h4⟩, q⟩ := hh
  obtain rfl : v = Value.ref a := r1
  obtain ⟨t, u, v2, ho⟩ := I1.hok a _ ha
  refine wpAny_pyIter_range (show IsRange s1.heap a lo hi 1 t u v2 from ho) (small_one h1 h2 h3 h4) ?_
  refine ⟨s1.heap.objs.size, [s1.heap.objs.size], _, _, H1, rfl, I1.kept (t' := s1.toks) fun b o e => Heap.get?_push_of_some _ e, turn_range _ lo (hi - lo).toNat, ?_, fun b hb => ?_, q⟩
  · have e1 : lo + ((0 : Nat) : Int) * 1 = lo := by simp
    have e2 : (((hi - lo).toNat : Nat) : Int) - ((0 : Nat) : Int) = Builtin.Range.rangeSize lo hi 1 := by rw [rangeSize_one]; split <;> omega
    show IsRangeIter _ _ (lo + ((0 : Nat) : Int) * 1) ((((hi - lo).toNat : Nat) : Int) - ((0 : Nat) : Int)) 1
    rw [e1, e2]
    exact Heap.get?_push_size _ rfl
  · obtain rfl := List.mem_singleton.mp hb
    exact I1.fpOk (Nat.le_refl _) (I1.hok.fresh (Nat.le_refl _))
section
variable {P : Program} {w : World} {K : PySem.W.Frag} {X : Cx} {H : Hp} {Q : VK} {σ : L2.St} {te ta tv : TE} {x y : V} {o value : Expr} {f : Str} {pos tpos : Pos}
theorem r_rngv {R : It → Hp → Prop} (q : te σ H fun x H1 => ∃ a lo hi, x = .ref a ∧ H1 a = some (.rng lo hi) ∧ (-(2 ^ 62) ≤ lo ∧ lo < 2 ^ 62 ∧ -(2 ^ 62) ≤ hi ∧ hi < 2 ^ 62) ∧ R (Itr lo (hi - lo).toNat) H1) : iRngV te σ H R := q
theorem k_range2 {i j : Int} (q : ∀ p, H p = none → Q (.ref p) (upd H p (.rng i j))) : sC P w K (.type "range") [.int i, .int j] H Q := ⟨_, fun _ _ => cr_range2, i, j, rfl, q⟩
theorem k_maxL {a : Addr} {ns : List Int} (h : SqL K H a (ns.map V.int)) (n0 : 0 < ns.length) (q : ∀ m, m ∈ ns → (∀ y, y ∈ ns → y ≤ m) → Q (.int m) H) : sC P w K (.builtin "max") [.ref a] H Q := ⟨rMax K, fun X L => L.K ▸ cr_max L.calm, a, ns, rfl, h, n0, q⟩
/-! ### a field, op= -/
theorem ps_fldaugL {op : Operator} {rd : V → V → Hp → VK → Prop} (L : LX P w K X) (ha : PE X o ta) (hv : PE X value tv) (hop : InOp X op rd) : PS X (.AugAssign (.Attribute o f tpos) op value pos) (sFldAug K ta tv rd f) := by
  obtain ⟨_, _, rfl, _, _⟩ := L
  exact ps_fldaug ha hv hop
theorem r_faug {rd : V → V → Hp → VK → Prop} {nx bk ct : L2.St → Hp → Prop} {rt : VK} (q : ta σ H fun x H1 => ∃ a C dx fs v, x = .ref a ∧ H1 a = some (.ins C dx fs) ∧ Cls K C ∧ NoAttr K C f ∧ fs.lookup f = some v ∧
    tv σ H1 fun y H2 => rd v y H2 fun z H3 => ∃ dx' fs', H3 a = some (.ins C dx' fs') ∧ fs'.length < 1000 ∧ nx σ (upd H3 a (.ins C dx' (putF f z fs')))) : sFldAug K ta tv rd f ⟨nx, rt, bk, ct⟩ σ H := q
theorem g_add {i j : Int} (q : Q (.int (i + j)) H) : rAdd (.int i) (.int j) H Q := ⟨i, j, rfl, rfl, q⟩
theorem g_sub {i j : Int} (q : Q (.int (i - j)) H) : rSub (.int i) (.int j) H Q := ⟨i, j, rfl, rfl, q⟩
theorem f_aug {a C dx : Addr} {fs fs' : List (Str × V)} {v : V} {R : Hp → Prop} (e : H a = some (.ins C dx fs)) (p : putF f v fs = fs') (l : fs.length < 1000) (q : R (upd H a (.ins C dx fs'))) : ∃ dx' fs', H a = some (.ins C dx' fs') ∧ fs'.length < 1000 ∧ R (upd H a (.ins C dx' (putF f v fs'))) :=
  ⟨dx, fs, e, l, by rw [p]; exact q⟩
/-! ### lists of whole numbers -/
def ns (l : List Nat) : List V := l.map fun (n : Nat) => V.int n
theorem ns_int (l : List Nat) : ns l = (l.map fun (n : Nat) => (n : Int)).map V.int := by
  unfold ns
  rw [List.map_map]
  rfl
theorem ns_len (l : List Nat) : (ns l).length = l.length := List.length_map _
theorem ns_at {l : List Nat} {i n : Nat} (h : l[i]? = some n) : (ns l)[i]? = some (.int n) := by
  unfold ns
  rw [List.getElem?_map, h]
  rfl
theorem ns_flat : ∀ l : List Nat, (ns l).all flatV = true
  | [] => rfl
  | _ :: r => ns_flat r
theorem in_ns (c : Nat) : ∀ l : List Nat, inV (.int c) (ns l) = decide (c ∈ l)
  | [] => by simp [inV, ns]
  | n :: r => by
    show (eqV (.int n) (.int c) || inV (.int c) (ns r)) = _
    rw [in_ns c r]
    have e : eqV (.int n) (.int c) = decide (c = n) := by
      show decide ((n : Int) = c) = _
      exact decide_eq_decide.mpr ⟨fun h => by omega, fun h => by omega⟩
    rw [e]
    by_cases h : c = n <;> simp [h]
theorem ns_set (l : List Nat) (i n : Nat) : (ns l).set i (.int n) = ns (l.set i n) := by
  unfold ns
  rw [List.map_set]
end
end Lay

set_option Elab.async false
set_option linter.all false
set_option maxRecDepth 100000
set_option maxHeartbeats 4000000
namespace Lay
open PySem PySem.Spec PyProof.Rows L2
open L2H (RoomH Hot1 PinOk HotC cxH PIH TurnH)
/-! ### a class whose __init__ may raise -/
def MkE (P : Program) (w : World) (K : PySem.W.Frag) (mg : Str → Option Value) (base : Heap) (k : Nat) (x : Str) (C : Addr) (dvs : List V) (sp : Sp) : Prop :=
  ∃ f fd ps ds, Mk K C f ∧ mg x = some (.ref C) ∧ Vals dvs ds ∧ Binds K fd ps ds ∧ FnOk P w K mg base (L2N.CX P w) k f fd ps sp
def tMakeE (C : Addr) (sp : Sp) (dvs : List V) (W : WX) (t : TA) : TE := fun σ H Q => t σ H fun vs H1 => ∀ x dx, H1 x = none → H1 dx = none → dx ≠ x → sp (.ref x :: (vs ++ dvs)) (upd (upd H1 dx (.own x)) x (.ins C dx [])) (fun v H2 => v = .non ∧ Q (.ref x) H2) (fun cls d H' => W cls d σ H')
section
variable {P : Program} {w : World} {K : PySem.W.Frag} {mg : Str → Option Value} {base : Heap} {C : Addr} {x qual : Str} {st : Stmt} {N ps : List Str} {k : Nat} {sp : Sp}
theorem InD.okE {dvs : List V} (F : InD K mg x C qual st ps dvs) (S : FnScope N ps (defScope st)) (len : ∀ vs H Q E, sp vs H Q E → vs.length = ps.length) (body : BodyE P w K mg base qual st N k sp) : MkE P w K mg base (k + 1) x C dvs sp := by
  obtain ⟨f, fd, ds, F, h, hm, hv, b⟩ := F
  exact ⟨f, fd, ps, ds, h, hm, hv, b, F.ok S len fun cdv A outer s H vs Q E hr h => body f cdv A outer s H vs Q E ⟨rfl, rfl, rfl, rfl, hr.units⟩ hr (L2N.takes_of rfl rfl rfl rfl) h⟩
end
section
variable {P : Program} {w : World} {K : PySem.W.Frag} {X : Cx} {k : Nat} {C : Addr} {x : Str} {dvs : List V} {sp : Sp} {W : WX} {p pos : Pos} {e : Expr} {es : List Expr} {t : TA}
theorem run_mkE {pins : List (Addr × Obj)} {σ : L2.St} {H : Hp} {s : Shared} {Q : VK} {us : List Value} {vs : List V} (F : MkE X.prog X.w X.K X.mg X.base k x C dvs sp) (hr : Room (k + 1) X.A) (tk : L2N.Takes X W) (I : Inv X pins σ H s) (r : Vals vs us)
    (h : ∀ o dx, H o = none → H dx = none → dx ≠ o → sp (.ref o :: (vs ++ dvs)) (upd (upd H dx (.own o)) o (.ins C dx [])) (fun v H2 => v = .non ∧ Q (.ref o) H2) (fun cls d H' => W cls d σ H')) :
    wpAny (model X.prog X.w) X.A (call (.ref C) us) (EP X pins σ Q) X.xe s := by
  obtain ⟨f, fd, ps, ds, M, _, hd, hb, F⟩ := F
  let n := s.heap.objs.size
  have q := h (n + 1) n (I.hok.fresh (Nat.le_succ _)) (I.hok.fresh (Nat.le_refl _)) (Nat.ne_of_lt (Nat.lt_succ_self _))
  have J := Inv.made (C := C) I
  have rr : Vals (.ref (n + 1) :: (vs ++ dvs)) (.ref (n + 1) :: (us ++ ds)) := .cons rfl (r.append hd)
  have len : (Value.ref (n + 1) :: us ++ ds).length = ps.length := (rr.length.symm.trans (F.len _ _ _ _ q))
  have run := F.run _ X.stack _ _ ⟨.ref (n + 1) :: us, []⟩ (.ref (n + 1) :: (us ++ ds)) _ _ _ (hr.make C us []) (J.env0.make C us []) (hb _ (.ref (n + 1) :: us) J.kIn len) rr q
  refine wpAny_call (make_map (f := f) I.kIn M.makes M.init (beq_iff_eq.mp M.fn) (codeAny_mono run fun z s' hz => ?_))
  rcases z with e | (_ | _ | _ | u)
  · exact L2N.passAt tk σ pins _ _ e s' J hz
  · exact hz.elim
  · exact hz.elim
  · exact hz.elim
  · obtain ⟨v, H', J2, rv, rfl, q3⟩ := J.after hz
    exact ⟨rv, .ref (n + 1), H', J2, rfl, q3⟩
theorem pe_mkE (F : MkE X.prog X.w X.K X.mg X.base k x C dvs sp) (hr : Room (k + 1) X.A) (hg : Gl X x) (tk : L2N.Takes X W) (ha : PA X (e :: es) t) (hdb : (x == ("__debug__" : Str)) = false := by decide)
    (he : starEach (e :: es) X.env = (false, eval e X.env) :: starEach es X.env := by rfl) (hpl : (backTo pos (starEach es X.env)).any (·.1) = false := by rfl) : PE X (.Call (.Name x p) (e :: es) [] pos) (tMakeE C sp dvs W t) := by
  have ⟨f, fd, ps, ds, M, hm, _⟩ := F
  refine ⟨fun pins s σ H Q I h => wpAny_Call_Name_kw (ld_glob I hg hm (PySem.W.callWith_K (h₀ := X.base) I.ok.mod.kin M.kp (thn (ha.run pos pins s σ H _ I h) fun us s1 z => ?_) he hpl) hdb)⟩
  obtain ⟨vs, H1, I1, r, q⟩ := z
  exact ⟨I1.kIn, run_mkE F hr tk I1 r q⟩
end
section
variable {H : Hp} {Q : VK} {σ : L2.St} {C : Addr} {sp : Sp} {dvs : List V} {W : WX} {t : TA}
theorem r_mkE (q : t σ H fun vs H1 => ∀ x dx, H1 x = none → H1 dx = none → dx ≠ x → sp (.ref x :: (vs ++ dvs)) (upd (upd H1 dx (.own x)) x (.ins C dx [])) (fun v H2 => v = .non ∧ Q (.ref x) H2) (fun cls d H' => W cls d σ H')) : tMakeE C sp dvs W t σ H Q := q
end
/-! ### an __init__ with one default, all told -/
def In1 (K : PySem.W.Frag) (mg : Str → Option Value) (x : Str) (C : Addr) (qual : Str) (st : Stmt) (ps : List Str) : Prop := ∃ f fd dfl, FunD K "__init__" qual (defArgs st) (defBody st) (defScope st) dfl [] f fd ∧ Mk K C f ∧ mg x = some (.ref C) ∧ Binds K fd ps []
section
variable {P : Program} {w : World} {K : PySem.W.Frag} {mg : Str → Option Value} {base h : Heap} {C : Addr} {x cn qual : Str} {st : Stmt} {N ps : List Str} {k : Nat} {sp : Sp}
theorem In1.okE (F : In1 K mg x C qual st ps) (S : FnScope N ps (defScope st)) (len : ∀ vs H Q E, sp vs H Q E → vs.length = ps.length) (body : BodyE P w K mg base qual st N k sp) : MkE P w K mg base (k + 1) x C [] sp := by
  obtain ⟨f, fd, dfl, F, h, hm, b⟩ := F
  exact ⟨f, fd, ps, [], h, hm, .nil, b, F.ok S len fun cdv A outer s H vs Q E hr h => body f cdv A outer s H vs Q E ⟨rfl, rfl, rfl, rfl, hr.units⟩ hr (L2N.takes_of rfl rfl rfl rfl) h⟩
theorem InEK.in1 {n : Nat} (t : InEK K cn qual st) (k : MakesK K cn) (X : K.In h) (G : h.Ns mainGlobals mg) (e : PySem.W.nsIn K mainGlobals cn = some (some (.ref C))) (hn : n = ps.length)
    (hb : ∀ (T : Addr) (kV doc pm : Value) (an : Option Addr) (cdv ct : Value) (us its : List Value), us.length = n → its.length = 1 →
      ∃ k, bindArgs (PySem.W.fnOf "__init__" qual (defArgs st) (defBody st) (defScope st) (.ref T) kV doc pm an cdv ct) ⟨us, []⟩ = seqItems? (.ref T) >>= k ∧ k (some its.toArray) = pure (ps.zip (us ++ its.drop 1))) : In1 K mg cn C qual st ps := by
  obtain ⟨C', f, T, t, oc, od, kV, doc, pm, an, cd, ct, sl, o, o2, its, its2, n1, n2, h1, h2, h3, h4, h5, h6, a1, a2, a3, a4, a5, a6, a7⟩ := t
  cases e.symm.trans h1
  obtain ⟨C', k1, k2, k3⟩ := k
  cases e.symm.trans k1
  have hv : Vals [V.ref t] its.toList := by
    rw [a3]
    exact .cons rfl .nil
  have FD : FunD K "__init__" qual (defArgs st) (defBody st) (defScope st) [.ref t] [] f (PySem.W.fnOf "__init__" qual (defArgs st) (defBody st) (defScope st) (.ref T) kV doc pm an cd ct) :=
    ⟨⟨oc, od, .ref T, kV, doc, pm, an, cd, ct, sl, rfl, h4, h5, .inr ⟨by simp, T, o, its.toList, n1, rfl, a1, by rw [Array.toArray_toList]; exact a2, hv⟩, .inl rfl⟩, h6⟩
  obtain ⟨ds, hv2, hb2⟩ := FD.binds1 n 1 (by simp) (by simpa using hn) hb
  cases hv2
  exact ⟨f, _, _, FD, ⟨k2, h2, h3, k3⟩, PySem.W.mg_of X G e, hb2⟩
end
end Lay

set_option Elab.async false
set_option linter.all false
set_option maxRecDepth 100000
set_option maxHeartbeats 4000000
namespace Lay
open PySem PySem.Spec PyProof.Rows L2
/-! ### try: .. except A as n: .. -/
/-- what the clause wishes of an exception of the body: slot i is the name's -/
def wOne (K : PySem.W.Frag) (c : Value) (i : Nat) (ts : Addr → Obj → Value → Option Addr → TS) (Wout : WX) (D : Ends) : WX := fun cls d σ H =>
  ∃ b, PySem.W.exmOne K cls c = some b ∧ (b = true → ∀ a oe, L2N.Zn cls d oe → (∃ vs, oe.data = .fields vs) → H a = none → ts a oe cls d ⟨fun σ' H' => D.nx (σ'.set i none) H', D.rt, fun σ' H' => D.bk (σ'.set i none) H', fun σ' H' => D.ct (σ'.set i none) H'⟩ (σ.set i (some (.ref a))) H) ∧ (b = false → Wout cls d σ H)
section
variable {X : Cx} {x1 n : Str} {c1 : Value} {i : Nat} {body suite : List Stmt} {b₀ : Stmt} {q1 pos pos' : Pos} {tb : WX → TS} {ts : Addr → Obj → Value → Option Addr → TS} {Wout : WX}
theorem ps_try_one (hs : X.stack = X.env :: X.outer) (hf : X.env.frame = some X.env.locals) (hN : X.N.Nodup) (hi : X.N[i]? = some n) (hln : X.env.kindOf n = some .local) (hc1 : Names X x1 c1) (tk : L2N.Takes X Wout)
    (hb : ∀ (W : WX) (pn : List (Addr × Obj)) (xe : Value → Shared → Prop), L2N.Takes (X.tr pn xe) W → PassesOwn (model X.prog X.w) X.A X.env xe → PSs (X.tr pn xe) body (tb W))
    (hsu : ∀ (a : Addr) (oe : Obj) (cls : Value) (d : Option Addr) (pn : List (Addr × Obj)), L2N.Zn cls d oe → (∃ vs, oe.data = .fields vs) → PSs (X.suite a ((a, oe) :: pn)) (b₀ :: suite) (ts a oe cls d)) :
    PS X (.Try body [.ExceptHandler (some (.Name x1 q1)) (some n) (b₀ :: suite) pos'] [] [] pos) (fun D σ H => tb (wOne X.K c1 i ts Wout D) D σ H) := by
  refine ⟨fun pins s σ H D I h => ?_⟩
  have ok := I.ok
  have fr : X.A.frames = some (X.env :: X.outer) := ok.frames.trans (congrArg some hs)
  let hd : List ExceptHandler := [.ExceptHandler (some (.Name x1 q1)) (some n) (b₀ :: suite) pos']
  let caught : Value → Shared → Prop := fun e s₁ => wpAny (model X.prog X.w) X.A (noteFrame e X.env) (fun _ s₂ => wpAny (model X.prog X.w) X.A (setFlight e none) (fun _ s₃ => wpAny (model X.prog X.w) X.A (handleBy e X.env hd) (SP X pins D) X.xe s₃) X.xe s₂) X.xe s₁
  have taken : L2N.Takes (X.tr (X.pn ++ pins) caught) (wOne X.K c1 i ts Wout D) := by
    intro u s' xx
    obtain ⟨a, B, sI, pins', σ', H', cls, d, rfl, J', nb, up, sky, na, os, ag, b, hx, yes, no⟩ := xx
    have J : Inv X pins σ' H' sI := J'.ofTry ok
    have sky2 : Sky B (X.env :: X.outer) a (L2N.Zn cls d) X.env.locals s'.heap := by
      rw [← hs]
      exact sky
    show wpAny (model X.prog X.w) X.A (noteFrame (.ref a) X.env) _ _ _
    refine L2N.Sky.land L2N.Zn.steady fr hf sky2 fun h3 fl up3 => ?_
    have J3 : Inv X pins σ' H' { s' with heap := h3 } := J.landed nb fl.1 (up.trans up3) os ag
    obtain ⟨oe, vs, ge, ze, de⟩ := fl.there
    -- the exception is no frame
    have away : a ∉ frs (X.env :: X.outer) := fun hm => by
      obtain ⟨_, o', z1, z2⟩ := fl.2.2.1.mem hm
      cases ge.symm.trans z1
      exact z2 _ de
    have nL : a ≠ X.env.locals := fun z => away (List.mem_filterMap.mpr ⟨X.env, List.mem_cons_self, by rw [hf, z]⟩)
    have nF : a ∉ X.fs := fun hm => by
      obtain ⟨e, m1, m2⟩ := List.mem_filterMap.mp hm
      exact away (List.mem_filterMap.mpr ⟨e, List.mem_cons_of_mem _ m1, m2⟩)
    have S3 := J3.suite ge de na nL nF
    refine wpAny_handleBy_cons (codeAny_handlers_test ?_) (by intro z; cases z)
    -- the names
    have name : ∀ {x : Str} {c : Value} {np : Pos} {Q : Value → Shared → Prop} {E : Value → Shared → Prop}, Names X x c → Q c { s' with heap := h3 } → wpAny (model X.prog X.w) (X.A.mark (some (.ref a))) (eval (.Name x np) X.env) Q E { s' with heap := h3 } := fun {x c np Q E} hc q => by
      obtain ⟨hg, hdbg, hm | ⟨hm, hv, hnn⟩⟩ := hc
      · exact ld_glob (X := X.suite a ((a, oe) :: (X.pn ++ pins))) S3 hg hm q hdbg
      · exact ld_blt (X := X.suite a ((a, oe) :: (X.pn ++ pins))) S3 hg hm hv q hnn hdbg
    have LT : PySem.W.Looks (model X.prog X.w) h3 (typeOf (.ref a)) cls := fun A Q E s k q => wpAny_typeOf_ref (k _ _ ge) (by rw [ze.1]; exact q)
    refine name hc1 ((PySem.W.exm_one (M := model X.prog X.w) J3.kIn LT hx).here ?_)
    cases b with
    | true =>
      refine codeAny_handlers_suite_as (HandSPX.lands_againZ fl fun h5 fl5 up5 => ?_)
      have J5 : Inv X pins σ' H' { s' with heap := h5 } := J.landed nb fl5.1 ((up.trans up3).trans up5) os ag
      obtain ⟨oe5, vs5, ge5, ze5, de5⟩ := fl5.there
      have S5 := J5.suite ge5 de5 na nL nF
      refine store_ok (X := X.suite a ((a, oe5) :: (X.pn ++ pins))) (v := .ref a) S5 hN hi (.inl hln) rfl (fun s6 S6 => ?_) (.inr hln)
      refine wpAny_mono ((hsu a oe5 cls d (X.pn ++ pins) ze5 ⟨_, de5⟩).run [] s6 _ H' _ S6 (yes rfl a oe5 ze5 ⟨_, de5⟩ na)) (fun fw s7 hsp => ?_) (fun _ _ z => z.elim)
      have leave : ∀ {σ7 : L2.St} {H7 : Hp} {Q : Shared → Prop}, Inv (X.suite a ((a, oe5) :: (X.pn ++ pins))) [] σ7 H7 s7 → (∀ s8, Inv X pins (σ7.set i none) H7 s8 → Q s8) →
          wpAny (model X.prog X.w) X.A (do bindName X.env n .none; unbindBehindTheSuite X.env n pos') (fun _ s8 => Q s8) X.xe s7 := fun S7 hq => gone_ok (S7.unsuite ok) hN hi hln hq
      rcases fw with _ | _ | _ | u
      all_goals first
        | (obtain ⟨v7, σ7, H7, S7, r7, p7⟩ := hsp; exact leave S7 fun s8 J8 => ⟨_, _, _, J8, r7, p7⟩)
        | (obtain ⟨σ7, H7, S7, p7⟩ := hsp; exact leave S7 fun s8 J8 => ⟨_, _, J8, p7⟩)
    | false =>
      show wpAny _ X.A (handleBy (.ref a) X.env []) _ _ _
      refine wpAny_handleBy_nil ?_
      obtain ⟨_, _, _, oe6, vs6, T6, oT6, ts6, a1, a2, a3, a4, _⟩ := id fl
      have again : wpAny (model X.prog X.w) X.A (setFlight (.ref a) X.env.frame) (fun _ s5 => wpAny (model X.prog X.w) X.A (throw (.ref a) : Sem Flow) (SP X pins D) X.xe s5) X.xe { s' with heap := h3 } := by
        rw [hf]
        refine HandSPX.setFlight_upZ fl fun h5 held up5 => wpAny_throw (tk _ _ ?_)
        exact ⟨a, B, sI, pins, σ', H', cls, d, rfl, J, nb, (up.trans up3).trans up5, .inr (.inr (by rw [hs]; exact held)), na, os, ag, no rfl⟩
      unfold PySem.passOn
      refine wpAny_bind (wpAny_field a1 a3 a4 ?_)
      rw [if_neg (by simp)]
      first
        | exact wpAny_bind again
        | exact wpAny_bind (wpAny_pure (wpAny_bind again))
  refine wpAny_Try_except (wpAny_mono ((hb _ (X.pn ++ pins) caught taken PassesOwn.looking).run [] s σ H D (I.toTry _) h) (fun fw s1 hsp => ?_) fun _ _ z => z)
  rcases fw with _ | _ | _ | u
  all_goals first
    | (obtain ⟨v, σ', H', J', r, p⟩ := hsp; exact ⟨v, σ', H', J'.ofTry ok, r, p⟩)
    | (obtain ⟨σ', H', J', p⟩ := hsp; exact wpAny_execs_nil ⟨σ', H', J'.ofTry ok, p⟩)
    | (obtain ⟨σ', H', J', p⟩ := hsp; exact ⟨σ', H', J'.ofTry ok, p⟩)
end
end Lay

set_option Elab.async false
set_option linter.all false
set_option maxRecDepth 100000
set_option maxHeartbeats 4000000
namespace Lay
open PySem PySem.Spec PyProof.Rows L2
/-! ### tuples stay, whatever becomes of lists and objects -/
def TK (H H' : Hp) : Prop := ∀ a xs, Rd H a (.tup xs) → Rd H' a (.tup xs)
theorem TK.refl (H : Hp) : TK H H := fun _ _ h => h
theorem TK.trans {H H1 H2 : Hp} (a : TK H H1) (b : TK H1 H2) : TK H H2 := fun c xs h => b c xs (a c xs h)
theorem Same.tk {H H' : Hp} (s : Same H H') : TK H H' := fun a xs h => h.imp (s _ _) fun ⟨o, e⟩ => ⟨o, s _ _ e⟩
theorem But.tkL {H H' : Hp} {p : Addr} {l : List V} (b : But p H H') (e : H p = some (.lst l)) : TK H H' := fun a xs h => by
  have n : a ≠ p := fun z => by
    subst z
    rcases h with h | ⟨o, h⟩
    · rw [e] at h; cases h
    · rw [e] at h; cases h
  exact h.imp (b a _ n) fun ⟨o, h⟩ => ⟨o, b a _ n h⟩
theorem But.tkI {H H' : Hp} {p C dx : Addr} {fs : List (Str × V)} (b : But p H H') (e : H p = some (.ins C dx fs)) : TK H H' := fun a xs h => by
  have n : a ≠ p := fun z => by
    subst z
    rcases h with h | ⟨o, h⟩
    · rw [e] at h; cases h
    · rw [e] at h; cases h
  exact h.imp (b a _ n) fun ⟨o, h⟩ => ⟨o, b a _ n h⟩
theorem upd_but {H : Hp} {p : Addr} {o : HO} : But p H (upd H p o) := fun a u n e => by
  rw [upd_ne n]
  exact e
theorem TK.put {H : Hp} {p : Addr} {l : List V} {o : HO} (e : H p = some (.lst l)) : TK H (upd H p o) := But.tkL upd_but e
section
variable {K : PySem.W.Frag} {H H' : Hp}
theorem TK.sqt {a : Addr} {xs : List V} (t : TK H H') (h : SqT K H a xs) : SqT K H' a xs := h.imp (t _ _) id
mutual
theorem TK.dp (t : TK H H') : ∀ (d : PyData) (v : V), nlD d = true → Dp K H v d → Dp K H' v d
  | .none, _, _, h => by
    cases h
    exact .non
  | .bool _, _, _, h => by
    cases h
    exact .bl _
  | .int _, _, _, h => by
    cases h
    exact .int _
  | .str _, _, _, h => by
    cases h
    exact .str _
  | .list _, _, n, _ => absurd n (by simp [nlD])
  | .dict _, _, n, _ => absurd n (by simp [nlD])
  | .tuple ds, _, n, h => by
    cases h with
    | tup hs ha => exact .tup (t.sqt hs) (TK.dpA t ds _ (by simpa [nlD] using n) ha)
theorem TK.dpA (t : TK H H') : ∀ (ds : List PyData) (vs : List V), nlA ds = true → DpAll K H vs ds → DpAll K H' vs ds
  | [], _, _, h => by
    cases h
    exact .nil
  | d :: ds, _, n, h => by
    have n2 : nlD d = true ∧ nlA ds = true := by simpa [nlA] using n
    cases h with
    | cons h1 h2 => exact .cons (TK.dp t d _ n2.1 h1) (TK.dpA t ds _ n2.2 h2)
end
theorem DpAll.app {xs ys : List V} {ds es : List PyData} (h : DpAll K H xs ds) (g : DpAll K H ys es) : DpAll K H (xs ++ ys) (ds ++ es) := by
  induction ds generalizing xs with
  | nil =>
    cases h
    exact g
  | cons d ds ih => cases h with
    | cons h1 h2 => exact .cons h1 (ih h2)
theorem DpAll.len {xs : List V} {ds : List PyData} (h : DpAll K H xs ds) : xs.length = ds.length := by
  induction ds generalizing xs with
  | nil =>
    cases h
    rfl
  | cons d ds ih => cases h with
    | cons h1 h2 => exact congrArg Nat.succ (ih h2)
theorem DpAll.drop {xs : List V} {ds : List PyData} (n : Nat) (h : DpAll K H xs ds) : DpAll K H (xs.drop n) (ds.drop n) := by
  induction n generalizing xs ds with
  | zero => exact h
  | succ n ih =>
    cases h with
    | nil => exact .nil
    | cons h1 h2 => exact ih h2
theorem DpAll.at {xs : List V} {ds : List PyData} (h : DpAll K H xs ds) {i : Nat} {x : V} (e : xs[i]? = some x) : ∃ d, ds[i]? = some d ∧ Dp K H x d := by
  induction i generalizing xs ds with
  | zero =>
    cases h with
    | nil => cases e
    | cons h1 h2 =>
      cases e
      exact ⟨_, rfl, h1⟩
  | succ i ih =>
    cases h with
    | nil => cases e
    | cons h1 h2 => exact ih h2 e
theorem nlA_app : ∀ (a b : List PyData), nlA (a ++ b) = (nlA a && nlA b)
  | [], b => by simp [nlA]
  | d :: a, b => by
    show nlA (d :: (a ++ b)) = _
    rw [nlA, nlA, nlA_app a b, Bool.and_assoc]
theorem nlA_one {d : PyData} (h : nlD d = true) : nlA [d] = true := by
  rw [nlA, h]
  rfl
theorem nlA_drop : ∀ (n : Nat) {ds : List PyData}, nlA ds = true → nlA (ds.drop n) = true
  | 0, _, h => h
  | _ + 1, [], h => h
  | n + 1, d :: ds, h => nlA_drop n (by
      rw [nlA, Bool.and_eq_true] at h
      exact h.2)
theorem nlA_at {ds : List PyData} (h : nlA ds = true) {i : Nat} {d : PyData} (e : ds[i]? = some d) : nlD d = true := by
  induction ds generalizing i with
  | nil => cases e
  | cons c r ih =>
    rw [nlA, Bool.and_eq_true] at h
    cases i with
    | zero =>
      cases e
      exact h.1
    | succ i => exact ih h.2 e
end
/-! ### append, pop -/
section
variable {P : Program} {w : World} {K : PySem.W.Frag} {H : Hp} {Q : VK} {l : Addr} {xs : List V} {y : V}
theorem m_app (e : H l = some (.lst xs)) (hz : xs.length < sizeLine) (q : Q .non (upd H l (.lst (xs ++ [y])))) : sM P w K "list.append" (.ref l) [y] H Q := ⟨_, fun _ _ => mt_append, l, xs, y, rfl, rfl, e, hz, q⟩
theorem m_pop (e : H l = some (.lst (xs ++ [y]))) (q : Q y (upd H l (.lst xs))) : sM P w K "list.pop" (.ref l) [] H Q := ⟨_, fun _ _ => mt_pop, l, xs ++ [y], y, rfl, rfl, e, by simp, by rw [List.dropLast_concat]; exact q⟩
theorem atI_last : atI (xs ++ [y]) (-1) = some y := by
  unfold atI ixN
  rw [if_neg (by omega), if_pos (by simp; omega)]
  have e : ((-1 : Int) + ((xs ++ [y]).length : Nat)).toNat = xs.length := by
    simp only [List.length_append, List.length_cons, List.length_nil]
    omega
  rw [Option.bind_some, e]
  simp
theorem r_bm0 {T : String} {r : V → List V → Hp → VK → Prop} {ta : TE} {σ : L2.St} (q : ta σ H fun x H1 => tyV K T x H1 ∧ r x [] H1 Q) : tBM0 K T r ta σ H Q := q
end
/-! ### a comprehension of data -/
section
variable {K : PySem.W.Frag} {D : Addr} {J : It} {G : Hp → Prop} {Y : Nat → Hp → V → Hp → Prop} {g : TG} {tt : TT} {te : TE} {vs : List Nat} {σ : L2.St} {H1 : Hp} {Qd : Hp → Prop}
theorem lc_dat (ds : List PyData) (nl : nlA ds = true) (w : Walk J ds.length G Y) (hn : ds.length < sizeLine) (hD : H1 D = none) (hG : ∀ H, Same H1 H → G H)
    (hs : ∀ i d x H H', ds[i]? = some d → Same H1 H → Y i H x H' → ∀ (C1 : VK) (C0 : Hp → Prop), (∀ y H4, Same H H4 → Dp K H4 y d → C1 y H4) →
      g x (wipe σ vs) H' fun σ2 H2 => wipe σ2 vs = wipe σ vs ∧ tt σ2 H2 fun b H3 => if b = true then te σ2 H3 C1 else C0 H3)
    (hd : ∀ H ys, Same H1 H → H D = some (.lst ys) → DpAll K H ys ds → Qd H) :
    Lc J g tt te vs σ D Qd H1 := by
  refine lc_it w (fun i H => Same H1 H ∧ ∃ ys, H D = some (.lst ys) ∧ ys.length = i ∧ DpAll K H ys (ds.take i)) ⟨Same.new hD, [], upd_same, rfl, .nil⟩ (fun i H _ q => hG H q.1) (fun i x H H' hi q y => ?_) fun H q => ?_
  · obtain ⟨q1, ys, q2, q3, q4⟩ := q
    refine hs i ds[i] x H H' (List.getElem?_eq_getElem hi) q1 y _ _ (fun y H4 s4 h4 => ?_)
    have e4 := s4 _ _ q2
    have tk : TK H4 (upd H4 D (.lst (ys ++ [y]))) := TK.put e4
    have nt : nlA (ds.take i) = true := by
      have h := nl
      rw [← List.take_append_drop i ds, nlA_app, Bool.and_eq_true] at h
      exact h.1
    refine ⟨ys, e4, by omega, Same.mut (q1.trans s4) hD, ys ++ [y], upd_same, by rw [List.length_append, q3]; rfl, ?_⟩
    rw [List.take_succ_eq_append_getElem hi]
    exact DpAll.app (TK.dpA tk _ _ nt (TK.dpA (Same.tk s4) _ _ nt q4)) (.cons (TK.dp tk _ _ (nlA_at nl (List.getElem?_eq_getElem hi)) h4) .nil)
  · obtain ⟨q1, ys, q2, q3, q4⟩ := q
    rw [List.take_of_length_le (Nat.le_refl _)] at q4
    exact hd H ys q1 q2 q4
end
end Lay

set_option Elab.async false
set_option linter.all false
set_option maxRecDepth 100000
set_option maxHeartbeats 4000000
namespace Lay
open PySem PySem.Spec PyProof.Rows L2
/-! ### a dict with keys that are tuples -/
section
variable {P : Program} {w : World} {K : PySem.W.Frag} {H H' : Hp} {Q : VK} {x v i : V} {a : Addr} {o : Option V}
theorem c_ninD (g : DGet H a x o) (q : Q (.bl (!o.isSome)) H) : sB P w K (compareOp .NotIn) x (.ref a) H Q := by
  refine ⟨fun x y H Q => ∃ a o, y = .ref a ∧ DGet H a x o ∧ Q (.bl (!o.isSome)) H, fun X L => ?_, a, o, rfl, g, q⟩
  intro pins s σ H x y v u Q I rx ry h
  obtain ⟨a, o, rfl, g, q⟩ := h
  obtain rfl : u = Value.ref a := ry
  exact d_notIn L.un1 I g rx fun s3 I3 => ⟨.bl (!o.isSome), H, I3, rfl, q⟩
theorem st_d {Q : Hp → Prop} (g : DPut H a i v H') (q : Q H') : sSet P w K (.ref a) i v H Q := ⟨rSetD, fun X L => set_dict L.un1, a, H', rfl, g, q⟩
abbrev K2 : Type := List L2.Key
def k2 (r c : Int) : K2 := [.inl r, .inl c]
theorem g2 {kvs : List (K2 × V)} {b : Addr} {r c : Int} (e : H a = some (.dT kvs)) (eb : H b = some (.tup [.int r, .int c])) : DGet H a (.ref b) (valV kvs (k2 r c)) := DGet.t (k := k2 r c) e eb
theorem p2 {kvs : List (K2 × V)} {b : Addr} {r c : Int} (e : H a = some (.dT kvs)) (eb : H b = some (.tup [.int r, .int c])) (hl : kvs.length < sizeLine) : DPut H a (.ref b) v (upd H a (.dT (putK kvs (k2 r c) v))) := DPut.t (k := k2 r c) e eb hl
theorem putK_le {κ : Type} [DecidableEq κ] (c : List (κ × V)) (k : κ) (x : V) : (putK c k x).length ≤ c.length + 1 := by
  unfold putK
  split
  · rw [List.length_map]
    omega
  · rw [List.length_append]
    simp
theorem putK_key {kvs : List (K2 × V)} {k : K2} {x : V} {p : K2 × V} (h : p ∈ putK kvs k x) : p.1 = k ∨ ∃ q ∈ kvs, p.1 = q.1 := by
  unfold putK at h
  split at h
  · obtain ⟨q, hq, e⟩ := List.mem_map.mp h
    by_cases hk : q.1 = k
    · rw [if_pos hk] at e
      subst e
      exact .inl hk
    · rw [if_neg hk] at e
      subst e
      exact .inr ⟨q, hq, rfl⟩
  · rcases List.mem_append.mp h with h | h
    · exact .inr ⟨p, h, rfl⟩
    · rw [List.mem_singleton.mp h]
      exact .inl rfl
theorem k2_inj {r c r' c' : Int} : k2 r c = k2 r' c' ↔ r = r' ∧ c = c' := by
  unfold k2
  constructor
  · intro h
    injection h with h1 h2
    injection h2 with h2 _
    injection h1 with h1
    injection h2 with h2
    exact ⟨h1, h2⟩
  · rintro ⟨rfl, rfl⟩
    rfl
theorem But.tkD {p : Addr} {l : List (K2 × V)} (b : But p H H') (e : H p = some (.dT l)) : TK H H' := fun a xs h => by
  have n : a ≠ p := fun z => by
    subst z
    rcases h with h | ⟨o, h⟩
    · rw [e] at h; cases h
    · rw [e] at h; cases h
  exact h.imp (b a _ n) fun ⟨o, h⟩ => ⟨o, b a _ n h⟩
theorem isSome_put {kvs : List (K2 × V)} {k j : K2} {y : V} : (valV (putK kvs k y) j).isSome = (decide (j = k) || (valV kvs j).isSome) := by
  rw [valV_put]
  by_cases h : j = k
  · rw [if_pos h, decide_eq_true h]
    rfl
  · rw [if_neg h, decide_eq_false h]
    rfl
end
/-! ### data that may be compared -/
def Shp (n : Nat) (d : PyData) : Prop := d.canLay0 = true ∧ d.depth ≤ n
def ShA (n : Nat) (ds : List PyData) : Prop := PyData.canLayAll0 ds = true ∧ PyData.depthAll ds ≤ n
section
variable {n m : Nat} {d : PyData} {ds es : List PyData}
theorem Shp.ok (h : Shp n d) (hn : n ≤ 64) : SeqAt.shaped d = true := by
  unfold SeqAt.shaped
  rw [h.1, Bool.true_and]
  exact decide_eq_true (Nat.le_trans h.2 hn)
theorem Shp.mono (h : Shp n d) (hn : n ≤ m) : Shp m d := ⟨h.1, Nat.le_trans h.2 hn⟩
theorem ShA.nil : ShA n [] := ⟨rfl, by simp [PyData.depthAll]⟩
theorem ShA.cons (h : Shp n d) (g : ShA n ds) : ShA n (d :: ds) := by
  have h1 := h.1
  have h2 := h.2
  have g1 := g.1
  have g2 := g.2
  refine ⟨?_, ?_⟩
  · show (d.canLay0 && PyData.canLayAll0 ds) = true
    rw [h1, g1]
    rfl
  · simp [PyData.depthAll] at g2 ⊢
    omega
theorem ShA.mono (h : ShA n ds) (hn : n ≤ m) : ShA m ds := ⟨h.1, Nat.le_trans h.2 hn⟩
theorem ShA.hd (h : ShA n (d :: ds)) : Shp n d ∧ ShA n ds := by
  have h1 : (d.canLay0 && PyData.canLayAll0 ds) = true := h.1
  have h2 := h.2
  rw [Bool.and_eq_true] at h1
  simp [PyData.depthAll] at h2
  exact ⟨⟨h1.1, by omega⟩, ⟨h1.2, by omega⟩⟩
theorem ShA.of (h : ∀ d ∈ ds, Shp n d) : ShA n ds := by
  induction ds with
  | nil => exact .nil
  | cons d r ih => exact .cons (h d List.mem_cons_self) (ih fun x hx => h x (List.mem_cons_of_mem _ hx))
theorem ShA.app (h : ShA n ds) (g : ShA n es) : ShA n (ds ++ es) := by
  induction ds with
  | nil => exact g
  | cons d r ih => exact .cons h.hd.1 (ih h.hd.2)
theorem ShA.tup (h : ShA n ds) : Shp (n + 1) (.tuple ds) := by
  have h2 := h.2
  refine ⟨?_, ?_⟩
  · rw [PyData.canLay0]
    exact h.1
  · simp [PyData.depth]
    omega
theorem ShA.lst (h : ShA n ds) : Shp (n + 1) (.list ds) := by
  have h2 := h.2
  refine ⟨?_, ?_⟩
  · rw [PyData.canLay0]
    exact h.1
  · simp [PyData.depth]
    omega
theorem Shp.int (i : Int) : Shp 1 (.int i) := ⟨rfl, by simp [PyData.depth]⟩
theorem Shp.non : Shp 1 .none := ⟨rfl, by simp [PyData.depth]⟩
theorem Shp.str {z : Str} (h : PyData.strOk z = true) : Shp 1 (.str z) := ⟨by rw [PyData.canLay0]; exact h, by simp [PyData.depth]⟩
theorem shA_strs {xs : List Str} (h : SOk xs) : ShA 1 (xs.map PyData.str) := ⟨lay_strs h, dep_strs xs⟩
end
section
variable {P : Program} {w : World} {K : PySem.W.Frag} {H : Hp} {Q : VK} {x y : V} {d e : PyData} {n m : Nat}
theorem c_eqP (hx : Dp K H x d) (hy : Dp K H y e) (sx : Shp n d) (sy : Shp m e) (hn : n ≤ 64) (hm : m ≤ 64) (q : Q (.bl (PyData.eqv d e)) H) : sB P w K (compareOp .Eq) x y H Q :=
  ⟨rEqD K, fun X L => L.K ▸ op_eqD L.un, _, _, hx, hy, sx.ok hn, sy.ok hm, q⟩
theorem c_neP (hx : Dp K H x d) (hy : Dp K H y e) (sx : Shp n d) (sy : Shp m e) (hn : n ≤ 64) (hm : m ≤ 64) (q : Q (.bl (!PyData.eqv d e)) H) : sB P w K (compareOp .NotEq) x y H Q :=
  ⟨rNeD K, fun X L => L.K ▸ op_neD L.un, _, _, hx, hy, sx.ok hn, sy.ok hm, q⟩
end
end Lay

set_option Elab.async false
set_option linter.all false
set_option maxRecDepth 100000
set_option maxHeartbeats 4000000
namespace Tk
open PySem PySem.Spec PyProof.Rows L2 Lay
open TL (tl ext_tl len_tl tl_append tl_mk mk_tl)
def topS (i : Nat) : Stmt := PySem.Challenge.pw_papertongue_k06_tables_by_their_cells.main.body.getD i (.Pass ⟨0, 0, 0, 0⟩)
local macro_rules | `(tactic| walk_at "if") => `(tactic| refine ite2 (fun hc => ?_) (fun hc => ?_))
local macro_rules | `(tactic| walk_at "lk") => `(tactic| first | exact upd_same | assumption)
local macro_rules | `(tactic| walk_at "st") => `(tactic| first
  | with_reducible refine r_var rfl ?_ | with_reducible refine r_c ?_ | with_reducible refine r_op ?_ | with_reducible refine r_cons ?_ | with_reducible refine r_nil ?_ | with_reducible refine r_vals ?_
  | with_reducible refine r_cb ?_ | with_reducible refine r_tup ?_ | with_reducible refine r_lst ?_ | with_reducible refine r_call ?_ | with_reducible refine r_test ?_
  | with_reducible refine r_if ?_ | with_reducible refine r_not ?_ | with_reducible refine r_bm ?_ | with_reducible refine r_sl ?_ | with_reducible refine r_np ?_ | with_reducible refine r_part ?_
  | with_reducible refine r_seq ?_ | with_reducible refine r_asg ?_ | with_reducible refine r_name ?_ | with_reducible refine r_ifs ?_ | with_reducible refine r_ret ?_ | with_reducible refine r_next ?_ | with_reducible refine r_par ?_ | with_reducible refine r_par3 ?_ | with_reducible refine r_brk ?_ | with_reducible refine r_cnt ?_ | with_reducible refine r_sub ?_
  | with_reducible refine r_andT ?_ | with_reducible refine r_orT ?_ | with_reducible refine r_notT ?_ | with_reducible refine r_or ?_ | with_reducible refine r_and ?_ | with_reducible refine r_tB ?_ | with_reducible refine r_drop ?_ | with_reducible refine r_callN ?_ | with_reducible refine r_chain ?_
  | with_reducible refine r_for ?_ | with_reducible refine r_lc ?_ | with_reducible refine r_iseq ?_ | with_reducible refine r_rng1 ?_ | with_reducible refine r_enum ?_ | with_reducible refine r_yes ?_ | with_reducible refine r_tru ?_ | with_reducible refine r_gtup ?_ | with_reducible refine r_gcons ?_ | with_reducible refine r_gnil ?_
  | with_reducible refine b_add ?_ | with_reducible refine b_sub ?_ | (with_reducible refine b_mul (by unfold CMul; omega) ?_) | (with_reducible refine b_mod (by omega) ?_) | (with_reducible refine b_fdiv (by unfold CDiv; omega) ?_)
  | with_reducible refine c_lt ?_ | with_reducible refine c_le ?_ | with_reducible refine c_gt ?_ | with_reducible refine c_ge ?_ | with_reducible refine c_isN ?_ | with_reducible refine c_notN ?_ | with_reducible refine c_isB ?_ | with_reducible refine c_eq rfl ?_ | with_reducible refine c_ne rfl ?_
  | with_reducible refine c_insign ?_ | with_reducible refine k_int ?_ | with_reducible refine k_intb ?_ | with_reducible refine k_max ?_ | with_reducible refine k_min ?_
  | with_reducible refine i_lst (by first | exact SqL.of upd_same | exact SqL.of (by assumption) | assumption) rfl ?_
  | with_reducible refine st_l (by walk_at "lk") rfl ?_
  | with_reducible refine ⟨_, rfl, ?_⟩
  | with_reducible refine ex_par ?_
  | with_reducible refine r_back ?_
  | with_reducible refine ex_par3 ?_
  | with_reducible refine ty_s ?_
  | with_reducible refine tru_b ?_
  | with_reducible refine iteT ?_ | with_reducible refine iteF ?_ | with_reducible refine itnT ?_ | with_reducible refine itnF ?_)
local macro_rules | `(tactic| walk_at "go") => `(tactic| repeat walk_at "st")
local macro_rules | `(tactic| walk_at "cl") => `(tactic| try dsimp only [cxOf, Cx.nox, Cx.wish])
/-! ### the program's words -/

/-- so many signs, all of these -/
def ofL (S : List Nat) (most : Int) (l : List Nat) : Bool := decide (1 ≤ (l.length : Int)) && (decide ((l.length : Int) ≤ most) && l.all fun c => decide (c ∈ S))
def isOf (signs : Str) (most : Int) (z : Str) : Bool := ofL signs.cps.toList most z.cps.toList
theorem isOf_eq (signs : Str) (most : Int) (z : Str) : isOf signs most z = (decide (1 ≤ (z.length : Int)) && (decide ((z.length : Int) ≤ most) && z.cps.toList.all fun c => decide (c ∈ signs.cps.toList))) := by
  unfold isOf ofL
  rw [← len_tl]
def isOfV (signs : Str) (most : Int) : V → Bool
  | .str z => isOf signs most z
  | _ => false
def sSmall : Str := "abcdefghijklmnopqrstuvwxyz"
def sWord : Str := "abcdefghijklmnopqrstuvwxyzABCDEFGHIJKLMNOPQRSTUVWXYZ0123456789.,"
def spIsText (K : PySem.W.Frag) : Sp := fun vs H Q _ => ∃ x T, vs = [x] ∧ Tyb K H x T ∧ Q (.bl (T == "str")) H
def spIsTuple (K : PySem.W.Frag) : Sp := fun vs H Q _ => ∃ x T, vs = [x] ∧ Tyb K H x T ∧ Q (.bl (T == "tuple")) H
def StrOk (x : V) : Prop := ∀ z, x = .str z → z.length ≤ 1000000
def spIsOf (K : PySem.W.Frag) : Sp := fun vs H Q _ => ∃ x T signs most, vs = [x, .str signs, .int most] ∧ Tyb K H x T ∧ StrOk x ∧ ∀ H', Same H H' → Q (.bl (isOfV signs most x)) H'
def spIsA (K : PySem.W.Frag) (signs : Str) (most : Int) : Sp := fun vs H Q _ => ∃ x T, vs = [x] ∧ Tyb K H x T ∧ StrOk x ∧ ∀ H', Same H H' → Q (.bl (isOfV signs most x)) H'
section
variable {K : PySem.W.Frag} {H : Hp} {Q : VK} {x : V} {T : String} {signs : Str} {most : Int}
theorem u_is_text (t : Tyb K H x T) (q : Q (.bl (T == "str")) H) : spIsText K ([x] ++ []) H Q E0 := ⟨x, T, rfl, t, q⟩
theorem u_is_tuple (t : Tyb K H x T) (q : Q (.bl (T == "tuple")) H) : spIsTuple K ([x] ++ []) H Q E0 := ⟨x, T, rfl, t, q⟩
theorem u_is_of (t : Tyb K H x T) (s : StrOk x) (q : ∀ H', Same H H' → Q (.bl (isOfV signs most x)) H') : spIsOf K ([x, .str signs, .int most] ++ []) H Q E0 := ⟨x, T, signs, most, rfl, t, s, q⟩
theorem u_isA (t : Tyb K H x T) (s : StrOk x) (q : ∀ H', Same H H' → Q (.bl (isOfV signs most x)) H') : spIsA K signs most ([x] ++ []) H Q E0 := ⟨x, T, rfl, t, s, q⟩
end
abbrev s_is_text : Stmt := topS 7
theorem sc_is_text : FnScope ["thing"] ["thing"] (defScope s_is_text) := ⟨rfl, rfl, rfl, by decide +kernel, rfl, by decide +kernel, by decide +kernel⟩
abbrev s_is_tuple : Stmt := topS 8
theorem sc_is_tuple : FnScope ["thing"] ["thing"] (defScope s_is_tuple) := ⟨rfl, rfl, rfl, by decide +kernel, rfl, by decide +kernel, by decide +kernel⟩
abbrev s_is_name : Stmt := topS 20
theorem sc_is_name : FnScope ["thing"] ["thing"] (defScope s_is_name) := ⟨rfl, rfl, rfl, by decide +kernel, rfl, by decide +kernel, by decide +kernel⟩
abbrev s_is_word : Stmt := topS 21
theorem sc_is_word : FnScope ["thing"] ["thing"] (defScope s_is_word) := ⟨rfl, rfl, rfl, by decide +kernel, rfl, by decide +kernel, by decide +kernel⟩
abbrev s__is_of : Stmt := topS 22
theorem sc__is_of : FnScope ["thing", "signs", "most", "sign"] ["thing", "signs", "most"] (defScope s__is_of) := ⟨rfl, rfl, rfl, by decide +kernel, rfl, by decide +kernel, by decide +kernel⟩
abbrev s_is_token : Stmt := topS 23
theorem sc_is_token : FnScope ["thing"] ["thing"] (defScope s_is_token) := ⟨rfl, rfl, rfl, by decide +kernel, rfl, by decide +kernel, by decide +kernel⟩
section
variable {P : Program} {w : World} {K : PySem.W.Frag} {mg : Str → Option Value} {base : Heap}
theorem ok_is_text (F : Fn0 K mg "is_text" s_is_text ["thing"]) (m : Md mg) : FnG P w K mg base 1 "is_text" ["thing"] (spIsText K) := by
  refine F.ok sc_is_text (fun vs H Q E h => ?_) (fun a cdv A outer s H vs Q E L hr h => ?_)
  · obtain ⟨x, T, rfl, _⟩ := h
    rfl
  have nd := sc_is_text.nd
  refine ⟨_, (pss_one (ps_ret (pe_cmpR (op_ L) (pe_callTy (oc L) (by rfl) m.type_ bt_type (pa_cons (pv 0) pa_nil)) (pe_bltn (v := .ty "str") (by rfl) m.str_ bt_str rfl) (nomark _)))), ?_⟩
  walk_at "cl"
  obtain ⟨x, T, rfl, t, q⟩ := h
  walk_at "go"
  refine k_type t fun v hv => ?_
  walk_at "go"
  exact c_eqty hv TypeEq.meta_str rfl q
theorem ok_is_tuple (F : Fn0 K mg "is_tuple" s_is_tuple ["thing"]) (m : Md mg) : FnG P w K mg base 1 "is_tuple" ["thing"] (spIsTuple K) := by
  refine F.ok sc_is_tuple (fun vs H Q E h => ?_) (fun a cdv A outer s H vs Q E L hr h => ?_)
  · obtain ⟨x, T, rfl, _⟩ := h
    rfl
  have nd := sc_is_tuple.nd
  refine ⟨_, (pss_one (ps_ret (pe_cmpR (op_ L) (pe_callTy (oc L) (by rfl) m.type_ bt_type (pa_cons (pv 0) pa_nil)) (pe_bltn (v := .ty "tuple") (by rfl) m.tuple_ bt_tuple rfl) (nomark _)))), ?_⟩
  walk_at "cl"
  obtain ⟨x, T, rfl, t, q⟩ := h
  walk_at "go"
  refine k_type t fun v hv => ?_
  walk_at "go"
  exact c_eqty hv TypeEq.meta_tuple rfl q
theorem str_of {K : PySem.W.Frag} {H : Hp} {x : V} (t : Tyb K H x "str") : ∃ z, x = .str z := by
  generalize e : "str" = T at t
  cases t <;> first | exact ⟨_, rfl⟩ | exact absurd e (by decide)
theorem isOfV_no {K : PySem.W.Frag} {H : Hp} {x : V} {T : String} {signs : Str} {most : Int} (t : Tyb K H x T) (h : ¬ (T == "str") = true) : isOfV signs most x = false := by
  cases t <;> first | rfl | exact absurd (by decide) h
theorem line_of {n : Nat} (h : n ≤ 1000000) : n ≤ sizeLine := by
  rw [sizeLine_eq]
  omega
theorem ok__is_of (F : Fn0 K mg "_is_of" s__is_of ["thing", "signs", "most"]) (m : Md mg) (c_is_text : FnG P w K mg base 1 "is_text" ["thing"] (spIsText K)) : FnG P w K mg base 2 "_is_of" ["thing", "signs", "most"] (spIsOf K) := by
  refine F.ok sc__is_of (fun vs H Q E h => ?_) (fun a cdv A outer s H vs Q E L hr h => ?_)
  · obtain ⟨x, T, g, n, rfl, _⟩ := h
    rfl
  have nd := sc__is_of.nd
  refine ⟨_, (pss_one (ps_ret (pe_andL L (pe_callG c_is_text (hr.mono (by decide)) (by rfl) (pa_cons (pv 0) pa_nil)) (pe_andL L (pe_chain (op_ L) (op_ L) pe_int (pe_callB (oc L) (by rfl) m.len_ bt_len (pa_cons (pv 0) pa_nil)) (pv 2)) (pe_one (pe_callB (oc L) (by rfl) m.all_ bt_all (pa_cons (pe_lc (own := [("sign", 3)]) rfl nd (pi_seqL L (pv 0)) (blkOk_by (own := [("sign", 3)]) (N := ["thing", "signs", "most", "sign"]) (sc := defScope s__is_of) (by decide +kernel)) (fun _ _ _ _ _ => (pg_name (i := 3) nd rfl (.inl rfl))) (fun _ _ _ _ _ => inT L.b pts_nil) (fun _ _ _ _ _ => inE L.b (pe_cmpR (op_ L.b) (pv 3) (pv 1) rfl))) pa_nil))))))), ?_⟩
  walk_at "cl"
  obtain ⟨x, T, g, n, rfl, t, hx, q⟩ := h
  walk_at "go"
  refine u_is_text t ?_
  walk_at "go"
  refine ite2 (fun hc => ?_) (fun hc => ?_)
  · obtain ⟨z, rfl⟩ := str_of (eq_of_beq hc ▸ t)
    have hz := line_of (hx z rfl)
    walk_at "go"
    refine k_lens hz ?_
    walk_at "go"
    have fin : ∀ c : Bool, c = isOf g n z → ∀ H', Same H H' → Q (.bl c) H' := fun c e H' s => by
      rw [e]
      exact q H' s
    refine ite2 (fun h1 => ?_) (fun h1 => ?_)
    · walk_at "go"
      refine ite2 (fun h2 => ?_) (fun h2 => ?_)
      · walk_at "go"
        refine .inr (.inr ⟨z, rfl, fun D hD => ?_⟩)
        refine lc_pureL z.cps.toList 0 walk_strL (fun _ => true) (fun c => .bl (decide (c ∈ g.cps.toList))) (by
          refine Nat.lt_of_le_of_lt (hx z rfl) ?_
          rw [sizeLine_eq]
          decide) hD (fun _ _ => True.intro) (fun i c x H' H'' hi sm hy C1 C0 h1 h0 => ?_) (fun H' sm hd => ?_)
        · obtain ⟨rfl, c2, hc2, rfl⟩ := hy
          cases hi.symm.trans hc2
          walk_at "go"
          refine ⟨rfl, ?_⟩
          walk_at "go"
          exact h1 rfl _ (Same.refl _)
        · rw [filter_yes, ← Function.comp_def V.bl, ← List.map_map] at hd
          walk_at "go"
          refine k_all (SqL.of hd) ?_
          refine fin _ ?_ _ sm
          rw [isOf_eq, h1, h2, Bool.true_and, Bool.true_and, List.all_map]
          rfl
      · refine fin _ ?_ _ (Same.refl _)
        rw [isOf_eq, h1]
        simp at h2 ⊢
        intro h3
        omega
    · walk_at "go"
      refine fin _ ?_ _ (Same.refl _)
      rw [isOf_eq]
      simp at h1 ⊢
      omega
  · have e1 := isOfV_no (signs := g) (most := n) t hc
    have e2 : (T == "str") = false := by simpa using hc
    rw [e2]
    rw [e1] at q
    exact q H (Same.refl H)
theorem ok_is_name (F : Fn0 K mg "is_name" s_is_name ["thing"]) (m : Md mg) (g_SMALL_LETTERS : Gv mg "SMALL_LETTERS" (.str sSmall)) (g_MOST_LETTERS : Gv mg "MOST_LETTERS" (.int 8)) (c__is_of : FnG P w K mg base 2 "_is_of" ["thing", "signs", "most"] (spIsOf K)) :
    FnG P w K mg base 3 "is_name" ["thing"] (spIsA K sSmall 8) := by
  refine F.ok sc_is_name (fun vs H Q E h => ?_) (fun a cdv A outer s H vs Q E L hr h => ?_)
  · obtain ⟨x, T, rfl, _⟩ := h
    rfl
  have nd := sc_is_name.nd
  refine ⟨_, (pss_one (ps_ret (pe_callG c__is_of (hr.mono (by decide)) (by rfl) (pa_cons (pv 0) (pa_cons (pe_gv g_SMALL_LETTERS (by rfl)) (pa_cons (pe_gv g_MOST_LETTERS (by rfl)) pa_nil)))))), ?_⟩
  walk_at "cl"
  obtain ⟨x, T, rfl, t, hx, q⟩ := h
  walk_at "go"
  exact u_is_of t hx q
theorem ok_is_word (F : Fn0 K mg "is_word" s_is_word ["thing"]) (m : Md mg) (g_WORD_SIGNS : Gv mg "WORD_SIGNS" (.str sWord)) (g_MOST_SIGNS : Gv mg "MOST_SIGNS" (.int 12)) (c__is_of : FnG P w K mg base 2 "_is_of" ["thing", "signs", "most"] (spIsOf K)) :
    FnG P w K mg base 3 "is_word" ["thing"] (spIsA K sWord 12) := by
  refine F.ok sc_is_word (fun vs H Q E h => ?_) (fun a cdv A outer s H vs Q E L hr h => ?_)
  · obtain ⟨x, T, rfl, _⟩ := h
    rfl
  have nd := sc_is_word.nd
  refine ⟨_, (pss_one (ps_ret (pe_callG c__is_of (hr.mono (by decide)) (by rfl) (pa_cons (pv 0) (pa_cons (pe_gv g_WORD_SIGNS (by rfl)) (pa_cons (pe_gv g_MOST_SIGNS (by rfl)) pa_nil)))))), ?_⟩
  walk_at "cl"
  obtain ⟨x, T, rfl, t, hx, q⟩ := h
  walk_at "go"
  exact u_is_of t hx q
/-- a TOKEN, by its signs -/
def tokL : List Nat → Bool
  | [] => false
  | c :: r => if r = [] ∧ c ∈ [123, 125, 91, 93] then true else if c ∈ [64, 35, 126, 38] then ofL sSmall.cps.toList 8 r else if c = 94 then ofL sWord.cps.toList 12 r else ofL sWord.cps.toList 12 (c :: r)
theorem tokL_cons (c : Nat) (r : List Nat) : tokL (c :: r) = if r = [] ∧ c ∈ [123, 125, 91, 93] then true else if c ∈ [64, 35, 126, 38] then ofL sSmall.cps.toList 8 r else if c = 94 then ofL sWord.cps.toList 12 r else ofL sWord.cps.toList 12 (c :: r) := rfl
def isTok (z : Str) : Bool := tokL z.cps.toList
def isTokV : V → Bool
  | .str z => isTok z
  | _ => false
def brs : List V := [.str "{", .str "}", .str "[", .str "]"]
def ahd : List V := [.str "@", .str "#", .str "~", .str "&"]
theorem is_str {z : Str} {s : String} {l : List Nat} (h : tl (Str.ofString s) = l) : (Str.ofString s == z) = decide (tl z = l) := by
  subst h
  by_cases e : z = Str.ofString s
  · subst e
    simp
  · have e2 : ¬ (Str.ofString s = z) := fun q => e q.symm
    have e3 : ¬ tl z = tl (Str.ofString s) := fun q => e (ext_tl q)
    rw [decide_eq_false e3]
    exact beq_eq_false_iff_ne.mpr e2
theorem tl_ob : tl (Str.ofString "{") = [123] := by decide +kernel
theorem tl_cb : tl (Str.ofString "}") = [125] := by decide +kernel
theorem tl_os : tl (Str.ofString "[") = [91] := by decide +kernel
theorem tl_cs : tl (Str.ofString "]") = [93] := by decide +kernel
theorem tl_at : tl (Str.ofString "@") = [64] := by decide +kernel
theorem tl_nu : tl (Str.ofString "#") = [35] := by decide +kernel
theorem tl_ti : tl (Str.ofString "~") = [126] := by decide +kernel
theorem tl_am : tl (Str.ofString "&") = [38] := by decide +kernel
theorem tl_up : tl (Str.ofString "^") = [94] := by decide +kernel
theorem in_brs (z : Str) : inV (.str z) brs = decide (tl z ∈ [[123], [125], [91], [93]]) := by
  unfold inV brs
  simp only [List.any_cons, List.any_nil, Bool.or_false, eqV, is_str tl_ob, is_str tl_cb, is_str tl_os, is_str tl_cs]
  simp only [List.mem_cons, List.not_mem_nil, or_false, Bool.decide_or]
theorem in_ahd (z : Str) : inV (.str z) ahd = decide (tl z ∈ [[64], [35], [126], [38]]) := by
  unfold inV ahd
  simp only [List.any_cons, List.any_nil, Bool.or_false, eqV, is_str tl_at, is_str tl_nu, is_str tl_ti, is_str tl_am]
  simp only [List.mem_cons, List.not_mem_nil, or_false, Bool.decide_or]
theorem cut1_tl {z : Str} {c : Nat} {r : List Nat} (h : tl z = c :: r) : tl (cutS z (some 1) none) = r := by
  have e : z.length = r.length + 1 := by rw [len_tl, h, List.length_cons]
  show ((z.cps.toList.drop (HT.sIx z.length 0 (some ((1 : Nat) : Int)))).take (HT.sIx z.length z.length none - HT.sIx z.length 0 (some ((1 : Nat) : Int)))) = r
  rw [HT.sIx_nat, HT.sIx_none, show min 1 z.length = 1 by omega, show z.cps.toList = c :: r from h, e]
  simp
theorem cut_ok {z : Str} (lo hi : Option Int) (h : z.length ≤ 1000000) : StrOk (.str (cutS z lo hi)) := fun y e => by
  cases e
  exact Nat.le_trans (cutS_length z lo hi) h
def spIsToken (K : PySem.W.Frag) : Sp := fun vs H Q _ => ∃ x T, vs = [x] ∧ Tyb K H x T ∧ StrOk x ∧ ∀ H', Same H H' → Q (.bl (isTokV x)) H'
theorem u_is_token {H : Hp} {Q : VK} {x : V} {T : String} (t : Tyb K H x T) (s : StrOk x) (q : ∀ H', Same H H' → Q (.bl (isTokV x)) H') : spIsToken K ([x] ++ []) H Q E0 := ⟨x, T, rfl, t, s, q⟩
theorem isTokV_no {H : Hp} {x : V} {T : String} (t : Tyb K H x T) (h : ¬ (T == "str") = true) : isTokV x = false := by
  cases t <;> first | rfl | exact absurd (by decide) h
theorem ok_is_token (F : Fn0 K mg "is_token" s_is_token ["thing"]) (m : Md mg) (g_BRACKETS : Gt K mg "BRACKETS" brs) (g_AHEAD_OF_NAMES : Gt K mg "AHEAD_OF_NAMES" ahd) (g_AHEAD_OF_WORDS : Gv mg "AHEAD_OF_WORDS" (.str "^"))
    (c_is_text : FnG P w K mg base 1 "is_text" ["thing"] (spIsText K)) (c_is_name : FnG P w K mg base 3 "is_name" ["thing"] (spIsA K sSmall 8)) (c_is_word : FnG P w K mg base 3 "is_word" ["thing"] (spIsA K sWord 12)) :
    FnG P w K mg base 4 "is_token" ["thing"] (spIsToken K) := by
  refine F.ok sc_is_token (fun vs H Q E h => ?_) (fun a cdv A outer s H vs Q E L hr h => ?_)
  · obtain ⟨x, T, rfl, _⟩ := h
    rfl
  have nd := sc_is_token.nd
  refine ⟨_, (pss_cons (ps_if (PW.pt (pw_or (pt_not (pt_truthL L (pe_callG c_is_text (hr.mono (by decide)) (by rfl) (pa_cons (pv 0) pa_nil)))) (pw_or1 (pt_cmpR (op_ L) (pv 0) pe_str (nomark _))))) (pss_one (ps_ret pe_bl)) pss_nil) (pss_cons (ps_if (pt_cmpR (op_ L) (pv 0) (pe_gtL L g_BRACKETS (by rfl)) rfl) (pss_one (ps_ret pe_bl)) pss_nil) (pss_cons (ps_if (pt_cmpR (op_ L) (pe_ix (oi L) (pv 0) pe_int (fun _ _ => rfl)) (pe_gtL L g_AHEAD_OF_NAMES (by rfl)) rfl) (pss_one (ps_ret (pe_callG c_is_name (hr.mono (by decide)) (by rfl) (pa_cons (pe_slice (osl L) (pv 0) (po_some pe_int) po_none) pa_nil)))) pss_nil) (pss_cons (ps_if (pt_cmpR (op_ L) (pe_ix (oi L) (pv 0) pe_int (fun _ _ => rfl)) (pe_gv g_AHEAD_OF_WORDS (by rfl)) (nomark _)) (pss_one (ps_ret (pe_callG c_is_word (hr.mono (by decide)) (by rfl) (pa_cons (pe_slice (osl L) (pv 0) (po_some pe_int) po_none) pa_nil)))) pss_nil) (pss_one (ps_ret (pe_callG c_is_word (hr.mono (by decide)) (by rfl) (pa_cons (pv 0) pa_nil)))))))), ?_⟩
  walk_at "cl"
  obtain ⟨x, T, rfl, t, hx, q⟩ := h
  walk_at "go"
  refine u_is_text t ?_
  walk_at "go"
  refine ite2 (fun hc => ?_) (fun hc => ?_)
  · -- no text
    walk_at "go"
    rw [isTokV_no t (by simpa using hc)] at q
    exact q H (Same.refl H)
  have eT : T = "str" := by simpa using hc
  subst eT
  obtain ⟨z, rfl⟩ := str_of t
  walk_at "go"
  have hz := hx z rfl
  have hl := line_of hz
  refine ite2 (fun h1 => ?_) (fun h1 => ?_)
  · have e : z = Str.ofString "" := by simpa using h1
    subst e
    walk_at "go"
    exact q H (Same.refl H)
  obtain ⟨c, r, e⟩ : ∃ c r, tl z = c :: r := by
    cases e : tl z with
    | nil => exact absurd (by simpa using (ext_tl e : z = Str.ofString "")) h1
    | cons c r => exact ⟨c, r, rfl⟩
  have et : isTok z = tokL (c :: r) := by
    unfold isTok
    rw [show z.cps.toList = c :: r from e]
  walk_at "go"
  refine r_gt fun b hb => ?_
  refine c_in (.inr (hb H)) rfl rfl ?_
  walk_at "go"
  have c0 : atI z.cps.toList 0 = some c := atI_nat (j := 0) (by rw [show z.cps.toList = c :: r from e]; rfl)
  rw [in_brs, e]
  have q2 : ∀ k : Bool, tokL (c :: r) = k → ∀ H', Same H H' → Q (.bl k) H' := fun k ek H' s => by
    have := q H' s
    rw [show isTokV (.str z) = tokL (c :: r) from et, ek] at this
    exact this
  refine ite2 (fun h2 => ?_) (fun h2 => ?_)
  · walk_at "go"
    refine q2 true ?_ _ (Same.refl H)
    simp at h2
    rw [tokL_cons]
    rw [if_pos]
    rcases h2 with h2 | h2 | h2 | h2 <;> simp [h2]
  have n2 : ¬ (r = [] ∧ c ∈ [123, 125, 91, 93]) := fun ⟨z1, z2⟩ => by
    subst z1
    simp at h2 z2
    omega
  walk_at "go"
  refine i_str hl c0 ?_
  refine r_gt fun b hb => ?_
  refine c_in (.inr (hb H)) rfl rfl ?_
  walk_at "go"
  rw [in_ahd, show tl (⟨#[c]⟩ : Str) = [c] from rfl]
  refine ite2 (fun h3 => ?_) (fun h3 => ?_)
  · walk_at "go"
    refine sl_s hl ?_
    refine u_isA (.str _) (cut_ok _ _ hz) fun H' s => ?_
    refine q2 _ ?_ H' s
    rw [tokL_cons]
    rw [if_neg n2, if_pos (by simpa using h3)]
    show _ = ofL _ _ (tl (cutS z (some 1) none))
    rw [cut1_tl e]
  walk_at "go"
  refine i_str hl c0 ?_
  walk_at "go"
  have n3 : ¬ c ∈ [64, 35, 126, 38] := by simpa using h3
  refine ite2 (fun h4 => ?_) (fun h4 => ?_)
  · have ec : c = 94 := by
      have h5 : (⟨#[c]⟩ : Str) = Str.ofString "^" := by simpa using h4
      have h6 := congrArg tl h5
      rw [tl_up] at h6
      exact (List.cons.inj h6).1
    walk_at "go"
    refine sl_s hl ?_
    refine u_isA (.str _) (cut_ok _ _ hz) fun H' s => ?_
    refine q2 _ ?_ H' s
    rw [tokL_cons]
    rw [if_neg n2, if_neg n3, if_pos ec]
    show _ = ofL _ _ (tl (cutS z (some 1) none))
    rw [cut1_tl e]
  · have ec : ¬ c = 94 := fun h => h4 (by
      subst h
      have : (⟨#[94]⟩ : Str) = Str.ofString "^" := ext_tl tl_up.symm
      rw [this]
      simp)
    walk_at "go"
    refine u_isA (.str _) hx fun H' s => ?_
    refine q2 _ ?_ H' s
    rw [tokL_cons]
    rw [if_neg n2, if_neg n3, if_neg ec, ← e]
    rfl
end
end Tk

set_option Elab.async false
set_option linter.all false
set_option maxRecDepth 100000
set_option maxHeartbeats 4000000
namespace Tk
open PySem PySem.Spec PyProof.Rows L2 Lay
open TL (tl ext_tl len_tl tl_append tl_mk mk_tl)
local macro_rules | `(tactic| walk_at "if") => `(tactic| refine ite2 (fun hc => ?_) (fun hc => ?_))
local macro_rules | `(tactic| walk_at "lk") => `(tactic| first | exact upd_same | assumption)
local macro_rules | `(tactic| walk_at "st") => `(tactic| first
  | with_reducible refine r_var rfl ?_ | with_reducible refine r_c ?_ | with_reducible refine r_op ?_ | with_reducible refine r_cons ?_ | with_reducible refine r_nil ?_ | with_reducible refine r_vals ?_
  | with_reducible refine r_cb ?_ | with_reducible refine r_tup ?_ | with_reducible refine r_lst ?_ | with_reducible refine r_call ?_ | with_reducible refine r_test ?_
  | with_reducible refine r_if ?_ | with_reducible refine r_not ?_ | with_reducible refine r_bm ?_ | with_reducible refine r_sl ?_ | with_reducible refine r_np ?_ | with_reducible refine r_part ?_
  | with_reducible refine r_seq ?_ | with_reducible refine r_asg ?_ | with_reducible refine r_name ?_ | with_reducible refine r_ifs ?_ | with_reducible refine r_ret ?_ | with_reducible refine r_next ?_ | with_reducible refine r_par ?_ | with_reducible refine r_par3 ?_ | with_reducible refine r_brk ?_ | with_reducible refine r_cnt ?_ | with_reducible refine r_sub ?_
  | with_reducible refine r_andT ?_ | with_reducible refine r_orT ?_ | with_reducible refine r_notT ?_ | with_reducible refine r_or ?_ | with_reducible refine r_and ?_ | with_reducible refine r_tB ?_ | with_reducible refine r_drop ?_ | with_reducible refine r_callN ?_ | with_reducible refine r_chain ?_
  | with_reducible refine r_for ?_ | with_reducible refine r_lc ?_ | with_reducible refine r_iseq ?_ | with_reducible refine r_rng1 ?_ | with_reducible refine r_enum ?_ | with_reducible refine r_yes ?_ | with_reducible refine r_tru ?_ | with_reducible refine r_gtup ?_ | with_reducible refine r_gcons ?_ | with_reducible refine r_gnil ?_
  | with_reducible refine b_add ?_ | with_reducible refine b_sub ?_ | (with_reducible refine b_mul (by unfold CMul; omega) ?_) | (with_reducible refine b_mod (by omega) ?_) | (with_reducible refine b_fdiv (by unfold CDiv; omega) ?_)
  | with_reducible refine c_lt ?_ | with_reducible refine c_le ?_ | with_reducible refine c_gt ?_ | with_reducible refine c_ge ?_ | with_reducible refine c_isN ?_ | with_reducible refine c_notN ?_ | with_reducible refine c_isB ?_ | with_reducible refine c_eq rfl ?_ | with_reducible refine c_ne rfl ?_
  | with_reducible refine c_insign ?_ | with_reducible refine k_int ?_ | with_reducible refine k_intb ?_ | with_reducible refine k_max ?_ | with_reducible refine k_min ?_
  | with_reducible refine ⟨_, rfl, ?_⟩
  | with_reducible refine ex_par ?_
  | with_reducible refine r_back ?_
  | with_reducible refine ex_par3 ?_
  | with_reducible refine ty_s ?_
  | with_reducible refine tru_b ?_
  | with_reducible refine iteT ?_ | with_reducible refine iteF ?_ | with_reducible refine itnT ?_ | with_reducible refine itnF ?_)
local macro_rules | `(tactic| walk_at "go") => `(tactic| repeat walk_at "st")
local macro_rules | `(tactic| walk_at "cl") => `(tactic| try dsimp only [cxOf, Cx.nox, Cx.wish])
/-! ### which tokens stand together -/
/-- one more token: cl the closing sign that is waited for, 0 for none; none where it can't stand -/
def stp (cl : Nat) (x : V) : Option Nat := match x with
  | .str z => if isTok z = true then
      (if cl ≠ 0 ∧ tl z = [cl] then some 0
       else if tl z ∈ [[123], [125], [91], [93]] then (if cl ≠ 0 ∨ tl z ∉ [[123], [91]] then none else some (if tl z = [123] then 125 else 93))
       else some cl)
    else none
  | _ => none
theorem stp_str (cl : Nat) (z : Str) : stp cl (.str z) = if isTok z = true then
      (if cl ≠ 0 ∧ tl z = [cl] then some 0
       else if tl z ∈ [[123], [125], [91], [93]] then (if cl ≠ 0 ∨ tl z ∉ [[123], [91]] then none else some (if tl z = [123] then 125 else 93))
       else some cl)
    else none := rfl
theorem stp_no {cl : Nat} {x : V} (h : isTokV x = false) : stp cl x = none := by
  cases x with
  | str z =>
    rw [stp_str, if_neg]
    rw [show isTok z = false from h]
    exact Bool.false_ne_true
  | _ => rfl
def scan : Nat → Nat → List V → Sum Nat Nat
  | _, cl, [] => .inr cl
  | i, cl, x :: r => match stp cl x with
    | none => .inl i
    | some c => scan (i + 1) c r
def wrongV (xs : List V) : V := match scan 0 0 xs with
  | .inl i => .int i
  | .inr cl => if cl ≠ 0 ∨ 40 < xs.length then .int xs.length else .non
def clS (cl : Nat) : Str := if cl = 0 then Str.ofString "" else if cl = 125 then Str.ofString "}" else Str.ofString "]"
theorem scan_end {xs : List V} {i cl : Nat} (h : scan i cl (xs.drop i) = scan 0 0 xs) (hi : xs.length ≤ i) : scan 0 0 xs = .inr cl := by
  rw [List.drop_eq_nil_of_le hi] at h
  exact h.symm
theorem scan_next {xs : List V} {i cl : Nat} {x : V} (h : scan i cl (xs.drop i) = scan 0 0 xs) (hx : xs[i]? = some x) : (match stp cl x with | none => .inl i | some c => scan (i + 1) c (xs.drop (i + 1))) = scan 0 0 xs := by
  obtain ⟨hl, rfl⟩ := List.getElem?_eq_some_iff.mp hx
  rw [List.drop_eq_getElem_cons hl] at h
  exact h
def TupOk (K : PySem.W.Frag) (H : Hp) (xs : List V) : Prop := ∀ x ∈ xs, (∃ T, Tyb K H x T) ∧ StrOk x
theorem Tyb.same {K : PySem.W.Frag} {H H' : Hp} {x : V} {T : String} (s : Same H H') (t : Tyb K H x T) : Tyb K H' x T := by
  cases t with
  | non => exact .non
  | bl b => exact .bl b
  | int i => exact .int i
  | str z => exact .str z
  | lst e => exact .lst (s.seq e)
  | tup e => exact .tup (Same.sqt s e)
  | dic e => exact .dic (s _ _ e)
  | own e c => exact .own (s _ _ e) c
theorem TupOk.same {K : PySem.W.Frag} {H H' : Hp} {xs : List V} (s : Same H H') (h : TupOk K H xs) : TupOk K H' xs := fun x hx => by
  obtain ⟨⟨T, t⟩, o⟩ := h x hx
  exact ⟨⟨T, Tyb.same s t⟩, o⟩
def spWrong (K : PySem.W.Frag) : Sp := fun vs H Q _ => ∃ a xs, vs = [.ref a] ∧ SqT K H a xs ∧ TupOk K H xs ∧ ∀ H', Same H H' → Q (wrongV xs) H'
theorem u_wrong {K : PySem.W.Frag} {H : Hp} {Q : VK} {a : Addr} {xs : List V} (h : SqT K H a xs) (o : TupOk K H xs) (q : ∀ H', Same H H' → Q (wrongV xs) H') : spWrong K ([.ref a] ++ []) H Q E0 := ⟨a, xs, rfl, h, o, q⟩
abbrev s__wrong_place : Stmt := topS 28
theorem sc__wrong_place : FnScope ["tokens", "closing", "place", "token"] ["tokens"] (defScope s__wrong_place) := ⟨rfl, rfl, rfl, by decide +kernel, rfl, by decide +kernel, by decide +kernel⟩
abbrev s_is_tokens : Stmt := topS 24
theorem sc_is_tokens : FnScope ["thing", "plain", "token"] ["thing", "plain"] (defScope s_is_tokens) := ⟨rfl, rfl, rfl, by decide +kernel, rfl, by decide +kernel, by decide +kernel⟩
def prs : List (Str × V) := [("{", .str "}"), ("[", .str "]")]
def npr : List Str := ["}", "]"]
section
variable {P : Program} {w : World} {K : PySem.W.Frag} {mg : Str → Option Value} {base : Heap} {a : Addr} {fd : FuncData}
theorem ok__wrong_place (F : Fn0 K mg "_wrong_place" s__wrong_place ["tokens"]) (m : Md mg) (g_BRACKETS : Gt K mg "BRACKETS" brs) (g_PAIRS : Gd K w mg "PAIRS" prs npr) (g_MOST_TOKENS : Gv mg "MOST_TOKENS" (.int 40))
    (c_is_token : FnG P w K mg base 4 "is_token" ["thing"] (spIsToken K)) : FnG P w K mg base 5 "_wrong_place" ["tokens"] (spWrong K) := by
  refine F.ok sc__wrong_place (fun vs H Q E h => ?_) (fun a cdv A outer s H vs Q E L hr h => ?_)
  · obtain ⟨a, xs, rfl, _⟩ := h
    rfl
  have nd := sc__wrong_place.nd
  refine ⟨_, (pss_cons (ps_set (i := 1) nd rfl (.inl rfl) pe_str) (pss_cons (ps_for PassesOwn.never rfl (pi_enumL L (by rfl) m.enumerate_ (pa_cons (pv 0) pa_nil)) (pg_tupL L (pgs_cons (pg_name (i := 2) nd rfl (.inl rfl)) (pgs_cons (pg_name (i := 3) nd rfl (.inl rfl)) pgs_nil))) (pss_cons (ps_if (pt_not (pt_truthL L (pe_callG c_is_token (hr.mono (by decide)) (by rfl) (pa_cons (pv 3) pa_nil)))) (pss_one (ps_ret (pv 2))) pss_nil) (pss_one (ps_if (pt_cmpR (op_ L) (pv 3) (pv 1) (nomark _)) (pss_one (ps_set (i := 1) nd rfl (.inl rfl) pe_str)) (pss_one (ps_if (pt_cmpR (op_ L) (pv 3) (pe_gtL L g_BRACKETS (by rfl)) rfl) (pss_cons (ps_if (PW.pt (pw_or (pt_truthL L (pv 1)) (pw_or1 (pt_cmpR (op_ L) (pv 3) (pe_gdL L g_PAIRS (by rfl)) rfl)))) (pss_one (ps_ret (pv 2))) pss_nil) (pss_one (ps_set (i := 1) nd rfl (.inl rfl) (pe_ix (oi L) (pe_gdL L g_PAIRS (by rfl)) (pv 3) (fun _ _ => rfl))))) pss_nil)))))) (pss_cons (ps_if (PW.pt (pw_or (pt_truthL L (pv 1)) (pw_or1 (pt_cmpR (op_ L) (pe_callB (oc L) (by rfl) m.len_ bt_len (pa_cons (pv 0) pa_nil)) (pe_gv g_MOST_TOKENS (by rfl)) (nomark _))))) (pss_one (ps_ret (pe_callB (oc L) (by rfl) m.len_ bt_len (pa_cons (pv 0) pa_nil)))) pss_nil) (pss_one (ps_ret pe_non))))), ?_⟩
  walk_at "cl"
  obtain ⟨a, xs, rfl, hS, hO, q⟩ := h
  walk_at "go"
  refine ⟨a, xs, rfl, .inr ⟨hS, ?_⟩⟩
  refine fo_it walk_enumT (fun i σ H' => ∃ cl v2 v3, σ = [some (.ref a), some (.str (clS cl)), v2, v3] ∧ Same H H' ∧ scan i cl (xs.drop i) = scan 0 0 xs ∧ (cl = 0 ∨ cl = 125 ∨ cl = 93)) ⟨0, none, none, rfl, Same.refl H, rfl, .inl rfl⟩
    (fun i σ H' _ ⟨_, _, _, _, sm, _⟩ => Same.sqt sm hS) (fun i v σ H1 H' hi hP hY => ?_) (fun σ H1 hP => ?_)
  · obtain ⟨cl, v2, v3, rfl, sm, hsc, hcl⟩ := hP
    obtain ⟨T, x0, x, rfl, hT, rfl, e1, hx⟩ := hY
    cases e1
    have sm2 : Same H (upd H1 T (.tup [.int (i : Nat), x])) := sm.trans (Same.new hT)
    obtain ⟨⟨U, ty⟩, ok⟩ := (hO.same sm2) x (List.mem_of_getElem? hx)
    have nx := scan_next hsc hx
    walk_at "go"
    refine ⟨T, [.int (i : Nat), x], rfl, SqT.of upd_same, rfl, ?_⟩
    walk_at "go"
    refine u_is_token ty ok fun H2 sm3 => ?_
    have sm4 := sm2.trans sm3
    walk_at "go"
    refine ite2 (fun h1 => ?_) (fun h1 => ?_)
    · -- no token
      have e : stp cl x = none := stp_no (by simpa using h1)
      rw [e] at nx
      have e2 : wrongV xs = .int i := by
        unfold wrongV
        rw [← nx]
      walk_at "go"
      rw [e2] at q
      exact q H2 sm4
    obtain ⟨z, rfl⟩ : ∃ z, x = .str z := by
      cases x <;> first | exact ⟨_, rfl⟩ | exact absurd rfl h1
    have tk : isTok z = true := by
      have : isTokV (.str z) = true := by simpa using h1
      exact this
    have ne : tl z ≠ [] := fun e => by
      unfold isTok at tk
      rw [show z.cps.toList = [] from e] at tk
      exact Bool.false_ne_true tk
    rw [stp_str, if_pos tk] at nx
    have ln : (clS cl).length ≤ sizeLine := by
      rcases hcl with rfl | rfl | rfl <;> exact line_of (by decide +kernel)
    have ez : decide ((clS cl).length ≠ 0) = decide (cl ≠ 0) := by
      rcases hcl with rfl | rfl | rfl <;> decide +kernel
    have tc : tl (clS cl) = if cl = 0 then [] else [cl] := by
      rcases hcl with rfl | rfl | rfl <;> decide +kernel
    walk_at "go"
    refine ite2 (fun h2 => ?_) (fun h2 => ?_)
    · -- it closes
      have ez : z = clS cl := by simpa using h2
      have tz : tl z = if cl = 0 then [] else [cl] := by rw [ez, tc]
      have c0 : cl ≠ 0 := fun h => ne (by rw [tz, if_pos h])
      rw [if_neg c0] at tz
      rw [if_pos ⟨c0, tz⟩] at nx
      walk_at "go"
      exact ⟨0, _, _, rfl, sm4, nx, .inl rfl⟩
    have n2 : ¬ (cl ≠ 0 ∧ tl z = [cl]) := fun ⟨c0, tz⟩ => h2 (by
      rw [if_neg c0] at tc
      rw [ext_tl (tz.trans tc.symm)]
      simp)
    rw [if_neg n2] at nx
    walk_at "go"
    refine r_gt fun b hb => ?_
    refine c_in (.inr (hb H2)) rfl rfl ?_
    rw [in_brs]
    walk_at "go"
    refine ite2 (fun h3 => ?_) (fun h3 => ?_)
    · have m3 : tl z ∈ [[123], [125], [91], [93]] := by simpa using h3
      rw [if_pos m3] at nx
      walk_at "go"
      refine tru_s ln ?_
      rw [ez]
      have wr : (cl ≠ 0 ∨ tl z ∉ [[123], [91]]) → Q (.int i) H2 := fun h => by
        rw [if_pos h] at nx
        have := q H2 sm4
        unfold wrongV at this
        rw [← nx] at this
        exact this
      refine ite2 (fun h4 => ?_) (fun h4 => ?_)
      · walk_at "go"
        exact wr (.inl (by simpa using h4))
      · walk_at "go"
        refine r_gd fun d hd hn => ?_
        have c0 : cl = 0 := by simpa using h4
        have cs : tl z = [123] ∨ tl z = [125] ∨ tl z = [91] ∨ tl z = [93] := by simpa using m3
        rcases cs with e | e | e | e
        · have ze : z = Str.ofString "{" := ext_tl (e.trans tl_ob.symm)
          subst ze
          refine c_notinkd (v := .str "}") hd (by simp [prs]) ?_
          walk_at "go"
          refine r_gd fun d hd hn => ?_
          walk_at "go"
          refine i_kd (v := .str "}") hd (by simp [prs]) ?_
          walk_at "go"
          rw [if_neg (by rw [e]; simp [c0]), e, if_pos rfl] at nx
          exact ⟨125, _, _, rfl, sm4, nx, .inr (.inl rfl)⟩
        · have ze : z = Str.ofString "}" := ext_tl (e.trans tl_cb.symm)
          subst ze
          refine c_notinkdT hd (hn _ (by simp [npr])) ?_
          walk_at "go"
          exact wr (.inr (by rw [e]; decide))
        · have ze : z = Str.ofString "[" := ext_tl (e.trans tl_os.symm)
          subst ze
          refine c_notinkd (v := .str "]") hd (by simp [prs]) ?_
          walk_at "go"
          refine r_gd fun d hd hn => ?_
          walk_at "go"
          refine i_kd (v := .str "]") hd (by simp [prs]) ?_
          walk_at "go"
          rw [if_neg (by rw [e]; simp [c0]), e, if_neg (by decide)] at nx
          exact ⟨93, _, _, rfl, sm4, nx, .inr (.inr rfl)⟩
        · have ze : z = Str.ofString "]" := ext_tl (e.trans tl_cs.symm)
          subst ze
          refine c_notinkdT hd (hn _ (by simp [npr])) ?_
          walk_at "go"
          exact wr (.inr (by rw [e]; decide))
    · have m3 : tl z ∉ [[123], [125], [91], [93]] := by simpa using h3
      rw [if_neg m3] at nx
      walk_at "go"
      exact ⟨cl, _, _, rfl, sm4, nx, hcl⟩
  · obtain ⟨cl, v2, v3, rfl, sm, hsc, hcl⟩ := hP
    have fin := scan_end hsc (Nat.le_refl _)
    have ln : (clS cl).length ≤ sizeLine := by
      rcases hcl with rfl | rfl | rfl <;> exact line_of (by decide +kernel)
    have ez : decide ((clS cl).length ≠ 0) = decide (cl ≠ 0) := by
      rcases hcl with rfl | rfl | rfl <;> decide +kernel
    walk_at "go"
    refine tru_s ln ?_
    rw [ez]
    refine ite2 (fun h1 => ?_) (fun h1 => ?_)
    · walk_at "go"
      refine k_lenl (.inr (Same.sqt sm hS)) ?_
      have := q H1 sm
      unfold wrongV at this
      rw [fin] at this
      simp only at this
      rw [if_pos (.inl (by simpa using h1))] at this
      exact this
    · walk_at "go"
      refine k_lenl (.inr (Same.sqt sm hS)) ?_
      walk_at "go"
      have := q H1 sm
      unfold wrongV at this
      rw [fin] at this
      simp only at this
      have c0 : ¬ cl ≠ 0 := by simpa using h1
      refine ite2 (fun h2 => ?_) (fun h2 => ?_)
      · walk_at "go"
        refine k_lenl (.inr (Same.sqt sm hS)) ?_
        rw [if_pos (.inr (by simp at h2; omega))] at this
        exact this
      · walk_at "go"
        rw [if_neg (fun h => h.elim c0 (by simp at h2; omega))] at this
        exact this
def stS (zs : List Str) : List V := zs.map V.str
theorem TupOk.stS {H : Hp} {zs : List Str} (h : ∀ z ∈ zs, z.length ≤ 1000000) : TupOk K H (stS zs) := fun x hx => by
  obtain ⟨z, hz, rfl⟩ := List.mem_map.mp hx
  exact ⟨⟨_, .str z⟩, fun y e => by
    cases e
    exact h z hz⟩
/-- so many signs at most, together -/
def Small (zs : List Str) : Prop := zs.length ≤ 1000 ∧ ∀ z ∈ zs, z.length ≤ 1000
theorem Small.sum {zs : List Str} (h : Small zs) : (zs.map (·.length)).sum + zs.length * 1 ≤ 16777216 := by
  have : ∀ zs : List Str, (∀ z ∈ zs, z.length ≤ 1000) → (zs.map (·.length)).sum ≤ zs.length * 1000 := fun zs => by
    induction zs with
    | nil => intro _; simp
    | cons z r ih =>
      intro h
      have h1 := h z List.mem_cons_self
      have h2 := ih fun y hy => h y (List.mem_cons_of_mem _ hy)
      simp only [List.map_cons, List.sum_cons, List.length_cons]
      omega
  have h2 := this zs h.2
  have h1 := h.1
  omega
theorem scan_all : ∀ {xs : List V} {i cl c : Nat}, scan i cl xs = .inr c → ∀ x ∈ xs, ∃ z, x = .str z ∧ isTok z = true
  | [], _, _, _, _ => fun _ h => nomatch h
  | x :: r, i, cl, c, h => by
    have e : scan i cl (x :: r) = match stp cl x with | none => .inl i | some c => scan (i + 1) c r := rfl
    rw [e] at h
    cases es : stp cl x with
    | none =>
      rw [es] at h
      cases h
    | some c2 =>
      rw [es] at h
      intro y hy
      rcases List.mem_cons.mp hy with rfl | hy
      · cases y with
        | str z =>
          refine ⟨z, rfl, ?_⟩
          rw [stp_str] at es
          by_cases t : isTok z = true
          · exact t
          · rw [if_neg t] at es
            cases es
        | _ => cases es
      · exact scan_all h y hy
theorem toks_of {xs : List V} (h : wrongV xs = .non) : ∀ x ∈ xs, ∃ z, x = .str z ∧ isTok z = true := by
  unfold wrongV at h
  split at h
  · cases h
  · rename_i cl e
    exact scan_all e
def toksV (xs : List V) (plain : Bool) : Bool := decide (wrongV xs = .non) && (!plain || !xs.any fun y => inV y brs)
def spIsTokens (K : PySem.W.Frag) : Sp := fun vs H Q _ => ∃ x T plain, vs = [x, .bl plain] ∧ Tyb K H x T ∧
  ((T ≠ "tuple" ∧ ∀ H', Same H H' → Q (.bl false) H') ∨ (T = "tuple" ∧ ∃ a xs, x = .ref a ∧ SqT K H a xs ∧ TupOk K H xs ∧ ∀ H', Same H H' → Q (.bl (toksV xs plain)) H'))
theorem ok_is_tokens (F : Fun K "is_tokens" "is_tokens" s_is_tokens a fd) (m : Md mg) (g_BRACKETS : Gt K mg "BRACKETS" brs) (c_is_tuple : FnG P w K mg base 1 "is_tuple" ["thing"] (spIsTuple K)) (c__wrong_place : FnG P w K mg base 5 "_wrong_place" ["tokens"] (spWrong K)) :
    FnOk P w K mg base CX0 6 a fd ["thing", "plain"] (spIsTokens K) := by
  refine F.ok sc_is_tokens (fun vs H Q E h => ?_) (fun cdv A outer s H vs Q E hr h => ?_)
  · obtain ⟨x, T, pl, rfl, _⟩ := h
    rfl
  have nd := sc_is_tokens.nd
  have L : LX P w K (cxOf CX0 P w K mg base ["thing", "plain", "token"] "is_tokens" (defScope s_is_tokens) a cdv A outer s H E).nox := ⟨rfl, rfl, rfl, rfl, hr.units⟩
  refine ⟨_, (pss_cons (ps_if (PW.pt (pw_or (pt_not (pt_truthL L (pe_callG c_is_tuple (hr.mono (by decide)) (by rfl) (pa_cons (pv 0) pa_nil)))) (pw_or1 (pt_cmpR (op_ L) (pe_callG c__wrong_place (hr.mono (by decide)) (by rfl) (pa_cons (pv 0) pa_nil)) pe_non (nomark _))))) (pss_one (ps_ret pe_bl)) pss_nil) (pss_one (ps_ret (pe_orL L (pe_notL L (pv 1)) (pe_one (pe_notL L (pe_callB (oc L) (by rfl) m.any_ bt_any (pa_cons (pe_lc (own := [("token", 2)]) rfl nd (pi_seqL L (pv 0)) (blkOk_by (own := [("token", 2)]) (N := ["thing", "plain", "token"]) (sc := defScope s_is_tokens) (by decide +kernel)) (fun _ _ _ _ _ => (pg_name (i := 2) nd rfl (.inl rfl))) (fun _ _ _ _ _ => inT L.b pts_nil) (fun _ _ _ _ _ => inE L.b (pe_cmpR (op_ L.b) (pv 2) (pe_gtL L.b g_BRACKETS (by rfl)) rfl))) pa_nil)))))))), ?_⟩
  obtain ⟨x, T, pl, rfl, t, h⟩ := h
  walk_at "go"
  refine u_is_tuple t ?_
  walk_at "go"
  rcases h with ⟨hT, q⟩ | ⟨rfl, b, xs, rfl, hS, hO, q⟩
  · have e : (T == "tuple") = false := beq_eq_false_iff_ne.mpr hT
    rw [e]
    walk_at "go"
    exact q H (Same.refl H)
  rw [show ("tuple" == "tuple") = true from rfl]
  walk_at "go"
  refine u_wrong hS hO fun H1 s1 => ?_
  walk_at "go"
  refine ite2 (fun h => ?_) (fun h => ?_)
  · walk_at "go"
    have := q H1 s1
    unfold toksV at this
    rw [decide_eq_false (by simpa using h), Bool.false_and] at this
    exact this
  have e2 : wrongV xs = .non := by simpa using h
  have q2 := fun H' s => q H' (s1.trans s)
  unfold toksV at q2
  rw [decide_eq_true e2, Bool.true_and] at q2
  walk_at "go"
  refine ite2 (fun h => ?_) (fun h => ?_)
  · rw [h, Bool.true_or] at q2
    rw [h]
    exact q2 H1 (Same.refl _)
  have hp : pl = true := by simpa using h
  subst hp
  have tk := toks_of e2
  have hln : xs.length ≤ 40 := by
    unfold wrongV at e2
    split at e2
    · cases e2
    · split at e2
      · cases e2
      · rename_i h
        exact Nat.le_of_not_lt fun z => h (.inr z)
  walk_at "go"
  refine .inr (.inl ⟨b, xs, rfl, Same.sqt s1 hS, fun D hD => ?_⟩)
  refine lc_pureL xs .non walk_tup (fun _ => true) (fun y => .bl (inV y brs)) (by rw [sizeLine_eq]; omega) hD (fun H' s => Same.sqt (s1.trans s) hS) (fun i x y H' H'' hi sm hy C1 C0 h1 h0 => ?_) (fun H' sm hd => ?_)
  · obtain ⟨rfl, hy2⟩ := hy
    cases hi.symm.trans hy2
    obtain ⟨z, rfl, _⟩ := tk x (List.mem_of_getElem? hi)
    walk_at "go"
    refine ⟨rfl, ?_⟩
    walk_at "go"
    refine r_gt fun c hc => ?_
    refine c_in (.inr (hc _)) rfl rfl ?_
    walk_at "go"
    exact h1 rfl _ (Same.refl _)
  · rw [filter_yes, ← Function.comp_def V.bl, ← List.map_map] at hd
    walk_at "go"
    refine k_any (SqL.of hd) ?_
    walk_at "go"
    have := q2 H' sm
    rw [show (!true) = false from rfl, Bool.false_or] at this
    rw [List.any_map]
    exact this
end
end Tk

set_option Elab.async false
set_option linter.all false
set_option maxRecDepth 100000
set_option maxHeartbeats 4000000
namespace Tk
open PySem PySem.Spec PyProof.Rows L2 Lay
open TL (tl ext_tl len_tl tl_append tl_mk mk_tl)
local macro_rules | `(tactic| walk_at "if") => `(tactic| refine ite2 (fun hc => ?_) (fun hc => ?_))
local macro_rules | `(tactic| walk_at "lk") => `(tactic| first | exact upd_same | assumption)
local macro_rules | `(tactic| walk_at "st") => `(tactic| first
  | with_reducible refine r_var rfl ?_ | with_reducible refine r_c ?_ | with_reducible refine r_op ?_ | with_reducible refine r_cons ?_ | with_reducible refine r_nil ?_ | with_reducible refine r_vals ?_
  | with_reducible refine r_cb ?_ | with_reducible refine r_tup ?_ | with_reducible refine r_lst ?_ | with_reducible refine r_call ?_ | with_reducible refine r_test ?_
  | with_reducible refine r_if ?_ | with_reducible refine r_not ?_ | with_reducible refine r_bm ?_ | with_reducible refine r_sl ?_ | with_reducible refine r_np ?_ | with_reducible refine r_part ?_
  | with_reducible refine r_seq ?_ | with_reducible refine r_asg ?_ | with_reducible refine r_name ?_ | with_reducible refine r_ifs ?_ | with_reducible refine r_ret ?_ | with_reducible refine r_next ?_ | with_reducible refine r_par ?_ | with_reducible refine r_par3 ?_ | with_reducible refine r_brk ?_ | with_reducible refine r_cnt ?_ | with_reducible refine r_sub ?_
  | with_reducible refine r_andT ?_ | with_reducible refine r_orT ?_ | with_reducible refine r_notT ?_ | with_reducible refine r_or ?_ | with_reducible refine r_and ?_ | with_reducible refine r_tB ?_ | with_reducible refine r_drop ?_ | with_reducible refine r_callN ?_ | with_reducible refine r_chain ?_
  | with_reducible refine r_for ?_ | with_reducible refine r_lc ?_ | with_reducible refine r_iseq ?_ | with_reducible refine r_rng1 ?_ | with_reducible refine r_enum ?_ | with_reducible refine r_yes ?_ | with_reducible refine r_tru ?_ | with_reducible refine r_gtup ?_ | with_reducible refine r_gcons ?_ | with_reducible refine r_gnil ?_
  | with_reducible refine b_add ?_ | with_reducible refine b_sub ?_ | (with_reducible refine b_mul (by unfold CMul; omega) ?_) | (with_reducible refine b_mod (by omega) ?_) | (with_reducible refine b_fdiv (by unfold CDiv; omega) ?_)
  | with_reducible refine c_lt ?_ | with_reducible refine c_le ?_ | with_reducible refine c_gt ?_ | with_reducible refine c_ge ?_ | with_reducible refine c_isN ?_ | with_reducible refine c_notN ?_ | with_reducible refine c_isB ?_ | with_reducible refine c_eq rfl ?_ | with_reducible refine c_ne rfl ?_
  | with_reducible refine c_insign ?_ | with_reducible refine k_int ?_ | with_reducible refine k_intb ?_ | with_reducible refine k_max ?_ | with_reducible refine k_min ?_
  | with_reducible refine ⟨_, rfl, ?_⟩
  | with_reducible refine ex_par ?_
  | with_reducible refine r_back ?_
  | with_reducible refine ex_par3 ?_
  | with_reducible refine ty_s ?_
  | with_reducible refine tru_b ?_
  | with_reducible refine iteT ?_ | with_reducible refine iteF ?_ | with_reducible refine itnT ?_ | with_reducible refine itnF ?_)
local macro_rules | `(tactic| walk_at "go") => `(tactic| repeat walk_at "st")
local macro_rules | `(tactic| walk_at "cl") => `(tactic| try dsimp only [cxOf, Cx.nox, Cx.wish])
/-! ### parts of a row -/
abbrev s_is_whole : Stmt := topS 9
theorem sc_is_whole : FnScope ["thing", "least", "most"] ["thing", "least", "most"] (defScope s_is_whole) := ⟨rfl, rfl, rfl, by decide +kernel, rfl, by decide +kernel, by decide +kernel⟩
abbrev s_is_bare : Stmt := topS 25
theorem sc_is_bare : FnScope ["thing", "token"] ["thing"] (defScope s_is_bare) := ⟨rfl, rfl, rfl, by decide +kernel, rfl, by decide +kernel, by decide +kernel⟩
abbrev s_is_style : Stmt := topS 34
theorem sc_is_style : FnScope ["thing"] ["thing"] (defScope s_is_style) := ⟨rfl, rfl, rfl, by decide +kernel, rfl, by decide +kernel, by decide +kernel⟩
abbrev s__is_part : Stmt := topS 33
theorem sc__is_part : FnScope ["thing", "form"] ["thing", "form"] (defScope s__is_part) := ⟨rfl, rfl, rfl, by decide +kernel, rfl, by decide +kernel, by decide +kernel⟩
abbrev s__counts_within : Stmt := topS 35
theorem sc__counts_within : FnScope ["kind", "within"] ["kind", "within"] (defScope s__counts_within) := ⟨rfl, rfl, rfl, by decide +kernel, rfl, by decide +kernel, by decide +kernel⟩
def isWh (a b : Int) : V → Bool
  | .int i => decide (a ≤ i) && decide (i ≤ b)
  | _ => false
/-- any thing; c: what it holds where it is a tuple -/
def Th (K : PySem.W.Frag) (H : Hp) (x : V) (c : Option (List V)) : Prop := ∃ T, Tyb K H x T ∧ StrOk x ∧ ((T ≠ "tuple" ∧ c = none) ∨ (T = "tuple" ∧ ∃ a xs, x = .ref a ∧ c = some xs ∧ SqT K H a xs ∧ TupOk K H xs))
theorem Th.same {K : PySem.W.Frag} {H H' : Hp} {x : V} {c : Option (List V)} (s : Same H H') (h : Th K H x c) : Th K H' x c := by
  obtain ⟨T, t, o, h⟩ := h
  exact ⟨T, Tyb.same s t, o, h.imp id fun ⟨e, a, xs, e1, e2, e3, e4⟩ => ⟨e, a, xs, e1, e2, Same.sqt s e3, e4.same s⟩⟩
def tksO (pl : Bool) : Option (List V) → Bool
  | none => false
  | some xs => toksV xs pl
def headIn : V → Bool
  | .str z => (match tl z with | c :: _ => decide (c = 126 ∨ c = 38) | [] => false)
  | _ => false
def bareO : Option (List V) → Bool
  | none => false
  | some xs => toksV xs true && !xs.any headIn
inductive Fm where
  | num (a b : Int)
  | cho (zs : List Str)
  | nam
  | sty
  | bar
  | tok
  | pla
def fmV : Fm → List V
  | .num a b => [.str "number", .int a, .int b]
  | .cho zs => .str "choice" :: stS zs
  | .nam => [.str "name"]
  | .sty => [.str "style"]
  | .bar => [.str "bare"]
  | .tok => [.str "tokens"]
  | .pla => [.str "plain"]
def partV (f : Fm) (x : V) (c : Option (List V)) : Bool := match f with
  | .num a b => isWh a b x
  | .cho zs => inV x (stS zs)
  | .nam => isOfV sSmall 8 x
  | .sty => isOfV sSmall 8 x || decide (x = .str "-")
  | .bar => bareO c
  | .tok => tksO false c
  | .pla => tksO true c
def spWhole (K : PySem.W.Frag) : Sp := fun vs H Q _ => ∃ x T a b, vs = [x, .int a, .int b] ∧ Tyb K H x T ∧ Q (.bl (isWh a b x)) H
def spBare (K : PySem.W.Frag) : Sp := fun vs H Q _ => ∃ x c, vs = [x] ∧ Th K H x c ∧ ∀ H', Same H H' → Q (.bl (bareO c)) H'
def spPart (K : PySem.W.Frag) : Sp := fun vs H Q _ => ∃ x c a f, vs = [x, .ref a] ∧ Th K H x c ∧ SqT K H a (fmV f) ∧ ∀ H', Same H H' → Q (.bl (partV f x c)) H'
def spStyle (K : PySem.W.Frag) : Sp := fun vs H Q _ => ∃ x T, vs = [x] ∧ Tyb K H x T ∧ StrOk x ∧ ∀ H', Same H H' → Q (.bl (partV .sty x none)) H'
def spCounts : Sp := fun vs H Q _ => ∃ (k : Str) (i : Int), vs = [.str k, .int i] ∧ Q (.bl (if k = Str.ofString "head" then decide (i > 0) else decide (k ≠ Str.ofString "item") || decide (i = 0))) H
section
variable {P : Program} {w : World} {K : PySem.W.Frag} {mg : Str → Option Value} {base : Heap} {H : Hp} {Q : VK} {x : V} {c : Option (List V)} {T : String}
theorem in_two (c : Nat) : inV (.str ⟨#[c]⟩) [.str (Str.ofString "~"), .str (Str.ofString "&")] = decide (c = 126 ∨ c = 38) := by
  unfold inV
  simp only [List.any_cons, List.any_nil, Bool.or_false, eqV, is_str tl_ti, is_str tl_am]
  rw [show tl (⟨#[c]⟩ : Str) = [c] from rfl]
  simp
theorem flat_strs : ∀ zs : List Str, (stS zs).all flatV = true
  | [] => rfl
  | _ :: r => flat_strs r
theorem in_no (t : Tyb K H x T) (h : ¬ (T == "str") = true) : ∀ zs : List Str, inV x (stS zs) = false
  | [] => rfl
  | z :: r => by
    show (eqV (.str z) x || inV x (stS r)) = false
    rw [in_no t h r, Bool.or_false]
    cases t <;> first | rfl | exact absurd (by decide) h
theorem u_whole {a b : Int} (t : Tyb K H x T) (q : Q (.bl (isWh a b x)) H) : spWhole K ([x, .int a, .int b] ++ []) H Q E0 := ⟨x, T, a, b, rfl, t, q⟩
theorem u_bare (t : Th K H x c) (q : ∀ H', Same H H' → Q (.bl (bareO c)) H') : spBare K ([x] ++ []) H Q E0 := ⟨x, c, rfl, t, q⟩
theorem u_tks {pl : Bool} (t : Th K H x c) (q : ∀ H', Same H H' → Q (.bl (tksO pl c)) H') : spIsTokens K [x, .bl pl] H Q E0 := by
  obtain ⟨T, t, o, ⟨h, rfl⟩ | ⟨e, a, xs, ex, rfl, h1, h2⟩⟩ := t
  · exact ⟨x, T, pl, rfl, t, .inl ⟨h, q⟩⟩
  · exact ⟨x, T, pl, rfl, t, .inr ⟨e, a, xs, ex, h1, h2, q⟩⟩
theorem int_of (t : Tyb K H x "int") : ∃ i, x = .int i := by
  generalize e : "int" = T at t
  cases t <;> first | exact ⟨_, rfl⟩ | exact absurd e (by decide)
theorem isWh_no {a b : Int} (t : Tyb K H x T) (h : ¬ (T == "int") = true) : isWh a b x = false := by
  cases t <;> first | rfl | exact absurd (by decide) h
theorem ok_is_whole (F : Fn0 K mg "is_whole" s_is_whole ["thing", "least", "most"]) (m : Md mg) : FnG P w K mg base 1 "is_whole" ["thing", "least", "most"] (spWhole K) := by
  refine F.ok sc_is_whole (fun vs H Q E h => ?_) (fun a cdv A outer s H vs Q E L hr h => ?_)
  · obtain ⟨x, T, a, b, rfl, _⟩ := h
    rfl
  have nd := sc_is_whole.nd
  refine ⟨_, (pss_one (ps_ret (pe_andL L (pe_cmpR (op_ L) (pe_callTy (oc L) (by rfl) m.type_ bt_type (pa_cons (pv 0) pa_nil)) (pe_bltn (v := .ty "int") (by rfl) m.int_ bt_int rfl) (nomark _)) (pe_one (pe_chain (op_ L) (op_ L) (pv 1) (pv 0) (pv 2)))))), ?_⟩
  walk_at "cl"
  obtain ⟨x, T, a, b, rfl, t, q⟩ := h
  walk_at "go"
  refine k_type t fun v hv => ?_
  walk_at "go"
  refine c_eqty hv TypeEq.meta_int rfl ?_
  walk_at "go"
  refine ite2 (fun hc => ?_) (fun hc => ?_)
  · obtain ⟨i, rfl⟩ := int_of (eq_of_beq hc ▸ t)
    walk_at "go"
    have q : Q (.bl (decide (a ≤ i) && decide (i ≤ b))) H := q
    refine ite2 (fun h1 => ?_) (fun h1 => ?_)
    · rw [h1, Bool.true_and] at q
      walk_at "go"
      exact q
    · rw [show decide (a ≤ i) = false by simpa using h1, Bool.false_and] at q
      first | exact q | (rw [show decide (a ≤ i) = false by simpa using h1]; exact q)
  · rw [isWh_no t hc] at q
    rw [show (T == "int") = false by simpa using hc]
    exact q
theorem ok_is_bare (F : Fn0 K mg "is_bare" s_is_bare ["thing"]) (m : Md mg) (c_is_tokens_1_plain : FnGK P w K mg base 6 "is_tokens" 1 ["plain"] (fun vs zs => vs ++ zs) (spIsTokens K)) : FnG P w K mg base 7 "is_bare" ["thing"] (spBare K) := by
  refine F.ok sc_is_bare (fun vs H Q E h => ?_) (fun a cdv A outer s H vs Q E L hr h => ?_)
  · obtain ⟨x, c, rfl, _⟩ := h
    rfl
  have nd := sc_is_bare.nd
  refine ⟨_, (pss_one (ps_ret (pe_andL L (pe_callKw c_is_tokens_1_plain (hr.mono (by decide)) (by rfl) (pa_cons (pv 0) pa_nil) (pk_cons pe_bl pk_nil)) (pe_one (pe_notL L (pe_callB (oc L) (by rfl) m.any_ bt_any (pa_cons (pe_lc (own := [("token", 1)]) rfl nd (pi_seqL L (pv 0)) (blkOk_by (own := [("token", 1)]) (N := ["thing", "token"]) (sc := defScope s_is_bare) (by decide +kernel)) (fun _ _ _ _ _ => (pg_name (i := 1) nd rfl (.inl rfl))) (fun _ _ _ _ _ => inT L.b pts_nil) (fun _ _ _ _ _ => inE L.b (pe_cmpR (op_ L.b) (pe_ix (oi L.b) (pv 1) pe_int (fun _ _ => rfl)) (pe_tup (pa_cons pe_str (pa_cons pe_str pa_nil))) rfl))) pa_nil))))))), ?_⟩
  obtain ⟨x, c, rfl, t, q⟩ := h
  walk_at "go"
  refine ⟨rfl, rfl, u_tks t fun H1 s1 => ?_⟩
  walk_at "go"
  refine ite2 (fun h => ?_) (fun h => ?_)
  · obtain ⟨T, ty, o, ⟨_, rfl⟩ | ⟨rfl, b, xs, rfl, rfl, hS, hO⟩⟩ := t
    · exact absurd h (by simp [tksO])
    have e2 : wrongV xs = .non := by
      have h' : toksV xs true = true := h
      unfold toksV at h'
      simpa using (Bool.and_eq_true_iff.mp h').1
    have tk := toks_of e2
    have hln : xs.length ≤ 40 := by
      unfold wrongV at e2
      split at e2
      · cases e2
      · split at e2
        · cases e2
        · omega
    have hS1 := Same.sqt s1 hS
    walk_at "go"
    refine .inr (.inl ⟨b, xs, rfl, hS1, fun D hD => ?_⟩)
    refine lc_pureL xs .non walk_tup (fun _ => true) (fun y => .bl (headIn y)) (by rw [sizeLine_eq]; omega) hD (fun H' s => Same.sqt s hS1) (fun i x y H' H'' hi sm hy C1 C0 h1 h0 => ?_) (fun H' sm hd => ?_)
    · obtain ⟨rfl, hy2⟩ := hy
      cases hi.symm.trans hy2
      obtain ⟨z, rfl, tz⟩ := tk x (List.mem_of_getElem? hi)
      obtain ⟨c0, r0, ez⟩ : ∃ c0 r0, tl z = c0 :: r0 := by
        cases e : tl z with
        | nil =>
          unfold isTok at tz
          rw [show z.cps.toList = tl z from rfl, e] at tz
          exact absurd tz Bool.false_ne_true
        | cons c r => exact ⟨c, r, rfl⟩
      walk_at "go"
      refine ⟨rfl, ?_⟩
      walk_at "go"
      have hl := line_of ((hO _ (List.mem_of_getElem? hi)).2 z rfl)
      refine i_str hl (c := c0) (by rw [show z.cps.toList = tl z from rfl, ez]; exact atI_nat (j := 0) rfl) ?_
      walk_at "go"
      refine ⟨sz1000 (by show 2 ≤ 1000; decide), fun g hg => ?_⟩
      refine c_in (.inr (SqT.of upd_same)) rfl rfl ?_
      rw [in_two, show decide (c0 = 126 ∨ c0 = 38) = headIn (.str z) from (by show _ = (match tl z with | c :: _ => decide (c = 126 ∨ c = 38) | [] => false); rw [ez])]
      exact h1 rfl _ (Same.new hg)
    · rw [filter_yes, ← Function.comp_def V.bl, ← List.map_map] at hd
      walk_at "go"
      refine k_any (SqL.of hd) ?_
      walk_at "go"
      have this : Q (.bl (toksV xs true && !xs.any headIn)) H' := q H' (s1.trans sm)
      rw [show toksV xs true = true from h, Bool.true_and] at this
      rw [List.any_map]
      exact this
  · walk_at "go"
    have e : tksO true c = false := by simpa using h
    have := q H1 s1
    rw [show bareO c = false by cases c with | none => rfl | some xs => exact (by rw [show toksV xs true = false from e]; rfl : (toksV xs true && !xs.any headIn) = false)] at this
    rw [e]
    exact this
theorem ok__counts_within (F : Fn0 K mg "_counts_within" s__counts_within ["kind", "within"]) (m : Md mg) : FnG P w K mg base 1 "_counts_within" ["kind", "within"] spCounts := by
  refine F.ok sc__counts_within (fun vs H Q E h => ?_) (fun a cdv A outer s H vs Q E L hr h => ?_)
  · obtain ⟨k, i, rfl, _⟩ := h
    rfl
  have nd := sc__counts_within.nd
  refine ⟨_, (pss_cons (ps_if (pt_cmpR (op_ L) (pv 0) pe_str (nomark _)) (pss_one (ps_ret (pe_cmpR (op_ L) (pv 1) pe_int (nomark _)))) pss_nil) (pss_one (ps_ret (pe_orL L (pe_cmpR (op_ L) (pv 0) pe_str (nomark _)) (pe_one (pe_cmpR (op_ L) (pv 1) pe_int (nomark _))))))), ?_⟩
  obtain ⟨k, i, rfl, q⟩ := h
  have eq : ∀ z : Str, decide (V.str k = V.str z) = decide (k = z) := fun z => decide_eq_decide.mpr ⟨V.str.inj, congrArg _⟩
  walk_at "go"
  rw [eq]
  refine ite2 (fun h => ?_) (fun h => ?_)
  · rw [if_pos (of_decide_eq_true h)] at q
    walk_at "go"
    exact q
  · rw [if_neg (by simpa using h)] at q
    walk_at "go"
    rw [eq]
    by_cases hi : k = Str.ofString "item"
    · rw [show decide (k ≠ Str.ofString "item") = false from decide_eq_false fun z => z hi, Bool.false_or] at q
      rw [decide_eq_true hi]
      walk_at "go"
      have e : decide (V.int i = V.int 0) = decide (i = 0) := decide_eq_decide.mpr ⟨V.int.inj, congrArg _⟩
      rw [e]
      exact q
    · rw [show decide (k ≠ Str.ofString "item") = true from decide_eq_true hi, Bool.true_or] at q
      rw [decide_eq_false hi]
      walk_at "go"
      exact q
theorem ok_is_style (F : Fn0 K mg "is_style" s_is_style ["thing"]) (m : Md mg) (c_is_text : FnG P w K mg base 1 "is_text" ["thing"] (spIsText K)) (c_is_name : FnG P w K mg base 3 "is_name" ["thing"] (spIsA K sSmall 8)) : FnG P w K mg base 4 "is_style" ["thing"] (spStyle K) := by
  refine F.ok sc_is_style (fun vs H Q E h => ?_) (fun a cdv A outer s H vs Q E L hr h => ?_)
  · obtain ⟨x, T, rfl, _⟩ := h
    rfl
  have nd := sc_is_style.nd
  refine ⟨_, (pss_one (ps_ret (pe_orL L (pe_callG c_is_name (hr.mono (by decide)) (by rfl) (pa_cons (pv 0) pa_nil)) (pe_one (pe_andL L (pe_callG c_is_text (hr.mono (by decide)) (by rfl) (pa_cons (pv 0) pa_nil)) (pe_one (pe_cmpR (op_ L) (pv 0) pe_str (nomark _)))))))), ?_⟩
  obtain ⟨x, T, rfl, ty, ok, q⟩ := h
  walk_at "go"
  refine u_isA ty ok fun H1 s1 => ?_
  walk_at "go"
  have q1 := fun H' s => q H' (s1.trans s)
  refine ite2 (fun h => ?_) (fun h => ?_)
  · have := q1 H1 (Same.refl _)
    rw [show partV .sty x none = true from by show (isOfV sSmall 8 x || _) = true; rw [h, Bool.true_or]] at this
    rw [h]
    exact this
  · have e : partV .sty x none = decide (x = .str (Str.ofString "-")) := by
      show (isOfV sSmall 8 x || _) = _
      rw [show isOfV sSmall 8 x = false by simpa using h, Bool.false_or]
    rw [e] at q1
    walk_at "go"
    refine u_is_text (Tyb.same s1 ty) ?_
    walk_at "go"
    refine ite2 (fun hv => ?_) (fun hv => ?_)
    · walk_at "go"
      obtain ⟨z, rfl⟩ := str_of (eq_of_beq hv ▸ ty)
      refine c_eq rfl ?_
      exact q1 _ (Same.refl _)
    · have n : ¬ x = .str (Str.ofString "-") := fun z => by
        subst z
        cases ty
        exact hv rfl
      have := q1 H1 (Same.refl _)
      rw [decide_eq_false n] at this
      rw [show (T == "str") = false by simpa using hv]
      exact this
theorem ok__is_part (F : Fn0 K mg "_is_part" s__is_part ["thing", "form"]) (m : Md mg) (c_is_whole : FnG P w K mg base 1 "is_whole" ["thing", "least", "most"] (spWhole K)) (c_is_text : FnG P w K mg base 1 "is_text" ["thing"] (spIsText K)) (c_is_name : FnG P w K mg base 3 "is_name" ["thing"] (spIsA K sSmall 8)) (c_is_style : FnG P w K mg base 4 "is_style" ["thing"] (spStyle K))
    (c_is_bare : FnG P w K mg base 7 "is_bare" ["thing"] (spBare K)) (c_is_tokens_1_plain : FnGK P w K mg base 6 "is_tokens" 1 ["plain"] (fun vs zs => vs ++ zs) (spIsTokens K)) : FnG P w K mg base 8 "_is_part" ["thing", "form"] (spPart K) := by
  refine F.ok sc__is_part (fun vs H Q E h => ?_) (fun a cdv A outer s H vs Q E L hr h => ?_)
  · obtain ⟨x, c, a, f, rfl, _⟩ := h
    rfl
  have nd := sc__is_part.nd
  refine ⟨_, (pss_cons (ps_if (pt_cmpR (op_ L) (pe_ix (oi L) (pv 1) pe_int (fun _ _ => rfl)) pe_str (nomark _)) (pss_one (ps_ret (pe_callG c_is_whole (hr.mono (by decide)) (by rfl) (pa_cons (pv 0) (pa_cons (pe_ix (oi L) (pv 1) pe_int (fun _ _ => rfl)) (pa_cons (pe_ix (oi L) (pv 1) pe_int (fun _ _ => rfl)) pa_nil)))))) pss_nil) (pss_cons (ps_if (pt_cmpR (op_ L) (pe_ix (oi L) (pv 1) pe_int (fun _ _ => rfl)) pe_str (nomark _)) (pss_one (ps_ret (pe_andL L (pe_callG c_is_text (hr.mono (by decide)) (by rfl) (pa_cons (pv 0) pa_nil)) (pe_one (pe_cmpR (op_ L) (pv 0) (pe_slice (osl L) (pv 1) (po_some pe_int) po_none) rfl))))) pss_nil) (pss_cons (ps_if (pt_cmpR (op_ L) (pe_ix (oi L) (pv 1) pe_int (fun _ _ => rfl)) pe_str (nomark _)) (pss_one (ps_ret (pe_callG c_is_name (hr.mono (by decide)) (by rfl) (pa_cons (pv 0) pa_nil)))) pss_nil) (pss_cons (ps_if (pt_cmpR (op_ L) (pe_ix (oi L) (pv 1) pe_int (fun _ _ => rfl)) pe_str (nomark _)) (pss_one (ps_ret (pe_callG c_is_style (hr.mono (by decide)) (by rfl) (pa_cons (pv 0) pa_nil)))) pss_nil) (pss_cons (ps_if (pt_cmpR (op_ L) (pe_ix (oi L) (pv 1) pe_int (fun _ _ => rfl)) pe_str (nomark _)) (pss_one (ps_ret (pe_callG c_is_bare (hr.mono (by decide)) (by rfl) (pa_cons (pv 0) pa_nil)))) pss_nil) (pss_one (ps_ret (pe_callKw c_is_tokens_1_plain (hr.mono (by decide)) (by rfl) (pa_cons (pv 0) pa_nil) (pk_cons (pe_cmpR (op_ L) (pe_ix (oi L) (pv 1) pe_int (fun _ _ => rfl)) pe_str (nomark _)) pk_nil))))))))), ?_⟩
  obtain ⟨x, c, a, f, rfl, t, hS, q⟩ := h
  have yes : ∀ {z y : Str} {p : Prop}, (tl z == tl y) = false → decide (V.str z = V.str y) = true → p := fun {z y p} e h => by
    have h2 := V.str.inj (of_decide_eq_true h)
    rw [h2] at e
    simp at e
  obtain ⟨T, ty, ok, hc⟩ := t
  have t : Th K H x c := ⟨T, ty, ok, hc⟩
  cases f with
  | num lo hi =>
    walk_at "go"
    refine i_tup hS rfl ?_
    walk_at "go"
    refine ite2 (fun _ => ?_) (fun h => absurd (by decide +kernel) h)
    walk_at "go"
    refine i_tup hS rfl ?_
    walk_at "go"
    refine i_tup hS rfl ?_
    walk_at "go"
    exact u_whole ty (q H (Same.refl _))
  | cho zs =>
    have i0 : atI (fmV (.cho zs)) 0 = some (.str (Str.ofString "choice")) := atI_nat (j := 0) rfl
    walk_at "go"
    refine i_tup hS i0 ?_
    walk_at "go"
    refine ite2 (fun h => absurd h (by decide +kernel)) (fun _ => ?_)
    walk_at "go"
    refine i_tup hS i0 ?_
    walk_at "go"
    refine ite2 (fun _ => ?_) (fun h => absurd (by decide +kernel) h)
    walk_at "go"
    refine u_is_text ty ?_
    walk_at "go"
    refine ite2 (fun hc => ?_) (fun hc => ?_)
    · obtain ⟨z, rfl⟩ := str_of (eq_of_beq hc ▸ ty)
      walk_at "go"
      refine sl_t hS fun b H1 s1 e1 => ?_
      rw [show cutV (fmV (.cho zs)) (some 1) none = stS zs from cutV_from _ 1] at e1
      refine c_in (.inr e1) rfl (flat_strs zs) ?_
      exact q H1 s1
    · have e : inV x (stS zs) = false := in_no ty hc zs
      have q1 := q H (Same.refl _)
      rw [show partV (.cho zs) x c = false from e] at q1
      rw [show (T == "str") = false by simpa using hc]
      exact q1
  | nam =>
    walk_at "go"
    refine i_tup hS rfl ?_
    walk_at "go"
    refine ite2 (fun h => absurd h (by decide +kernel)) (fun _ => ?_)
    walk_at "go"
    refine i_tup hS rfl ?_
    walk_at "go"
    refine ite2 (fun h => absurd h (by decide +kernel)) (fun _ => ?_)
    walk_at "go"
    refine i_tup hS rfl ?_
    walk_at "go"
    refine ite2 (fun _ => ?_) (fun h => absurd (by decide +kernel) h)
    walk_at "go"
    exact u_isA ty ok q
  | sty =>
    walk_at "go"
    refine i_tup hS rfl ?_
    walk_at "go"
    refine ite2 (fun h => absurd h (by decide +kernel)) (fun _ => ?_)
    walk_at "go"
    refine i_tup hS rfl ?_
    walk_at "go"
    refine ite2 (fun h => absurd h (by decide +kernel)) (fun _ => ?_)
    walk_at "go"
    refine i_tup hS rfl ?_
    walk_at "go"
    refine ite2 (fun h => absurd h (by decide +kernel)) (fun _ => ?_)
    walk_at "go"
    refine i_tup hS rfl ?_
    walk_at "go"
    refine ite2 (fun _ => ?_) (fun h => absurd (by decide +kernel) h)
    walk_at "go"
    exact ⟨x, T, rfl, ty, ok, q⟩
  | bar =>
    walk_at "go"
    refine i_tup hS rfl ?_
    walk_at "go"
    refine ite2 (fun h => absurd h (by decide +kernel)) (fun _ => ?_)
    walk_at "go"
    refine i_tup hS rfl ?_
    walk_at "go"
    refine ite2 (fun h => absurd h (by decide +kernel)) (fun _ => ?_)
    walk_at "go"
    refine i_tup hS rfl ?_
    walk_at "go"
    refine ite2 (fun h => absurd h (by decide +kernel)) (fun _ => ?_)
    walk_at "go"
    refine i_tup hS rfl ?_
    walk_at "go"
    refine ite2 (fun h => absurd h (by decide +kernel)) (fun _ => ?_)
    walk_at "go"
    refine i_tup hS rfl ?_
    walk_at "go"
    refine ite2 (fun _ => ?_) (fun h => absurd (by decide +kernel) h)
    walk_at "go"
    exact u_bare t q
  | tok =>
    walk_at "go"
    refine i_tup hS rfl ?_
    walk_at "go"
    refine ite2 (fun h => absurd h (by decide +kernel)) (fun _ => ?_)
    walk_at "go"
    refine i_tup hS rfl ?_
    walk_at "go"
    refine ite2 (fun h => absurd h (by decide +kernel)) (fun _ => ?_)
    walk_at "go"
    refine i_tup hS rfl ?_
    walk_at "go"
    refine ite2 (fun h => absurd h (by decide +kernel)) (fun _ => ?_)
    walk_at "go"
    refine i_tup hS rfl ?_
    walk_at "go"
    refine ite2 (fun h => absurd h (by decide +kernel)) (fun _ => ?_)
    walk_at "go"
    refine i_tup hS rfl ?_
    walk_at "go"
    refine ite2 (fun h => absurd h (by decide +kernel)) (fun _ => ?_)
    walk_at "go"
    refine i_tup hS rfl ?_
    walk_at "go"
    exact ⟨rfl, rfl, u_tks (pl := false) t q⟩
  | pla =>
    walk_at "go"
    refine i_tup hS rfl ?_
    walk_at "go"
    refine ite2 (fun h => absurd h (by decide +kernel)) (fun _ => ?_)
    walk_at "go"
    refine i_tup hS rfl ?_
    walk_at "go"
    refine ite2 (fun h => absurd h (by decide +kernel)) (fun _ => ?_)
    walk_at "go"
    refine i_tup hS rfl ?_
    walk_at "go"
    refine ite2 (fun h => absurd h (by decide +kernel)) (fun _ => ?_)
    walk_at "go"
    refine i_tup hS rfl ?_
    walk_at "go"
    refine ite2 (fun h => absurd h (by decide +kernel)) (fun _ => ?_)
    walk_at "go"
    refine i_tup hS rfl ?_
    walk_at "go"
    refine ite2 (fun h => absurd h (by decide +kernel)) (fun _ => ?_)
    walk_at "go"
    refine i_tup hS rfl ?_
    walk_at "go"
    exact ⟨rfl, rfl, u_tks (pl := true) t q⟩
end
end Tk

set_option Elab.async false
set_option linter.all false
set_option maxRecDepth 100000
set_option maxHeartbeats 4000000
namespace Tk
open PySem PySem.Spec PyProof.Rows L2 Lay
open TL (tl ext_tl len_tl tl_append tl_mk mk_tl)
local macro_rules | `(tactic| walk_at "if") => `(tactic| refine ite2 (fun hc => ?_) (fun hc => ?_))
local macro_rules | `(tactic| walk_at "lk") => `(tactic| first | exact upd_same | assumption)
local macro_rules | `(tactic| walk_at "st") => `(tactic| first
  | with_reducible refine r_var rfl ?_ | with_reducible refine r_c ?_ | with_reducible refine r_op ?_ | with_reducible refine r_cons ?_ | with_reducible refine r_nil ?_ | with_reducible refine r_vals ?_
  | with_reducible refine r_cb ?_ | with_reducible refine r_tup ?_ | with_reducible refine r_lst ?_ | with_reducible refine r_call ?_ | with_reducible refine r_test ?_
  | with_reducible refine r_if ?_ | with_reducible refine r_not ?_ | with_reducible refine r_bm ?_ | with_reducible refine r_sl ?_ | with_reducible refine r_np ?_ | with_reducible refine r_part ?_
  | with_reducible refine r_seq ?_ | with_reducible refine r_asg ?_ | with_reducible refine r_name ?_ | with_reducible refine r_ifs ?_ | with_reducible refine r_ret ?_ | with_reducible refine r_next ?_ | with_reducible refine r_par ?_ | with_reducible refine r_par3 ?_ | with_reducible refine r_brk ?_ | with_reducible refine r_cnt ?_ | with_reducible refine r_sub ?_
  | with_reducible refine r_andT ?_ | with_reducible refine r_orT ?_ | with_reducible refine r_notT ?_ | with_reducible refine r_or ?_ | with_reducible refine r_and ?_ | with_reducible refine r_tB ?_ | with_reducible refine r_drop ?_ | with_reducible refine r_callN ?_ | with_reducible refine r_chain ?_
  | with_reducible refine r_for ?_ | with_reducible refine r_lc ?_ | with_reducible refine r_iseq ?_ | with_reducible refine r_rng1 ?_ | with_reducible refine r_enum ?_ | with_reducible refine r_yes ?_ | with_reducible refine r_tru ?_ | with_reducible refine r_gtup ?_ | with_reducible refine r_gcons ?_ | with_reducible refine r_gnil ?_
  | with_reducible refine b_add ?_ | with_reducible refine b_sub ?_ | (with_reducible refine b_mul (by unfold CMul; omega) ?_) | (with_reducible refine b_mod (by omega) ?_) | (with_reducible refine b_fdiv (by unfold CDiv; omega) ?_)
  | with_reducible refine c_lt ?_ | with_reducible refine c_le ?_ | with_reducible refine c_gt ?_ | with_reducible refine c_ge ?_ | with_reducible refine c_isN ?_ | with_reducible refine c_notN ?_ | with_reducible refine c_isB ?_ | with_reducible refine c_eq rfl ?_ | with_reducible refine c_ne rfl ?_
  | with_reducible refine c_insign ?_ | with_reducible refine k_int ?_ | with_reducible refine k_intb ?_ | with_reducible refine k_max ?_ | with_reducible refine k_min ?_
  | with_reducible refine i_lst (by first | exact SqL.of upd_same | exact SqL.of (by assumption) | assumption) rfl ?_
  | with_reducible refine st_l (by walk_at "lk") rfl ?_
  | with_reducible refine ⟨_, rfl, ?_⟩
  | with_reducible refine ex_par ?_
  | with_reducible refine r_back ?_
  | with_reducible refine ex_par3 ?_
  | with_reducible refine ty_s ?_
  | with_reducible refine tru_b ?_
  | with_reducible refine iteT ?_ | with_reducible refine iteF ?_ | with_reducible refine itnT ?_ | with_reducible refine itnF ?_)
local macro_rules | `(tactic| walk_at "go") => `(tactic| repeat walk_at "st")
local macro_rules | `(tactic| walk_at "cl") => `(tactic| try dsimp only [cxOf, Cx.nox, Cx.wish])
/-! ### a row -/
open RZ
abbrev s_is_row : Stmt := topS 32
theorem sc_is_row : FnScope ["thing", "word", "forms", "part", "form"] ["thing"] (defScope s_is_row) := ⟨rfl, rfl, rfl, by decide +kernel, rfl, by decide +kernel, by decide +kernel⟩
def ks6 : List Str := ["head", "table", "figure", "foot", "end", "item"]
def rowL : List (Str × List Fm) := [("style", [.nam, .num 0 6, .num 0 4, .num 0 2, .cho ["left", "right", "middle"]]), ("counter", [.cho ks6, .cho ["1", "a", "A"], .num 0 3]), ("head", [.num 1 3, .bar]), ("para", [.sty, .tok]), ("item", [.num 1 3, .cho ["dot", "num"], .tok]),
  ("figure", [.num 1 6, .bar]), ("table", [.num 1 4, .bar]), ("row", []), ("cell", [.num 1 4, .num 1 4, .pla]), ("close", []), ("contents", [.num 1 3]), ("figures", []), ("index", []), ("endnotes", []), ("break", []), ("include", [.nam]), ("when", [.cho ["pages", "screen", "plain"]]), ("done", [])]
def rowF (z : Str) : Option (List Fm) := rowL.lookup z
/-- a part, and what it holds -/
abbrev Pt := V × Option (List V)
def Rw (K : PySem.W.Frag) (H : Hp) (x : V) (r : Option (List Pt)) : Prop := ∃ T, Tyb K H x T ∧ StrOk x ∧ ((T ≠ "tuple" ∧ r = none) ∨ (T = "tuple" ∧ ∃ a ps, x = .ref a ∧ r = some ps ∧ SqT K H a (ps.map Prod.fst) ∧ ps.length ≤ 1000000 ∧ ∀ p ∈ ps, Th K H p.1 p.2))
def cntV : List Pt → Bool
  | [(.str k, _), _, (.int i, _)] => if k = Str.ofString "head" then decide (i > 0) else decide (k ≠ Str.ofString "item") || decide (i = 0)
  | _ => false
def partsV (ps : List Pt) (fs : List Fm) : List Bool := List.zipWith (fun p f => partV f p.1 p.2) ps fs
def isRowP : List Pt → Bool
  | (.str z, _) :: ps => (match rowF z with
    | none => false
    | some fs => decide (ps.length = fs.length) && ((partsV ps fs).all id && (decide (z ≠ Str.ofString "counter") || cntV ps)))
  | _ => false
def isRowV : Option (List Pt) → Bool
  | none => false
  | some ps => isRowP ps
def spIsRow (K : PySem.W.Frag) : Sp := fun vs H Q _ => ∃ x r, vs = [x] ∧ Rw K H x r ∧ ∀ H', Same H H' → Q (.bl (isRowV r)) H'
/-- the table of the forms -/
def RwG (K : PySem.W.Frag) (w : World) (mg : Str → Option Value) : Prop := ∃ kv : List (Str × V), (∀ z fs, rowF z = some fs → ∃ (a : Addr) (bs : List Addr), (z, V.ref a) ∈ kv ∧ (∀ H, SqT K H a (bs.map V.ref)) ∧ bs.length = fs.length ∧ ∀ (i : Nat) b f, bs[i]? = some b → fs[i]? = some f → ∀ H, SqT K H b (fmV f)) ∧
  ∀ no, (∀ z ∈ no, rowF z = none) → Gd K w mg "ROW_PARTS" kv no
local macro_rules | `(tactic| walk_at "st") => `(tactic| first | with_reducible refine r_zipA ?_)
section
variable {P : Program} {w : World} {K : PySem.W.Frag} {mg : Str → Option Value} {base : Heap} {H : Hp} {Q : VK}
theorem row_no {x : V} {T : String} {c : Option (List V)} {ps : List Pt} (t : Tyb K H x T) (h : T ≠ "str") : isRowP ((x, c) :: ps) = false := by
  cases t <;> first | rfl | exact absurd rfl h
theorem in_str {x : V} : ∀ {zs : List Str}, inV x (stS zs) = true → ∃ k, x = .str k
  | [], h => absurd h Bool.false_ne_true
  | z :: r, h => by
    have h2 : (eqV (.str z) x || inV x (stS r)) = true := h
    rcases Bool.or_eq_true_iff.mp h2 with h3 | h3
    · cases x <;> first | exact ⟨_, rfl⟩ | exact absurd h3 Bool.false_ne_true
    · exact in_str h3
theorem wh_int {x : V} {a b : Int} (h : isWh a b x = true) : ∃ i, x = .int i := by
  cases x <;> first | exact ⟨_, rfl⟩ | exact absurd h Bool.false_ne_true
theorem u_part {x : V} {c : Option (List V)} {a : Addr} {f : Fm} (t : Th K H x c) (h : SqT K H a (fmV f)) (q : ∀ H', Same H H' → Q (.bl (partV f x c)) H') : spPart K ([x, .ref a] ++ []) H Q E0 := ⟨x, c, a, f, rfl, t, h, q⟩
theorem ok_is_row (F : Fn0 K mg "is_row" s_is_row ["thing"]) (m : Md mg) (G : RwG K w mg) (c_is_tuple : FnG P w K mg base 1 "is_tuple" ["thing"] (spIsTuple K)) (c_is_text : FnG P w K mg base 1 "is_text" ["thing"] (spIsText K))
    (c__is_part : FnG P w K mg base 8 "_is_part" ["thing", "form"] (spPart K)) (c__counts_within : FnG P w K mg base 1 "_counts_within" ["kind", "within"] spCounts) : FnG P w K mg base 9 "is_row" ["thing"] (spIsRow K) := by
  obtain ⟨kv, G1, G2⟩ := G
  refine F.ok sc_is_row (fun vs H Q E h => ?_) (fun a cdv A outer s H vs Q E L hr h => ?_)
  · obtain ⟨x, r, rfl, _⟩ := h
    rfl
  have nd := sc_is_row.nd
  obtain ⟨x, r, rfl, t, q⟩ := h
  obtain ⟨no, hno, hin⟩ : ∃ no : List Str, (∀ z ∈ no, rowF z = none) ∧ ∀ z c ps, r = some ((.str z, c) :: ps) → rowF z = none → z ∈ no := by
    by_cases h : ∃ z c ps, r = some ((.str z, c) :: ps) ∧ rowF z = none
    · obtain ⟨z, c, ps, rfl, hz⟩ := h
      exact ⟨[z], fun y hy => by rw [List.mem_singleton.mp hy]; exact hz, fun y c' ps' e _ => by cases e; exact List.mem_singleton.mpr rfl⟩
    · exact ⟨[], (fun _ h => nomatch h), fun z c ps e hz => absurd ⟨z, c, ps, e, hz⟩ h⟩
  have g_ROW_PARTS := G2 no hno
  refine ⟨_, (pss_cons (ps_if (PW.pt (pw_or (pt_not (pt_truthL L (pe_callG c_is_tuple (hr.mono (by decide)) (by rfl) (pa_cons (pv 0) pa_nil)))) (pw_or1 (pt_cmpR (op_ L) (pe_callB (oc L) (by rfl) m.len_ bt_len (pa_cons (pv 0) pa_nil)) pe_int (nomark _))))) (pss_one (ps_ret pe_bl)) pss_nil) (pss_cons (ps_set (i := 1) nd rfl (.inl rfl) (pe_ix (oi L) (pv 0) pe_int (fun _ _ => rfl))) (pss_cons (ps_if (PW.pt (pw_or (pt_not (pt_truthL L (pe_callG c_is_text (hr.mono (by decide)) (by rfl) (pa_cons (pv 1) pa_nil)))) (pw_or1 (pt_cmpR (op_ L) (pv 1) (pe_gdL L g_ROW_PARTS (by rfl)) rfl)))) (pss_one (ps_ret pe_bl)) pss_nil) (pss_cons (ps_set (i := 2) nd rfl (.inl rfl) (pe_ix (oi L) (pe_gdL L g_ROW_PARTS (by rfl)) (pv 1) (fun _ _ => rfl))) (pss_cons (ps_if (pt_cmpR (op_ L) (pe_callB (oc L) (by rfl) m.len_ bt_len (pa_cons (pv 0) pa_nil)) (pe_op (ob L) (pe_callB (oc L) (by rfl) m.len_ bt_len (pa_cons (pv 2) pa_nil)) pe_int) (nomark _)) (pss_one (ps_ret pe_bl)) pss_nil) (pss_cons (ps_if (pt_not (pt_truthL L (pe_callB (oc L) (by rfl) m.all_ bt_all (pa_cons (pe_lc (own := [("part", 3), ("form", 4)]) rfl nd (pi_zipA (by rfl) m.zip_ (pa_cons (pe_slice (osl L) (pv 0) (po_some pe_int) po_none) (pa_cons (pv 2) pa_nil))) (blkOk_by (own := [("part", 3), ("form", 4)]) (N := ["thing", "word", "forms", "part", "form"]) (sc := defScope s_is_row) (by decide +kernel)) (fun _ _ _ _ _ => (pg_tupL (n := 2) L.b (pgs_cons (pg_name (i := 3) nd rfl (.inl rfl)) (pgs_cons (pg_name (i := 4) nd rfl (.inl rfl)) pgs_nil)) (by rfl) (by rfl))) (fun _ _ _ _ _ => inT L.b pts_nil) (fun _ _ _ _ _ => inE L.b (pe_callG c__is_part (hr.mono (by decide)) (by rfl) (pa_cons (pv 3) (pa_cons (pv 4) pa_nil))))) pa_nil)))) (pss_one (ps_ret pe_bl)) pss_nil) (pss_one (ps_ret (pe_orL L (pe_cmpR (op_ L) (pv 1) pe_str (nomark _)) (pe_one (pe_callG c__counts_within (hr.mono (by decide)) (by rfl) (pa_cons (pe_ix (oi L) (pv 0) pe_int (fun _ _ => rfl)) (pa_cons (pe_ix (oi L) (pv 0) pe_int (fun _ _ => rfl)) pa_nil))))))))))))), ?_⟩
  obtain ⟨T, ty, ok, hr2⟩ := t
  refine r_seqH fun nx0 h0 => ?_
  walk_at "go"
  refine u_is_tuple ty ?_
  walk_at "go"
  rcases hr2 with ⟨nT, rfl⟩ | ⟨rfl, b, ps, rfl, rfl, hS, hln, hp⟩
  · rw [beq_eq_false_iff_ne.mpr nT]
    walk_at "go"
    exact q _ (Same.refl _)
  rw [show ("tuple" == "tuple") = true from rfl]
  walk_at "go"
  refine k_lenl (.inr hS) ?_
  walk_at "go"
  cases ps with
  | nil =>
    refine ite2 (fun _ => ?_) (fun h => absurd (by decide) h)
    walk_at "go"
    exact q _ (Same.refl _)
  | cons p ps => 
  obtain ⟨wd, cw⟩ := p
  refine ite2 (fun h => absurd h (by simp; omega)) (fun _ => ?_)
  walk_at "go"
  refine h0 _ _ ?_
  clear h0
  refine r_seqH fun nx0 h0 => ?_
  walk_at "go"
  refine i_tup hS (atI_nat (j := 0) rfl) ?_
  walk_at "go"
  refine h0 _ _ ?_
  clear h0
  obtain ⟨Tw, tyw, okw, _⟩ := hp _ List.mem_cons_self
  refine r_seqH fun nx0 h0 => ?_
  walk_at "go"
  refine u_is_text tyw ?_
  walk_at "go"
  by_cases hw : Tw = "str"
  rotate_left
  · rw [beq_eq_false_iff_ne.mpr hw]
    walk_at "go"
    have := q H (Same.refl _)
    rw [show isRowV (some ((wd, cw) :: ps)) = false from row_no tyw hw] at this
    exact this
  subst hw
  obtain ⟨z, rfl⟩ := str_of tyw
  rw [show ("str" == "str") = true from rfl]
  walk_at "go"
  refine r_gd fun d hd hn => ?_
  cases hz : rowF z with
  | none =>
    refine c_notinkdT hd (hn z (hin z _ _ rfl hz)) ?_
    walk_at "go"
    have := q H (Same.refl _)
    rw [show isRowV (some ((V.str z, cw) :: ps)) = false by show (match rowF z with | none => false | some fs => _) = false; rw [hz]] at this
    exact this
  | some fs =>
  have er : isRowV (some ((V.str z, cw) :: ps)) = (decide (ps.length = fs.length) && ((partsV ps fs).all id && (decide (z ≠ Str.ofString "counter") || cntV ps))) := by
    show (match rowF z with | none => false | some fs => _) = _
    rw [hz]
  rw [er] at q
  obtain ⟨fa, bs, mem, hfa, lb, hb⟩ := G1 z fs hz
  refine c_notinkd hd mem ?_
  walk_at "go"
  refine h0 _ _ ?_
  clear h0
  refine r_seqH fun nx0 h0 => ?_
  walk_at "go"
  refine r_gd fun d2 hd2 _ => ?_
  walk_at "go"
  refine i_kd hd2 mem ?_
  walk_at "go"
  refine h0 _ _ ?_
  clear h0
  refine r_seqH fun nx0 h0 => ?_
  walk_at "go"
  refine k_lenl (.inr hS) ?_
  walk_at "go"
  refine k_lenl (.inr (hfa _)) ?_
  walk_at "go"
  have el : (decide (V.int ((((V.str z, cw) :: ps).map Prod.fst).length : Int) = V.int (((bs.map V.ref).length : Int) + 1))) = decide (ps.length = fs.length) := by
    refine decide_eq_decide.mpr ?_
    rw [V.int.injEq, List.length_map, List.length_map, List.length_cons, lb]
    omega
  rw [el]
  refine ite2 (fun h => ?_) (fun h => ?_)
  · walk_at "go"
    have := q H (Same.refl _)
    rw [show decide (ps.length = fs.length) = false by simpa using h, Bool.false_and] at this
    exact this
  have hl : ps.length = fs.length := by simpa using h
  rw [decide_eq_true hl, Bool.true_and] at q
  walk_at "go"
  refine h0 _ _ ?_
  clear h0
  refine r_seqH fun nx0 h0 => ?_
  walk_at "go"
  refine sl_t hS fun tb H1 s1 e1 => ?_
  rw [show cutV (((V.str z, cw) :: ps).map Prod.fst) (some 1) none = ps.map Prod.fst from cutV_from _ 1] at e1
  walk_at "go"
  refine ⟨tb, fa, _, _, rfl, .inr ⟨e1, hfa _, fun D hD => ?_⟩⟩
  have lp : (partsV ps fs).length = ps.length := by
    unfold partsV
    rw [List.length_zipWith, ← hl, Nat.min_self]
  refine lc_pureL (partsV ps fs) false (walk_zipT (K := K) (a := tb) (b := fa) (xs := ps.map Prod.fst) (ys := bs.map V.ref) (by rw [lp, List.length_map, List.length_map, lb, hl, Nat.min_self])) (fun _ => true) (fun c => .bl c) (by
    rw [lp, sizeLine_eq]
    simp only [List.length_cons] at hln
    omega) hD (fun H' s => ⟨Same.sqt s e1, hfa _⟩) (fun i c x H' H'' hi sm hy C1 C0 h1 h0 => ?_) (fun H' sm hd2 => ?_)
  · obtain ⟨U, x0, y0, rfl, hU, rfl, hx0, hy0⟩ := hy
    have lt : i < ps.length := by
      rw [← lp]
      exact (List.getElem?_eq_some_iff.mp hi).1
    have hx0 : (List.map Prod.fst ps)[i]? = some x0 := hx0
    have hy0 : (List.map V.ref bs)[i]? = some y0 := hy0
    rw [List.getElem?_map, List.getElem?_eq_getElem lt] at hx0
    cases hx0
    have ltb : i < bs.length := by omega
    rw [List.getElem?_map, List.getElem?_eq_getElem ltb] at hy0
    cases hy0
    have ltf : i < fs.length := by omega
    have ec : c = partV fs[i] ps[i].1 ps[i].2 := by
      unfold partsV at hi
      rw [List.getElem?_zipWith, List.getElem?_eq_getElem lt, List.getElem?_eq_getElem ltf] at hi
      exact (Option.some.inj hi).symm
    subst ec
    have hpi := hp ps[i] (List.mem_cons_of_mem _ (List.getElem_mem lt))
    have hbi := hb i _ _ (List.getElem?_eq_getElem ltb) (List.getElem?_eq_getElem ltf)
    have sU := Same.new hU (o := .tup [ps[i].1, V.ref bs[i]])
    walk_at "go"
    refine ⟨U, _, rfl, SqT.of upd_same, rfl, ?_⟩
    walk_at "go"
    refine ⟨rfl, ?_⟩
    walk_at "go"
    refine u_part (hpi.same (s1.trans (sm.trans sU))) (hbi _) fun H2 s2 => ?_
    exact h1 rfl _ (sU.trans s2)
  rw [filter_yes, ← Function.comp_def V.bl, ← List.map_map] at hd2
  walk_at "go"
  refine k_all (SqL.of hd2) ?_
  rw [List.all_map, Function.id_comp, show (partsV ps fs).all (fun c => c) = (partsV ps fs).all id from rfl]
  walk_at "go"
  have s2 := s1.trans sm
  refine ite2 (fun h => ?_) (fun h => ?_)
  · walk_at "go"
    have := q H' s2
    rw [show (partsV ps fs).all id = false by simpa using h, Bool.false_and] at this
    exact this
  have ha : (partsV ps fs).all id = true := by simpa using h
  rw [ha, Bool.true_and] at q
  walk_at "go"
  refine h0 _ _ ?_
  clear h0
  walk_at "go"
  have ez : decide ((V.str z, cw).fst = V.str (Str.ofString "counter")) = decide (z = Str.ofString "counter") := decide_eq_decide.mpr ⟨V.str.inj, congrArg _⟩
  rw [ez]
  by_cases hc : z = Str.ofString "counter"
  rotate_left
  · have := q H' s2
    rw [show decide (z ≠ Str.ofString "counter") = true from decide_eq_true hc, Bool.true_or] at this
    rw [decide_eq_false hc]
    exact this
  subst hc
  rw [decide_eq_true rfl]
  have q3 := q H' s2
  rw [show decide (Str.ofString "counter" ≠ Str.ofString "counter") = false from decide_eq_false fun z => z rfl, Bool.false_or] at q3
  have hf : rowF (Str.ofString "counter") = some [.cho ks6, .cho ["1", "a", "A"], .num 0 3] := by rfl
  rw [hf] at hz
  cases hz
  obtain ⟨p1, p2, p3, rfl⟩ : ∃ p1 p2 p3, ps = [p1, p2, p3] := by
    match ps, hl with
    | [p1, p2, p3], _ => exact ⟨p1, p2, p3, rfl⟩
  obtain ⟨x1, c1⟩ := p1
  obtain ⟨x2, c2⟩ := p2
  obtain ⟨x3, c3⟩ := p3
  have ha' : (inV x1 (stS ks6) && (inV x2 (stS ["1", "a", "A"]) && (isWh 0 3 x3 && true))) = true := ha
  obtain ⟨k, rfl⟩ := in_str (Bool.and_eq_true_iff.mp ha').1
  obtain ⟨i, rfl⟩ := wh_int (Bool.and_eq_true_iff.mp (Bool.and_eq_true_iff.mp (Bool.and_eq_true_iff.mp ha').2).2).1
  walk_at "go"
  refine i_tup (Same.sqt s2 hS) (atI_nat (j := 1) rfl) ?_
  walk_at "go"
  refine i_tup (Same.sqt s2 hS) (atI_nat (j := 3) rfl) ?_
  walk_at "go"
  exact ⟨k, i, rfl, q3⟩
end
end Tk

set_option Elab.async false
set_option linter.all false
set_option maxRecDepth 100000
set_option maxHeartbeats 4000000
namespace Tk
open PySem PySem.Spec PyProof.Rows L2 Lay
open TL (tl ext_tl len_tl tl_append tl_mk mk_tl)
local macro_rules | `(tactic| walk_at "if") => `(tactic| refine ite2 (fun hc => ?_) (fun hc => ?_))
local macro_rules | `(tactic| walk_at "lk") => `(tactic| first | exact upd_same | assumption)
local macro_rules | `(tactic| walk_at "st") => `(tactic| first
  | with_reducible refine r_var rfl ?_ | with_reducible refine r_c ?_ | with_reducible refine r_op ?_ | with_reducible refine r_cons ?_ | with_reducible refine r_nil ?_ | with_reducible refine r_vals ?_
  | with_reducible refine r_cb ?_ | with_reducible refine r_tup ?_ | with_reducible refine r_lst ?_ | with_reducible refine r_call ?_ | with_reducible refine r_test ?_
  | with_reducible refine r_if ?_ | with_reducible refine r_not ?_ | with_reducible refine r_bm ?_ | with_reducible refine r_sl ?_ | with_reducible refine r_np ?_ | with_reducible refine r_part ?_
  | with_reducible refine r_seq ?_ | with_reducible refine r_asg ?_ | with_reducible refine r_name ?_ | with_reducible refine r_ifs ?_ | with_reducible refine r_ret ?_ | with_reducible refine r_next ?_ | with_reducible refine r_par ?_ | with_reducible refine r_par3 ?_ | with_reducible refine r_brk ?_ | with_reducible refine r_cnt ?_ | with_reducible refine r_sub ?_
  | with_reducible refine r_andT ?_ | with_reducible refine r_orT ?_ | with_reducible refine r_notT ?_ | with_reducible refine r_or ?_ | with_reducible refine r_and ?_ | with_reducible refine r_tB ?_ | with_reducible refine r_drop ?_ | with_reducible refine r_callN ?_ | with_reducible refine r_chain ?_
  | with_reducible refine r_for ?_ | with_reducible refine r_lc ?_ | with_reducible refine r_iseq ?_ | with_reducible refine r_rng1 ?_ | with_reducible refine r_enum ?_ | with_reducible refine r_yes ?_ | with_reducible refine r_tru ?_ | with_reducible refine r_gtup ?_ | with_reducible refine r_gcons ?_ | with_reducible refine r_gnil ?_
  | with_reducible refine b_add ?_ | with_reducible refine b_sub ?_ | (with_reducible refine b_mul (by unfold CMul; omega) ?_) | (with_reducible refine b_mod (by omega) ?_) | (with_reducible refine b_fdiv (by unfold CDiv; omega) ?_)
  | with_reducible refine c_lt ?_ | with_reducible refine c_le ?_ | with_reducible refine c_gt ?_ | with_reducible refine c_ge ?_ | with_reducible refine c_isN ?_ | with_reducible refine c_notN ?_ | with_reducible refine c_isB ?_ | with_reducible refine c_eq rfl ?_ | with_reducible refine c_ne rfl ?_
  | with_reducible refine c_insign ?_ | with_reducible refine k_int ?_ | with_reducible refine k_intb ?_ | with_reducible refine k_max ?_ | with_reducible refine k_min ?_
  | with_reducible refine ⟨_, rfl, ?_⟩
  | with_reducible refine ex_par ?_
  | with_reducible refine r_back ?_
  | with_reducible refine ex_par3 ?_
  | with_reducible refine ty_s ?_
  | with_reducible refine tru_b ?_
  | with_reducible refine iteT ?_ | with_reducible refine iteF ?_ | with_reducible refine itnT ?_ | with_reducible refine itnF ?_)
local macro_rules | `(tactic| walk_at "go") => `(tactic| repeat walk_at "st")
local macro_rules | `(tactic| walk_at "cl") => `(tactic| try dsimp only [cxOf, Cx.nox, Cx.wish])
/-! ### the table of the forms, as the top leaves it -/
def TpK (K : PySem.W.Frag) (a : Addr) (xs : List V) : Prop := ∃ (o : Obj) (its : Array Value) (n : Nat), K.lookup a = some o ∧ o.cls = .type "tuple" ∧ o.data = .seq its n ∧ its.size ≤ sizeLine ∧ Vals xs its.toList
def FsK (K : PySem.W.Frag) : List Fm → List Addr → Prop
  | [], [] => True
  | f :: fs, b :: bs => TpK K b (fmV f) ∧ FsK K fs bs
  | _, _ => False
def RsK (K : PySem.W.Frag) (d : Addr) : List (Str × List Fm) → Prop
  | [] => True
  | p :: r => (∃ (a : Addr) (bs : List Addr), PySem.W.nsIn K d p.1 = some (some (.ref a)) ∧ TpK K a (bs.map V.ref) ∧ FsK K p.2 bs) ∧ RsK K d r
section
variable {K : PySem.W.Frag} {w : World} {d : Addr} {h : Heap} {mg : Str → Option Value}
theorem TpK.mk {a : Addr} {xs : List V} {o : Obj} {its : Array Value} {n : Nat} (h2 : K.lookup a = some o) (h3 : o.cls = .type "tuple") (h4 : o.data = .seq its n) (h5 : its.size ≤ sizeLine) (h6 : Vals xs its.toList) : TpK K a xs := ⟨o, its, n, h2, h3, h4, h5, h6⟩
theorem TpK.sq {a : Addr} {xs : List V} (t : TpK K a xs) (H : Hp) : SqT K H a xs := .inr t
theorem FsK.nil : FsK K [] [] := True.intro
theorem FsK.cons {f : Fm} {fs : List Fm} {b : Addr} {bs : List Addr} (h : TpK K b (fmV f)) (g : FsK K fs bs) : FsK K (f :: fs) (b :: bs) := ⟨h, g⟩
theorem RsK.nil : RsK K d [] := True.intro
theorem RsK.cons {z : Str} {fs : List Fm} {r : List (Str × List Fm)} {a : Addr} {bs : List Addr} (h1 : PySem.W.nsIn K d z = some (some (.ref a))) (h2 : TpK K a (bs.map V.ref)) (h3 : FsK K fs bs) (g : RsK K d r) : RsK K d ((z, fs) :: r) := ⟨⟨a, bs, h1, h2, h3⟩, g⟩
theorem FsK.at : ∀ {fs : List Fm} {bs : List Addr}, FsK K fs bs → bs.length = fs.length ∧ ∀ (i : Nat) b f, bs[i]? = some b → fs[i]? = some f → TpK K b (fmV f)
  | [], [], _ => ⟨rfl, fun i b f hb _ => by simp at hb⟩
  | f :: fs, b :: bs, ⟨h1, h2⟩ => by
    obtain ⟨l, g⟩ := FsK.at h2
    refine ⟨by rw [List.length_cons, List.length_cons, l], fun i b' f' hb hf => ?_⟩
    cases i with
    | zero =>
      cases hb
      cases hf
      exact h1
    | succ i => exact g i b' f' hb hf
theorem RsK.kv : ∀ {l : List (Str × List Fm)}, RsK K d l → ∃ kv : List (Str × V), (∀ p ∈ kv, ∃ u, PySem.W.nsIn K d p.1 = some (some u) ∧ RelV p.2 u) ∧ ∀ z fs, l.lookup z = some fs → ∃ (a : Addr) (bs : List Addr), (z, V.ref a) ∈ kv ∧ TpK K a (bs.map V.ref) ∧ FsK K fs bs
  | [], _ => ⟨[], (fun _ h => nomatch h), fun z fs h => by simp at h⟩
  | (y, gs) :: r, ⟨⟨a, bs, h1, h2, h3⟩, hr⟩ => by
    obtain ⟨kv, k1, k2⟩ := RsK.kv hr
    refine ⟨(y, V.ref a) :: kv, fun p hp => ?_, fun z fs hz => ?_⟩
    · rcases List.mem_cons.mp hp with rfl | hp
      · exact ⟨.ref a, h1, rfl⟩
      · exact k1 p hp
    · rw [List.lookup_cons] at hz
      by_cases e : z = y
      · subst e
        rw [beq_self_eq_true] at hz
        cases hz
        exact ⟨a, bs, List.mem_cons_self, h2, h3⟩
      · rw [beq_eq_false_iff_ne.mpr e] at hz
        obtain ⟨a', bs', m1, m2, m3⟩ := k2 z fs hz
        exact ⟨a', bs', List.mem_cons_of_mem _ m1, m2, m3⟩
def RwGK (K : PySem.W.Frag) (w : World) : Prop := ∃ (d : Addr) (es : Array DictEntry) (n : Nat), PySem.W.nsIn K mainGlobals "ROW_PARTS" = some (some (.ref d)) ∧ K.lookup d = some ⟨.type "dict", none, .dict es n, #[]⟩ ∧ PySem.W.KeysLit w.params es.toList ∧ (d == sysModules) = false ∧ RsK K d rowL ∧ ∀ z ∈ keysOf es.toList, (rowF z).isSome = true
theorem RwGK.mk {es : Array DictEntry} {n : Nat} (h1 : PySem.W.nsIn K mainGlobals "ROW_PARTS" = some (some (.ref d))) (h2 : K.lookup d = some ⟨.type "dict", none, .dict es n, #[]⟩) (h3 : PySem.W.KeysLit w.params es.toList) (h4 : (d == sysModules) = false) (h5 : RsK K d rowL) (h6 : ∀ z ∈ keysOf es.toList, (rowF z).isSome = true) : RwGK K w :=
  ⟨d, es, n, h1, h2, h3, h4, h5, h6⟩
theorem RwGK.rw (t : RwGK K w) (X : K.In h) (G : h.Ns mainGlobals mg) : RwG K w mg := by
  obtain ⟨d, es, n, h1, h2, h3, h4, h5, h6⟩ := t
  obtain ⟨kv, k1, k2⟩ := h5.kv
  refine ⟨kv, fun z fs hz => ?_, fun no hno => ⟨d, PySem.W.mg_of X G h1, ⟨es, n, ⟨h2, h3, h4⟩, k1⟩, fun z hz => kdno_of h2 h3 fun m => ?_⟩⟩
  · obtain ⟨a, bs, m1, m2, m3⟩ := k2 z fs hz
    obtain ⟨l, g⟩ := m3.at
    exact ⟨a, bs, m1, m2.sq, l, fun i b f hb hf => (g i b f hb hf).sq⟩
  · have := h6 z m
    rw [hno z hz] at this
    cases this
end
end Tk

set_option Elab.async false
set_option linter.all false
set_option maxRecDepth 100000
set_option maxHeartbeats 4000000
namespace Tk
open PySem PySem.Spec PyProof.Rows L2 Lay
open TL (tl ext_tl len_tl tl_append tl_mk mk_tl)
local macro_rules | `(tactic| walk_at "if") => `(tactic| refine ite2 (fun hc => ?_) (fun hc => ?_))
local macro_rules | `(tactic| walk_at "lk") => `(tactic| first | exact upd_same | assumption)
local macro_rules | `(tactic| walk_at "st") => `(tactic| first
  | with_reducible refine r_var rfl ?_ | with_reducible refine r_c ?_ | with_reducible refine r_op ?_ | with_reducible refine r_cons ?_ | with_reducible refine r_nil ?_ | with_reducible refine r_vals ?_
  | with_reducible refine r_cb ?_ | with_reducible refine r_tup ?_ | with_reducible refine r_lst ?_ | with_reducible refine r_call ?_ | with_reducible refine r_test ?_
  | with_reducible refine r_if ?_ | with_reducible refine r_not ?_ | with_reducible refine r_bm ?_ | with_reducible refine r_sl ?_ | with_reducible refine r_np ?_ | with_reducible refine r_part ?_
  | with_reducible refine r_seq ?_ | with_reducible refine r_asg ?_ | with_reducible refine r_name ?_ | with_reducible refine r_ifs ?_ | with_reducible refine r_ret ?_ | with_reducible refine r_next ?_ | with_reducible refine r_par ?_ | with_reducible refine r_par3 ?_ | with_reducible refine r_brk ?_ | with_reducible refine r_cnt ?_ | with_reducible refine r_sub ?_
  | with_reducible refine r_andT ?_ | with_reducible refine r_orT ?_ | with_reducible refine r_notT ?_ | with_reducible refine r_or ?_ | with_reducible refine r_and ?_ | with_reducible refine r_tB ?_ | with_reducible refine r_drop ?_ | with_reducible refine r_callN ?_ | with_reducible refine r_chain ?_
  | with_reducible refine r_for ?_ | with_reducible refine r_lc ?_ | with_reducible refine r_iseq ?_ | with_reducible refine r_rng1 ?_ | with_reducible refine r_enum ?_ | with_reducible refine r_yes ?_ | with_reducible refine r_tru ?_ | with_reducible refine r_gtup ?_ | with_reducible refine r_gcons ?_ | with_reducible refine r_gnil ?_
  | with_reducible refine b_add ?_ | with_reducible refine b_sub ?_ | (with_reducible refine b_mul (by unfold CMul; omega) ?_) | (with_reducible refine b_mod (by omega) ?_) | (with_reducible refine b_fdiv (by unfold CDiv; omega) ?_)
  | with_reducible refine c_lt ?_ | with_reducible refine c_le ?_ | with_reducible refine c_gt ?_ | with_reducible refine c_ge ?_ | with_reducible refine c_isN ?_ | with_reducible refine c_notN ?_ | with_reducible refine c_isB ?_ | with_reducible refine c_eq rfl ?_ | with_reducible refine c_ne rfl ?_
  | with_reducible refine c_insign ?_ | with_reducible refine k_int ?_ | with_reducible refine k_intb ?_ | with_reducible refine k_max ?_ | with_reducible refine k_min ?_
  | with_reducible refine ⟨_, rfl, ?_⟩
  | with_reducible refine ex_par ?_
  | with_reducible refine r_back ?_
  | with_reducible refine ex_par3 ?_
  | with_reducible refine ty_s ?_
  | with_reducible refine tru_b ?_
  | with_reducible refine iteT ?_ | with_reducible refine iteF ?_ | with_reducible refine itnT ?_ | with_reducible refine itnF ?_)
local macro_rules | `(tactic| walk_at "go") => `(tactic| repeat walk_at "st")
local macro_rules | `(tactic| walk_at "cl") => `(tactic| try dsimp only [cxOf, Cx.nox, Cx.wish])
/-! ### the grid of a table -/
local macro_rules | `(tactic| walk_at "pf") => `(tactic| repeat (first | exact pf_nil | exact pf_eq | refine pf_ne (by decide +kernel) ?_))
local macro_rules | `(tactic| walk_at "lf") => `(tactic| repeat (first | exact lf_nil | exact lf_eq | refine lf_ne (by decide +kernel) ?_))
local macro_rules | `(tactic| walk_at "st") => `(tactic| first
  | with_reducible refine r_fld ?_ | with_reducible refine r_sfld ?_ | with_reducible refine r_make ?_ | with_reducible refine r_meth ?_ | with_reducible refine r_faug ?_ | with_reducible refine r_rngv ?_ | with_reducible refine g_add ?_ | with_reducible refine g_sub ?_)
abbrev s_Grid___init__ : Stmt := inClass (topS 39) 0
theorem sc_Grid___init__ : FnScope ["self", "columns"] ["self", "columns"] (defScope s_Grid___init__) := ⟨rfl, rfl, rfl, by decide +kernel, rfl, by decide +kernel, by decide +kernel⟩
abbrev s_Grid_add_row : Stmt := inClass (topS 39) 1
theorem sc_Grid_add_row : FnScope ["self"] ["self"] (defScope s_Grid_add_row) := ⟨rfl, rfl, rfl, by decide +kernel, rfl, by decide +kernel, by decide +kernel⟩
abbrev s_Grid_add_cell : Stmt := inClass (topS 39) 2
theorem sc_Grid_add_cell : FnScope ["self", "down", "across", "row", "column", "free", "wanted", "first"] ["self", "down", "across"] (defScope s_Grid_add_cell) := ⟨rfl, rfl, rfl, by decide +kernel, rfl, by decide +kernel, by decide +kernel⟩
abbrev s_Grid_may_close : Stmt := inClass (topS 39) 3
theorem sc_Grid_may_close : FnScope ["self"] ["self"] (defScope s_Grid_may_close) := ⟨rfl, rfl, rfl, by decide +kernel, rfl, by decide +kernel, by decide +kernel⟩
abbrev fsG (l : Addr) (m : Nat) : List (Str × V) := [("many", .int m), ("free_from", .ref l)]
structure GrC (K : PySem.W.Frag) (C : Addr) : Prop where
  cl : Cls K C
  n1 : NoAttr K C "many"
  n2 : NoAttr K C "free_from"
/-- the columns that are free in a row -/
def freeC (ff : List Nat) (row : Nat) : List Nat := (List.range ff.length).filter fun c => decide (ff.getD c 0 ≤ row)
def setW (ff : List Nat) (f v : Nat) : Nat → List Nat
  | 0 => ff
  | a + 1 => (setW ff f v a).set (f + a) v
/-- where a cell lies, and what is taken then -/
def cellG (m : Nat) (ff : List Nat) (d a : Nat) : Option (Nat × List Nat) := if m = 0 then none else match freeC ff (m - 1) with
  | [] => none
  | f :: r => if (List.range a).all (fun k => decide (f + k ∈ f :: r)) then some (f, setW ff f (m - 1 + d) a) else none
def Gr (H : Hp) (C p l dx : Addr) (m : Nat) (ff : List Nat) : Prop := H p = some (.ins C dx (fsG l m)) ∧ H l = some (.lst (ns ff)) ∧ p ≠ l
def spGrI (C : Addr) : Sp := fun vs H Q _ => ∃ p dx c, vs = [.ref p, .int (c : Nat)] ∧ c ≤ 4 ∧ H p = some (.ins C dx []) ∧ ∀ l H', H l = none → But p H H' → Gr H' C p l dx 0 (List.replicate c 0) → Q .non H'
def spGrR (C : Addr) : Sp := fun vs H Q _ => ∃ p l dx m ff, vs = [.ref p] ∧ Gr H C p l dx m ff ∧ (m = 8 → Q (.bl false) H) ∧ (m ≠ 8 → ∀ H', But p H H' → Gr H' C p l dx (m + 1) ff → Q (.bl true) H')
def spGrC (C : Addr) : Sp := fun vs H Q _ => ∃ p l dx m ff d a, vs = [.ref p, .int (d : Nat), .int (a : Nat)] ∧ Gr H C p l dx m ff ∧ m ≤ 8 ∧ ff.length ≤ 4 ∧ d ≤ 4 ∧ a ≤ 4 ∧ (cellG m ff d a = none → ∀ H', Same H H' → Q .non H') ∧
  (∀ c ff', cellG m ff d a = some (c, ff') → ∀ H', But l H H' → Gr H' C p l dx m ff' → Q (.int c) H')
def closeG (m : Nat) (ff : List Nat) : Bool := decide (0 < m) && ff.all fun n => decide (n ≤ m)
def spGrM (C : Addr) : Sp := fun vs H Q _ => ∃ p l dx m ff, vs = [.ref p] ∧ Gr H C p l dx m ff ∧ 0 < ff.length ∧ Q (.bl (closeG m ff)) H
section
variable {P : Program} {w : World} {K : PySem.W.Frag} {mg : Str → Option Value} {base : Heap} {C : Addr}
theorem Gr.same {H H' : Hp} {p l dx m ff} (g : Gr H C p l dx m ff) (s : Same H H') : Gr H' C p l dx m ff := ⟨s _ _ g.1, s _ _ g.2.1, g.2.2⟩
theorem setW_len (ff : List Nat) (f v : Nat) : ∀ a, (setW ff f v a).length = ff.length
  | 0 => rfl
  | a + 1 => by
    show ((setW ff f v a).set (f + a) v).length = _
    rw [List.length_set, setW_len ff f v a]
theorem freeC_lt {ff : List Nat} {row c : Nat} (h : c ∈ freeC ff row) : c < ff.length := by
  unfold freeC at h
  exact List.mem_range.mp (List.mem_filter.mp h).1
theorem ok_Grid (F : In0 K mg "Grid" C "Grid.__init__" s_Grid___init__ ["self", "columns"]) (c : GrC K C) : MkG P w K mg base 1 "Grid" C [] (spGrI C) := by
  refine F.ok sc_Grid___init__ (fun vs H Q E h => ?_) (fun a cdv A outer s H vs Q E L hr h => ?_)
  · obtain ⟨p, dx, c, rfl, _⟩ := h
    rfl
  have nd := sc_Grid___init__.nd
  refine ⟨_, (pss_cons (ps_fldL L (pv 0) pe_int) (pss_one (ps_fldL L (pv 0) (pe_op (ob L) (pe_lst (pa_cons pe_int pa_nil)) (pv 1))))), ?_⟩
  obtain ⟨p, dx, cc, rfl, hc, hp, q⟩ := h
  walk_at "go"
  refine f_put (fs' := [("many", .int 0)]) hp c.cl c.n1 (by walk_at "pf") (by show 0 < 1000; decide) ?_
  walk_at "go"
  refine ⟨sz1000 (by show 1 ≤ 1000; decide), fun t ht => ?_⟩
  walk_at "go"
  refine b_rep upd_same (by omega) (by omega) (sz1000 (by show 1 * _ ≤ 1000; omega)) fun l hl => ?_
  walk_at "go"
  have npt : p ≠ t := fun e => by subst e; rw [upd_same] at ht; cases ht
  have hl1 : l ≠ t := fun e => by subst e; rw [upd_same] at hl; cases hl
  have hl2 : l ≠ p := fun e => by subst e; rw [upd_ne hl1, upd_same] at hl; cases hl
  have hl0 : H l = none := by
    rw [upd_ne hl1, upd_ne hl2] at hl
    exact hl
  have ht0 : H t = none := by
    rw [upd_ne npt.symm] at ht
    exact ht
  refine f_put (fs' := fsG l 0) (dx := dx) (by rw [upd_ne hl2.symm, upd_ne npt, upd_same]) c.cl c.n2 (by walk_at "pf") (by show 1 < 1000; decide) ?_
  refine q l _ hl0 (fun b o n e => ?_) ⟨upd_same, ?_, hl2.symm⟩
  · rw [upd_ne n, upd_ne (ne_of_none e hl0), upd_ne (ne_of_none e ht0), upd_ne n]
    exact e
  · rw [upd_ne hl2, upd_same]
    have e : (List.replicate ((cc : Nat) : Int).toNat [V.int 0]).flatten = ns (List.replicate cc 0) := by
      rw [Int.toNat_natCast, List.flatten_replicate_singleton]
      unfold ns
      rw [List.map_replicate]
      rfl
    rw [e]
theorem ok_Grid_add_row (F : Mt0 K C "add_row" "Grid.add_row" s_Grid_add_row ["self"]) (c : GrC K C) (g_MOST_TABLE_ROWS : Gv mg "MOST_TABLE_ROWS" (.int 8)) : MtG P w K mg base 1 C "add_row" (spGrR C) := by
  refine F.ok sc_Grid_add_row (fun vs H Q E h => ?_) (fun a cdv A outer s H vs Q E L hr h => ?_)
  · obtain ⟨p, l, dx, m, ff, rfl, _⟩ := h
    rfl
  have nd := sc_Grid_add_row.nd
  refine ⟨_, (pss_cons (ps_if (pt_cmpR (op_ L) (pe_fldL L (pv 0)) (pe_gv g_MOST_TABLE_ROWS (by rfl)) (nomark _)) (pss_one (ps_ret pe_bl)) pss_nil) (pss_cons (ps_fldaugL L (pv 0) pe_int in_add) (pss_one (ps_ret pe_bl)))), ?_⟩
  obtain ⟨p, l, dx, m, ff, rfl, ⟨hp, hl, npl⟩, q1, q2⟩ := h
  walk_at "go"
  refine f_get (v := .int m) hp c.cl c.n1 (by walk_at "lf") ?_
  walk_at "go"
  refine ite2 (fun h => ?_) (fun h => ?_)
  · walk_at "go"
    refine q1 ?_
    have := V.int.inj (of_decide_eq_true h)
    omega
  · walk_at "go"
    refine ⟨p, C, dx, fsG l m, .int m, rfl, hp, c.cl, c.n1, by walk_at "lf", ?_⟩
    walk_at "go"
    refine f_aug (fs' := fsG l (m + 1)) hp (by rw [show ((m : Int) + 1) = ((m + 1 : Nat) : Int) by omega]; walk_at "pf") (by show 2 < 1000; decide) ?_
    walk_at "go"
    refine q2 (fun e => h (decide_eq_true (by rw [e]; rfl))) _ (fun b o n e => ?_) ⟨upd_same, ?_, npl⟩
    · rw [upd_ne n]
      exact e
    · rw [upd_ne npl.symm]
      exact hl
theorem ok_Grid_may_close (F : Mt0 K C "may_close" "Grid.may_close" s_Grid_may_close ["self"]) (m : Md mg) (c : GrC K C) : MtG P w K mg base 1 C "may_close" (spGrM C) := by
  refine F.ok sc_Grid_may_close (fun vs H Q E h => ?_) (fun a cdv A outer s H vs Q E L hr h => ?_)
  · obtain ⟨p, l, dx, m, ff, rfl, _⟩ := h
    rfl
  have nd := sc_Grid_may_close.nd
  refine ⟨_, (pss_one (ps_ret (pe_andL L (pe_cmpR (op_ L) (pe_fldL L (pv 0)) pe_int (nomark _)) (pe_one (pe_cmpR (op_ L) (pe_callB (oc L) (by rfl) m.max_ bt_max (pa_cons (pe_fldL L (pv 0)) pa_nil)) (pe_fldL L (pv 0)) (nomark _)))))), ?_⟩
  obtain ⟨p, l, dx, mm, ff, rfl, ⟨hp, hl, npl⟩, h0, q⟩ := h
  walk_at "go"
  refine f_get (v := .int mm) hp c.cl c.n1 (by walk_at "lf") ?_
  walk_at "go"
  by_cases h : (mm : Int) > 0
  · rw [decide_eq_true (p := (0 : Int) < mm) h]
    walk_at "go"
    refine f_get (v := .ref l) hp c.cl c.n2 (by walk_at "lf") ?_
    walk_at "go"
    refine k_maxL (ns := ff.map fun (n : Nat) => (n : Int)) (SqL.of (ns_int ff ▸ hl)) (by rw [List.length_map]; exact h0) fun x hx hy => ?_
    walk_at "go"
    refine f_get (v := .int mm) hp c.cl c.n1 (by walk_at "lf") ?_
    walk_at "go"
    have e : closeG mm ff = decide (x ≤ (mm : Int)) := by
      unfold closeG
      rw [decide_eq_true (p := 0 < mm) (by omega), Bool.true_and]
      by_cases hle : x ≤ (mm : Int)
      · rw [decide_eq_true hle]
        refine List.all_eq_true.mpr fun n hn => decide_eq_true ?_
        have := hy n (List.mem_map_of_mem hn)
        omega
      · rw [decide_eq_false hle]
        obtain ⟨n, hn, rfl⟩ := List.mem_map.mp hx
        refine Bool.eq_false_iff.mpr fun z => hle ?_
        have := of_decide_eq_true (List.all_eq_true.mp z n hn)
        omega
    rw [← e]
    exact q
  · rw [decide_eq_false (p := (0 : Int) < mm) h]
    have e : closeG mm ff = false := by
      unfold closeG
      rw [decide_eq_false (p := 0 < mm) (by omega), Bool.false_and]
    rw [e] at q
    walk_at "go"
    exact q
end
end Tk

set_option Elab.async false
set_option linter.all false
set_option maxRecDepth 100000
set_option maxHeartbeats 4000000
namespace Tk
open PySem PySem.Spec PyProof.Rows L2 Lay
open TL (tl ext_tl len_tl tl_append tl_mk mk_tl)
local macro_rules | `(tactic| walk_at "if") => `(tactic| refine ite2 (fun hc => ?_) (fun hc => ?_))
local macro_rules | `(tactic| walk_at "lk") => `(tactic| first | exact upd_same | assumption)
local macro_rules | `(tactic| walk_at "st") => `(tactic| first
  | with_reducible refine r_var rfl ?_ | with_reducible refine r_c ?_ | with_reducible refine r_op ?_ | with_reducible refine r_cons ?_ | with_reducible refine r_nil ?_ | with_reducible refine r_vals ?_
  | with_reducible refine r_cb ?_ | with_reducible refine r_tup ?_ | with_reducible refine r_lst ?_ | with_reducible refine r_call ?_ | with_reducible refine r_test ?_
  | with_reducible refine r_if ?_ | with_reducible refine r_not ?_ | with_reducible refine r_bm ?_ | with_reducible refine r_sl ?_ | with_reducible refine r_np ?_ | with_reducible refine r_part ?_
  | with_reducible refine r_seq ?_ | with_reducible refine r_asg ?_ | with_reducible refine r_name ?_ | with_reducible refine r_ifs ?_ | with_reducible refine r_ret ?_ | with_reducible refine r_next ?_ | with_reducible refine r_par ?_ | with_reducible refine r_par3 ?_ | with_reducible refine r_brk ?_ | with_reducible refine r_cnt ?_ | with_reducible refine r_sub ?_
  | with_reducible refine r_andT ?_ | with_reducible refine r_orT ?_ | with_reducible refine r_notT ?_ | with_reducible refine r_or ?_ | with_reducible refine r_and ?_ | with_reducible refine r_tB ?_ | with_reducible refine r_drop ?_ | with_reducible refine r_callN ?_ | with_reducible refine r_chain ?_
  | with_reducible refine r_for ?_ | with_reducible refine r_lc ?_ | with_reducible refine r_iseq ?_ | with_reducible refine r_rng1 ?_ | with_reducible refine r_enum ?_ | with_reducible refine r_yes ?_ | with_reducible refine r_tru ?_ | with_reducible refine r_gtup ?_ | with_reducible refine r_gcons ?_ | with_reducible refine r_gnil ?_
  | with_reducible refine b_add ?_ | with_reducible refine b_sub ?_ | (with_reducible refine b_mul (by unfold CMul; omega) ?_) | (with_reducible refine b_mod (by omega) ?_) | (with_reducible refine b_fdiv (by unfold CDiv; omega) ?_)
  | with_reducible refine c_lt ?_ | with_reducible refine c_le ?_ | with_reducible refine c_gt ?_ | with_reducible refine c_ge ?_ | with_reducible refine c_isN ?_ | with_reducible refine c_notN ?_ | with_reducible refine c_isB ?_ | with_reducible refine c_eq rfl ?_ | with_reducible refine c_ne rfl ?_
  | with_reducible refine c_insign ?_ | with_reducible refine k_int ?_ | with_reducible refine k_intb ?_ | with_reducible refine k_max ?_ | with_reducible refine k_min ?_
  | with_reducible refine ⟨_, rfl, ?_⟩
  | with_reducible refine ex_par ?_
  | with_reducible refine r_back ?_
  | with_reducible refine ex_par3 ?_
  | with_reducible refine ty_s ?_
  | with_reducible refine tru_b ?_
  | with_reducible refine iteT ?_ | with_reducible refine iteF ?_ | with_reducible refine itnT ?_ | with_reducible refine itnF ?_)
local macro_rules | `(tactic| walk_at "go") => `(tactic| repeat walk_at "st")
local macro_rules | `(tactic| walk_at "cl") => `(tactic| try dsimp only [cxOf, Cx.nox, Cx.wish])
local macro_rules | `(tactic| walk_at "pf") => `(tactic| repeat (first | exact pf_nil | exact pf_eq | refine pf_ne (by decide +kernel) ?_))
local macro_rules | `(tactic| walk_at "lf") => `(tactic| repeat (first | exact lf_nil | exact lf_eq | refine lf_ne (by decide +kernel) ?_))
local macro_rules | `(tactic| walk_at "st") => `(tactic| first
  | with_reducible refine r_fld ?_ | with_reducible refine r_sfld ?_ | with_reducible refine r_make ?_ | with_reducible refine r_meth ?_ | with_reducible refine r_faug ?_ | with_reducible refine r_rngv ?_ | with_reducible refine g_add ?_ | with_reducible refine g_sub ?_)
section
variable {P : Program} {w : World} {K : PySem.W.Frag} {mg : Str → Option Value} {base : Heap} {C : Addr}
theorem ok_Grid_add_cell (F : Mt0 K C "add_cell" "Grid.add_cell" s_Grid_add_cell ["self", "down", "across"]) (m : Md mg) (c : GrC K C) : MtG P w K mg base 1 C "add_cell" (spGrC C) := by
  refine F.ok sc_Grid_add_cell (fun vs H Q E h => ?_) (fun a cdv A outer s H vs Q E L hr h => ?_)
  · obtain ⟨p, l, dx, mm, ff, d, ac, rfl, _⟩ := h
    rfl
  have nd := sc_Grid_add_cell.nd
  refine ⟨_, (pss_cons (ps_if (pt_cmpR (op_ L) (pe_fldL L (pv 0)) pe_int (nomark _)) (pss_one (ps_ret pe_non)) pss_nil) (pss_cons (ps_set (i := 3) nd rfl (.inr rfl) (pe_op (ob L) (pe_fldL L (pv 0)) pe_int)) (pss_cons (ps_set (i := 5) nd rfl (.inr rfl) (pe_lc (own := [("column", 4), ("first", 7)]) rfl nd (pi_enumL L (by rfl) m.enumerate_ (pa_cons (pe_fldL L (pv 0)) pa_nil)) (blkOk_by (own := [("column", 4), ("first", 7)]) (N := ["self", "down", "across", "row", "column", "free", "wanted", "first"]) (sc := defScope s_Grid_add_cell) (by decide +kernel)) (fun _ _ _ _ _ => (pg_tupL (n := 2) L.b (pgs_cons (pg_name (i := 4) nd rfl (.inl rfl)) (pgs_cons (pg_name (i := 7) nd rfl (.inl rfl)) pgs_nil)) (by rfl) (by rfl))) (fun _ _ _ _ _ => inT L.b (pts_one (pt_cmpR (op_ L.b) (pv 7) (pv 3) (nomark _)))) (fun _ _ _ _ _ => inE L.b (pv 4)))) (pss_cons (ps_if (pt_cmpR (op_ L) (pe_callB (oc L) (by rfl) m.len_ bt_len (pa_cons (pv 5) pa_nil)) pe_int (nomark _)) (pss_one (ps_ret pe_non)) pss_nil) (pss_cons (ps_set (i := 6) nd rfl (.inl rfl) (pe_callTy (oc L) (by rfl) m.range_ bt_range (pa_cons (pe_ix (oi L) (pv 5) pe_int (fun _ _ => rfl)) (pa_cons (pe_op (ob L) (pe_ix (oi L) (pv 5) pe_int (fun _ _ => rfl)) (pv 2)) pa_nil)))) (pss_cons (ps_if (pt_truthL L (pe_callB (oc L) (by rfl) m.any_ bt_any (pa_cons (pe_lc (own := [("column", 4)]) rfl nd (pi_rngV (pv 6)) (blkOk_by (own := [("column", 4)]) (N := ["self", "down", "across", "row", "column", "free", "wanted", "first"]) (sc := defScope s_Grid_add_cell) (by decide +kernel)) (fun _ _ _ _ _ => (pg_name (i := 4) nd rfl (.inl rfl))) (fun _ _ _ _ _ => inT L.b pts_nil) (fun _ _ _ _ _ => inE L.b (pe_cmpR (op_ L.b) (pv 4) (pv 5) rfl))) pa_nil))) (pss_one (ps_ret pe_non)) pss_nil) (pss_cons (ps_for PassesOwn.never rfl (pi_rngV (pv 6)) (pg_name (i := 4) nd rfl (.inl rfl)) (pss_one (ps_asg (pe_op (ob L) (pv 3) (pv 1)) (pg_sub (pe_fldL L (pv 0)) (pv 4) (ose L))))) (pss_one (ps_ret (pe_ix (oi L) (pv 5) pe_int (fun _ _ => rfl))))))))))), ?_⟩
  obtain ⟨p, l, dx, mm, ff, d, ac, rfl, g, hm, hlf, hd4, ha4, q1, q2⟩ := h
  have ⟨hp, hl, npl⟩ := g
  refine r_seqH fun nx0 h0 => ?_
  walk_at "go"
  refine f_get (v := .int mm) hp c.cl c.n1 (by walk_at "lf") ?_
  walk_at "go"
  refine ite2 (fun h => ?_) (fun h => ?_)
  · walk_at "go"
    have := V.int.inj (of_decide_eq_true h)
    exact q1 (by unfold cellG; rw [if_pos (by omega)]) _ (Same.refl _)
  have m0 : mm ≠ 0 := fun e => h (decide_eq_true (by rw [e]; rfl))
  walk_at "go"
  refine h0 _ _ ?_
  clear h0
  refine r_seqH fun nx0 h0 => ?_
  walk_at "go"
  refine f_get (v := .int mm) hp c.cl c.n1 (by walk_at "lf") ?_
  walk_at "go"
  rw [show ((mm : Int) - 1) = ((mm - 1 : Nat) : Int) by omega]
  refine h0 _ _ ?_
  clear h0
  refine r_seqH fun nx0 h0 => ?_
  walk_at "go"
  refine f_get (v := .ref l) hp c.cl c.n2 (by walk_at "lf") ?_
  walk_at "go"
  refine ⟨l, ns ff, rfl, .inl ⟨SqL.of hl, fun D hD => ?_⟩⟩
  have wk : Walk (Ite K l) (List.range ff.length).length (fun H => SqL K H l (ns ff)) (YPair (fun i => some (.int (i : Nat))) (fun i => (ns ff)[i]?)) := by
    rw [List.length_range, ← ns_len ff]
    exact walk_enum
  refine lc_pureL (List.range ff.length) 0 wk (fun c => decide (ff.getD c 0 ≤ mm - 1)) (fun (c : Nat) => .int c) (by rw [List.length_range, sizeLine_eq]; omega) hD (fun H' s => SqL.of (s _ _ hl)) (fun i c x H' H'' hi sm hy C1 C0 h1 h0 => ?_) (fun H1 sm1 hf => ?_)
  · obtain ⟨T, x0, y0, rfl, hT, rfl, e1, hy0⟩ := hy
    cases e1
    have hi2 : i < ff.length := by
      have := (List.getElem?_eq_some_iff.mp hi).1
      rwa [List.length_range] at this
    have ec : c = i := by
      rw [List.getElem?_range hi2] at hi
      exact (Option.some.inj hi).symm
    subst ec
    have hy0 : (ns ff)[c]? = some y0 := hy0
    rw [ns_at (List.getElem?_eq_getElem hi2)] at hy0
    cases hy0
    have eg : ff.getD c 0 = ff[c] := getD_of (List.getElem?_eq_getElem hi2)
    walk_at "go"
    refine ⟨T, _, rfl, SqT.of upd_same, rfl, ?_⟩
    walk_at "go"
    refine ⟨rfl, ?_⟩
    walk_at "go"
    have eb : decide ((ff[c] : Int) ≤ ((mm - 1 : Nat) : Int)) = decide (ff.getD c 0 ≤ mm - 1) := by
      rw [eg]
      exact decide_eq_decide.mpr ⟨fun h => by omega, fun h => by omega⟩
    rw [eb]
    refine ite2 (fun h => ?_) (fun h => ?_)
    · walk_at "go"
      exact h1 h _ (Same.new hT)
    · exact h0 (by simpa using h) _ (Same.new hT)
  have hf : H1 D = some (.lst (ns (freeC ff (mm - 1)))) := hf
  walk_at "go"
  refine h0 _ _ ?_
  clear h0
  refine r_seqH fun nx0 h0 => ?_
  walk_at "go"
  refine k_lenl (.inl (SqL.of hf)) ?_
  walk_at "go"
  rw [ns_len]
  have gg := g.same sm1
  cases efr : freeC ff (mm - 1) with
  | nil =>
    refine ite2 (fun _ => ?_) (fun h => absurd (by decide) h)
    walk_at "go"
    exact q1 (by unfold cellG; rw [if_neg m0, efr]) _ sm1
  | cons f fr =>
  refine ite2 (fun h => absurd h (by simp; omega)) (fun _ => ?_)
  walk_at "go"
  refine h0 _ _ ?_
  clear h0
  rw [efr] at hf
  have hfl : f < ff.length := freeC_lt (row := mm - 1) (by rw [efr]; exact List.mem_cons_self)
  refine r_seqH fun nx0 h0 => ?_
  walk_at "go"
  refine i_lst (SqL.of hf) (atI_nat (j := 0) rfl) ?_
  walk_at "go"
  refine i_lst (SqL.of hf) (atI_nat (j := 0) rfl) ?_
  walk_at "go"
  refine k_range2 fun R hR => ?_
  walk_at "go"
  refine h0 _ _ ?_
  clear h0
  have smR : Same H1 (upd H1 R (.rng f ((f : Int) + ac))) := Same.new hR
  have sm2 := sm1.trans smR
  have en : ((f : Int) + ac - f).toNat = ac := by omega
  have bd : -(2 ^ 62) ≤ (f : Int) ∧ (f : Int) < 2 ^ 62 ∧ -(2 ^ 62) ≤ (f : Int) + ac ∧ (f : Int) + ac < 2 ^ 62 := ⟨by omega, by omega, by omega, by omega⟩
  refine r_seqH fun nx0 h0 => ?_
  walk_at "go"
  refine ⟨R, f, _, rfl, upd_same, bd, fun D2 hD2 => ?_⟩
  rw [en]
  have wk2 : Walk (Itr f ac) (List.range ac).length (fun _ => True) (YFn fun i => .int (f + (i : Nat))) := by
    rw [List.length_range]
    exact walk_range
  refine lc_pureL (List.range ac) 0 wk2 (fun _ => true) (fun k => .bl (!decide (f + k ∈ f :: fr))) (by rw [List.length_range, sizeLine_eq]; omega) hD2 (fun _ _ => True.intro) (fun i k x H' H'' hi sm hy C1 C0 h1 h0 => ?_) (fun H3 sm3 hD3 => ?_)
  · obtain ⟨rfl, ex⟩ := hy
    have ex : x = .int ((f + i : Nat) : Int) := ex.trans (congrArg V.int (by omega))
    subst ex
    have hi2 : i < ac := by
      have := (List.getElem?_eq_some_iff.mp hi).1
      rwa [List.length_range] at this
    have ek : k = i := by
      rw [List.getElem?_range hi2] at hi
      exact (Option.some.inj hi).symm
    subst ek
    walk_at "go"
    refine ⟨rfl, ?_⟩
    walk_at "go"
    refine c_notin (xs := ns (f :: fr)) (.inl (SqL.of (sm _ _ (smR _ _ hf)))) rfl (ns_flat _) ?_
    rw [in_ns]
    exact h1 rfl _ (Same.refl _)
  have sm3 := sm2.trans sm3
  rw [filter_yes, ← Function.comp_def V.bl, ← List.map_map] at hD3
  walk_at "go"
  refine k_any (SqL.of hD3) ?_
  walk_at "go"
  have ea : (((List.range ac).map fun k => !decide (f + k ∈ f :: fr)).any id) = !((List.range ac).all fun k => decide (f + k ∈ f :: fr)) := by
    rw [List.any_map]
    show (List.range ac).any (fun k => !decide (f + k ∈ f :: fr)) = _
    rw [List.not_all_eq_any_not]
  rw [ea]
  refine ite2 (fun h => ?_) (fun h => ?_)
  · walk_at "go"
    refine q1 ?_ _ sm3
    unfold cellG
    rw [if_neg m0, efr]
    show (if (List.range ac).all (fun k => decide (f + k ∈ f :: fr)) = true then _ else _) = _
    rw [if_neg (fun z => by rw [z] at h; cases h)]
  have hall : (List.range ac).all (fun k => decide (f + k ∈ f :: fr)) = true := by
    cases z : (List.range ac).all (fun k => decide (f + k ∈ f :: fr)) with
    | true => rfl
    | false =>
      rw [z] at h
      exact absurd rfl h
  have hin : ∀ k, k < ac → f + k < ff.length := fun k hk => freeC_lt (row := mm - 1) (by
    rw [efr]
    exact of_decide_eq_true (List.all_eq_true.mp hall k (List.mem_range.mpr hk)))
  walk_at "go"
  refine h0 _ _ ?_
  clear h0
  have gg := g.same sm3
  have hf3 := (smR.trans ‹_›) _ _ hf
  have hR3 := (‹Same (upd H1 R _) H3›) _ _ (upd_same (H := H1) (a := R))
  have nDl : D ≠ l := fun e => by rw [e, hl] at hD; cases hD
  refine r_seqH fun nx0 h0 => ?_
  walk_at "go"
  refine ⟨R, f, _, rfl, hR3, bd, ?_⟩
  rw [en]
  refine fo_it walk_range (fun i σ H' => (∃ v4 v7, σ = [some (.ref p), some (.int d), some (.int ac), some (.int ((mm - 1 : Nat) : Int)), v4, some (.ref D), some (.ref R), v7]) ∧ But l H H' ∧ Gr H' C p l dx mm (setW ff f (mm - 1 + d) i) ∧ H' D = some (.lst (ns (f :: fr))))
    ⟨⟨_, _, rfl⟩, Same.but sm3, gg, hf3⟩ (fun _ _ _ _ _ => True.intro) (fun i x σ H' H'' hi hP hY => ?_) (fun σ H' hP => ?_)
  · obtain ⟨⟨v4, v7, rfl⟩, b1, ⟨g1, g2, g3⟩, e1⟩ := hP
    obtain ⟨rfl, ex⟩ := hY
    have ex : x = .int ((f + i : Nat) : Int) := ex.trans (congrArg V.int (by omega))
    subst ex
    walk_at "go"
    refine f_get (v := .ref l) g1 c.cl c.n2 (by walk_at "lf") ?_
    walk_at "go"
    refine st_l g2 (ixN_at (by rw [ns_len, setW_len]; exact hin i hi)) ?_
    walk_at "go"
    refine ⟨⟨_, _, rfl⟩, fun b o n e => ?_, ⟨?_, ?_, g3⟩, ?_⟩
    · rw [upd_ne n]
      exact b1 b o n e
    · rw [upd_ne g3]
      exact g1
    · rw [upd_same, show (((mm - 1 : Nat) : Int) + (d : Int)) = ((mm - 1 + d : Nat) : Int) by omega, ns_set]
      rfl
    · rw [upd_ne nDl]
      exact e1
  obtain ⟨⟨v4, v7, rfl⟩, b1, g1, e1⟩ := hP
  refine h0 _ _ ?_
  walk_at "go"
  refine i_lst (SqL.of e1) (atI_nat (j := 0) rfl) ?_
  refine q2 f _ ?_ _ b1 g1
  unfold cellG
  rw [if_neg m0, efr]
  show (if (List.range ac).all (fun k => decide (f + k ∈ f :: fr)) = true then _ else _) = _
  rw [if_pos hall]
end
end Tk

set_option Elab.async false
set_option linter.all false
set_option maxRecDepth 100000
set_option maxHeartbeats 4000000
namespace Tk
open PySem PySem.Spec PyProof.Rows L2 Lay
open TL (tl ext_tl len_tl tl_append tl_mk mk_tl)
local macro_rules | `(tactic| walk_at "if") => `(tactic| refine ite2 (fun hc => ?_) (fun hc => ?_))
local macro_rules | `(tactic| walk_at "lk") => `(tactic| first | exact upd_same | assumption)
local macro_rules | `(tactic| walk_at "st") => `(tactic| first
  | with_reducible refine r_var rfl ?_ | with_reducible refine r_c ?_ | with_reducible refine r_op ?_ | with_reducible refine r_cons ?_ | with_reducible refine r_nil ?_ | with_reducible refine r_vals ?_
  | with_reducible refine r_cb ?_ | with_reducible refine r_tup ?_ | with_reducible refine r_lst ?_ | with_reducible refine r_call ?_ | with_reducible refine r_test ?_
  | with_reducible refine r_if ?_ | with_reducible refine r_not ?_ | with_reducible refine r_bm ?_ | with_reducible refine r_sl ?_ | with_reducible refine r_np ?_ | with_reducible refine r_part ?_
  | with_reducible refine r_seq ?_ | with_reducible refine r_asg ?_ | with_reducible refine r_name ?_ | with_reducible refine r_ifs ?_ | with_reducible refine r_ret ?_ | with_reducible refine r_next ?_ | with_reducible refine r_par ?_ | with_reducible refine r_par3 ?_ | with_reducible refine r_brk ?_ | with_reducible refine r_cnt ?_ | with_reducible refine r_sub ?_
  | with_reducible refine r_andT ?_ | with_reducible refine r_orT ?_ | with_reducible refine r_notT ?_ | with_reducible refine r_or ?_ | with_reducible refine r_and ?_ | with_reducible refine r_tB ?_ | with_reducible refine r_drop ?_ | with_reducible refine r_callN ?_ | with_reducible refine r_chain ?_
  | with_reducible refine r_for ?_ | with_reducible refine r_lc ?_ | with_reducible refine r_iseq ?_ | with_reducible refine r_rng1 ?_ | with_reducible refine r_enum ?_ | with_reducible refine r_yes ?_ | with_reducible refine r_tru ?_ | with_reducible refine r_gtup ?_ | with_reducible refine r_gcons ?_ | with_reducible refine r_gnil ?_
  | with_reducible refine b_add ?_ | with_reducible refine b_sub ?_ | (with_reducible refine b_mul (by unfold CMul; omega) ?_) | (with_reducible refine b_mod (by omega) ?_) | (with_reducible refine b_fdiv (by unfold CDiv; omega) ?_)
  | with_reducible refine c_lt ?_ | with_reducible refine c_le ?_ | with_reducible refine c_gt ?_ | with_reducible refine c_ge ?_ | with_reducible refine c_isN ?_ | with_reducible refine c_notN ?_ | with_reducible refine c_isB ?_ | with_reducible refine c_eq rfl ?_ | with_reducible refine c_ne rfl ?_
  | with_reducible refine c_insign ?_ | with_reducible refine k_int ?_ | with_reducible refine k_intb ?_ | with_reducible refine k_max ?_ | with_reducible refine k_min ?_
  | with_reducible refine ⟨_, rfl, ?_⟩
  | with_reducible refine ex_par ?_
  | with_reducible refine r_back ?_
  | with_reducible refine ex_par3 ?_
  | with_reducible refine ty_s ?_
  | with_reducible refine tru_b ?_
  | with_reducible refine iteT ?_ | with_reducible refine iteF ?_ | with_reducible refine itnT ?_ | with_reducible refine itnF ?_)
local macro_rules | `(tactic| walk_at "go") => `(tactic| repeat walk_at "st")
local macro_rules | `(tactic| walk_at "cl") => `(tactic| try dsimp only [cxOf, Cx.nox, Cx.wish])
/-! ### where rows may stand -/
local macro_rules | `(tactic| walk_at "pf") => `(tactic| repeat (first | exact pf_nil | exact pf_eq | refine pf_ne (by decide +kernel) ?_))
local macro_rules | `(tactic| walk_at "lf") => `(tactic| repeat (first | exact lf_nil | exact lf_eq | refine lf_ne (by decide +kernel) ?_))
local macro_rules | `(tactic| walk_at "st") => `(tactic| first
  | with_reducible refine r_fld ?_ | with_reducible refine r_sfld ?_ | with_reducible refine r_make ?_ | with_reducible refine r_meth ?_ | with_reducible refine r_faug ?_ | with_reducible refine r_rngv ?_ | with_reducible refine g_add ?_ | with_reducible refine g_sub ?_ | (with_reducible refine r_dnewK ?_))
abbrev s_Standing___init__ : Stmt := inClass (topS 43) 0
theorem sc_Standing___init__ : FnScope ["self"] ["self"] (defScope s_Standing___init__) := ⟨rfl, rfl, rfl, by decide +kernel, rfl, by decide +kernel, by decide +kernel⟩
abbrev s_Standing_is_closed : Stmt := inClass (topS 43) 2
theorem sc_Standing_is_closed : FnScope ["self"] ["self"] (defScope s_Standing_is_closed) := ⟨rfl, rfl, rfl, by decide +kernel, rfl, by decide +kernel, by decide +kernel⟩
abbrev s_Standing__takes_when : Stmt := inClass (topS 43) 4
theorem sc_Standing__takes_when : FnScope ["self"] ["self"] (defScope s_Standing__takes_when) := ⟨rfl, rfl, rfl, by decide +kernel, rfl, by decide +kernel, by decide +kernel⟩
abbrev s_Standing__takes_done : Stmt := inClass (topS 43) 5
theorem sc_Standing__takes_done : FnScope ["self"] ["self"] (defScope s_Standing__takes_done) := ⟨rfl, rfl, rfl, by decide +kernel, rfl, by decide +kernel, by decide +kernel⟩
abbrev s_Standing__takes_in_table : Stmt := inClass (topS 43) 6
theorem sc_Standing__takes_in_table : FnScope ["self", "row"] ["self", "row"] (defScope s_Standing__takes_in_table) := ⟨rfl, rfl, rfl, by decide +kernel, rfl, by decide +kernel, by decide +kernel⟩
abbrev s_Standing_takes : Stmt := inClass (topS 43) 1
theorem sc_Standing_takes : FnScope ["self", "row"] ["self", "row"] (defScope s_Standing_takes) := ⟨rfl, rfl, rfl, by decide +kernel, rfl, by decide +kernel, by decide +kernel⟩
abbrev fsSt (d : Addr) (b : Bool) (n : Nat) (g : V) : List (Str × V) := [("rules", .ref d), ("is_ahead", .bl b), ("whens", .int n), ("grid", g)]
structure StC (K : PySem.W.Frag) (C : Addr) : Prop where
  cl : Cls K C
  n1 : NoAttr K C "rules"
  n2 : NoAttr K C "is_ahead"
  n3 : NoAttr K C "whens"
  n4 : NoAttr K C "grid"
inductive Rk where
  | table (c : Nat)
  | row
  | cell (d a : Nat)
  | close
  | when
  | done
  | oth (z : Str)
def ruleW : List Str := ["style", "counter"]
def markW : List Str := ["style", "counter", "table", "row", "cell", "close", "when", "done"]
def rkV : Rk → List V → Prop
  | .table c, xs => 1 ≤ c ∧ c ≤ 4 ∧ ∃ r, xs = [.str "table", .int c, r]
  | .row, xs => xs = [.str "row"]
  | .cell d a, xs => d ≤ 4 ∧ a ≤ 4 ∧ ∃ r, xs = [.str "cell", .int d, .int a, r]
  | .close, xs => xs = [.str "close"]
  | .when, xs => ∃ r, xs = [.str "when", r]
  | .done, xs => xs = [.str "done"]
  | .oth z, xs => z ∉ markW ∧ ∃ r, xs = .str z :: r
def rkW : Rk → Str
  | .table _ => "table"
  | .row => "row"
  | .cell _ _ => "cell"
  | .close => "close"
  | .when => "when"
  | .done => "done"
  | .oth z => z
abbrev Gst : Type := Option (Nat × List Nat)
def stepT (m : Nat) (ff : List Nat) : Rk → Option Gst
  | .row => if m = 8 then none else some (some (m + 1, ff))
  | .cell d a => (cellG m ff d a).map fun p => some (m, p.2)
  | .close => if closeG m ff = true then some none else none
  | _ => none
def stepS (n : Nat) (gr : Gst) (k : Rk) : Option (Nat × Gst) := match gr with
  | some (m, ff) => (stepT m ff k).map fun g => (n, g)
  | none => match k with
    | .table c => some (n, some (0, List.replicate c 0))
    | .when => if n = 3 then none else some (n + 1, none)
    | .done => if n = 0 then none else some (n - 1, none)
    | .oth _ => some (n, none)
    | _ => none
def GrO (H0 H : Hp) (CG p : Addr) (gv : V) : Gst → Prop
  | none => gv = .non
  | some (m, ff) => ∃ g l dx, gv = .ref g ∧ Gr H CG g l dx m ff ∧ p ≠ g ∧ p ≠ l ∧ H0 g = none ∧ H0 l = none ∧ 0 < ff.length ∧ ff.length ≤ 4 ∧ m ≤ 8
/-- a Standing at p, made behind H0 -/
structure StS (H0 H : Hp) (C CG p dx d : Addr) (b : Bool) (n : Nat) (gv : V) (gr : Gst) : Prop where
  sm : Same H0 H
  np : H0 p = none
  at_ : H p = some (.ins C dx (fsSt d b n gv))
  g : GrO H0 H CG p gv gr
def spStI (C : Addr) : Sp := fun vs H Q _ => ∃ p dx, vs = [.ref p] ∧ H p = some (.ins C dx []) ∧ ∀ d H', H d = none → But p H H' → H' p = some (.ins C dx (fsSt d true 0 .non)) → H' d = some (.dK []) → Q .non H'
def spStC (C : Addr) : Sp := fun vs H Q _ => ∃ p dx d b n g, vs = [.ref p] ∧ H p = some (.ins C dx (fsSt d b n g)) ∧ Q (.bl (decide (g = .non) && decide (n = 0))) H
def spStW (C : Addr) : Sp := fun vs H Q _ => ∃ p dx d b n g, vs = [.ref p] ∧ H p = some (.ins C dx (fsSt d b n g)) ∧ (n = 3 → Q (.bl false) H) ∧ (n ≠ 3 → Q (.bl true) (upd H p (.ins C dx (fsSt d b (n + 1) g))))
def spStD (C : Addr) : Sp := fun vs H Q _ => ∃ p dx d b n g, vs = [.ref p] ∧ H p = some (.ins C dx (fsSt d b n g)) ∧ (n = 0 → Q (.bl false) H) ∧ (n ≠ 0 → Q (.bl true) (upd H p (.ins C dx (fsSt d b (n - 1) g))))
def spTit (K : PySem.W.Frag) (C CG : Addr) : Sp := fun vs H Q _ => ∃ H0 p dx d b n gv m ff r xs k, vs = [.ref p, .ref r] ∧ StS H0 H C CG p dx d b n gv (some (m, ff)) ∧ rkV k xs ∧ SqT K H0 r xs ∧
  (stepT m ff k = none → ∀ H', Same H0 H' → Q (.bl false) H') ∧ (∀ gr', stepT m ff k = some gr' → ∀ H' gv', StS H0 H' C CG p dx d b n gv' gr' → Q (.bl true) H')
def spTks (K : PySem.W.Frag) (C CG : Addr) : Sp := fun vs H Q _ => ∃ H0 p dx d b n gv gr r xs k, vs = [.ref p, .ref r] ∧ StS H0 H C CG p dx d b n gv gr ∧ rkV k xs ∧ SqT K H0 r xs ∧ rkW k ∉ ruleW ∧
  (stepS n gr k = none → ∀ H', Same H0 H' → Q (.bl false) H') ∧ (∀ n' gr', stepS n gr k = some (n', gr') → ∀ H' gv', StS H0 H' C CG p dx d false n' gv' gr' → Q (.bl true) H')
theorem in_stS (z : Str) : ∀ zs : List Str, inV (.str z) (stS zs) = decide (z ∈ zs)
  | [] => by simp [inV, stS]
  | y :: r => by
    show (eqV (.str y) (.str z) || inV (.str z) (stS r)) = _
    rw [in_stS z r]
    have e : eqV (.str y) (.str z) = decide (z = y) := by
      show decide (y = z) = _
      exact decide_eq_decide.mpr ⟨fun h => h.symm, fun h => h.symm⟩
    rw [e]
    by_cases h : z = y <;> simp [h]
theorem sq_ (z y : Str) : decide (V.str z = V.str y) = decide (z = y) := decide_eq_decide.mpr ⟨V.str.inj, congrArg _⟩
theorem rk_at {k : Rk} {xs : List V} (h : rkV k xs) : ∃ r, xs = .str (rkW k) :: r := by
  cases k with
  | table c => obtain ⟨_, _, r, rfl⟩ := h; exact ⟨_, rfl⟩
  | cell d a => obtain ⟨_, _, r, rfl⟩ := h; exact ⟨_, rfl⟩
  | when => obtain ⟨r, rfl⟩ := h; exact ⟨_, rfl⟩
  | oth z => obtain ⟨_, r, rfl⟩ := h; exact ⟨_, rfl⟩
  | row => cases h; exact ⟨_, rfl⟩
  | close => cases h; exact ⟨_, rfl⟩
  | done => cases h; exact ⟨_, rfl⟩
/-- of which sort the word tells -/
theorem rk_w {k : Rk} {xs : List V} (h : rkV k xs) {y : Str} (hy : y ∈ markW) (e : rkW k = y) : ∀ z, k ≠ .oth z := fun z ek => by
  subst ek
  exact h.1 (by rw [show z = y from e]; exact hy)
section
variable {P : Program} {w : World} {K : PySem.W.Frag} {mg : Str → Option Value} {base : Heap} {C CG : Addr}
theorem StS.up {H0 H H' : Hp} {p dx d b n gv gr b' n'} (t : StS H0 H C CG p dx d b n gv gr) (e : H' = upd H p (.ins C dx (fsSt d b' n' gv))) : StS H0 H' C CG p dx d b' n' gv gr := by
  subst e
  have bu : But p H (upd H p (.ins C dx (fsSt d b' n' gv))) := fun a o n e => by
    rw [upd_ne n]
    exact e
  refine ⟨Same.via t.sm t.np bu, t.np, upd_same, ?_⟩
  have g := t.g
  cases gr with
  | none => exact g
  | some q =>
    obtain ⟨m, ff⟩ := q
    obtain ⟨ga, l, dxg, e, ⟨g1, g2, g3⟩, n1, n2, r⟩ := g
    exact ⟨ga, l, dxg, e, ⟨bu _ _ n1.symm g1, bu _ _ n2.symm g2, g3⟩, n1, n2, r⟩
theorem ok_Standing (F : In0 K mg "Standing" C "Standing.__init__" s_Standing___init__ ["self"]) (c : StC K C) : MkG P w K mg base 1 "Standing" C [] (spStI C) := by
  refine F.ok sc_Standing___init__ (fun vs H Q E h => ?_) (fun a cdv A outer s H vs Q E L hr h => ?_)
  · obtain ⟨p, dx, rfl, _⟩ := h
    rfl
  have nd := sc_Standing___init__.nd
  refine ⟨_, (pss_cons (ps_fldL L (pv 0) pe_dnewK) (pss_cons (ps_fldL L (pv 0) pe_bl) (pss_cons (ps_fldL L (pv 0) pe_int) (pss_one (ps_fldL L (pv 0) pe_non))))), ?_⟩
  obtain ⟨p, dx, rfl, hp, q⟩ := h
  walk_at "go"
  intro d hd
  walk_at "go"
  have npd : p ≠ d := ne_of_none hp hd
  refine f_put (fs' := [("rules", .ref d)]) (by rw [upd_ne npd]; exact hp) c.cl c.n1 (by walk_at "pf") (by show 0 < 1000; decide) ?_
  walk_at "go"
  refine f_put (fs' := [("rules", .ref d), ("is_ahead", .bl true)]) upd_same c.cl c.n2 (by walk_at "pf") (by show 1 < 1000; decide) ?_
  walk_at "go"
  refine f_put (fs' := [("rules", .ref d), ("is_ahead", .bl true), ("whens", .int 0)]) upd_same c.cl c.n3 (by walk_at "pf") (by show 2 < 1000; decide) ?_
  walk_at "go"
  refine f_put (fs' := fsSt d true 0 .non) upd_same c.cl c.n4 (by walk_at "pf") (by show 3 < 1000; decide) ?_
  refine q d _ hd (fun b o n e => ?_) upd_same ?_
  · rw [upd_ne n, upd_ne n, upd_ne n, upd_ne n, upd_ne (ne_of_none e hd)]
    exact e
  · rw [upd_ne npd.symm, upd_ne npd.symm, upd_ne npd.symm, upd_ne npd.symm]
    exact upd_same
theorem ok_Standing_is_closed (F : Mt0 K C "is_closed" "Standing.is_closed" s_Standing_is_closed ["self"]) (c : StC K C) : MtG P w K mg base 1 C "is_closed" (spStC C) := by
  refine F.ok sc_Standing_is_closed (fun vs H Q E h => ?_) (fun a cdv A outer s H vs Q E L hr h => ?_)
  · obtain ⟨p, dx, d, b, n, g, rfl, _⟩ := h
    rfl
  have nd := sc_Standing_is_closed.nd
  refine ⟨_, (pss_one (ps_ret (pe_andL L (pe_cmpR (op_ L) (pe_fldL L (pv 0)) pe_non (nomark _)) (pe_one (pe_cmpR (op_ L) (pe_fldL L (pv 0)) pe_int (nomark _)))))), ?_⟩
  obtain ⟨p, dx, d, b, n, g, rfl, hp, q⟩ := h
  walk_at "go"
  refine f_get (v := g) hp c.cl c.n4 (by walk_at "lf") ?_
  walk_at "go"
  by_cases hg : g = .non
  · rw [decide_eq_true hg] at q ⊢
    walk_at "go"
    refine f_get (v := .int n) hp c.cl c.n3 (by walk_at "lf") ?_
    walk_at "go"
    rw [Bool.true_and] at q
    rw [show decide (V.int (n : Int) = V.int 0) = decide (n = 0) from decide_eq_decide.mpr ⟨fun e => by have := V.int.inj e; omega, fun e => by rw [e]; rfl⟩]
    exact q
  · rw [decide_eq_false hg] at q ⊢
    rw [Bool.false_and] at q
    walk_at "go"
    exact q
theorem ok_Standing__takes_when (F : Mt0 K C "_takes_when" "Standing._takes_when" s_Standing__takes_when ["self"]) (c : StC K C) (g_MOST_WHENS : Gv mg "MOST_WHENS" (.int 3)) : MtG P w K mg base 1 C "_takes_when" (spStW C) := by
  refine F.ok sc_Standing__takes_when (fun vs H Q E h => ?_) (fun a cdv A outer s H vs Q E L hr h => ?_)
  · obtain ⟨p, dx, d, b, n, g, rfl, _⟩ := h
    rfl
  have nd := sc_Standing__takes_when.nd
  refine ⟨_, (pss_cons (ps_if (pt_cmpR (op_ L) (pe_fldL L (pv 0)) (pe_gv g_MOST_WHENS (by rfl)) (nomark _)) (pss_one (ps_ret pe_bl)) pss_nil) (pss_cons (ps_fldaugL L (pv 0) pe_int in_add) (pss_one (ps_ret pe_bl)))), ?_⟩
  obtain ⟨p, dx, d, b, n, g, rfl, hp, q1, q2⟩ := h
  walk_at "go"
  refine f_get (v := .int n) hp c.cl c.n3 (by walk_at "lf") ?_
  walk_at "go"
  refine ite2 (fun h => ?_) (fun h => ?_)
  · walk_at "go"
    have := V.int.inj (of_decide_eq_true h)
    exact q1 (by omega)
  · walk_at "go"
    refine ⟨p, C, dx, fsSt d b n g, .int n, rfl, hp, c.cl, c.n3, by walk_at "lf", ?_⟩
    walk_at "go"
    refine f_aug (fs' := fsSt d b (n + 1) g) hp (by rw [show ((n : Int) + 1) = ((n + 1 : Nat) : Int) by omega]; walk_at "pf") (by show 4 < 1000; decide) ?_
    walk_at "go"
    exact q2 fun e => h (decide_eq_true (by rw [e]; rfl))
theorem ok_Standing__takes_done (F : Mt0 K C "_takes_done" "Standing._takes_done" s_Standing__takes_done ["self"]) (c : StC K C) : MtG P w K mg base 1 C "_takes_done" (spStD C) := by
  refine F.ok sc_Standing__takes_done (fun vs H Q E h => ?_) (fun a cdv A outer s H vs Q E L hr h => ?_)
  · obtain ⟨p, dx, d, b, n, g, rfl, _⟩ := h
    rfl
  have nd := sc_Standing__takes_done.nd
  refine ⟨_, (pss_cons (ps_if (pt_cmpR (op_ L) (pe_fldL L (pv 0)) pe_int (nomark _)) (pss_one (ps_ret pe_bl)) pss_nil) (pss_cons (ps_fldaugL L (pv 0) pe_int in_sub) (pss_one (ps_ret pe_bl)))), ?_⟩
  obtain ⟨p, dx, d, b, n, g, rfl, hp, q1, q2⟩ := h
  walk_at "go"
  refine f_get (v := .int n) hp c.cl c.n3 (by walk_at "lf") ?_
  walk_at "go"
  refine ite2 (fun h => ?_) (fun h => ?_)
  · walk_at "go"
    have := V.int.inj (of_decide_eq_true h)
    exact q1 (by omega)
  · have n0 : n ≠ 0 := fun e => h (decide_eq_true (by rw [e]; rfl))
    walk_at "go"
    refine ⟨p, C, dx, fsSt d b n g, .int n, rfl, hp, c.cl, c.n3, by walk_at "lf", ?_⟩
    walk_at "go"
    refine f_aug (fs' := fsSt d b (n - 1) g) hp (by rw [show ((n : Int) - 1) = ((n - 1 : Nat) : Int) by omega]; walk_at "pf") (by show 4 < 1000; decide) ?_
    walk_at "go"
    exact q2 n0
end
end Tk

set_option Elab.async false
set_option linter.all false
set_option maxRecDepth 100000
set_option maxHeartbeats 4000000
namespace Tk
open PySem PySem.Spec PyProof.Rows L2 Lay
open TL (tl ext_tl len_tl tl_append tl_mk mk_tl)
local macro_rules | `(tactic| walk_at "if") => `(tactic| refine ite2 (fun hc => ?_) (fun hc => ?_))
local macro_rules | `(tactic| walk_at "lk") => `(tactic| first | exact upd_same | assumption)
local macro_rules | `(tactic| walk_at "st") => `(tactic| first
  | with_reducible refine r_var rfl ?_ | with_reducible refine r_c ?_ | with_reducible refine r_op ?_ | with_reducible refine r_cons ?_ | with_reducible refine r_nil ?_ | with_reducible refine r_vals ?_
  | with_reducible refine r_cb ?_ | with_reducible refine r_tup ?_ | with_reducible refine r_lst ?_ | with_reducible refine r_call ?_ | with_reducible refine r_test ?_
  | with_reducible refine r_if ?_ | with_reducible refine r_not ?_ | with_reducible refine r_bm ?_ | with_reducible refine r_sl ?_ | with_reducible refine r_np ?_ | with_reducible refine r_part ?_
  | with_reducible refine r_seq ?_ | with_reducible refine r_asg ?_ | with_reducible refine r_name ?_ | with_reducible refine r_ifs ?_ | with_reducible refine r_ret ?_ | with_reducible refine r_next ?_ | with_reducible refine r_par ?_ | with_reducible refine r_par3 ?_ | with_reducible refine r_brk ?_ | with_reducible refine r_cnt ?_ | with_reducible refine r_sub ?_
  | with_reducible refine r_andT ?_ | with_reducible refine r_orT ?_ | with_reducible refine r_notT ?_ | with_reducible refine r_or ?_ | with_reducible refine r_and ?_ | with_reducible refine r_tB ?_ | with_reducible refine r_drop ?_ | with_reducible refine r_callN ?_ | with_reducible refine r_chain ?_
  | with_reducible refine r_for ?_ | with_reducible refine r_lc ?_ | with_reducible refine r_iseq ?_ | with_reducible refine r_rng1 ?_ | with_reducible refine r_enum ?_ | with_reducible refine r_yes ?_ | with_reducible refine r_tru ?_ | with_reducible refine r_gtup ?_ | with_reducible refine r_gcons ?_ | with_reducible refine r_gnil ?_
  | with_reducible refine b_add ?_ | with_reducible refine b_sub ?_ | (with_reducible refine b_mul (by unfold CMul; omega) ?_) | (with_reducible refine b_mod (by omega) ?_) | (with_reducible refine b_fdiv (by unfold CDiv; omega) ?_)
  | with_reducible refine c_lt ?_ | with_reducible refine c_le ?_ | with_reducible refine c_gt ?_ | with_reducible refine c_ge ?_ | with_reducible refine c_isN ?_ | with_reducible refine c_notN ?_ | with_reducible refine c_isB ?_ | with_reducible refine c_eq rfl ?_ | with_reducible refine c_ne rfl ?_
  | with_reducible refine c_insign ?_ | with_reducible refine k_int ?_ | with_reducible refine k_intb ?_ | with_reducible refine k_max ?_ | with_reducible refine k_min ?_
  | with_reducible refine ⟨_, rfl, ?_⟩
  | with_reducible refine ex_par ?_
  | with_reducible refine r_back ?_
  | with_reducible refine ex_par3 ?_
  | with_reducible refine ty_s ?_
  | with_reducible refine tru_b ?_
  | with_reducible refine iteT ?_ | with_reducible refine iteF ?_ | with_reducible refine itnT ?_ | with_reducible refine itnF ?_)
local macro_rules | `(tactic| walk_at "go") => `(tactic| repeat walk_at "st")
local macro_rules | `(tactic| walk_at "cl") => `(tactic| try dsimp only [cxOf, Cx.nox, Cx.wish])
local macro_rules | `(tactic| walk_at "pf") => `(tactic| repeat (first | exact pf_nil | exact pf_eq | refine pf_ne (by decide +kernel) ?_))
local macro_rules | `(tactic| walk_at "lf") => `(tactic| repeat (first | exact lf_nil | exact lf_eq | refine lf_ne (by decide +kernel) ?_))
local macro_rules | `(tactic| walk_at "st") => `(tactic| first
  | with_reducible refine r_fld ?_ | with_reducible refine r_sfld ?_ | with_reducible refine r_make ?_ | with_reducible refine r_meth ?_ | with_reducible refine r_faug ?_ | with_reducible refine r_rngv ?_ | with_reducible refine g_add ?_ | with_reducible refine g_sub ?_ | (with_reducible refine r_dnewK ?_))
section
variable {P : Program} {w : World} {K : PySem.W.Frag} {mg : Str → Option Value} {base : Heap} {C CG : Addr}
theorem rk_row {k : Rk} {xs : List V} (h : rkV k xs) (e : rkW k = "row") : k = .row := by
  cases k with
  | row => rfl
  | oth z => exact absurd rfl (rk_w h (y := "row") (by decide +kernel) e z)
  | _ => exact absurd e (by simp only [rkW]; decide +kernel)
theorem rk_cell {k : Rk} {xs : List V} (h : rkV k xs) (e : rkW k = "cell") : ∃ cd ca, k = .cell cd ca := by
  cases k with
  | cell cd ca => exact ⟨cd, ca, rfl⟩
  | oth z => exact absurd rfl (rk_w h (y := "cell") (by decide +kernel) e z)
  | _ => exact absurd e (by simp only [rkW]; decide +kernel)
theorem rk_close {k : Rk} {xs : List V} (h : rkV k xs) (e : rkW k = "close") : k = .close := by
  cases k with
  | close => rfl
  | oth z => exact absurd rfl (rk_w h (y := "close") (by decide +kernel) e z)
  | _ => exact absurd e (by simp only [rkW]; decide +kernel)
theorem rk_table {k : Rk} {xs : List V} (h : rkV k xs) (e : rkW k = "table") : ∃ c, k = .table c := by
  cases k with
  | table c => exact ⟨c, rfl⟩
  | oth z => exact absurd rfl (rk_w h (y := "table") (by decide +kernel) e z)
  | _ => exact absurd e (by simp only [rkW]; decide +kernel)
theorem rk_when {k : Rk} {xs : List V} (h : rkV k xs) (e : rkW k = "when") : k = .when := by
  cases k with
  | when => rfl
  | oth z => exact absurd rfl (rk_w h (y := "when") (by decide +kernel) e z)
  | _ => exact absurd e (by simp only [rkW]; decide +kernel)
theorem rk_done {k : Rk} {xs : List V} (h : rkV k xs) (e : rkW k = "done") : k = .done := by
  cases k with
  | done => rfl
  | oth z => exact absurd rfl (rk_w h (y := "done") (by decide +kernel) e z)
  | _ => exact absurd e (by simp only [rkW]; decide +kernel)
theorem StS.gget {H0 H : Hp} {p dx d b n gv m ff} (t : StS H0 H C CG p dx d b n gv (some (m, ff))) : ∃ g l dxg, gv = .ref g ∧ Gr H CG g l dxg m ff ∧ p ≠ g ∧ p ≠ l ∧ H0 g = none ∧ H0 l = none ∧ 0 < ff.length ∧ ff.length ≤ 4 ∧ m ≤ 8 := t.g
theorem ok_Standing__takes_in_table (F : Mt0 K C "_takes_in_table" "Standing._takes_in_table" s_Standing__takes_in_table ["self", "row"]) (m : Md mg) (c : StC K C) (l_Grid : Cls K CG) (c_Grid_add_row : MtG P w K mg base 1 CG "add_row" (spGrR CG)) (c_Grid_add_cell : MtG P w K mg base 1 CG "add_cell" (spGrC CG))
    (c_Grid_may_close : MtG P w K mg base 1 CG "may_close" (spGrM CG)) : MtG P w K mg base 2 C "_takes_in_table" (spTit K C CG) := by
  refine F.ok sc_Standing__takes_in_table (fun vs H Q E h => ?_) (fun a cdv A outer s H vs Q E L hr h => ?_)
  · obtain ⟨H0, p, dx, d, b, n, gv, mm, ff, r, xs, k, rfl, _⟩ := h
    rfl
  have nd := sc_Standing__takes_in_table.nd
  refine ⟨_, (pss_cons (ps_if (pt_cmpR (op_ L) (pe_ix (oi L) (pv 1) pe_int (fun _ _ => rfl)) pe_str (nomark _)) (pss_one (ps_ret (pe_mtG0 l_Grid c_Grid_add_row (hr.mono (by decide)) (pe_fldL L (pv 0))))) pss_nil) (pss_cons (ps_if (pt_cmpR (op_ L) (pe_ix (oi L) (pv 1) pe_int (fun _ _ => rfl)) pe_str (nomark _)) (pss_one (ps_ret (pe_cmpR (op_ L) (pe_mtG l_Grid c_Grid_add_cell (hr.mono (by decide)) (pe_fldL L (pv 0)) (pa_cons (pe_ix (oi L) (pv 1) pe_int (fun _ _ => rfl)) (pa_cons (pe_ix (oi L) (pv 1) pe_int (fun _ _ => rfl)) pa_nil))) pe_non (nomark _)))) pss_nil) (pss_cons (ps_if (PW.pt (pw_or (pt_cmpR (op_ L) (pe_ix (oi L) (pv 1) pe_int (fun _ _ => rfl)) pe_str (nomark _)) (pw_or1 (pt_not (pt_truthL L (pe_mtG0 l_Grid c_Grid_may_close (hr.mono (by decide)) (pe_fldL L (pv 0)))))))) (pss_one (ps_ret pe_bl)) pss_nil) (pss_cons (ps_fldL L (pv 0) pe_non) (pss_one (ps_ret pe_bl)))))), ?_⟩
  obtain ⟨H0, p, dx, d, b, n, gv, mm, ff, r, xs, k, rfl, t, hk, hS0, q1, q2⟩ := h
  have hS := Same.sqt t.sm hS0
  obtain ⟨g, l, dxg, rfl, gg, npg, npl, h0g, h0l, hf0, hf4, hm8⟩ := t.gget
  have hp := t.at_
  obtain ⟨xr, ex⟩ := rk_at hk
  have h0i : atI xs 0 = some (.str (rkW k)) := by rw [ex]; exact atI_nat (j := 0) rfl
  refine r_seqH fun nx0 h0 => ?_
  walk_at "go"
  refine i_tup hS h0i ?_
  walk_at "go"
  rw [sq_]
  refine ite2 (fun h => ?_) (fun h => ?_)
  · have ek : k = .row := rk_row hk (of_decide_eq_true h)
    subst ek
    walk_at "go"
    refine f_get (v := .ref g) hp c.cl c.n4 (by walk_at "lf") ?_
    refine ⟨g, dxg, _, rfl, gg.1, by walk_at "lf", ?_⟩
    walk_at "go"
    refine ⟨g, l, dxg, mm, ff, rfl, gg, fun e => ?_, fun e H' bu g' => ?_⟩
    · exact q1 (by show (if mm = 8 then none else _) = none; rw [if_pos e]) _ t.sm
    · refine q2 (some (mm + 1, ff)) (by show (if mm = 8 then none else _) = _; rw [if_neg e]) _ (.ref g) ⟨Same.via t.sm h0g bu, t.np, bu _ _ npg hp, ?_⟩
      exact ⟨g, l, dxg, rfl, g', npg, npl, h0g, h0l, hf0, hf4, by omega⟩
  have nrow : k ≠ .row := fun e => by
    subst e
    exact h (decide_eq_true rfl)
  walk_at "go"
  refine h0 _ _ ?_
  clear h0
  refine r_seqH fun nx0 h0 => ?_
  walk_at "go"
  refine i_tup hS h0i ?_
  walk_at "go"
  rw [sq_]
  refine ite2 (fun h => ?_) (fun h => ?_)
  · obtain ⟨cd, ca, rfl⟩ := rk_cell hk (of_decide_eq_true h)
    obtain ⟨hd4, ha4, r2, rfl⟩ := hk
    walk_at "go"
    refine f_get (v := .ref g) hp c.cl c.n4 (by walk_at "lf") ?_
    refine ⟨g, dxg, _, rfl, gg.1, by walk_at "lf", ?_⟩
    walk_at "go"
    refine i_tup hS (atI_nat (j := 1) rfl) ?_
    walk_at "go"
    refine i_tup hS (atI_nat (j := 2) rfl) ?_
    walk_at "go"
    refine ⟨g, l, dxg, mm, ff, cd, ca, rfl, gg, hm8, hf4, hd4, ha4, fun e H' sm => ?_, fun cc ff' e H' bu g' => ?_⟩
    · walk_at "go"
      exact q1 (by show (cellG mm ff cd ca).map _ = none; rw [e]; rfl) _ (t.sm.trans sm)
    · walk_at "go"
      have hfl : ff'.length = ff.length := by
        have e2 := e
        unfold cellG at e2
        split at e2
        · cases e2
        · split at e2
          · cases e2
          · split at e2
            · cases e2
              exact setW_len _ _ _ _
            · cases e2
      refine q2 (some (mm, ff')) (by show (cellG mm ff cd ca).map _ = _; rw [e]; rfl) _ (.ref g) ⟨Same.via t.sm h0l bu, t.np, bu _ _ npl hp, ?_⟩
      exact ⟨g, l, dxg, rfl, g', npg, npl, h0g, h0l, by omega, by omega, hm8⟩
  have ncell : ∀ cd ca, k ≠ .cell cd ca := fun cd ca e => by
    subst e
    exact h (decide_eq_true rfl)
  walk_at "go"
  refine h0 _ _ ?_
  clear h0
  refine r_seqH fun nx0 h0 => ?_
  walk_at "go"
  refine i_tup hS h0i ?_
  walk_at "go"
  rw [sq_]
  by_cases hcl : rkW k = "close"
  rotate_left
  · rw [decide_eq_false hcl]
    walk_at "go"
    refine q1 ?_ _ t.sm
    cases k with
    | row => exact absurd rfl nrow
    | cell cd ca => exact absurd rfl (ncell cd ca)
    | close => exact absurd rfl hcl
    | _ => rfl
  have ek : k = .close := rk_close hk hcl
  subst ek
  rw [decide_eq_true hcl]
  walk_at "go"
  refine f_get (v := .ref g) hp c.cl c.n4 (by walk_at "lf") ?_
  refine ⟨g, dxg, _, rfl, gg.1, by walk_at "lf", ?_⟩
  walk_at "go"
  refine ⟨g, l, dxg, mm, ff, rfl, gg, hf0, ?_⟩
  walk_at "go"
  refine ite2 (fun h => ?_) (fun h => ?_)
  · walk_at "go"
    exact q1 (by show (if closeG mm ff = true then _ else none) = none; rw [if_neg (by simpa using h)]) _ t.sm
  · have hc : closeG mm ff = true := by simpa using h
    walk_at "go"
    refine h0 _ _ ?_
    clear h0
    walk_at "go"
    refine f_put (fs' := fsSt d b n .non) hp c.cl c.n4 (by walk_at "pf") (by show 4 < 1000; decide) ?_
    walk_at "go"
    refine q2 none (by show (if closeG mm ff = true then some none else none) = _; rw [if_pos hc]) _ .non ⟨Same.via t.sm t.np (fun b o n e => by rw [upd_ne n]; exact e), t.np, upd_same, rfl⟩
end
end Tk

set_option Elab.async false
set_option linter.all false
set_option maxRecDepth 100000
set_option maxHeartbeats 4000000
namespace Tk
open PySem PySem.Spec PyProof.Rows L2 Lay
open TL (tl ext_tl len_tl tl_append tl_mk mk_tl)
local macro_rules | `(tactic| walk_at "if") => `(tactic| refine ite2 (fun hc => ?_) (fun hc => ?_))
local macro_rules | `(tactic| walk_at "lk") => `(tactic| first | exact upd_same | assumption)
local macro_rules | `(tactic| walk_at "st") => `(tactic| first
  | with_reducible refine r_var rfl ?_ | with_reducible refine r_c ?_ | with_reducible refine r_op ?_ | with_reducible refine r_cons ?_ | with_reducible refine r_nil ?_ | with_reducible refine r_vals ?_
  | with_reducible refine r_cb ?_ | with_reducible refine r_tup ?_ | with_reducible refine r_lst ?_ | with_reducible refine r_call ?_ | with_reducible refine r_test ?_
  | with_reducible refine r_if ?_ | with_reducible refine r_not ?_ | with_reducible refine r_bm ?_ | with_reducible refine r_sl ?_ | with_reducible refine r_np ?_ | with_reducible refine r_part ?_
  | with_reducible refine r_seq ?_ | with_reducible refine r_asg ?_ | with_reducible refine r_name ?_ | with_reducible refine r_ifs ?_ | with_reducible refine r_ret ?_ | with_reducible refine r_next ?_ | with_reducible refine r_par ?_ | with_reducible refine r_par3 ?_ | with_reducible refine r_brk ?_ | with_reducible refine r_cnt ?_ | with_reducible refine r_sub ?_
  | with_reducible refine r_andT ?_ | with_reducible refine r_orT ?_ | with_reducible refine r_notT ?_ | with_reducible refine r_or ?_ | with_reducible refine r_and ?_ | with_reducible refine r_tB ?_ | with_reducible refine r_drop ?_ | with_reducible refine r_callN ?_ | with_reducible refine r_chain ?_
  | with_reducible refine r_for ?_ | with_reducible refine r_lc ?_ | with_reducible refine r_iseq ?_ | with_reducible refine r_rng1 ?_ | with_reducible refine r_enum ?_ | with_reducible refine r_yes ?_ | with_reducible refine r_tru ?_ | with_reducible refine r_gtup ?_ | with_reducible refine r_gcons ?_ | with_reducible refine r_gnil ?_
  | with_reducible refine b_add ?_ | with_reducible refine b_sub ?_ | (with_reducible refine b_mul (by unfold CMul; omega) ?_) | (with_reducible refine b_mod (by omega) ?_) | (with_reducible refine b_fdiv (by unfold CDiv; omega) ?_)
  | with_reducible refine c_lt ?_ | with_reducible refine c_le ?_ | with_reducible refine c_gt ?_ | with_reducible refine c_ge ?_ | with_reducible refine c_isN ?_ | with_reducible refine c_notN ?_ | with_reducible refine c_isB ?_ | with_reducible refine c_eq rfl ?_ | with_reducible refine c_ne rfl ?_
  | with_reducible refine c_insign ?_ | with_reducible refine k_int ?_ | with_reducible refine k_intb ?_ | with_reducible refine k_max ?_ | with_reducible refine k_min ?_
  | with_reducible refine ⟨_, rfl, ?_⟩
  | with_reducible refine ex_par ?_
  | with_reducible refine r_back ?_
  | with_reducible refine ex_par3 ?_
  | with_reducible refine ty_s ?_
  | with_reducible refine tru_b ?_
  | with_reducible refine iteT ?_ | with_reducible refine iteF ?_ | with_reducible refine itnT ?_ | with_reducible refine itnF ?_)
local macro_rules | `(tactic| walk_at "go") => `(tactic| repeat walk_at "st")
local macro_rules | `(tactic| walk_at "cl") => `(tactic| try dsimp only [cxOf, Cx.nox, Cx.wish])
local macro_rules | `(tactic| walk_at "pf") => `(tactic| repeat (first | exact pf_nil | exact pf_eq | refine pf_ne (by decide +kernel) ?_))
local macro_rules | `(tactic| walk_at "lf") => `(tactic| repeat (first | exact lf_nil | exact lf_eq | refine lf_ne (by decide +kernel) ?_))
local macro_rules | `(tactic| walk_at "st") => `(tactic| first
  | with_reducible refine r_fld ?_ | with_reducible refine r_sfld ?_ | with_reducible refine r_make ?_ | with_reducible refine r_meth ?_ | with_reducible refine r_faug ?_ | with_reducible refine r_rngv ?_ | with_reducible refine g_add ?_ | with_reducible refine g_sub ?_ | (with_reducible refine r_dnewK ?_))
section
variable {P : Program} {w : World} {K : PySem.W.Frag} {mg : Str → Option Value} {base : Heap} {C CG : Addr}
def spNo : Sp := fun _ _ _ _ => False
theorem ok_Standing_takes (F : Mt0 K C "takes" "Standing.takes" s_Standing_takes ["self", "row"]) (m : Md mg) (c : StC K C) (l_Standing : Cls K C) (g_RULE_ROWS : Gt K mg "RULE_ROWS" (stS ruleW)) (c_Standing__takes_rule : MtG P w K mg base 2 C "_takes_rule" spNo)
    (c_Standing__takes_in_table : MtG P w K mg base 2 C "_takes_in_table" (spTit K C CG)) (c_Standing__takes_when : MtG P w K mg base 1 C "_takes_when" (spStW C)) (c_Standing__takes_done : MtG P w K mg base 1 C "_takes_done" (spStD C))
    (k_Grid : MkG P w K mg base 1 "Grid" CG [] (spGrI CG)) : MtG P w K mg base 3 C "takes" (spTks K C CG) := by
  refine F.ok sc_Standing_takes (fun vs H Q E h => ?_) (fun a cdv A outer s H vs Q E L hr h => ?_)
  · obtain ⟨H0, p, dx, d, b, n, gv, gr, r, xs, k, rfl, _⟩ := h
    rfl
  have nd := sc_Standing_takes.nd
  refine ⟨_, (pss_cons (ps_if (pt_cmpR (op_ L) (pe_ix (oi L) (pv 1) pe_int (fun _ _ => rfl)) (pe_gtL L g_RULE_ROWS (by rfl)) rfl) (pss_one (ps_ret (pe_mtG l_Standing c_Standing__takes_rule (hr.mono (by decide)) (pv 0) (pa_cons (pv 1) pa_nil)))) pss_nil) (pss_cons (ps_fldL L (pv 0) pe_bl) (pss_cons (ps_if (pt_cmpR (op_ L) (pe_fldL L (pv 0)) pe_non (nomark _)) (pss_one (ps_ret (pe_mtG l_Standing c_Standing__takes_in_table (hr.mono (by decide)) (pv 0) (pa_cons (pv 1) pa_nil)))) pss_nil) (pss_cons (ps_if (pt_cmpR (op_ L) (pe_ix (oi L) (pv 1) pe_int (fun _ _ => rfl)) pe_str (nomark _)) (pss_cons (ps_fldL L (pv 0) (pe_mkG k_Grid (hr.mono (by decide)) (by rfl) (pa_cons (pe_ix (oi L) (pv 1) pe_int (fun _ _ => rfl)) pa_nil))) (pss_one (ps_ret pe_bl))) pss_nil) (pss_cons (ps_if (pt_cmpR (op_ L) (pe_ix (oi L) (pv 1) pe_int (fun _ _ => rfl)) pe_str (nomark _)) (pss_one (ps_ret (pe_mtG0 l_Standing c_Standing__takes_when (hr.mono (by decide)) (pv 0)))) pss_nil) (pss_cons (ps_if (pt_cmpR (op_ L) (pe_ix (oi L) (pv 1) pe_int (fun _ _ => rfl)) pe_str (nomark _)) (pss_one (ps_ret (pe_mtG0 l_Standing c_Standing__takes_done (hr.mono (by decide)) (pv 0)))) pss_nil) (pss_one (ps_ret (pe_cmpR (op_ L) (pe_ix (oi L) (pv 1) pe_int (fun _ _ => rfl)) (pe_tup (pa_cons pe_str (pa_cons pe_str (pa_cons pe_str pa_nil)))) rfl))))))))), ?_⟩
  obtain ⟨H0, p, dx, d, b, n, gv, gr, r, xs, k, rfl, t0, hk, hS0, nr, q1, q2⟩ := h
  have hS := Same.sqt t0.sm hS0
  obtain ⟨xr, ex⟩ := rk_at hk
  have h0i : atI xs 0 = some (.str (rkW k)) := by rw [ex]; exact atI_nat (j := 0) rfl
  refine r_seqH fun nx0 h0 => ?_
  walk_at "go"
  refine i_tup hS h0i ?_
  walk_at "go"
  refine r_gt fun tb htb => ?_
  refine c_in (.inr (htb H)) rfl rfl ?_
  rw [in_stS, decide_eq_false nr]
  walk_at "go"
  refine h0 _ _ ?_
  clear h0
  refine r_seqH fun nx0 h0 => ?_
  walk_at "go"
  refine f_put (fs' := fsSt d false n gv) t0.at_ c.cl c.n2 (by walk_at "pf") (by show 4 < 1000; decide) ?_
  refine h0 _ _ ?_
  clear h0
  have t := t0.up (b' := false) (n' := n) rfl
  generalize upd H p (.ins C dx (fsSt d false n gv)) = H1 at t
  clear t0 hS
  have hS := Same.sqt t.sm hS0
  have hp := t.at_
  refine r_seqH fun nx0 h0 => ?_
  walk_at "go"
  refine f_get (v := gv) hp c.cl c.n4 (by walk_at "lf") ?_
  walk_at "go"
  cases gr with
  | some mf =>
    obtain ⟨mm, ff⟩ := mf
    obtain ⟨g, l, dxg, rfl, gg⟩ := t.gget
    refine ite2 (fun _ => ?_) (fun h => absurd (by simp) h)
    walk_at "go"
    refine ⟨p, dx, _, rfl, hp, by walk_at "lf", ?_⟩
    walk_at "go"
    refine ⟨H0, p, dx, d, false, n, .ref g, mm, ff, r, xs, k, rfl, t, hk, hS0, fun e H' sm => ?_, fun gr' e H' gv' t' => ?_⟩
    · exact q1 (by show (stepT mm ff k).map _ = none; rw [e]; rfl) _ sm
    · exact q2 n gr' (by show (stepT mm ff k).map _ = _; rw [e]; rfl) _ gv' t'
  | none =>
  have eg : gv = .non := t.g
  subst eg
  refine ite2 (fun h => absurd h (by simp)) (fun _ => ?_)
  walk_at "go"
  refine h0 _ _ ?_
  clear h0
  refine r_seqH fun nx0 h0 => ?_
  walk_at "go"
  refine i_tup hS h0i ?_
  walk_at "go"
  rw [sq_]
  refine ite2 (fun h => ?_) (fun h => ?_)
  · obtain ⟨cc, rfl⟩ := rk_table hk (of_decide_eq_true h)
    obtain ⟨hc1, hc4, r2, rfl⟩ := hk
    walk_at "go"
    refine i_tup hS (atI_nat (j := 1) rfl) ?_
    walk_at "go"
    intro g dxg n1 n2 n3
    have smg : Same H1 (upd (upd H1 dxg (.own g)) g (.ins CG dxg [])) := same_made n1 n2
    refine ⟨g, dxg, cc, rfl, hc4, upd_same, fun l H' hl bu gg => ⟨rfl, ?_⟩⟩
    have hl0 : H1 l = none := free_of smg hl
    have sm1 : Same H1 H' := Same.via smg n1 bu
    have h0g : H0 g = none := free_of t.sm n1
    have h0l : H0 l = none := free_of t.sm hl0
    have npg : p ≠ g := ne_of_none hp n1
    have npl : p ≠ l := ne_of_none hp hl0
    walk_at "go"
    refine f_put (fs' := fsSt d false n (.ref g)) (sm1 _ _ hp) c.cl c.n4 (by walk_at "pf") (by show 4 < 1000; decide) ?_
    walk_at "go"
    refine q2 n (some (0, List.replicate cc 0)) rfl _ (.ref g) ⟨Same.via (t.sm.trans sm1) t.np (fun b o n e => by rw [upd_ne n]; exact e), t.np, upd_same, ?_⟩
    obtain ⟨g1, g2, g3⟩ := gg
    exact ⟨g, l, dxg, rfl, ⟨by rw [upd_ne npg.symm]; exact g1, by rw [upd_ne npl.symm]; exact g2, g3⟩, npg, npl, h0g, h0l, by rw [List.length_replicate]; omega, by rw [List.length_replicate]; omega, by omega⟩
  have ntab : ∀ cc, k ≠ .table cc := fun cc e => by
    subst e
    exact h (decide_eq_true rfl)
  walk_at "go"
  refine h0 _ _ ?_
  clear h0
  refine r_seqH fun nx0 h0 => ?_
  walk_at "go"
  refine i_tup hS h0i ?_
  walk_at "go"
  rw [sq_]
  refine ite2 (fun h => ?_) (fun h => ?_)
  · have ek := rk_when hk (of_decide_eq_true h)
    subst ek
    walk_at "go"
    refine ⟨p, dx, _, rfl, hp, by walk_at "lf", ?_⟩
    walk_at "go"
    refine ⟨p, dx, d, false, n, .non, rfl, hp, fun e => ?_, fun e => ?_⟩
    · exact q1 (by show (if n = 3 then none else _) = none; rw [if_pos e]) _ t.sm
    · exact q2 (n + 1) none (by show (if n = 3 then none else _) = _; rw [if_neg e]) _ .non (t.up rfl)
  have nwhen : k ≠ .when := fun e => by
    subst e
    exact h (decide_eq_true rfl)
  walk_at "go"
  refine h0 _ _ ?_
  clear h0
  refine r_seqH fun nx0 h0 => ?_
  walk_at "go"
  refine i_tup hS h0i ?_
  walk_at "go"
  rw [sq_]
  refine ite2 (fun h => ?_) (fun h => ?_)
  · have ek := rk_done hk (of_decide_eq_true h)
    subst ek
    walk_at "go"
    refine ⟨p, dx, _, rfl, hp, by walk_at "lf", ?_⟩
    walk_at "go"
    refine ⟨p, dx, d, false, n, .non, rfl, hp, fun e => ?_, fun e => ?_⟩
    · exact q1 (by show (if n = 0 then none else _) = none; rw [if_pos e]) _ t.sm
    · exact q2 (n - 1) none (by show (if n = 0 then none else _) = _; rw [if_neg e]) _ .non (t.up rfl)
  have ndone : k ≠ .done := fun e => by
    subst e
    exact h (decide_eq_true rfl)
  walk_at "go"
  refine h0 _ _ ?_
  clear h0
  walk_at "go"
  refine i_tup hS h0i ?_
  walk_at "go"
  refine ⟨sz1000 (by show 3 ≤ 1000; decide), fun T hT => ?_⟩
  refine c_notin (xs := stS ["row", "cell", "close"]) (.inr (SqT.of upd_same)) rfl rfl ?_
  rw [in_stS]
  have sT : Same H1 (upd H1 T (.tup [V.str "row", V.str "cell", V.str "close"])) := Same.new hT
  by_cases hin : rkW k ∈ (["row", "cell", "close"] : List Str)
  · rw [decide_eq_true hin]
    refine q1 ?_ _ (t.sm.trans sT)
    cases k with
    | row => rfl
    | cell cd ca => rfl
    | close => rfl
    | table cc => exact absurd rfl (ntab cc)
    | when => exact absurd rfl nwhen
    | done => exact absurd rfl ndone
    | oth z => exact absurd (show z ∈ markW from by
        rcases List.mem_cons.mp hin with e | hin
        · rw [show z = _ from e]; decide +kernel
        · rcases List.mem_cons.mp hin with e | hin
          · rw [show z = _ from e]; decide +kernel
          · rw [show z = _ from List.mem_singleton.mp hin]; decide +kernel) hk.1
  · rw [decide_eq_false hin]
    obtain ⟨z, rfl⟩ : ∃ z, k = .oth z := by
      cases k with
      | oth z => exact ⟨z, rfl⟩
      | row => exact absurd (by simp only [rkW]; decide +kernel) hin
      | cell cd ca => exact absurd (by simp only [rkW]; decide +kernel) hin
      | close => exact absurd (by simp only [rkW]; decide +kernel) hin
      | table cc => exact absurd rfl (ntab cc)
      | when => exact absurd rfl nwhen
      | done => exact absurd rfl ndone
    refine q2 n none rfl _ .non ⟨t.sm.trans sT, t.np, sT _ _ hp, rfl⟩
end
end Tk

set_option Elab.async false
set_option linter.all false
set_option maxRecDepth 100000
set_option maxHeartbeats 4000000
namespace Tk
open PySem PySem.Spec PyProof.Rows L2 Lay
open TL (tl ext_tl len_tl tl_append tl_mk mk_tl)
local macro_rules | `(tactic| walk_at "if") => `(tactic| refine ite2 (fun hc => ?_) (fun hc => ?_))
local macro_rules | `(tactic| walk_at "lk") => `(tactic| first | exact upd_same | assumption)
local macro_rules | `(tactic| walk_at "st") => `(tactic| first
  | with_reducible refine r_var rfl ?_ | with_reducible refine r_c ?_ | with_reducible refine r_op ?_ | with_reducible refine r_cons ?_ | with_reducible refine r_nil ?_ | with_reducible refine r_vals ?_
  | with_reducible refine r_cb ?_ | with_reducible refine r_tup ?_ | with_reducible refine r_lst ?_ | with_reducible refine r_call ?_ | with_reducible refine r_test ?_
  | with_reducible refine r_if ?_ | with_reducible refine r_not ?_ | with_reducible refine r_bm ?_ | with_reducible refine r_sl ?_ | with_reducible refine r_np ?_ | with_reducible refine r_part ?_
  | with_reducible refine r_seq ?_ | with_reducible refine r_asg ?_ | with_reducible refine r_name ?_ | with_reducible refine r_ifs ?_ | with_reducible refine r_ret ?_ | with_reducible refine r_next ?_ | with_reducible refine r_par ?_ | with_reducible refine r_par3 ?_ | with_reducible refine r_brk ?_ | with_reducible refine r_cnt ?_ | with_reducible refine r_sub ?_
  | with_reducible refine r_andT ?_ | with_reducible refine r_orT ?_ | with_reducible refine r_notT ?_ | with_reducible refine r_or ?_ | with_reducible refine r_and ?_ | with_reducible refine r_tB ?_ | with_reducible refine r_drop ?_ | with_reducible refine r_callN ?_ | with_reducible refine r_chain ?_
  | with_reducible refine r_for ?_ | with_reducible refine r_lc ?_ | with_reducible refine r_iseq ?_ | with_reducible refine r_rng1 ?_ | with_reducible refine r_enum ?_ | with_reducible refine r_yes ?_ | with_reducible refine r_tru ?_ | with_reducible refine r_gtup ?_ | with_reducible refine r_gcons ?_ | with_reducible refine r_gnil ?_
  | with_reducible refine b_add ?_ | with_reducible refine b_sub ?_ | (with_reducible refine b_mul (by unfold CMul; omega) ?_) | (with_reducible refine b_mod (by omega) ?_) | (with_reducible refine b_fdiv (by unfold CDiv; omega) ?_)
  | with_reducible refine c_lt ?_ | with_reducible refine c_le ?_ | with_reducible refine c_gt ?_ | with_reducible refine c_ge ?_ | with_reducible refine c_isN ?_ | with_reducible refine c_notN ?_ | with_reducible refine c_isB ?_ | with_reducible refine c_eq rfl ?_ | with_reducible refine c_ne rfl ?_
  | with_reducible refine c_insign ?_ | with_reducible refine k_int ?_ | with_reducible refine k_intb ?_ | with_reducible refine k_max ?_ | with_reducible refine k_min ?_
  | with_reducible refine ⟨_, rfl, ?_⟩
  | with_reducible refine ex_par ?_
  | with_reducible refine r_back ?_
  | with_reducible refine ex_par3 ?_
  | with_reducible refine ty_s ?_
  | with_reducible refine tru_b ?_
  | with_reducible refine iteT ?_ | with_reducible refine iteF ?_ | with_reducible refine itnT ?_ | with_reducible refine itnF ?_)
local macro_rules | `(tactic| walk_at "go") => `(tactic| repeat walk_at "st")
local macro_rules | `(tactic| walk_at "cl") => `(tactic| try dsimp only [cxOf, Cx.nox, Cx.wish])
/-! ### the first row that can't stand -/
local macro_rules | `(tactic| walk_at "pf") => `(tactic| repeat (first | exact pf_nil | exact pf_eq | refine pf_ne (by decide +kernel) ?_))
local macro_rules | `(tactic| walk_at "lf") => `(tactic| repeat (first | exact lf_nil | exact lf_eq | refine lf_ne (by decide +kernel) ?_))
local macro_rules | `(tactic| walk_at "st") => `(tactic| first
  | with_reducible refine r_fld ?_ | with_reducible refine r_sfld ?_ | with_reducible refine r_make ?_ | with_reducible refine r_meth ?_ | with_reducible refine r_faug ?_ | with_reducible refine r_rngv ?_ | with_reducible refine g_add ?_ | with_reducible refine g_sub ?_ | (with_reducible refine r_dnewK ?_)
  | with_reducible refine r_callE ?_ | with_reducible refine r_mkE ?_ | with_reducible refine r_rz ?_)
abbrev s_wrong_place : Stmt := topS 45
theorem sc_wrong_place : FnScope ["rows", "standing", "place", "row"] ["rows"] (defScope s_wrong_place) := ⟨rfl, rfl, rfl, by decide +kernel, rfl, by decide +kernel, by decide +kernel⟩
def RwK (K : PySem.W.Frag) (H : Hp) (x : V) (o : Bool × Rk) : Prop := ∃ r, Rw K H x r ∧ isRowV r = o.1 ∧ (o.1 = true → ∃ a xs, x = .ref a ∧ SqT K H a xs ∧ rkV o.2 xs ∧ rkW o.2 ∉ ruleW)
def RwAll (K : PySem.W.Frag) (H : Hp) (rows : List V) (os : List (Bool × Rk)) : Prop := rows.length = os.length ∧ ∀ (i : Nat) x o, rows[i]? = some x → os[i]? = some o → RwK K H x o
def scanR (i n : Nat) (gr : Gst) : List (Bool × Rk) → V
  | [] => if gr = none ∧ n = 0 then .non else .int i
  | (ok, k) :: r => if ok = true then (match stepS n gr k with
    | none => .int i
    | some q => scanR (i + 1) q.1 q.2 r) else .int i
def spWp (K : PySem.W.Frag) : Sp := fun vs H Q _ => ∃ a rows os, vs = [.ref a] ∧ SqT K H a rows ∧ RwAll K H rows os ∧ ∀ H', Same H H' → Q (scanR 0 0 none os) H'
section
variable {P : Program} {w : World} {K : PySem.W.Frag} {mg : Str → Option Value} {base : Heap} {C CG : Addr}
theorem Rw.same {H H' : Hp} {x : V} {r : Option (List Pt)} (s : Same H H') (h : Rw K H x r) : Rw K H' x r := by
  obtain ⟨T, t, o, h⟩ := h
  exact ⟨T, Tyb.same s t, o, h.imp id fun ⟨e, a, ps, e1, e2, e3, e4, e5⟩ => ⟨e, a, ps, e1, e2, Same.sqt s e3, e4, fun p hp => (e5 p hp).same s⟩⟩
theorem RwK.same {H H' : Hp} {x : V} {o : Bool × Rk} (s : Same H H') (h : RwK K H x o) : RwK K H' x o := by
  obtain ⟨r, h1, h2, h3⟩ := h
  exact ⟨r, h1.same s, h2, fun e => by
    obtain ⟨a, xs, e1, e2, e3⟩ := h3 e
    exact ⟨a, xs, e1, Same.sqt s e2, e3⟩⟩
theorem RwAll.same {H H' : Hp} {rows : List V} {os : List (Bool × Rk)} (s : Same H H') (h : RwAll K H rows os) : RwAll K H' rows os := ⟨h.1, fun i x o a b => (h.2 i x o a b).same s⟩
theorem StS.same {H0 H H' : Hp} {p dx d b n gv gr} (t : StS H0 H C CG p dx d b n gv gr) (s : Same H H') : StS H0 H' C CG p dx d b n gv gr := by
  refine ⟨t.sm.trans s, t.np, s _ _ t.at_, ?_⟩
  have g := t.g
  cases gr with
  | none => exact g
  | some q =>
    obtain ⟨m, ff⟩ := q
    obtain ⟨ga, l, dxg, e, g1, r⟩ := g
    exact ⟨ga, l, dxg, e, g1.same s, r⟩
theorem u_row {x : V} {r : Option (List Pt)} {H : Hp} {Q : VK} (t : Rw K H x r) (q : ∀ H', Same H H' → Q (.bl (isRowV r)) H') : spIsRow K ([x] ++ []) H Q E0 := ⟨x, r, rfl, t, q⟩
theorem ok_wrong_place (F : Fn0 K mg "wrong_place" s_wrong_place ["rows"]) (m : Md mg) (l_Standing : Cls K C) (k_Standing : MkG P w K mg base 1 "Standing" C [] (spStI C)) (c_Standing_is_closed : MtG P w K mg base 1 C "is_closed" (spStC C))
    (c_Standing_takes : MtG P w K mg base 3 C "takes" (spTks K C CG)) (c_is_row : FnG P w K mg base 9 "is_row" ["thing"] (spIsRow K)) : FnG P w K mg base 10 "wrong_place" ["rows"] (spWp K) := by
  refine F.ok sc_wrong_place (fun vs H Q E h => ?_) (fun a cdv A outer s H vs Q E L hr h => ?_)
  · obtain ⟨a, rows, os, rfl, _⟩ := h
    rfl
  have nd := sc_wrong_place.nd
  refine ⟨_, (pss_cons (ps_set (i := 1) nd rfl (.inl rfl) (pe_mkG0 k_Standing (hr.mono (by decide)) (by rfl))) (pss_cons (ps_for PassesOwn.never rfl (pi_enumL L (by rfl) m.enumerate_ (pa_cons (pv 0) pa_nil)) (pg_tupL (n := 2) L (pgs_cons (pg_name (i := 2) nd rfl (.inl rfl)) (pgs_cons (pg_name (i := 3) nd rfl (.inl rfl)) pgs_nil)) (by rfl) (by rfl)) (pss_one (ps_if (PW.pt (pw_or (pt_not (pt_truthL L (pe_callG c_is_row (hr.mono (by decide)) (by rfl) (pa_cons (pv 3) pa_nil)))) (pw_or1 (pt_not (pt_truthL L (pe_mtG l_Standing c_Standing_takes (hr.mono (by decide)) (pv 1) (pa_cons (pv 3) pa_nil))))))) (pss_one (ps_ret (pv 2))) pss_nil))) (pss_one (ps_ret (pe_ifExp (pt_truthL L (pe_mtG0 l_Standing c_Standing_is_closed (hr.mono (by decide)) (pv 1))) pe_non (pe_callB (oc L) (by rfl) m.len_ bt_len (pa_cons (pv 0) pa_nil))))))), ?_⟩
  obtain ⟨a, rows, os, rfl, hT, hR, q⟩ := h
  refine r_seqH fun nx0 h0 => ?_
  walk_at "go"
  intro p dx n1 n2 n3
  refine ⟨p, dx, rfl, upd_same, fun d H1 hd b1 e1 ed => ⟨rfl, ?_⟩⟩
  have s1 : Same H H1 := Same.via (same_made n1 n2) n1 b1
  walk_at "go"
  refine h0 _ _ ?_
  clear h0
  refine r_seqH fun nx0 h0 => ?_
  walk_at "go"
  refine ⟨a, rows, rfl, .inr ⟨Same.sqt s1 hT, ?_⟩⟩
  refine fo_it walk_enumT (fun i σ H' => ∃ b n gv gr v2 v3, σ = [some (.ref a), some (.ref p), v2, v3] ∧ StS H H' C CG p dx d b n gv gr ∧ scanR i n gr (os.drop i) = scanR 0 0 none os)
    ⟨true, 0, .non, none, _, _, rfl, ⟨s1, n1, e1, rfl⟩, rfl⟩ (fun i σ H' _ ⟨_, _, _, _, _, _, _, t, _⟩ => Same.sqt t.sm hT) (fun i x σ H' H'' hi hP hY => ?_) (fun σ H' hP => ?_)
  · obtain ⟨b, n, gv, gr, v2, v3, rfl, t, hsc⟩ := hP
    obtain ⟨T, x0, y, rfl, hT1, rfl, e0, hy⟩ := hY
    cases e0
    have hio : i < os.length := by rw [← hR.1]; exact hi
    have ho := List.getElem?_eq_getElem hio
    obtain ⟨r, rw1, rw2, rw3⟩ := hR.2 i y os[i] hy ho
    rw [List.drop_eq_getElem_cons hio] at hsc
    have sT : Same H' (upd H' T (.tup [.int (i : Nat), y])) := Same.new hT1
    have t1 := t.same sT
    walk_at "go"
    refine ⟨T, [.int (i : Nat), y], rfl, SqT.of upd_same, rfl, ?_⟩
    walk_at "go"
    refine u_row (rw1.same t1.sm) fun H2 s2 => ?_
    have t2 := t1.same s2
    rw [rw2]
    generalize os[i] = oi at hsc rw2 rw3
    obtain ⟨ok, k⟩ := oi
    cases ok with
    | false =>
      walk_at "go"
      have e : scanR i n gr ((false, k) :: os.drop (i + 1)) = .int i := rfl
      rw [e] at hsc
      have := q H2 t2.sm
      rw [← hsc] at this
      exact this
    | true =>
      obtain ⟨ra, xs, rfl, hS, hk, nr⟩ := rw3 rfl
      walk_at "go"
      refine ⟨p, dx, _, rfl, t2.at_, by walk_at "lf", ?_⟩
      walk_at "go"
      refine ⟨H, p, dx, d, b, n, gv, gr, ra, xs, k, rfl, t2, hk, hS, nr, fun e H3 s3 => ?_, fun n' gr' e H3 gv' t3 => ?_⟩
      · walk_at "go"
        have e2 : scanR i n gr ((true, k) :: os.drop (i + 1)) = .int i := by
          show (match stepS n gr k with | none => V.int i | some q => _) = _
          rw [e]
        rw [e2] at hsc
        have := q H3 s3
        rw [← hsc] at this
        exact this
      · walk_at "go"
        have e2 : scanR i n gr ((true, k) :: os.drop (i + 1)) = scanR (i + 1) n' gr' (os.drop (i + 1)) := by
          show (match stepS n gr k with | none => V.int i | some q => _) = _
          rw [e]
        rw [e2] at hsc
        exact ⟨_, _, _, _, _, _, rfl, t3, hsc⟩
  · obtain ⟨b, n, gv, gr, v2, v3, rfl, t, hsc⟩ := hP
    refine h0 _ _ ?_
    clear h0
    walk_at "go"
    refine ⟨p, dx, _, rfl, t.at_, by walk_at "lf", ?_⟩
    walk_at "go"
    refine ⟨p, dx, d, b, n, gv, rfl, t.at_, ?_⟩
    walk_at "go"
    rw [hR.1, List.drop_length] at hsc
    have eg : decide (gv = .non) = decide (gr = none) := by
      have g := t.g
      cases gr with
      | none => rw [show gv = .non from g]; rfl
      | some mf =>
        obtain ⟨mm, ff⟩ := mf
        obtain ⟨_, _, _, rfl, _⟩ := g
        rfl
    rw [eg]
    have qq := q H' t.sm
    rw [← hsc] at qq
    have qq : Q (if gr = none ∧ n = 0 then V.non else V.int (os.length : Nat)) H' := qq
    by_cases hc : gr = none ∧ n = 0
    · rw [if_pos hc] at qq
      rw [decide_eq_true hc.1, decide_eq_true hc.2]
      walk_at "go"
      exact qq
    · rw [if_neg hc] at qq
      have e : (decide (gr = none) && decide (n = 0)) = false := by
        by_cases h1 : gr = none
        · have h2 : ¬ n = 0 := fun z => hc ⟨h1, z⟩
          rw [decide_eq_false h2, Bool.and_false]
        · rw [decide_eq_false h1, Bool.false_and]
      rw [e]
      walk_at "go"
      refine k_lenl (.inr (Same.sqt t.sm hT)) ?_
      rw [hR.1]
      exact qq
end
end Tk

set_option Elab.async false
set_option linter.all false
set_option maxRecDepth 100000
set_option maxHeartbeats 4000000
namespace Tk
open PySem PySem.Spec PyProof.Rows L2 Lay
open TL (tl ext_tl len_tl tl_append tl_mk mk_tl)
local macro_rules | `(tactic| walk_at "if") => `(tactic| refine ite2 (fun hc => ?_) (fun hc => ?_))
local macro_rules | `(tactic| walk_at "lk") => `(tactic| first | exact upd_same | assumption)
local macro_rules | `(tactic| walk_at "st") => `(tactic| first
  | with_reducible refine r_var rfl ?_ | with_reducible refine r_c ?_ | with_reducible refine r_op ?_ | with_reducible refine r_cons ?_ | with_reducible refine r_nil ?_ | with_reducible refine r_vals ?_
  | with_reducible refine r_cb ?_ | with_reducible refine r_tup ?_ | with_reducible refine r_lst ?_ | with_reducible refine r_call ?_ | with_reducible refine r_test ?_
  | with_reducible refine r_if ?_ | with_reducible refine r_not ?_ | with_reducible refine r_bm ?_ | with_reducible refine r_sl ?_ | with_reducible refine r_np ?_ | with_reducible refine r_part ?_
  | with_reducible refine r_seq ?_ | with_reducible refine r_asg ?_ | with_reducible refine r_name ?_ | with_reducible refine r_ifs ?_ | with_reducible refine r_ret ?_ | with_reducible refine r_next ?_ | with_reducible refine r_par ?_ | with_reducible refine r_par3 ?_ | with_reducible refine r_brk ?_ | with_reducible refine r_cnt ?_ | with_reducible refine r_sub ?_
  | with_reducible refine r_andT ?_ | with_reducible refine r_orT ?_ | with_reducible refine r_notT ?_ | with_reducible refine r_or ?_ | with_reducible refine r_and ?_ | with_reducible refine r_tB ?_ | with_reducible refine r_drop ?_ | with_reducible refine r_callN ?_ | with_reducible refine r_chain ?_
  | with_reducible refine r_for ?_ | with_reducible refine r_lc ?_ | with_reducible refine r_iseq ?_ | with_reducible refine r_rng1 ?_ | with_reducible refine r_enum ?_ | with_reducible refine r_yes ?_ | with_reducible refine r_tru ?_ | with_reducible refine r_gtup ?_ | with_reducible refine r_gcons ?_ | with_reducible refine r_gnil ?_
  | with_reducible refine b_add ?_ | with_reducible refine b_sub ?_ | (with_reducible refine b_mul (by unfold CMul; omega) ?_) | (with_reducible refine b_mod (by omega) ?_) | (with_reducible refine b_fdiv (by unfold CDiv; omega) ?_)
  | with_reducible refine c_lt ?_ | with_reducible refine c_le ?_ | with_reducible refine c_gt ?_ | with_reducible refine c_ge ?_ | with_reducible refine c_isN ?_ | with_reducible refine c_notN ?_ | with_reducible refine c_isB ?_ | with_reducible refine c_eq rfl ?_ | with_reducible refine c_ne rfl ?_
  | with_reducible refine c_insign ?_ | with_reducible refine k_int ?_ | with_reducible refine k_intb ?_ | with_reducible refine k_max ?_ | with_reducible refine k_min ?_
  | with_reducible refine ⟨_, rfl, ?_⟩
  | with_reducible refine ex_par ?_
  | with_reducible refine r_back ?_
  | with_reducible refine ex_par3 ?_
  | with_reducible refine ty_s ?_
  | with_reducible refine tru_b ?_
  | with_reducible refine iteT ?_ | with_reducible refine iteF ?_ | with_reducible refine itnT ?_ | with_reducible refine itnF ?_)
local macro_rules | `(tactic| walk_at "go") => `(tactic| repeat walk_at "st")
local macro_rules | `(tactic| walk_at "cl") => `(tactic| try dsimp only [cxOf, Cx.nox, Cx.wish])
/-! ### a Text, or its refusal -/
local macro_rules | `(tactic| walk_at "pf") => `(tactic| repeat (first | exact pf_nil | exact pf_eq | refine pf_ne (by decide +kernel) ?_))
local macro_rules | `(tactic| walk_at "lf") => `(tactic| repeat (first | exact lf_nil | exact lf_eq | refine lf_ne (by decide +kernel) ?_))
local macro_rules | `(tactic| walk_at "st") => `(tactic| first
  | with_reducible refine r_fld ?_ | with_reducible refine r_sfld ?_ | with_reducible refine r_make ?_ | with_reducible refine r_meth ?_ | with_reducible refine r_faug ?_ | with_reducible refine r_rngv ?_ | with_reducible refine g_add ?_ | with_reducible refine g_sub ?_ | (with_reducible refine r_dnewK ?_)
  | with_reducible refine r_callE ?_ | with_reducible refine r_mkE ?_ | with_reducible refine r_rz ?_)
abbrev s_Text___init__ : Stmt := inClass (topS 50) 0
theorem sc_Text___init__ : FnScope ["self", "rows", "place"] ["self", "rows"] (defScope s_Text___init__) := ⟨rfl, rfl, rfl, by decide +kernel, rfl, by decide +kernel, by decide +kernel⟩
structure TxC (K : PySem.W.Frag) (C : Addr) : Prop where
  cl : Cls K C
  n1 : NoAttr K C "rows"
def spTxt (K : PySem.W.Frag) (C CN : Addr) : Sp := fun vs H Q E => ∃ p a dx rows os, vs = [.ref p, .ref a] ∧ H p = some (.ins C dx []) ∧ SqT K H a rows ∧ rows.length ≤ 80 ∧ RwAll K H rows os ∧
  (scanR 0 0 none os = .non → ∀ H', But p H H' → H' p = some (.ins C dx [("rows", .ref a)]) → Q .non H') ∧
  (∀ i, scanR 0 0 none os = .int i → ∀ H' d, But p H H' → H d = none → H' d = some (.xd [("place", .int i)]) → E (.ref CN) (some d) H')
theorem scanR_kind : ∀ (os : List (Bool × Rk)) (i n : Nat) (gr : Gst), scanR i n gr os = .non ∨ ∃ j : Nat, scanR i n gr os = .int j
  | [], i, n, gr => by
    unfold scanR
    split
    · exact .inl rfl
    · exact .inr ⟨_, rfl⟩
  | (ok, k) :: r, i, n, gr => by
    unfold scanR
    split
    · split
      · exact .inr ⟨_, rfl⟩
      · exact scanR_kind r _ _ _
    · exact .inr ⟨_, rfl⟩
section
variable {P : Program} {w : World} {K : PySem.W.Frag} {mg : Str → Option Value} {base : Heap} {C CN : Addr}
theorem ok_Text (F : In1 K mg "Text" C "Text.__init__" s_Text___init__ ["self", "rows"]) (m : Md mg) (x_NoRows : XcG P K mg "NoRows" CN "place") (c : TxC K C) (g_MOST_ROWS : Gv mg "MOST_ROWS" (.int 80)) (c_is_tuple : FnG P w K mg base 1 "is_tuple" ["thing"] (spIsTuple K))
    (c_wrong_place : FnG P w K mg base 10 "wrong_place" ["rows"] (spWp K)) : MkE P w K mg base 11 "Text" C [] (spTxt K C CN) := by
  refine F.okE sc_Text___init__ (fun vs H Q E h => ?_) (fun a cdv A outer s H vs Q E L hr tk h => ?_)
  · obtain ⟨p, a, dx, rows, os, rfl, _⟩ := h
    rfl
  have nd := sc_Text___init__.nd
  refine ⟨_, (pss_cons (ps_if (PW.pt (pw_or (pt_not (pt_truthL L (pe_callG c_is_tuple (hr.mono (by decide)) (by rfl) (pa_cons (pv 1) pa_nil)))) (pw_or1 (pt_cmpR (op_ L) (pe_callB (oc L) (by rfl) m.len_ bt_len (pa_cons (pv 1) pa_nil)) (pe_gv g_MOST_ROWS (by rfl)) (nomark _))))) (pss_one (ps_raiseE L tk x_NoRows (hr.mono (by decide)) (by rfl) pe_non)) pss_nil) (pss_cons (ps_set (i := 2) nd rfl (.inl rfl) (pe_callG c_wrong_place (hr.mono (by decide)) (by rfl) (pa_cons (pv 1) pa_nil))) (pss_cons (ps_if (pt_cmpR (op_ L) (pv 2) pe_non (nomark _)) (pss_one (ps_raiseE L tk x_NoRows (hr.mono (by decide)) (by rfl) (pv 2))) pss_nil) (pss_one (ps_fldL L (pv 0) (pv 1)))))), ?_⟩
  obtain ⟨p, a, dx, rows, os, rfl, hp, hT, h80, hR, q1, q2⟩ := h
  refine r_seqH fun nx0 h0 => ?_
  walk_at "go"
  refine u_is_tuple (.tup hT) ?_
  walk_at "go"
  refine itnT' rfl ?_
  walk_at "go"
  refine k_lenl (.inr hT) ?_
  walk_at "go"
  refine ite2 (fun h => absurd h (by simp; omega)) (fun _ => ?_)
  walk_at "go"
  refine h0 _ _ ?_
  clear h0
  refine r_seqH fun nx0 h0 => ?_
  walk_at "go"
  refine ⟨a, rows, os, rfl, hT, hR, fun H1 s1 => ?_⟩
  walk_at "go"
  refine h0 _ _ ?_
  clear h0
  have hp1 := s1 _ _ hp
  rcases scanR_kind os 0 0 none with e | ⟨j, e⟩
  · rw [e]
    walk_at "go"
    refine itnT' (decide_eq_true rfl) ?_
    walk_at "go"
    refine f_put (fs' := [("rows", .ref a)]) hp1 c.cl c.n1 (by walk_at "pf") (by show 0 < 1000; decide) ?_
    refine q1 e _ (fun b o n e => ?_) upd_same
    rw [upd_ne n]
    exact s1 _ _ e
  · rw [e]
    walk_at "go"
    refine ite2 (fun _ => ?_) (fun h => absurd (by simp) h)
    walk_at "go"
    intro d hd
    have hd0 := free_of s1 hd
    refine q2 j e _ d (fun b o n e => ?_) hd0 upd_same
    rw [upd_ne (ne_of_none e hd0)]
    exact s1 _ _ e
end
end Tk

set_option Elab.async false
set_option linter.all false
set_option maxRecDepth 100000
set_option maxHeartbeats 4000000
namespace Tk
open PySem PySem.Spec PyProof.Rows L2 Lay
open TL (tl ext_tl len_tl tl_append tl_mk mk_tl)
local macro_rules | `(tactic| walk_at "if") => `(tactic| refine ite2 (fun hc => ?_) (fun hc => ?_))
local macro_rules | `(tactic| walk_at "lk") => `(tactic| first | exact upd_same | assumption)
local macro_rules | `(tactic| walk_at "st") => `(tactic| first
  | with_reducible refine r_var rfl ?_ | with_reducible refine r_c ?_ | with_reducible refine r_op ?_ | with_reducible refine r_cons ?_ | with_reducible refine r_nil ?_ | with_reducible refine r_vals ?_
  | with_reducible refine r_cb ?_ | with_reducible refine r_tup ?_ | with_reducible refine r_lst ?_ | with_reducible refine r_call ?_ | with_reducible refine r_test ?_
  | with_reducible refine r_if ?_ | with_reducible refine r_not ?_ | with_reducible refine r_bm ?_ | with_reducible refine r_sl ?_ | with_reducible refine r_np ?_ | with_reducible refine r_part ?_
  | with_reducible refine r_seq ?_ | with_reducible refine r_asg ?_ | with_reducible refine r_name ?_ | with_reducible refine r_ifs ?_ | with_reducible refine r_ret ?_ | with_reducible refine r_next ?_ | with_reducible refine r_par ?_ | with_reducible refine r_par3 ?_ | with_reducible refine r_brk ?_ | with_reducible refine r_cnt ?_ | with_reducible refine r_sub ?_
  | with_reducible refine r_andT ?_ | with_reducible refine r_orT ?_ | with_reducible refine r_notT ?_ | with_reducible refine r_or ?_ | with_reducible refine r_and ?_ | with_reducible refine r_tB ?_ | with_reducible refine r_drop ?_ | with_reducible refine r_callN ?_ | with_reducible refine r_chain ?_
  | with_reducible refine r_for ?_ | with_reducible refine r_lc ?_ | with_reducible refine r_iseq ?_ | with_reducible refine r_rng1 ?_ | with_reducible refine r_enum ?_ | with_reducible refine r_yes ?_ | with_reducible refine r_tru ?_ | with_reducible refine r_gtup ?_ | with_reducible refine r_gcons ?_ | with_reducible refine r_gnil ?_
  | with_reducible refine b_add ?_ | with_reducible refine b_sub ?_ | (with_reducible refine b_mul (by unfold CMul; omega) ?_) | (with_reducible refine b_mod (by omega) ?_) | (with_reducible refine b_fdiv (by unfold CDiv; omega) ?_)
  | with_reducible refine c_lt ?_ | with_reducible refine c_le ?_ | with_reducible refine c_gt ?_ | with_reducible refine c_ge ?_ | with_reducible refine c_isN ?_ | with_reducible refine c_notN ?_ | with_reducible refine c_isB ?_ | with_reducible refine c_eq rfl ?_ | with_reducible refine c_ne rfl ?_
  | with_reducible refine c_insign ?_ | with_reducible refine k_int ?_ | with_reducible refine k_intb ?_ | with_reducible refine k_max ?_ | with_reducible refine k_min ?_
  | with_reducible refine ⟨_, rfl, ?_⟩
  | with_reducible refine ex_par ?_
  | with_reducible refine r_back ?_
  | with_reducible refine ex_par3 ?_
  | with_reducible refine ty_s ?_
  | with_reducible refine tru_b ?_
  | with_reducible refine iteT ?_ | with_reducible refine iteF ?_ | with_reducible refine itnT ?_ | with_reducible refine itnF ?_)
local macro_rules | `(tactic| walk_at "go") => `(tactic| repeat walk_at "st")
local macro_rules | `(tactic| walk_at "cl") => `(tactic| try dsimp only [cxOf, Cx.nox, Cx.wish])
/-! ### what a Text comes to -/
local macro_rules | `(tactic| walk_at "st") => `(tactic| first
  | with_reducible refine r_callE ?_ | with_reducible refine r_mkE ?_ | with_reducible refine r_xf ?_ | with_reducible refine ch_eq rfl ?_ | with_reducible refine kh_intb ?_)
abbrev s__law_told : Stmt := topS 58
theorem sc__law_told : FnScope ["_law_strip", "e"] ["_law_strip"] (defScope s__law_told) := ⟨rfl, rfl, rfl, by decide +kernel, rfl, by decide +kernel, by decide +kernel⟩
/-- isinstance of an exception, of a class of the module -/
theorem kh_own {P : Program} {w : World} {K : PySem.W.Frag} {C : Addr} {p : Addr × Obj} {H : Hp} {Q : VK} {d D : Addr} {c : Bool} {fs : List (Str × V)} (X : ExcC K C) (hz : L2N.Zn (.ref C) (some d) p.2) (hf : ∃ vs, p.2.data = .fields vs) (hd : H d = some (.xd fs)) (hk : PySem.W.kitOne K (.ref C) (.ref D) = some c) (q : Q (.bl c) H) :
    hC P w K p (.builtin "isinstance") [.ref p.1, .ref D] H Q := kh_isP X hz hf (fun _ r => r) hk hd q
/-- what is to be known of the refusals: CN that of rows -/
structure NrX (K : PySem.W.Frag) (CN CT CS CR : Addr) : Prop where
  exc : ExcC K CN
  xf : XfG K CN "place"
  me : PySem.W.exmOne K (.ref CN) (.ref CN) = some true
  t : PySem.W.kitOne K (.ref CN) (.ref CT) = some true
  s : PySem.W.kitOne K (.ref CN) (.ref CS) = some false
  r : PySem.W.kitOne K (.ref CN) (.ref CR) = some false
def spTold (K : PySem.W.Frag) (C : Addr) : Sp := fun vs H Q _ => ∃ a rows os, vs = [.ref a] ∧ SqT K H a rows ∧ rows.length ≤ 80 ∧ RwAll K H rows os ∧
  (scanR 0 0 none os = .non → ∀ H' t p dx, Same H H' → H' p = some (.ins C dx [("rows", .ref a)]) → H' t = some (.tup [.str "told", .ref p]) → Q (.ref t) H') ∧
  (∀ i, scanR 0 0 none os = .int i → ∀ H' t, Same H H' → H' t = some (.tup [.str "rows", .int i]) → Q (.ref t) H')
section
variable {P : Program} {w : World} {K : PySem.W.Frag} {mg : Str → Option Value} {base : Heap} {H : Hp} {Q : VK} {C CN CT CS CR : Addr}
theorem ok__law_told (F : Fn0 K mg "_law_told" s__law_told ["_law_strip"]) (m : Md mg) (n_NoRows : mg "NoRows" = some (.ref CN)) (g_StandError : Gv mg "StandError" (.ref CS)) (g_RoomError : Gv mg "RoomError" (.ref CR)) (g_TongueError : Gv mg "TongueError" (.ref CT))
    (nr : NrX K CN CT CS CR) (k_Text : MkE P w K mg base 11 "Text" C [] (spTxt K C CN)) : FnG P w K mg base 13 "_law_told" ["_law_strip"] (spTold K C) := by
  refine F.ok sc__law_told (fun vs H Q E h => ?_) (fun a cdv A outer s H vs Q E L hr h => ?_)
  · obtain ⟨a, rows, os, rfl, _⟩ := h
    rfl
  have nd := sc__law_told.nd
  have f_NoRows := nr.xf
  refine ⟨_, (pss_one (ps_try_one (i := 1) rfl rfl nd rfl rfl (nm_own n_NoRows (by rfl)) takes0N (fun W pn xe tk _ => (pss_one (ps_ret (pe_tup (pa_cons pe_str (pa_cons (pe_mkE k_Text (hr.mono (by decide)) (by rfl) tk (pa_cons (pv 0) pa_nil)) pa_nil)))))) (fun a oe cls d pn hz hf => (pss_cons (ps_if (PW.pt (pw_or (pt_truthLH (L.suite_ hz hf) (pe_callB (ocH (L.suite_ hz hf)) (by rfl) m.isinstance_ bt_isinstance (pa_cons (pv 1) (pa_cons (pe_gv g_StandError (by rfl)) pa_nil)))) (pw_or (pt_truthLH (L.suite_ hz hf) (pe_callB (ocH (L.suite_ hz hf)) (by rfl) m.isinstance_ bt_isinstance (pa_cons (pv 1) (pa_cons (pe_gv g_RoomError (by rfl)) pa_nil)))) (pw_or1 (pt_not (pt_truthLH (L.suite_ hz hf) (pe_callB (ocH (L.suite_ hz hf)) (by rfl) m.isinstance_ bt_isinstance (pa_cons (pv 1) (pa_cons (pe_gv g_TongueError (by rfl)) pa_nil))))))))) (pss_one (ps_ret (pe_tup (pa_cons pe_str (pa_cons pe_non pa_nil))))) pss_nil) (pss_one (ps_ret (pe_tup (pa_cons pe_str (pa_cons (pe_ix (oiH (L.suite_ hz hf)) (pe_lst (pa_cons (pe_xfH f_NoRows hz hf (pv 1)) (pa_cons pe_non pa_nil))) (pe_callTy (ocH (L.suite_ hz hf)) (by rfl) m.int_ bt_int (pa_cons (pe_callB (ocH (L.suite_ hz hf)) (by rfl) m.isinstance_ bt_isinstance (pa_cons (pe_xfH f_NoRows hz hf (pv 1)) (pa_cons (pe_bltn (v := .ty "bool") (by rfl) m.bool_ bt_bool rfl) pa_nil))) pa_nil)) (fun _ _ => rfl)) pa_nil))))))))), ?_⟩
  obtain ⟨a, rows, os, rfl, hT, h80, hR, q1, q2⟩ := h
  generalize e : wOne _ _ _ _ _ _ = W
  have hW : ∀ (i : Int) (H1 : Hp) (d : Addr), scanR 0 0 none os = .int i → Same H H1 → H1 d = some (.xd [("place", .int i)]) → W (.ref CN) (some d) [some (.ref a), none] H1 := fun i H1 d hi s1 e1 => by
    rw [← e]
    refine ⟨true, nr.me, fun _ x oe hz hf na => ?_, fun h => nomatch h⟩
    walk_at "go"
    refine kh_own nr.exc hz hf e1 nr.s ?_
    walk_at "go"
    refine kh_own nr.exc hz hf e1 nr.r ?_
    walk_at "go"
    refine kh_own nr.exc hz hf e1 nr.t ?_
    walk_at "go"
    refine ⟨rfl, rfl, d, _, .int i, rfl, e1, lf_eq, ?_⟩
    walk_at "go"
    refine ⟨sz1000 (by show 2 ≤ 1000; decide), fun l nl => ?_⟩
    have e4 : (upd H1 l (.lst [.int i, .non])) d = some (.xd [("place", .int i)]) := Same.new nl _ _ e1
    walk_at "go"
    refine ⟨rfl, rfl, d, _, .int i, rfl, e4, lf_eq, ?_⟩
    walk_at "go"
    refine kh_isi (.ty "bool") (.base (.int i)) (kit_ty (a := "int") (b := "bool") (r := false) (by decide +kernel)) ?_
    walk_at "go"
    refine ih_lst (x := .int i) (SqL.of upd_same) rfl ?_
    walk_at "go"
    refine ⟨sz1000 (by show 2 ≤ 1000; decide), fun t nt => ?_⟩
    exact q2 i hi _ t (s1.trans ((Same.new nl).trans (Same.new nt))) upd_same
  clear e
  walk_at "go"
  intro p dx n1 n2 n3
  have sm : Same H (upd (upd H dx (.own p)) p (.ins C dx [])) := same_made n1 n2
  refine ⟨p, a, dx, rows, os, rfl, upd_same, Same.sqt sm hT, h80, hR.same sm, fun e0 H1 bu e1 => ⟨rfl, ?_⟩, fun i e0 H1 d bu _ e1 => ?_⟩
  · have s1 := Same.via sm n1 bu
    walk_at "go"
    refine ⟨sz1000 (by show 2 ≤ 1000; decide), fun t nt => ?_⟩
    exact q1 e0 _ t p dx (s1.trans (Same.new nt)) (Same.new nt _ _ e1) upd_same
  · exact hW i H1 d e0 (Same.via sm n1 bu) e1
end
end Tk

set_option Elab.async false
set_option linter.all false
set_option maxRecDepth 100000
set_option maxHeartbeats 4000000
namespace Tk
open PySem PySem.Spec PyProof.Rows L2 Lay
open TL (tl ext_tl len_tl tl_append tl_mk mk_tl)
local macro_rules | `(tactic| walk_at "if") => `(tactic| refine ite2 (fun hc => ?_) (fun hc => ?_))
local macro_rules | `(tactic| walk_at "lk") => `(tactic| first | exact upd_same | assumption)
local macro_rules | `(tactic| walk_at "st") => `(tactic| first
  | with_reducible refine r_var rfl ?_ | with_reducible refine r_c ?_ | with_reducible refine r_op ?_ | with_reducible refine r_cons ?_ | with_reducible refine r_nil ?_ | with_reducible refine r_vals ?_
  | with_reducible refine r_cb ?_ | with_reducible refine r_tup ?_ | with_reducible refine r_lst ?_ | with_reducible refine r_call ?_ | with_reducible refine r_test ?_
  | with_reducible refine r_if ?_ | with_reducible refine r_not ?_ | with_reducible refine r_bm ?_ | with_reducible refine r_sl ?_ | with_reducible refine r_np ?_ | with_reducible refine r_part ?_
  | with_reducible refine r_seq ?_ | with_reducible refine r_asg ?_ | with_reducible refine r_name ?_ | with_reducible refine r_ifs ?_ | with_reducible refine r_ret ?_ | with_reducible refine r_next ?_ | with_reducible refine r_par ?_ | with_reducible refine r_par3 ?_ | with_reducible refine r_brk ?_ | with_reducible refine r_cnt ?_ | with_reducible refine r_sub ?_
  | with_reducible refine r_andT ?_ | with_reducible refine r_orT ?_ | with_reducible refine r_notT ?_ | with_reducible refine r_or ?_ | with_reducible refine r_and ?_ | with_reducible refine r_tB ?_ | with_reducible refine r_drop ?_ | with_reducible refine r_callN ?_ | with_reducible refine r_chain ?_
  | with_reducible refine r_for ?_ | with_reducible refine r_lc ?_ | with_reducible refine r_iseq ?_ | with_reducible refine r_rng1 ?_ | with_reducible refine r_enum ?_ | with_reducible refine r_yes ?_ | with_reducible refine r_tru ?_ | with_reducible refine r_gtup ?_ | with_reducible refine r_gcons ?_ | with_reducible refine r_gnil ?_
  | with_reducible refine b_add ?_ | with_reducible refine b_sub ?_ | (with_reducible refine b_mul (by unfold CMul; omega) ?_) | (with_reducible refine b_mod (by omega) ?_) | (with_reducible refine b_fdiv (by unfold CDiv; omega) ?_)
  | with_reducible refine c_lt ?_ | with_reducible refine c_le ?_ | with_reducible refine c_gt ?_ | with_reducible refine c_ge ?_ | with_reducible refine c_isN ?_ | with_reducible refine c_notN ?_ | with_reducible refine c_isB ?_ | with_reducible refine c_eq rfl ?_ | with_reducible refine c_ne rfl ?_
  | with_reducible refine c_insign ?_ | with_reducible refine k_int ?_ | with_reducible refine k_intb ?_ | with_reducible refine k_max ?_ | with_reducible refine k_min ?_
  | with_reducible refine ⟨_, rfl, ?_⟩
  | with_reducible refine ex_par ?_
  | with_reducible refine r_back ?_
  | with_reducible refine ex_par3 ?_
  | with_reducible refine ty_s ?_
  | with_reducible refine tru_b ?_
  | with_reducible refine iteT ?_ | with_reducible refine iteF ?_ | with_reducible refine itnT ?_ | with_reducible refine itnF ?_)
local macro_rules | `(tactic| walk_at "go") => `(tactic| repeat walk_at "st")
local macro_rules | `(tactic| walk_at "cl") => `(tactic| try dsimp only [cxOf, Cx.nox, Cx.wish])
/-! ### a table's grid, told -/
local macro_rules | `(tactic| walk_at "pf") => `(tactic| repeat (first | exact pf_nil | exact pf_eq | refine pf_ne (by decide +kernel) ?_))
local macro_rules | `(tactic| walk_at "lf") => `(tactic| repeat (first | exact lf_nil | exact lf_eq | refine lf_ne (by decide +kernel) ?_))
local macro_rules | `(tactic| walk_at "st") => `(tactic| first
  | with_reducible refine r_fld ?_ | with_reducible refine r_sfld ?_ | with_reducible refine r_make ?_ | with_reducible refine r_meth ?_ | with_reducible refine r_faug ?_ | with_reducible refine r_rngv ?_ | with_reducible refine g_add ?_ | with_reducible refine g_sub ?_ | (with_reducible refine r_dnewK ?_)
  | with_reducible refine r_un ?_ | with_reducible refine u_neg ?_ | with_reducible refine r_bm0 ?_)
abbrev s_table_grid : Stmt := topS 40
theorem sc_table_grid : FnScope ["rows", "at", "grid", "lines", "row", "column", "line"] ["rows", "at"] (defScope s_table_grid) := ⟨rfl, rfl, rfl, by decide +kernel, rfl, by decide +kernel, by decide +kernel⟩
abbrev Rq : Type := Rk × List PyData
def RwD (K : PySem.W.Frag) (H : Hp) (x : V) (q : Rq) : Prop := ∃ ra xs, x = .ref ra ∧ SqT K H ra xs ∧ rkV q.1 xs ∧ DpAll K H xs (.str (rkW q.1) :: q.2) ∧ nlA q.2 = true ∧ xs.length ≤ 10
def RwDs (K : PySem.W.Frag) (H : Hp) (rows : List V) (qs : List Rq) : Prop := rows.length = qs.length ∧ ∀ (i : Nat) x q, rows[i]? = some x → qs[i]? = some q → RwD K H x q
def addLast (ls : List (List PyData)) (d : PyData) : List (List PyData) := ls.dropLast ++ [ls.getLastD [] ++ [d]]
def gridM : Nat → List Nat → List (List PyData) → List Rq → List (List PyData)
  | m, ff, ls, (k, ps) :: r => (match k with
    | .row => gridM (m + 1) ff (ls ++ [[]]) r
    | .cell d a => (match cellG m ff d a with
      | some q => gridM m q.2 (addLast ls (.tuple (.int q.1 :: ps))) r
      | none => ls)
    | _ => ls)
  | _, _, ls, [] => ls
def inTab : Nat → List Nat → List Rq → Prop
  | m, ff, (k, _) :: r => (match stepT m ff k with
    | none => False
    | some none => True
    | some (some q) => inTab q.1 q.2 r)
  | _, _, [] => False
def gridT (c : Nat) (r : List Rq) : PyData := .tuple ((gridM 0 (List.replicate c 0) [] r).map PyData.tuple)
def spTg (K : PySem.W.Frag) : Sp := fun vs H Q _ => ∃ a at_ rows qs c ps, vs = [.ref a, .int (at_ : Nat)] ∧ SqT K H a rows ∧ RwDs K H rows qs ∧ rows.length ≤ 80 ∧ qs[at_]? = some (.table c, ps) ∧ inTab 0 (List.replicate c 0) (qs.drop (at_ + 1)) ∧
  ∀ t H', Same H H' → Dp K H' (.ref t) (gridT c (qs.drop (at_ + 1))) → Q (.ref t) H'
/-- the lines of a table so far: Ln the list of them -/
structure LnS (K : PySem.W.Frag) (H0 H : Hp) (Ln g l : Addr) (i : Nat) (as : List Addr) (ls : List (List PyData)) : Prop where
  at_ : H Ln = some (.lst (as.map V.ref))
  len : as.length = ls.length
  nd : as.Nodup
  off : ∀ a ∈ as, a ≠ Ln ∧ a ≠ g ∧ a ≠ l ∧ H0 a = none
  some_ : ∀ (j : Nat) a ds, as[j]? = some a → ls[j]? = some ds → ∃ vs, H a = some (.lst vs) ∧ DpAll K H vs ds ∧ nlA ds = true ∧ vs.length ≤ i
  le : as.length ≤ i
section
variable {P : Program} {w : World} {K : PySem.W.Frag} {mg : Str → Option Value} {base : Heap} {CG : Addr}
theorem RwD.same {H H' : Hp} {x : V} {q : Rq} (s : Same H H') (h : RwD K H x q) : RwD K H' x q := by
  obtain ⟨ra, xs, e, h1, h2, h3, h4, h5⟩ := h
  refine ⟨ra, xs, e, Same.sqt s h1, h2, TK.dpA (Same.tk s) _ _ ?_ h3, h4, h5⟩
  rw [nlA, h4]
  rfl
theorem LnS.keep {H0 H H' : Hp} {Ln g l i j as ls} (t : LnS K H0 H Ln g l i as ls) (tk : TK H H') (k : ∀ a, a = Ln ∨ a ∈ as → H' a = H a) (hij : i ≤ j) : LnS K H0 H' Ln g l j as ls := by
  refine ⟨(k _ (.inl rfl)).trans t.at_, t.len, t.nd, t.off, fun n a ds ea ed => ?_, Nat.le_trans t.le hij⟩
  obtain ⟨vs, e1, e2, e3, e4⟩ := t.some_ n a ds ea ed
  exact ⟨vs, (k a (.inr (List.mem_of_getElem? ea))).trans e1, TK.dpA tk _ _ e3 e2, e3, Nat.le_trans e4 hij⟩
theorem LnS.row {H0 H : Hp} {Ln g l i as ls e} (t : LnS K H0 H Ln g l i as ls) (he : H e = none) (hg : H g ≠ none) (hl : H l ≠ none) (he0 : H0 e = none) : LnS K H0 (upd (upd H e (.lst [])) Ln (.lst (as.map V.ref ++ [.ref e]))) Ln g l (i + 1) (as ++ [e]) (ls ++ [[]]) := by
  have neL : e ≠ Ln := fun z => by rw [z, t.at_] at he; cases he
  have nea : e ∉ as := fun z => by
    obtain ⟨j, hj, ej⟩ := List.mem_iff_getElem.mp z
    have hj2 : j < ls.length := by rw [← t.len]; exact hj
    obtain ⟨vs, e1, _⟩ := t.some_ j e ls[j] (by rw [List.getElem?_eq_getElem hj, ej]) (List.getElem?_eq_getElem hj2)
    rw [he] at e1
    cases e1
  have tk1 : TK H (upd H e (.lst [])) := Same.tk (Same.new he)
  have eL : (upd H e (.lst [])) Ln = some (.lst (as.map V.ref)) := by
    rw [upd_ne neL.symm]
    exact t.at_
  have tk : TK H (upd (upd H e (.lst [])) Ln (.lst (as.map V.ref ++ [.ref e]))) := tk1.trans (TK.put eL)
  refine ⟨by rw [upd_same, List.map_append]; rfl, by rw [List.length_append, List.length_append, t.len]; rfl, ?_, fun a ha => ?_, fun j a ds ea ed => ?_, by rw [List.length_append]; have := t.le; simp only [List.length_cons, List.length_nil]; omega⟩
  · refine List.nodup_append.mpr ⟨t.nd, by simp, fun a ha b hb z => ?_⟩
    rw [List.mem_singleton.mp hb] at z
    exact nea (z ▸ ha)
  · rcases List.mem_append.mp ha with ha | ha
    · exact t.off a ha
    · rw [List.mem_singleton.mp ha]
      exact ⟨neL, fun z => hg (z ▸ he), fun z => hl (z ▸ he), he0⟩
  · by_cases hj : j < as.length
    · rw [List.getElem?_append_left hj] at ea
      rw [List.getElem?_append_left (by rw [← t.len]; exact hj)] at ed
      obtain ⟨vs, e1, e2, e3, e4⟩ := t.some_ j a ds ea ed
      have ha := List.mem_of_getElem? ea
      refine ⟨vs, ?_, TK.dpA tk _ _ e3 e2, e3, by omega⟩
      have ne : a ≠ e := fun z => nea (by rw [← z]; exact ha)
      rw [upd_ne (t.off a ha).1, upd_ne ne]
      exact e1
    · have hj2 : j = as.length := by
        have := (List.getElem?_eq_some_iff.mp ea).1
        simp only [List.length_append, List.length_cons, List.length_nil] at this
        omega
      subst hj2
      rw [List.getElem?_append_right (Nat.le_refl _), Nat.sub_self] at ea
      rw [t.len, List.getElem?_append_right (Nat.le_refl _), Nat.sub_self] at ed
      cases ea
      cases ed
      exact ⟨[], by rw [upd_ne neL, upd_same], .nil, rfl, Nat.zero_le _⟩
theorem LnS.add {H0 H : Hp} {Ln g l i as ls z vs dl d v} (t : LnS K H0 H Ln g l i (as ++ [z]) (ls ++ [dl])) (ez : H z = some (.lst vs)) (hd : Dp K H v d) (nd : nlD d = true) (e2 : DpAll K H vs dl) (e3 : nlA dl = true) (e4 : vs.length ≤ i) :
    LnS K H0 (upd H z (.lst (vs ++ [v]))) Ln g l (i + 1) (as ++ [z]) (ls ++ [dl ++ [d]]) := by
  have hz : z ∈ as ++ [z] := by simp
  have tk : TK H (upd H z (.lst (vs ++ [v]))) := TK.put ez
  have lens : as.length = ls.length := by
    have := t.len
    simp only [List.length_append, List.length_cons, List.length_nil] at this
    omega
  have nza : z ∉ as := fun h => by
    have := (List.nodup_append.mp t.nd).2.2 z h z (by simp)
    exact this rfl
  refine ⟨by rw [upd_ne (t.off z hz).1.symm]; exact t.at_, by simp only [List.length_append, lens, List.length_cons, List.length_nil], t.nd, t.off, fun j a ds ea ed => ?_, by have := t.le; omega⟩
  by_cases hj : j < as.length
  · have ea' := ea
    rw [List.getElem?_append_left hj] at ea'
    rw [List.getElem?_append_left (by omega)] at ed
    obtain ⟨us, f1, f2, f3, f4⟩ := t.some_ j a ds ea (by rw [List.getElem?_append_left (by omega)]; exact ed)
    refine ⟨us, ?_, TK.dpA tk _ _ f3 f2, f3, by omega⟩
    have ne : a ≠ z := fun h => nza (by rw [← h]; exact List.mem_of_getElem? ea')
    rw [upd_ne ne]
    exact f1
  · have hj2 : j = as.length := by
      have := (List.getElem?_eq_some_iff.mp ea).1
      simp only [List.length_append, List.length_cons, List.length_nil] at this
      omega
    subst hj2
    rw [List.getElem?_append_right (Nat.le_refl _), Nat.sub_self] at ea
    rw [lens, List.getElem?_append_right (Nat.le_refl _), Nat.sub_self] at ed
    cases ea
    cases ed
    refine ⟨vs ++ [v], upd_same, DpAll.app (TK.dpA tk _ _ e3 e2) (.cons (TK.dp tk _ _ nd hd) .nil), ?_, by rw [List.length_append]; simp only [List.length_cons, List.length_nil]; omega⟩
    rw [nlA_app, e3, nlA_one nd]
    rfl
end
end Tk

set_option Elab.async false
set_option linter.all false
set_option maxRecDepth 100000
set_option maxHeartbeats 4000000
namespace Tk
open PySem PySem.Spec PyProof.Rows L2 Lay
open TL (tl ext_tl len_tl tl_append tl_mk mk_tl)
local macro_rules | `(tactic| walk_at "if") => `(tactic| refine ite2 (fun hc => ?_) (fun hc => ?_))
local macro_rules | `(tactic| walk_at "lk") => `(tactic| first | exact upd_same | assumption)
local macro_rules | `(tactic| walk_at "st") => `(tactic| first
  | with_reducible refine r_var rfl ?_ | with_reducible refine r_c ?_ | with_reducible refine r_op ?_ | with_reducible refine r_cons ?_ | with_reducible refine r_nil ?_ | with_reducible refine r_vals ?_
  | with_reducible refine r_cb ?_ | with_reducible refine r_tup ?_ | with_reducible refine r_lst ?_ | with_reducible refine r_call ?_ | with_reducible refine r_test ?_
  | with_reducible refine r_if ?_ | with_reducible refine r_not ?_ | with_reducible refine r_bm ?_ | with_reducible refine r_sl ?_ | with_reducible refine r_np ?_ | with_reducible refine r_part ?_
  | with_reducible refine r_seq ?_ | with_reducible refine r_asg ?_ | with_reducible refine r_name ?_ | with_reducible refine r_ifs ?_ | with_reducible refine r_ret ?_ | with_reducible refine r_next ?_ | with_reducible refine r_par ?_ | with_reducible refine r_par3 ?_ | with_reducible refine r_brk ?_ | with_reducible refine r_cnt ?_ | with_reducible refine r_sub ?_
  | with_reducible refine r_andT ?_ | with_reducible refine r_orT ?_ | with_reducible refine r_notT ?_ | with_reducible refine r_or ?_ | with_reducible refine r_and ?_ | with_reducible refine r_tB ?_ | with_reducible refine r_drop ?_ | with_reducible refine r_callN ?_ | with_reducible refine r_chain ?_
  | with_reducible refine r_for ?_ | with_reducible refine r_lc ?_ | with_reducible refine r_iseq ?_ | with_reducible refine r_rng1 ?_ | with_reducible refine r_enum ?_ | with_reducible refine r_yes ?_ | with_reducible refine r_tru ?_ | with_reducible refine r_gtup ?_ | with_reducible refine r_gcons ?_ | with_reducible refine r_gnil ?_
  | with_reducible refine b_add ?_ | with_reducible refine b_sub ?_ | (with_reducible refine b_mul (by unfold CMul; omega) ?_) | (with_reducible refine b_mod (by omega) ?_) | (with_reducible refine b_fdiv (by unfold CDiv; omega) ?_)
  | with_reducible refine c_lt ?_ | with_reducible refine c_le ?_ | with_reducible refine c_gt ?_ | with_reducible refine c_ge ?_ | with_reducible refine c_isN ?_ | with_reducible refine c_notN ?_ | with_reducible refine c_isB ?_ | with_reducible refine c_eq rfl ?_ | with_reducible refine c_ne rfl ?_
  | with_reducible refine c_insign ?_ | with_reducible refine k_int ?_ | with_reducible refine k_intb ?_ | with_reducible refine k_max ?_ | with_reducible refine k_min ?_
  | with_reducible refine ⟨_, rfl, ?_⟩
  | with_reducible refine ex_par ?_
  | with_reducible refine r_back ?_
  | with_reducible refine ex_par3 ?_
  | with_reducible refine ty_s ?_
  | with_reducible refine tru_b ?_
  | with_reducible refine iteT ?_ | with_reducible refine iteF ?_ | with_reducible refine itnT ?_ | with_reducible refine itnF ?_)
local macro_rules | `(tactic| walk_at "go") => `(tactic| repeat walk_at "st")
local macro_rules | `(tactic| walk_at "cl") => `(tactic| try dsimp only [cxOf, Cx.nox, Cx.wish])
local macro_rules | `(tactic| walk_at "pf") => `(tactic| repeat (first | exact pf_nil | exact pf_eq | refine pf_ne (by decide +kernel) ?_))
local macro_rules | `(tactic| walk_at "lf") => `(tactic| repeat (first | exact lf_nil | exact lf_eq | refine lf_ne (by decide +kernel) ?_))
local macro_rules | `(tactic| walk_at "st") => `(tactic| first
  | with_reducible refine r_fld ?_ | with_reducible refine r_sfld ?_ | with_reducible refine r_make ?_ | with_reducible refine r_meth ?_ | with_reducible refine r_faug ?_ | with_reducible refine r_rngv ?_ | with_reducible refine g_add ?_ | with_reducible refine g_sub ?_ | (with_reducible refine r_dnewK ?_)
  | with_reducible refine r_un ?_ | with_reducible refine u_neg ?_ | with_reducible refine r_bm0 ?_)
section
variable {P : Program} {w : World} {K : PySem.W.Frag} {mg : Str → Option Value} {base : Heap} {CG : Addr}
theorem nlA_tups : ∀ {ls : List (List PyData)}, (∀ (j : Nat) ds, ls[j]? = some ds → nlA ds = true) → nlA (ls.map PyData.tuple) = true
  | [], _ => rfl
  | ds :: r, h => by
    show nlA (.tuple ds :: r.map PyData.tuple) = true
    rw [nlA, nlA_tups fun j e he => h (j + 1) e he, Bool.and_true, nlD]
    exact h 0 ds rfl
theorem rk_not {k : Rk} {xs : List V} (h : rkV k xs) : rkW k = "close" → k = .close := rk_close h
theorem ok_table_grid (F : Fn0 K mg "table_grid" s_table_grid ["rows", "at"]) (m : Md mg) (l_Grid : Cls K CG) (k_Grid : MkG P w K mg base 1 "Grid" CG [] (spGrI CG)) (c_Grid_add_row : MtG P w K mg base 1 CG "add_row" (spGrR CG)) (c_Grid_add_cell : MtG P w K mg base 1 CG "add_cell" (spGrC CG)) :
    FnG P w K mg base 3 "table_grid" ["rows", "at"] (spTg K) := by
  refine F.ok sc_table_grid (fun vs H Q E h => ?_) (fun a cdv A outer s H vs Q E L hr h => ?_)
  · obtain ⟨a, at_, rows, qs, c, ps, rfl, _⟩ := h
    rfl
  have nd := sc_table_grid.nd
  refine ⟨_, (pss_cons (ps_set (i := 2) nd rfl (.inl rfl) (pe_mkG k_Grid (hr.mono (by decide)) (by rfl) (pa_cons (pe_ix (oi L) (pe_ix (oi L) (pv 0) (pv 1) (fun _ _ => rfl)) pe_int (fun _ _ => rfl)) pa_nil))) (pss_cons (ps_set (i := 3) nd rfl (.inl rfl) (pe_lst pa_nil)) (pss_cons (ps_for PassesOwn.never rfl (pi_seqL L (pe_slice (osl L) (pv 0) (po_some (pe_op (ob L) (pv 1) pe_int)) po_none)) (pg_name (i := 4) nd rfl (.inl rfl)) (pss_cons (ps_if (pt_cmpR (op_ L) (pe_ix (oi L) (pv 4) pe_int (fun _ _ => rfl)) pe_str (nomark _)) (pss_one ps_break) pss_nil) (pss_one (ps_if (pt_cmpR (op_ L) (pe_ix (oi L) (pv 4) pe_int (fun _ _ => rfl)) pe_str (nomark _)) (pss_cons (ps_expr (pe_mtG0 l_Grid c_Grid_add_row (hr.mono (by decide)) (pv 2))) (pss_one (ps_expr (pe_bmL L PySem.F.plainAttrs_list PySem.F.slot_list_append PySem.F.type_list_append (pv 3) (pa_cons (pe_lst pa_nil) pa_nil))))) (pss_cons (ps_set (i := 5) nd rfl (.inl rfl) (pe_mtG l_Grid c_Grid_add_cell (hr.mono (by decide)) (pv 2) (pa_cons (pe_ix (oi L) (pv 4) pe_int (fun _ _ => rfl)) (pa_cons (pe_ix (oi L) (pv 4) pe_int (fun _ _ => rfl)) pa_nil)))) (pss_one (ps_expr (pe_bmL L PySem.F.plainAttrs_list PySem.F.slot_list_append PySem.F.type_list_append (pe_ix (oi L) (pv 3) (pe_un (ou L) pe_int) (fun _ _ => rfl)) (pa_cons (pe_op (ob L) (pe_tup (pa_cons (pv 5) pa_nil)) (pe_slice (osl L) (pv 4) (po_some pe_int) po_none)) pa_nil))))))))) (pss_one (ps_ret (pe_callTy (oc L) (by rfl) m.tuple_ bt_tuple (pa_cons (pe_lc (own := [("line", 6)]) rfl nd (pi_seqL L (pv 3)) (blkOk_by (own := [("line", 6)]) (N := ["rows", "at", "grid", "lines", "row", "column", "line"]) (sc := defScope s_table_grid) (by decide +kernel)) (fun _ _ _ _ _ => (pg_name (i := 6) nd rfl (.inl rfl))) (fun _ _ _ _ _ => inT L.b pts_nil) (fun _ _ _ _ _ => inE L.b (pe_callTy (oc L.b) (by rfl) m.tuple_ bt_tuple (pa_cons (pv 6) pa_nil)))) pa_nil))))))), ?_⟩
  obtain ⟨a, at_, rows, qs, cc, ps, rfl, hT, hR, h80, hq, hin, q⟩ := h
  have hat : at_ < rows.length := by rw [hR.1]; exact (List.getElem?_eq_some_iff.mp hq).1
  obtain ⟨ra, xs0, ex0, hS0, hk0, _, _, _⟩ := hR.2 at_ rows[at_] _ (List.getElem?_eq_getElem hat) hq
  obtain ⟨hc1, hc4, r0, rfl⟩ := hk0
  refine r_seqH fun nx0 h0 => ?_
  walk_at "go"
  refine i_tup hT (atI_nat (j := at_) (by rw [List.getElem?_eq_getElem hat, ex0])) ?_
  walk_at "go"
  refine i_tup hS0 (atI_nat (j := 1) rfl) ?_
  walk_at "go"
  intro g dxg n1 n2 n3
  have smg : Same H (upd (upd H dxg (.own g)) g (.ins CG dxg [])) := same_made n1 n2
  refine ⟨g, dxg, cc, rfl, hc4, upd_same, fun l H1 hl bu gg => ⟨rfl, ?_⟩⟩
  have hl0 : H l = none := free_of smg hl
  have s1 : Same H H1 := Same.via smg n1 bu
  walk_at "go"
  refine h0 _ _ ?_
  clear h0
  refine r_seqH fun nx0 h0 => ?_
  walk_at "go"
  refine ⟨sz1000 (by show 0 ≤ 1000; decide), fun Ln hLn => ?_⟩
  walk_at "go"
  refine h0 _ _ ?_
  clear h0
  have s2 : Same H (upd H1 Ln (.lst [])) := s1.trans (Same.new hLn)
  have gg2 := gg.same (Same.new (o := .lst []) hLn)
  have lns : LnS K H (upd H1 Ln (.lst [])) Ln g l 0 [] [] := ⟨upd_same, rfl, .nil, (fun _ h => nomatch h), (fun j _ _ h _ => by simp at h), Nat.le_refl _⟩
  have nLg : Ln ≠ g := fun z => by rw [z, gg.1] at hLn; cases hLn
  have nLl : Ln ≠ l := fun z => by rw [z, gg.2.1] at hLn; cases hLn
  have hLn0 := free_of s1 hLn
  generalize upd H1 Ln (.lst []) = H2 at s2 gg2 lns
  refine r_seqH fun nx0 h0 => ?_
  walk_at "go"
  refine sl_t (Same.sqt s2 hT) fun tb H3 s3 e3 => ?_
  rw [show ((at_ : Int) + 1) = ((at_ + 1 : Nat) : Int) by omega, cutV_from] at e3
  refine .inr (.inl ⟨tb, _, rfl, e3, ?_⟩)
  have hdl : (rows.drop (at_ + 1)).length = (qs.drop (at_ + 1)).length := by rw [List.length_drop, List.length_drop, hR.1]
  have hR2 : ∀ (i : Nat) x, (rows.drop (at_ + 1))[i]? = some x → ∃ q, (qs.drop (at_ + 1))[i]? = some q ∧ (qs.drop (at_ + 1)).drop i = q :: (qs.drop (at_ + 1)).drop (i + 1) ∧ RwD K H x q := fun i x e => by
    have hi : i < (qs.drop (at_ + 1)).length := by
      rw [← hdl]
      exact (List.getElem?_eq_some_iff.mp e).1
    refine ⟨_, List.getElem?_eq_getElem hi, List.drop_eq_getElem_cons hi, ?_⟩
    refine hR.2 (at_ + 1 + i) x _ ?_ ?_
    · rw [← List.getElem?_drop]
      exact e
    · rw [← List.getElem?_drop]
      exact List.getElem?_eq_getElem hi
  have hlen80 : (qs.drop (at_ + 1)).length ≤ 80 := by rw [List.length_drop, ← hR.1]; omega
  generalize qs.drop (at_ + 1) = rs at *
  generalize rows.drop (at_ + 1) = rws at *
  have gg3 := gg2.same s3
  have s23 : Same H H3 := s2.trans s3
  have lns3 : LnS K H H3 Ln g l 0 [] [] := lns.keep (Same.tk s3) (fun b hb => by
    rcases hb with rfl | hb
    · rw [lns.at_]
      exact s3 _ _ lns.at_
    · cases hb) (Nat.le_refl _)
  clear lns gg2 s2 gg s1 bu hl smg
  refine fo_it walk_tup (fun i σ H' => ∃ mm ff as ls v4 v5 v6, σ = [some (.ref a), some (.int (at_ : Nat)), some (.ref g), some (.ref Ln), v4, v5, v6] ∧ Same H H' ∧ SqT K H' tb rws ∧ Gr H' CG g l dxg mm ff ∧ mm ≤ 8 ∧ ff.length ≤ 4 ∧ ls.length = mm ∧ LnS K H H' Ln g l i as ls ∧ inTab mm ff (rs.drop i) ∧
      gridM mm ff ls (rs.drop i) = gridM 0 (List.replicate cc 0) [] rs)
    ⟨0, _, [], [], _, _, _, rfl, s23, e3, gg3, by omega, by rw [List.length_replicate]; exact hc4, rfl, lns3, hin, rfl⟩ (fun i σ H' _ ⟨_, _, _, _, _, _, _, _, _, t, _⟩ => t) (fun i x σ H' H'' hi hP hY => ?_) (fun σ H' hP => ?_)
  rotate_left
  · obtain ⟨_, _, _, _, _, _, _, _, _, _, _, _, _, _, _, hf, _⟩ := hP
    rw [hdl, List.drop_length] at hf
    exact hf.elim
  obtain ⟨mm, ff, as, ls, v4, v5, v6, rfl, sm, htb, gr, hm8, hf4, hlm, ln, hf, hG⟩ := hP
  obtain ⟨rfl, hx⟩ := hY
  obtain ⟨⟨k, ps2⟩, hq2, hdr, ra2, xs, rfl, hSx, hk, hDx, hnl, hx10⟩ := hR2 i x hx
  rw [hdr] at hf hG
  have hS := Same.sqt sm hSx
  obtain ⟨xr, ex⟩ := rk_at hk
  have h0i : atI xs 0 = some (.str (rkW k)) := by rw [ex]; exact atI_nat (j := 0) rfl
  have hi80 : i < 80 := by omega
  refine r_seqH fun nx1 h1 => ?_
  walk_at "go"
  refine i_tup hS h0i ?_
  walk_at "go"
  rw [sq_]
  refine ite2 (fun h => ?_) (fun h => ?_)
  · have ek := rk_close hk (of_decide_eq_true h)
    subst ek
    have hG : ls = gridM 0 (List.replicate cc 0) [] rs := hG
    walk_at "go"
    refine h0 _ _ ?_
    walk_at "go"
    refine .inl ⟨Ln, _, rfl, SqL.of ln.at_, fun D hD => ?_⟩
    have hq : ∀ t H5, Same H H5 → Dp K H5 (.ref t) (.tuple (ls.map PyData.tuple)) → Q (.ref t) H5 := fun t H5 s5 h5 => q t H5 s5 (by unfold gridT; rw [← hG]; exact h5)
    have nls : nlA (ls.map PyData.tuple) = true := by
      have : ∀ (j : Nat) ds, ls[j]? = some ds → nlA ds = true := fun j ds ed => by
        have hj : j < as.length := by rw [ln.len]; exact (List.getElem?_eq_some_iff.mp ed).1
        obtain ⟨_, _, _, e, _⟩ := ln.some_ j as[j] ds (List.getElem?_eq_getElem hj) ed
        exact e
      exact nlA_tups this
    have wk : Walk (Itl K Ln) (ls.map PyData.tuple).length (fun H => SqL K H Ln (as.map V.ref)) (YAt (as.map V.ref)) := by
      rw [List.length_map, ← ln.len, ← List.length_map (f := V.ref) (as := as)]
      exact walk_list
    refine lc_dat (K := K) (ls.map PyData.tuple) nls wk (by rw [List.length_map, ← ln.len, sizeLine_eq]; have := ln.le; omega) hD (fun H' s => SqL.of (s _ _ ln.at_)) (fun j d x H3 H4 hj sm3 hy C1 C0 g1 => ?_) (fun H3 ys sm3 hD3 hys => ?_)
    · obtain ⟨rfl, hx⟩ := hy
      have hj2 : j < ls.length := by
        have := (List.getElem?_eq_some_iff.mp hj).1
        rwa [List.length_map] at this
      rw [List.getElem?_map, List.getElem?_eq_getElem hj2] at hj
      cases hj
      have hja : j < as.length := by rw [ln.len]; exact hj2
      rw [List.getElem?_map, List.getElem?_eq_getElem hja] at hx
      cases hx
      obtain ⟨us, f1, f2, f3, f4⟩ := ln.some_ j as[j] ls[j] (List.getElem?_eq_getElem hja) (List.getElem?_eq_getElem hj2)
      walk_at "go"
      refine ⟨rfl, ?_⟩
      walk_at "go"
      refine k_tupL (SqL.of (sm3 _ _ f1)) fun p hp => ?_
      exact g1 _ _ (Same.new hp) (.tup (SqT.of upd_same) (TK.dpA (Same.tk (sm3.trans (Same.new hp))) _ _ f3 f2))
    · walk_at "go"
      refine k_tupL (SqL.of hD3) fun p hp => ?_
      exact hq p _ ((sm.trans sm3).trans (Same.new hp)) (.tup (SqT.of upd_same) (TK.dpA (Same.tk (Same.new hp)) _ _ nls hys))
  have ncl : k ≠ .close := fun e => by
    subst e
    exact h (decide_eq_true rfl)
  walk_at "go"
  refine h1 _ _ ?_
  clear h1
  walk_at "go"
  refine i_tup hS h0i ?_
  walk_at "go"
  rw [sq_]
  refine ite2 (fun h => ?_) (fun h => ?_)
  · have ek := rk_row hk (of_decide_eq_true h)
    subst ek
    have hm : mm ≠ 8 := fun e => by
      have hf : (match (if mm = 8 then none else some (some (mm + 1, ff)) : Option Gst) with | none => False | some none => True | some (some q) => inTab q.1 q.2 (rs.drop (i + 1))) := hf
      rw [if_pos e] at hf
      exact hf
    have hf : (match (if mm = 8 then none else some (some (mm + 1, ff)) : Option Gst) with | none => False | some none => True | some (some q) => inTab q.1 q.2 (rs.drop (i + 1))) := hf
    rw [if_neg hm] at hf
    refine r_seqH fun nx1 h1 => ?_
    walk_at "go"
    refine ⟨g, dxg, _, rfl, gr.1, by walk_at "lf", ?_⟩
    walk_at "go"
    refine ⟨g, l, dxg, mm, ff, rfl, gr, fun e => absurd e hm, fun _ H4 bu gr4 => ?_⟩
    refine h1 _ _ ?_
    clear h1
    have s4 := Same.via sm n1 bu
    have tk4 : TK H'' H4 := But.tkI bu gr.1
    have ln4 := ln.keep tk4 (fun b hb => by
      rcases hb with rfl | hb
      · rw [ln.at_]
        exact bu _ _ nLg ln.at_
      · obtain ⟨j, hj, ej⟩ := List.mem_iff_getElem.mp hb
        have hjl : j < ls.length := by rw [← ln.len]; exact hj
        obtain ⟨us, f1, _⟩ := ln.some_ j b ls[j] (by rw [List.getElem?_eq_getElem hj, ej]) (List.getElem?_eq_getElem hjl)
        rw [f1]
        exact bu _ _ (ln.off b hb).2.1 f1) (Nat.le_refl i)
    walk_at "go"
    refine ty_l (SqL.of ln4.at_) ?_
    walk_at "go"
    refine ⟨sz1000 (by show 0 ≤ 1000; decide), fun e he => ?_⟩
    have he0 := free_of s4 he
    have neL : Ln ≠ e := fun z => by rw [← z, ln4.at_] at he; cases he
    refine m_app (xs := as.map V.ref) (by rw [upd_ne neL]; exact ln4.at_) (by rw [List.length_map, sizeLine_eq]; have := ln4.le; omega) ?_
    have ln5 := ln4.row he (by rw [gr4.1]; simp) (by rw [gr4.2.1]; simp) he0
    have s5 : Same H4 (upd H4 e (.lst [])) := Same.new he
    refine ⟨mm + 1, ff, as ++ [e], ls ++ [[]], _, _, _, rfl, Same.via (s4.trans s5) hLn0 upd_but, ?_, ⟨?_, ?_, gr4.2.2⟩, by omega, hf4, by rw [List.length_append, hlm]; rfl, ln5, hf, hG⟩
    · exact TK.sqt (tk4.trans ((Same.tk s5).trans (But.tkL upd_but (by rw [upd_ne neL]; exact ln4.at_)))) htb
    · rw [upd_ne nLg.symm]
      exact s5 _ _ gr4.1
    · rw [upd_ne nLl.symm]
      exact s5 _ _ gr4.2.1
  have nrow : k ≠ .row := fun e => by
    subst e
    exact h (decide_eq_true rfl)
  obtain ⟨cd, ca, rfl⟩ : ∃ cd ca, k = .cell cd ca := by
    cases k with
    | cell cd ca => exact ⟨cd, ca, rfl⟩
    | row => exact absurd rfl nrow
    | close => exact absurd rfl ncl
    | _ => exact hf.elim
  obtain ⟨hd4, ha4, r2, rfl⟩ := hk
  have hf : (match ((cellG mm ff cd ca).map fun p => some (mm, p.2) : Option Gst) with | none => False | some none => True | some (some q) => inTab q.1 q.2 (rs.drop (i + 1))) := hf
  have hG : (match cellG mm ff cd ca with | some q => gridM mm q.2 (addLast ls (.tuple (.int q.1 :: ps2))) (rs.drop (i + 1)) | none => ls) = _ := hG
  cases hcg : cellG mm ff cd ca with
  | none =>
    rw [hcg] at hf
    exact hf.elim
  | some cq =>
  obtain ⟨col, ff'⟩ := cq
  rw [hcg] at hf hG
  have hf : inTab mm ff' (rs.drop (i + 1)) := hf
  have hG : gridM mm ff' (addLast ls (.tuple (.int col :: ps2))) (rs.drop (i + 1)) = _ := hG
  have m0 : mm ≠ 0 := fun e => by
    unfold cellG at hcg
    rw [if_pos e] at hcg
    cases hcg
  have hfl : ff'.length = ff.length := by
    unfold cellG at hcg
    split at hcg
    · cases hcg
    · split at hcg
      · cases hcg
      · split at hcg
        · cases hcg
          exact setW_len _ _ _ _
        · cases hcg
  refine r_seqH fun nx1 h1 => ?_
  walk_at "go"
  refine ⟨g, dxg, _, rfl, gr.1, by walk_at "lf", ?_⟩
  walk_at "go"
  refine i_tup hS (atI_nat (j := 1) rfl) ?_
  walk_at "go"
  refine i_tup hS (atI_nat (j := 2) rfl) ?_
  walk_at "go"
  refine ⟨g, l, dxg, mm, ff, cd, ca, rfl, gr, hm8, hf4, hd4, ha4, fun e => absurd (hcg.symm.trans e) (by simp), fun c2 ff2 e2 H4 bu gr4 => ?_⟩
  cases hcg.symm.trans e2
  walk_at "go"
  refine h1 _ _ ?_
  clear h1
  have s4 := Same.via sm hl0 bu
  have tk4 : TK H'' H4 := But.tkL bu gr.2.1
  have ln4 := ln.keep tk4 (fun b hb => by
    rcases hb with rfl | hb
    · rw [ln.at_]
      exact bu _ _ nLl ln.at_
    · obtain ⟨j, hj, ej⟩ := List.mem_iff_getElem.mp hb
      have hjl : j < ls.length := by rw [← ln.len]; exact hj
      obtain ⟨us, f1, _⟩ := ln.some_ j b ls[j] (by rw [List.getElem?_eq_getElem hj, ej]) (List.getElem?_eq_getElem hjl)
      rw [f1]
      exact bu _ _ (ln.off b hb).2.2.1 f1) (Nat.le_refl i)
  obtain ⟨as', z, rfl⟩ : ∃ as' z, as = as' ++ [z] := by
    have hne : as ≠ [] := fun e => by
      have := ln.len
      rw [e, hlm] at this
      exact m0 this.symm
    exact ⟨as.dropLast, as.getLast hne, (List.dropLast_concat_getLast hne).symm⟩
  obtain ⟨ls', dl, rfl⟩ : ∃ ls' dl, ls = ls' ++ [dl] := by
    have hne : ls ≠ [] := fun e => by
      rw [e] at hlm
      exact m0 hlm.symm
    exact ⟨ls.dropLast, ls.getLast hne, (List.dropLast_concat_getLast hne).symm⟩
  have lens : as'.length = ls'.length := by
    have := ln4.len
    simp only [List.length_append, List.length_cons, List.length_nil] at this
    omega
  obtain ⟨us, f1, f2, f3, f4⟩ := ln4.some_ as'.length z dl (by simp) (by rw [lens]; simp)
  have hzm : z ∈ as' ++ [z] := by simp
  walk_at "go"
  refine i_lst (SqL.of ln4.at_) (by rw [List.map_append]; exact atI_last) ?_
  refine ty_l (SqL.of f1) ?_
  walk_at "go"
  refine ⟨sz1000 (by show 1 ≤ 1000; decide), fun T hT4 => ?_⟩
  have s5 : Same H4 (upd H4 T (.tup [V.int col])) := Same.new hT4
  have eT : (upd H4 T (.tup [V.int col])) T = some (.tup [V.int col]) := upd_same
  generalize upd H4 T (.tup [V.int col]) = H5 at s5 eT
  walk_at "go"
  refine sl_t (Same.sqt ((s4.trans s5)) hSx) fun b2 H6 s6 e6 => ?_
  rw [show cutV [V.str (Str.ofString "cell"), V.int (cd : Nat), V.int (ca : Nat), r2] (some 1) none = List.drop 1 _ from cutV_from _ 1] at e6
  refine b_catT (SqT.of (s6 _ _ eT)) e6 (sz1000 (by show 1 + 3 ≤ 1000; decide)) fun p H7 s7 e7 => ?_
  have s47 : Same H4 H7 := (s5.trans s6).trans s7
  have s7' : Same H H7 := s4.trans s47
  have tk7 : TK H4 H7 := Same.tk s47
  have hDp : Dp K H7 (.ref p) (.tuple (.int col :: ps2)) := by
    refine .tup e7 (.cons (.int _) ?_)
    have h3 := DpAll.drop 1 (TK.dpA (Same.tk s7') _ _ (by rw [nlA, hnl]; rfl) hDx)
    exact h3
  have hnD : nlD (.tuple (.int col :: ps2)) = true := by
    rw [nlD, nlA, hnl]
    rfl
  have ln7 := ln4.keep tk7 (fun b hb => by
    rcases hb with rfl | hb
    · rw [ln4.at_]
      exact s47 _ _ ln4.at_
    · obtain ⟨j, hj, ej⟩ := List.mem_iff_getElem.mp hb
      have hjl : j < (ls' ++ [dl]).length := by rw [← ln4.len]; exact hj
      obtain ⟨us, g1, _⟩ := ln4.some_ j b (ls' ++ [dl])[j] (by rw [List.getElem?_eq_getElem hj, ej]) (List.getElem?_eq_getElem hjl)
      rw [g1]
      exact s47 _ _ g1) (Nat.le_refl i)
  have f17 := s47 _ _ f1
  refine m_app f17 (by rw [sizeLine_eq]; omega) ?_
  have ln8 := ln7.add f17 hDp hnD (TK.dpA tk7 _ _ f3 f2) f3 f4
  have eal : addLast (ls' ++ [dl]) (.tuple (.int col :: ps2)) = ls' ++ [dl ++ [.tuple (.int col :: ps2)]] := by
    unfold addLast
    rw [List.dropLast_concat]
    simp
  rw [eal] at hG
  obtain ⟨nzL, nzg, nzl, hz0⟩ := ln7.off z hzm
  refine ⟨mm, ff', as' ++ [z], ls' ++ [dl ++ [.tuple (.int col :: ps2)]], _, _, _, rfl, Same.via s7' hz0 upd_but, ?_, ⟨?_, ?_, gr4.2.2⟩, hm8, by omega, ?_, ln8, hf, hG⟩
  · exact TK.sqt (tk4.trans (tk7.trans (TK.put f17))) htb
  · rw [upd_ne nzg.symm]
    exact s47 _ _ gr4.1
  · rw [upd_ne nzl.symm]
    exact s47 _ _ gr4.2.1
  · rw [← hlm]
    simp
end
end Tk

set_option Elab.async false
set_option linter.all false
set_option maxRecDepth 100000
set_option maxHeartbeats 4000000
namespace Tk
open PySem PySem.Spec PyProof.Rows L2 Lay
open TL (tl ext_tl len_tl tl_append tl_mk mk_tl)
local macro_rules | `(tactic| walk_at "if") => `(tactic| refine ite2 (fun hc => ?_) (fun hc => ?_))
local macro_rules | `(tactic| walk_at "lk") => `(tactic| first | exact upd_same | assumption)
local macro_rules | `(tactic| walk_at "st") => `(tactic| first
  | with_reducible refine r_var rfl ?_ | with_reducible refine r_c ?_ | with_reducible refine r_op ?_ | with_reducible refine r_cons ?_ | with_reducible refine r_nil ?_ | with_reducible refine r_vals ?_
  | with_reducible refine r_cb ?_ | with_reducible refine r_tup ?_ | with_reducible refine r_lst ?_ | with_reducible refine r_call ?_ | with_reducible refine r_test ?_
  | with_reducible refine r_if ?_ | with_reducible refine r_not ?_ | with_reducible refine r_bm ?_ | with_reducible refine r_sl ?_ | with_reducible refine r_np ?_ | with_reducible refine r_part ?_
  | with_reducible refine r_seq ?_ | with_reducible refine r_asg ?_ | with_reducible refine r_name ?_ | with_reducible refine r_ifs ?_ | with_reducible refine r_ret ?_ | with_reducible refine r_next ?_ | with_reducible refine r_par ?_ | with_reducible refine r_par3 ?_ | with_reducible refine r_brk ?_ | with_reducible refine r_cnt ?_ | with_reducible refine r_sub ?_
  | with_reducible refine r_andT ?_ | with_reducible refine r_orT ?_ | with_reducible refine r_notT ?_ | with_reducible refine r_or ?_ | with_reducible refine r_and ?_ | with_reducible refine r_tB ?_ | with_reducible refine r_drop ?_ | with_reducible refine r_callN ?_ | with_reducible refine r_chain ?_
  | with_reducible refine r_for ?_ | with_reducible refine r_lc ?_ | with_reducible refine r_iseq ?_ | with_reducible refine r_rng1 ?_ | with_reducible refine r_enum ?_ | with_reducible refine r_yes ?_ | with_reducible refine r_tru ?_ | with_reducible refine r_gtup ?_ | with_reducible refine r_gcons ?_ | with_reducible refine r_gnil ?_
  | with_reducible refine b_add ?_ | with_reducible refine b_sub ?_ | (with_reducible refine b_mul (by unfold CMul; omega) ?_) | (with_reducible refine b_mod (by omega) ?_) | (with_reducible refine b_fdiv (by unfold CDiv; omega) ?_)
  | with_reducible refine c_lt ?_ | with_reducible refine c_le ?_ | with_reducible refine c_gt ?_ | with_reducible refine c_ge ?_ | with_reducible refine c_isN ?_ | with_reducible refine c_notN ?_ | with_reducible refine c_isB ?_ | with_reducible refine c_eq rfl ?_ | with_reducible refine c_ne rfl ?_
  | with_reducible refine c_insign ?_ | with_reducible refine k_int ?_ | with_reducible refine k_intb ?_ | with_reducible refine k_max ?_ | with_reducible refine k_min ?_
  | with_reducible refine ⟨_, rfl, ?_⟩
  | with_reducible refine ex_par ?_
  | with_reducible refine r_back ?_
  | with_reducible refine ex_par3 ?_
  | with_reducible refine ty_s ?_
  | with_reducible refine tru_b ?_
  | with_reducible refine iteT ?_ | with_reducible refine iteF ?_ | with_reducible refine itnT ?_ | with_reducible refine itnF ?_)
local macro_rules | `(tactic| walk_at "go") => `(tactic| repeat walk_at "st")
local macro_rules | `(tactic| walk_at "cl") => `(tactic| try dsimp only [cxOf, Cx.nox, Cx.wish])
/-! ### a Text's tree -/
local macro_rules | `(tactic| walk_at "pf") => `(tactic| repeat (first | exact pf_nil | exact pf_eq | refine pf_ne (by decide +kernel) ?_))
local macro_rules | `(tactic| walk_at "lf") => `(tactic| repeat (first | exact lf_nil | exact lf_eq | refine lf_ne (by decide +kernel) ?_))
local macro_rules | `(tactic| walk_at "st") => `(tactic| first
  | with_reducible refine r_fld ?_ | with_reducible refine r_sfld ?_ | with_reducible refine r_make ?_ | with_reducible refine r_meth ?_ | with_reducible refine r_faug ?_ | with_reducible refine r_rngv ?_ | with_reducible refine g_add ?_ | with_reducible refine g_sub ?_ | (with_reducible refine r_dnewK ?_)
  | with_reducible refine r_un ?_ | with_reducible refine u_neg ?_ | with_reducible refine r_bm0 ?_)
abbrev s_tree_of : Stmt := topS 47
theorem sc_tree_of : FnScope ["rows", "kinds", "levels", "at", "row", "nodes"] ["rows"] (defScope s_tree_of) := ⟨rfl, rfl, rfl, by decide +kernel, rfl, by decide +kernel, by decide +kernel⟩
def treeM : List (List PyData) → List PyData → List Rq → List (List PyData)
  | st, _, [] => st
  | st, ks, (k, ps) :: r => (match k with
    | .when => treeM ([] :: st) (ps.headD .none :: ks) r
    | .done => (match st, ks with
      | top :: snd :: st', kk :: ks' => treeM ((snd ++ [.tuple [.str "when", kk, .tuple top]]) :: st') ks' r
      | _, _ => st)
    | .table c => (match st with
      | top :: st' => treeM ((top ++ [.tuple (.str "table" :: (ps ++ [gridT c r]))]) :: st') ks r
      | [] => st)
    | .oth z => (match st with
      | top :: st' => treeM ((top ++ [.tuple (.str z :: ps)]) :: st') ks r
      | [] => st)
    | _ => treeM st ks r)
def treeN (qs : List Rq) : List PyData := (treeM [[]] [] qs).headD []
def osOf (qs : List Rq) : List (Bool × Rk) := qs.map fun q => (true, q.1)
def spTr (K : PySem.W.Frag) : Sp := fun vs H Q _ => ∃ a rows qs, vs = [.ref a] ∧ SqT K H a rows ∧ RwDs K H rows qs ∧ rows.length ≤ 80 ∧ scanR 0 0 none (osOf qs) = .non ∧ ∀ t H', Same H H' → Dp K H' (.ref t) (.tuple (treeN qs)) → nlA (treeN qs) = true → Q (.ref t) H'
theorem scan_tab : ∀ (qs : List Rq) (i n m : Nat) (ff : List Nat), scanR i n (some (m, ff)) (osOf qs) = .non → inTab m ff qs
  | [], i, n, m, ff, h => by
    have h : (if (some (m, ff) : Gst) = none ∧ n = 0 then V.non else V.int i) = .non := h
    rw [if_neg (by simp)] at h
    cases h
  | (k, ps) :: r, i, n, m, ff, h => by
    have h : (match stepS n (some (m, ff)) k with | none => V.int i | some q => scanR (i + 1) q.1 q.2 (osOf r)) = .non := h
    show (match stepT m ff k with | none => False | some none => True | some (some q) => inTab q.1 q.2 r)
    have e : stepS n (some (m, ff)) k = (stepT m ff k).map fun g => (n, g) := rfl
    rw [e] at h
    cases ht : stepT m ff k with
    | none =>
      rw [ht] at h
      cases h
    | some g =>
      rw [ht] at h
      cases g with
      | none => exact True.intro
      | some q => exact scan_tab r _ _ _ _ h
theorem scan_step {qs : List Rq} {i n : Nat} {gr : Gst} {k : Rk} {ps : List PyData} (h : scanR i n gr (osOf ((k, ps) :: qs)) = .non) : ∃ n' gr', stepS n gr k = some (n', gr') ∧ scanR (i + 1) n' gr' (osOf qs) = .non := by
  have h : (match stepS n gr k with | none => V.int i | some q => scanR (i + 1) q.1 q.2 (osOf qs)) = .non := h
  cases e : stepS n gr k with
  | none =>
    rw [e] at h
    cases h
  | some q =>
    rw [e] at h
    exact ⟨q.1, q.2, rfl, h⟩
theorem nlD_grid (c : Nat) (r : List Rq) (h : ∀ q ∈ r, nlA q.2 = true) : nlD (gridT c r) = true := by
  have key : ∀ (r : List Rq) (m : Nat) (ff : List Nat) (ls : List (List PyData)), (∀ q ∈ r, nlA q.2 = true) → (∀ (j : Nat) ds, ls[j]? = some ds → nlA ds = true) → ∀ (j : Nat) ds, (gridM m ff ls r)[j]? = some ds → nlA ds = true := by
    intro r
    induction r with
    | nil => exact fun m ff ls _ h2 => h2
    | cons q r ih =>
      intro m ff ls h1 h2
      obtain ⟨k, ps⟩ := q
      have h1' := fun q hq => h1 q (List.mem_cons_of_mem _ hq)
      cases k with
      | row =>
        refine ih (m + 1) ff (ls ++ [[]]) h1' fun j ds e => ?_
        by_cases hj : j < ls.length
        · rw [List.getElem?_append_left hj] at e
          exact h2 j ds e
        · rw [List.getElem?_append_right (by omega)] at e
          cases hj3 : j - ls.length with
          | zero =>
            rw [hj3] at e
            cases e
            rfl
          | succ n =>
            rw [hj3] at e
            cases e
      | cell d a =>
        show ∀ (j : Nat) ds, (match cellG m ff d a with | some q => gridM m q.2 (addLast ls (.tuple (.int q.1 :: ps))) r | none => ls)[j]? = some ds → nlA ds = true
        cases cellG m ff d a with
        | none => exact h2
        | some q =>
          refine ih m q.2 _ h1' fun j ds e => ?_
          unfold addLast at e
          have np := h1 (.cell d a, ps) List.mem_cons_self
          by_cases hj : j < ls.dropLast.length
          · rw [List.getElem?_append_left hj, List.getElem?_dropLast] at e
            rw [List.length_dropLast] at hj
            rw [if_pos hj] at e
            exact h2 j ds e
          · rw [List.getElem?_append_right (by omega)] at e
            cases hj3 : j - ls.dropLast.length with
            | zero =>
              rw [hj3] at e
              cases e
              rw [nlA_app, nlA_one (by rw [nlD, nlA, np]; rfl), Bool.and_true]
              cases hl : ls.getLast? with
              | none => rw [List.getLastD_eq_getLast?, hl]; rfl
              | some l =>
                rw [List.getLastD_eq_getLast?, hl]
                rw [List.getLast?_eq_getElem?] at hl
                exact h2 _ _ hl
            | succ n =>
              rw [hj3] at e
              cases e
      | _ => exact h2
  unfold gridT
  rw [nlD]
  exact nlA_tups (key r 0 _ [] h fun j ds e => by simp at e)
section
variable {P : Program} {w : World} {K : PySem.W.Frag} {mg : Str → Option Value} {base : Heap} {CG : Addr}
theorem LnS.pop {H0 H : Hp} {Ln g l i as ls z dl} (t : LnS K H0 H Ln g l i (as ++ [z]) (ls ++ [dl])) : LnS K H0 (upd H Ln (.lst (as.map V.ref))) Ln g l i as ls := by
  have lens : as.length = ls.length := by
    have := t.len
    simp only [List.length_append, List.length_cons, List.length_nil] at this
    omega
  have tk : TK H (upd H Ln (.lst (as.map V.ref))) := TK.put t.at_
  refine ⟨upd_same, lens, (List.nodup_append.mp t.nd).1, fun a ha => t.off a (List.mem_append_left _ ha), fun j a ds ea ed => ?_, by have := t.le; simp only [List.length_append, List.length_cons, List.length_nil] at this; omega⟩
  have hj := (List.getElem?_eq_some_iff.mp ea).1
  obtain ⟨us, f1, f2, f3, f4⟩ := t.some_ j a ds (by rw [List.getElem?_append_left hj]; exact ea) (by rw [List.getElem?_append_left (by omega)]; exact ed)
  have ne := (t.off a (List.mem_append_left _ (List.mem_of_getElem? ea))).1
  exact ⟨us, by rw [upd_ne ne]; exact f1, TK.dpA tk _ _ f3 f2, f3, f4⟩
theorem LnS.last {H0 H : Hp} {Ln g l i as ls z dl} (t : LnS K H0 H Ln g l i (as ++ [z]) (ls ++ [dl])) : ∃ us, H z = some (.lst us) ∧ DpAll K H us dl ∧ nlA dl = true ∧ us.length ≤ i ∧ z ≠ Ln ∧ z ≠ g ∧ H0 z = none := by
  have lens : as.length = ls.length := by
    have := t.len
    simp only [List.length_append, List.length_cons, List.length_nil] at this
    omega
  obtain ⟨us, f1, f2, f3, f4⟩ := t.some_ as.length z dl (by simp) (by rw [lens]; simp)
  have o := t.off z (by simp)
  exact ⟨us, f1, f2, f3, f4, o.1, o.2.1, o.2.2.2⟩
theorem LnS.same {H0 H H' : Hp} {Ln g l i j as ls} (t : LnS K H0 H Ln g l i as ls) (s : Same H H') (hij : i ≤ j) : LnS K H0 H' Ln g l j as ls :=
  t.keep (Same.tk s) (fun b hb => by
    rcases hb with rfl | hb
    · rw [t.at_]
      exact s _ _ t.at_
    · obtain ⟨n, hn, en⟩ := List.mem_iff_getElem.mp hb
      have hnl : n < ls.length := by rw [← t.len]; exact hn
      obtain ⟨us, f1, _⟩ := t.some_ n b ls[n] (by rw [List.getElem?_eq_getElem hn, en]) (List.getElem?_eq_getElem hnl)
      rw [f1]
      exact s _ _ f1) hij
/-- .. whatever becomes of the list at g -/
theorem LnS.side {H0 H H' : Hp} {Ln g l i as ls} (t : LnS K H0 H Ln g l i as ls) (b : But g H H') (hg : ∃ xs, H g = some (.lst xs)) (n : Ln ≠ g) : LnS K H0 H' Ln g l i as ls := by
  obtain ⟨xs, eg⟩ := hg
  refine t.keep (But.tkL b eg) (fun c hc => ?_) (Nat.le_refl _)
  rcases hc with rfl | hc
  · rw [t.at_]
    exact b _ _ n t.at_
  · obtain ⟨m, hm, em⟩ := List.mem_iff_getElem.mp hc
    have hml : m < ls.length := by rw [← t.len]; exact hm
    obtain ⟨us, f1, _⟩ := t.some_ m c ls[m] (by rw [List.getElem?_eq_getElem hm, em]) (List.getElem?_eq_getElem hml)
    rw [f1]
    exact b _ _ (t.off c hc).2.1 f1
end
end Tk

set_option Elab.async false
set_option linter.all false
set_option maxRecDepth 100000
set_option maxHeartbeats 4000000
namespace Tk
open PySem PySem.Spec PyProof.Rows L2 Lay
open TL (tl ext_tl len_tl tl_append tl_mk mk_tl)
local macro_rules | `(tactic| walk_at "if") => `(tactic| refine ite2 (fun hc => ?_) (fun hc => ?_))
local macro_rules | `(tactic| walk_at "lk") => `(tactic| first | exact upd_same | assumption)
local macro_rules | `(tactic| walk_at "st") => `(tactic| first
  | with_reducible refine r_var rfl ?_ | with_reducible refine r_c ?_ | with_reducible refine r_op ?_ | with_reducible refine r_cons ?_ | with_reducible refine r_nil ?_ | with_reducible refine r_vals ?_
  | with_reducible refine r_cb ?_ | with_reducible refine r_tup ?_ | with_reducible refine r_lst ?_ | with_reducible refine r_call ?_ | with_reducible refine r_test ?_
  | with_reducible refine r_if ?_ | with_reducible refine r_not ?_ | with_reducible refine r_bm ?_ | with_reducible refine r_sl ?_ | with_reducible refine r_np ?_ | with_reducible refine r_part ?_
  | with_reducible refine r_seq ?_ | with_reducible refine r_asg ?_ | with_reducible refine r_name ?_ | with_reducible refine r_ifs ?_ | with_reducible refine r_ret ?_ | with_reducible refine r_next ?_ | with_reducible refine r_par ?_ | with_reducible refine r_par3 ?_ | with_reducible refine r_brk ?_ | with_reducible refine r_cnt ?_ | with_reducible refine r_sub ?_
  | with_reducible refine r_andT ?_ | with_reducible refine r_orT ?_ | with_reducible refine r_notT ?_ | with_reducible refine r_or ?_ | with_reducible refine r_and ?_ | with_reducible refine r_tB ?_ | with_reducible refine r_drop ?_ | with_reducible refine r_callN ?_ | with_reducible refine r_chain ?_
  | with_reducible refine r_for ?_ | with_reducible refine r_lc ?_ | with_reducible refine r_iseq ?_ | with_reducible refine r_rng1 ?_ | with_reducible refine r_enum ?_ | with_reducible refine r_yes ?_ | with_reducible refine r_tru ?_ | with_reducible refine r_gtup ?_ | with_reducible refine r_gcons ?_ | with_reducible refine r_gnil ?_
  | with_reducible refine b_add ?_ | with_reducible refine b_sub ?_ | (with_reducible refine b_mul (by unfold CMul; omega) ?_) | (with_reducible refine b_mod (by omega) ?_) | (with_reducible refine b_fdiv (by unfold CDiv; omega) ?_)
  | with_reducible refine c_lt ?_ | with_reducible refine c_le ?_ | with_reducible refine c_gt ?_ | with_reducible refine c_ge ?_ | with_reducible refine c_isN ?_ | with_reducible refine c_notN ?_ | with_reducible refine c_isB ?_ | with_reducible refine c_eq rfl ?_ | with_reducible refine c_ne rfl ?_
  | with_reducible refine c_insign ?_ | with_reducible refine k_int ?_ | with_reducible refine k_intb ?_ | with_reducible refine k_max ?_ | with_reducible refine k_min ?_
  | with_reducible refine ⟨_, rfl, ?_⟩
  | with_reducible refine ex_par ?_
  | with_reducible refine r_back ?_
  | with_reducible refine ex_par3 ?_
  | with_reducible refine ty_s ?_
  | with_reducible refine tru_b ?_
  | with_reducible refine iteT ?_ | with_reducible refine iteF ?_ | with_reducible refine itnT ?_ | with_reducible refine itnF ?_)
local macro_rules | `(tactic| walk_at "go") => `(tactic| repeat walk_at "st")
local macro_rules | `(tactic| walk_at "cl") => `(tactic| try dsimp only [cxOf, Cx.nox, Cx.wish])
local macro_rules | `(tactic| walk_at "pf") => `(tactic| repeat (first | exact pf_nil | exact pf_eq | refine pf_ne (by decide +kernel) ?_))
local macro_rules | `(tactic| walk_at "lf") => `(tactic| repeat (first | exact lf_nil | exact lf_eq | refine lf_ne (by decide +kernel) ?_))
local macro_rules | `(tactic| walk_at "st") => `(tactic| first
  | with_reducible refine r_fld ?_ | with_reducible refine r_sfld ?_ | with_reducible refine r_make ?_ | with_reducible refine r_meth ?_ | with_reducible refine r_faug ?_ | with_reducible refine r_rngv ?_ | with_reducible refine g_add ?_ | with_reducible refine g_sub ?_ | (with_reducible refine r_dnewK ?_)
  | with_reducible refine r_un ?_ | with_reducible refine u_neg ?_ | with_reducible refine r_bm0 ?_)
section
variable {P : Program} {w : World} {K : PySem.W.Frag} {mg : Str → Option Value} {base : Heap} {CG : Addr}
theorem cat_of {α : Type} {l : List α} {n : Nat} (h : l.length = n + 1) : ∃ p x, l = p ++ [x] ∧ p.length = n := by
  have hne : l ≠ [] := fun e => by rw [e] at h; cases h
  refine ⟨l.dropLast, l.getLast hne, (List.dropLast_concat_getLast hne).symm, by rw [List.length_dropLast]; omega⟩
theorem dp_split {H : Hp} {xs ys : List V} {ds es : List PyData} (hl : xs.length = ds.length) (h : DpAll K H (xs ++ ys) (ds ++ es)) : DpAll K H xs ds ∧ DpAll K H ys es := by
  induction xs generalizing ds with
  | nil =>
    cases ds with
    | nil => exact ⟨.nil, h⟩
    | cons d r => simp at hl
  | cons v r ih =>
    cases ds with
    | nil => simp at hl
    | cons d r2 =>
      cases h with
      | cons g1 g2 =>
        obtain ⟨i1, i2⟩ := ih (by simpa using hl) g2
        exact ⟨.cons g1 i1, i2⟩
theorem ok_tree_of (F : Fn0 K mg "tree_of" s_tree_of ["rows"]) (m : Md mg) (c_table_grid : FnG P w K mg base 3 "table_grid" ["rows", "at"] (spTg K)) : FnG P w K mg base 4 "tree_of" ["rows"] (spTr K) := by
  refine F.ok sc_tree_of (fun vs H Q E h => ?_) (fun a cdv A outer s H vs Q E L hr h => ?_)
  · obtain ⟨a, rows, qs, rfl, _⟩ := h
    rfl
  have nd := sc_tree_of.nd
  refine ⟨_, (pss_cons (ps_set (i := 1) nd rfl (.inl rfl) (pe_lst pa_nil)) (pss_cons (ps_set (i := 2) nd rfl (.inl rfl) (pe_lst (pa_cons (pe_lst pa_nil) pa_nil))) (pss_cons (ps_for PassesOwn.never rfl (pi_enumL L (by rfl) m.enumerate_ (pa_cons (pv 0) pa_nil)) (pg_tupL (n := 2) L (pgs_cons (pg_name (i := 3) nd rfl (.inl rfl)) (pgs_cons (pg_name (i := 4) nd rfl (.inl rfl)) pgs_nil)) (by rfl) (by rfl)) (pss_one (ps_if (pt_cmpR (op_ L) (pe_ix (oi L) (pv 4) pe_int (fun _ _ => rfl)) pe_str (nomark _)) (pss_cons (ps_expr (pe_bmL L PySem.F.plainAttrs_list PySem.F.slot_list_append PySem.F.type_list_append (pv 1) (pa_cons (pe_ix (oi L) (pv 4) pe_int (fun _ _ => rfl)) pa_nil))) (pss_one (ps_expr (pe_bmL L PySem.F.plainAttrs_list PySem.F.slot_list_append PySem.F.type_list_append (pv 2) (pa_cons (pe_lst pa_nil) pa_nil))))) (pss_one (ps_if (pt_cmpR (op_ L) (pe_ix (oi L) (pv 4) pe_int (fun _ _ => rfl)) pe_str (nomark _)) (pss_cons (ps_set (i := 5) nd rfl (.inl rfl) (pe_callTy (oc L) (by rfl) m.tuple_ bt_tuple (pa_cons (pe_bm0L L PySem.F.plainAttrs_list PySem.F.slot_list_pop PySem.F.type_list_pop (pv 2)) pa_nil))) (pss_one (ps_expr (pe_bmL L PySem.F.plainAttrs_list PySem.F.slot_list_append PySem.F.type_list_append (pe_ix (oi L) (pv 2) (pe_un (ou L) pe_int) (fun _ _ => rfl)) (pa_cons (pe_tup (pa_cons pe_str (pa_cons (pe_bm0L L PySem.F.plainAttrs_list PySem.F.slot_list_pop PySem.F.type_list_pop (pv 1)) (pa_cons (pv 5) pa_nil)))) pa_nil))))) (pss_one (ps_if (pt_cmpR (op_ L) (pe_ix (oi L) (pv 4) pe_int (fun _ _ => rfl)) pe_str (nomark _)) (pss_one (ps_expr (pe_bmL L PySem.F.plainAttrs_list PySem.F.slot_list_append PySem.F.type_list_append (pe_ix (oi L) (pv 2) (pe_un (ou L) pe_int) (fun _ _ => rfl)) (pa_cons (pe_op (ob L) (pv 4) (pe_tup (pa_cons (pe_callG c_table_grid (hr.mono (by decide)) (by rfl) (pa_cons (pv 0) (pa_cons (pv 3) pa_nil))) pa_nil))) pa_nil)))) (pss_one (ps_if (pt_cmpR (op_ L) (pe_ix (oi L) (pv 4) pe_int (fun _ _ => rfl)) (pe_tup (pa_cons pe_str (pa_cons pe_str (pa_cons pe_str pa_nil)))) rfl) (pss_one (ps_expr (pe_bmL L PySem.F.plainAttrs_list PySem.F.slot_list_append PySem.F.type_list_append (pe_ix (oi L) (pv 2) (pe_un (ou L) pe_int) (fun _ _ => rfl)) (pa_cons (pv 4) pa_nil)))) pss_nil))))))))) (pss_one (ps_ret (pe_callTy (oc L) (by rfl) m.tuple_ bt_tuple (pa_cons (pe_ix (oi L) (pv 2) pe_int (fun _ _ => rfl)) pa_nil))))))), ?_⟩
  obtain ⟨a, rows, qs, rfl, hT, hR, h80, hsc, q⟩ := h
  refine r_seqH fun nx0 h0 => ?_
  walk_at "go"
  refine ⟨sz1000 (by show 0 ≤ 1000; decide), fun Kn hKn => ?_⟩
  walk_at "go"
  refine h0 _ _ ?_
  clear h0
  refine r_seqH fun nx0 h0 => ?_
  walk_at "go"
  refine ⟨sz1000 (by show 0 ≤ 1000; decide), fun z0 hz0 => ?_⟩
  walk_at "go"
  refine ⟨sz1000 (by show 1 ≤ 1000; decide), fun Lv hLv => ?_⟩
  walk_at "go"
  refine h0 _ _ ?_
  clear h0
  have s1 : Same H (upd H Kn (.lst [])) := Same.new hKn
  have e1 : (upd H Kn (.lst [])) Kn = some (.lst []) := upd_same
  generalize upd H Kn (.lst []) = H1 at s1 e1 hz0 hLv ⊢
  have s2 : Same H1 (upd H1 z0 (.lst [])) := Same.new hz0
  have e2 : (upd H1 z0 (.lst [])) z0 = some (.lst []) := upd_same
  generalize upd H1 z0 (.lst []) = H2 at s2 e2 hLv ⊢
  have s3 : Same H2 (upd H2 Lv (.lst [.ref z0])) := Same.new hLv
  have e3 : (upd H2 Lv (.lst [.ref z0])) Lv = some (.lst [.ref z0]) := upd_same
  generalize upd H2 Lv (.lst [.ref z0]) = H3 at s3 e3 ⊢
  have nzK : z0 ≠ Kn := fun e => by rw [e, e1] at hz0; cases hz0
  have nzL : z0 ≠ Lv := fun e => by rw [← e, e2] at hLv; cases hLv
  have nLK : Lv ≠ Kn := fun e => by rw [e, s2 _ _ e1] at hLv; cases hLv
  have hz00 : H z0 = none := free_of s1 hz0
  have hLv0 : H Lv = none := free_of (s1.trans s2) hLv
  have s03 : Same H H3 := (s1.trans s2).trans s3
  have ln0 : LnS K H H3 Lv Kn Kn 1 [z0] [[]] := ⟨e3, rfl, by simp, fun b hb => by rw [List.mem_singleton.mp hb]; exact ⟨nzL, nzK, nzK, hz00⟩, fun j b ds eb ed => by
    cases j with
    | zero =>
      cases eb
      cases ed
      exact ⟨[], s3 _ _ e2, .nil, rfl, Nat.zero_le _⟩
    | succ j => simp at eb, Nat.le_refl _⟩
  have eK : H3 Kn = some (.lst []) := s3 _ _ (s2 _ _ e1)
  clear e3 s3 s2 e2 e1 hLv hz0
  have hnl : ∀ q ∈ qs, nlA q.2 = true := fun q hq => by
    obtain ⟨j, hj, ej⟩ := List.mem_iff_getElem.mp hq
    have hjr : j < rows.length := by rw [hR.1]; exact hj
    obtain ⟨_, _, _, _, _, _, e, _⟩ := hR.2 j rows[j] q (List.getElem?_eq_getElem hjr) (by rw [List.getElem?_eq_getElem hj, ej])
    exact e
  refine r_seqH fun nx0 h0 => ?_
  walk_at "go"
  refine ⟨a, rows, rfl, .inr ⟨Same.sqt s03 hT, ?_⟩⟩
  refine fo_it walk_enumT (fun i σ H' => ∃ n gr as sts kv kd v3 v4 v5, σ = [some (.ref a), some (.ref Kn), some (.ref Lv), v3, v4, v5] ∧ Same H H' ∧ LnS K H H' Lv Kn Kn (i + 1) as sts ∧ as.length = n + 1 ∧ H' Kn = some (.lst kv) ∧ DpAll K H' kv kd ∧ nlA kd = true ∧ kd.length = n ∧ kv.length ≤ i ∧
      scanR i n gr (osOf (qs.drop i)) = .non ∧ treeM sts.reverse kd.reverse (qs.drop i) = treeM [[]] [] qs)
    ⟨0, none, [z0], [[]], [], [], _, _, _, rfl, s03, ln0, rfl, eK, .nil, rfl, rfl, Nat.le_refl _, hsc, rfl⟩ (fun i σ H' _ ⟨_, _, _, _, _, _, _, _, _, _, t, _⟩ => Same.sqt t hT) (fun i x σ H' H'' hi hP hY => ?_) (fun σ H' hP => ?_)
  rotate_left
  · obtain ⟨n, gr, as, sts, kv, kd, v3, v4, v5, rfl, sm, ln, hal, eK, hkd, nkd, hkl, _, hs, ht⟩ := hP
    rw [hR.1, List.drop_length] at hs ht
    have hs : (if gr = none ∧ n = 0 then V.non else V.int (rows.length : Nat)) = .non := by rw [hR.1]; exact hs
    have hc : gr = none ∧ n = 0 := by
      by_cases hc : gr = none ∧ n = 0
      · exact hc
      · rw [if_neg hc] at hs
        cases hs
    obtain ⟨_, rfl⟩ := hc
    obtain ⟨pre, z, rfl, hp⟩ := cat_of hal
    obtain ⟨pre2, ds, rfl, hp2⟩ := cat_of (show sts.length = 0 + 1 by rw [← ln.len]; exact hal)
    have hpre := List.length_eq_zero_iff.mp hp
    have hpre2 := List.length_eq_zero_iff.mp hp2
    subst hpre hpre2
    have ht : [ds] = treeM [[]] [] qs := ht
    have en : treeN qs = ds := by
      unfold treeN
      rw [← ht]
      rfl
    rw [en] at q
    obtain ⟨us, f1, f2, f3, _⟩ := LnS.last (as := []) (ls := []) ln
    refine h0 _ _ ?_
    walk_at "go"
    refine i_lst (SqL.of ln.at_) (atI_nat (j := 0) rfl) ?_
    walk_at "go"
    refine k_tupL (SqL.of f1) fun p hp => ?_
    exact q p _ (sm.trans (Same.new hp)) (.tup (SqT.of upd_same) (TK.dpA (Same.tk (Same.new hp)) _ _ f3 f2)) f3
  obtain ⟨n, gr, as, sts, kv, kd, v3, v4, v5, rfl, sm, ln, hal, eK, hkd, nkd, hkl, hkv, hs, ht⟩ := hP
  obtain ⟨T, x0, y, rfl, hT1, rfl, e0, hy⟩ := hY
  cases e0
  have hio : i < qs.length := by rw [← hR.1]; exact hi
  have hi80 : i < 80 := by omega
  obtain ⟨ra, xs, rfl, hSx, hk, hDx, hnp, hx10⟩ := hR.2 i y qs[i] hy (List.getElem?_eq_getElem hio)
  have hqi : qs[i]? = some qs[i] := List.getElem?_eq_getElem hio
  rw [List.drop_eq_getElem_cons hio] at hs ht
  generalize qs[i] = qi at *
  obtain ⟨k, ps⟩ := qi
  obtain ⟨n', gr', hst, hs'⟩ := scan_step hs
  have sT : Same H' (upd H' T (.tup [.int (i : Nat), .ref ra])) := Same.new hT1
  have eT : (upd H' T (.tup [.int (i : Nat), .ref ra])) T = some (.tup [.int (i : Nat), .ref ra]) := upd_same
  generalize upd H' T (.tup [.int (i : Nat), .ref ra]) = H4 at sT eT ⊢
  have sm4 := sm.trans sT
  have ln4 := ln.same sT (Nat.le_refl (i + 1))
  have eK4 := sT _ _ eK
  have hkd4 := TK.dpA (Same.tk sT) _ _ nkd hkd
  clear ln eK hkd sm sT hT1
  have hS := Same.sqt sm4 hSx
  have hDs : nlA (PyData.str (rkW k) :: ps) = true := by
    rw [nlA, hnp]
    rfl
  have hDx4 := TK.dpA (Same.tk sm4) _ _ hDs hDx
  have hrow : Dp K H4 (.ref ra) (.tuple (.str (rkW k) :: ps)) := .tup hS hDx4
  obtain ⟨xr, ex⟩ := rk_at hk
  have h0i : atI xs 0 = some (.str (rkW k)) := by rw [ex]; exact atI_nat (j := 0) rfl
  obtain ⟨as', z, rfl, hal'⟩ := cat_of hal
  obtain ⟨sts', top, rfl, hsl⟩ := cat_of (show sts.length = n + 1 by rw [← ln4.len]; exact hal)
  have erev : (sts' ++ [top]).reverse = top :: sts'.reverse := by simp
  rw [erev] at ht
  obtain ⟨us, f1, f2, f3, f4, nz1, nz2, hz0⟩ := ln4.last
  have Kside : ∀ {ys : List V}, (∃ xs, H4 Kn = some (.lst xs)) → LnS K H (upd H4 Kn (.lst ys)) Lv Kn Kn (i + 1) (as' ++ [z]) (sts' ++ [top]) := fun h => ln4.side upd_but h nLK
  walk_at "go"
  refine ⟨T, _, rfl, SqT.of eT, rfl, ?_⟩
  walk_at "go"
  refine i_tup hS h0i ?_
  walk_at "go"
  rw [sq_]
  refine ite2 (fun h => ?_) (fun h => ?_)
  · -- when
    have ek := rk_when hk (of_decide_eq_true h)
    subst ek
    obtain ⟨r2, rfl⟩ := hk
    have hgr : gr = none ∧ n' = n + 1 ∧ gr' = none := by
      cases gr with
      | some mf =>
        obtain ⟨m1, f1⟩ := mf
        cases hst
      | none =>
        have hst : (if n = 3 then none else some (n + 1, none)) = some (n', gr') := hst
        split at hst
        · cases hst
        · cases hst
          exact ⟨rfl, rfl, rfl⟩
    obtain ⟨rfl, rfl, rfl⟩ := hgr
    obtain ⟨dk, psr, rfl⟩ : ∃ dk psr, ps = dk :: psr := by
      have := DpAll.len hDx4
      cases ps with
      | nil => simp at this
      | cons d r => exact ⟨d, r, rfl⟩
    have hdk : Dp K H4 r2 dk := by
      cases hDx4 with
      | cons _ g => cases g with
        | cons g1 _ => exact g1
    have ndk : nlD dk = true := by
      rw [nlA, Bool.and_eq_true] at hnp
      exact hnp.1
    refine r_seqH fun nx1 h1 => ?_
    walk_at "go"
    refine ty_l (SqL.of eK4) ?_
    walk_at "go"
    refine i_tup hS (atI_nat (j := 1) rfl) ?_
    refine m_app eK4 (by rw [sizeLine_eq]; omega) ?_
    refine h1 _ _ ?_
    clear h1
    have ln5 := Kside (ys := kv ++ [r2]) ⟨_, eK4⟩
    have hK0 : H Kn = none := hKn
    have sm5 : Same H (upd H4 Kn (.lst (kv ++ [r2]))) := Same.via sm4 hK0 upd_but
    have tk5 : TK H4 (upd H4 Kn (.lst (kv ++ [r2]))) := TK.put eK4
    have eK5 : (upd H4 Kn (.lst (kv ++ [r2]))) Kn = some (.lst (kv ++ [r2])) := upd_same
    generalize upd H4 Kn (.lst (kv ++ [r2])) = H5 at ln5 sm5 tk5 eK5 ⊢
    walk_at "go"
    refine ty_l (SqL.of ln5.at_) ?_
    walk_at "go"
    refine ⟨sz1000 (by show 0 ≤ 1000; decide), fun e he => ?_⟩
    have neL : Lv ≠ e := fun z => by rw [← z, ln5.at_] at he; cases he
    have neK : Kn ≠ e := fun z => by rw [← z, eK5] at he; cases he
    have he0 := free_of sm5 he
    refine m_app (xs := (as' ++ [z]).map V.ref) (by rw [upd_ne neL]; exact ln5.at_) (by rw [List.length_map, sizeLine_eq]; have := ln5.le; omega) ?_
    have ln6 := ln5.row he (by rw [eK5]; simp) (by rw [eK5]; simp) he0
    have s6 : Same H5 (upd H5 e (.lst [])) := Same.new he
    have tk6 : TK H5 (upd (upd H5 e (.lst [])) Lv (.lst ((as' ++ [z]).map V.ref ++ [.ref e]))) := (Same.tk s6).trans (TK.put (by rw [upd_ne neL]; exact ln5.at_))
    refine ⟨n + 1, none, _, _, kv ++ [r2], kd ++ [dk], _, _, _, rfl, Same.via (sm5.trans s6) hLv0 upd_but, ln6, by simp [hal'], ?_, ?_, ?_, by simp [hkl], by simp; omega, hs', ?_⟩
    · rw [upd_ne nLK.symm, upd_ne neK]
      exact eK5
    · exact DpAll.app (TK.dpA (tk5.trans tk6) _ _ nkd hkd4) (.cons (TK.dp (tk5.trans tk6) _ _ ndk hdk) .nil)
    · rw [nlA_app, nkd, nlA_one ndk]
      rfl
    · rw [List.reverse_append, List.reverse_append, List.reverse_append]
      exact ht
  have nwhen : k ≠ .when := fun e => by
    subst e
    exact h (decide_eq_true rfl)
  walk_at "go"
  refine i_tup hS h0i ?_
  walk_at "go"
  rw [sq_]
  refine ite2 (fun h => ?_) (fun h => ?_)
  · -- done
    have ek := rk_done hk (of_decide_eq_true h)
    subst ek
    have hgr : gr = none ∧ ∃ j, n = j + 1 ∧ n' = j ∧ gr' = none := by
      cases gr with
      | some mf =>
        obtain ⟨m1, f1⟩ := mf
        cases hst
      | none =>
        have hst : (if n = 0 then none else some (n - 1, none)) = some (n', gr') := hst
        split at hst
        · cases hst
        · cases hst
          exact ⟨rfl, n - 1, by omega, rfl, rfl⟩
    obtain ⟨rfl, j, rfl, rfl, rfl⟩ := hgr
    obtain ⟨as2, z2, rfl, hal2⟩ := cat_of hal'
    obtain ⟨sts2, snd_, rfl, hsl2⟩ := cat_of hsl
    obtain ⟨kd2, dk, rfl, hkl2⟩ := cat_of hkl
    obtain ⟨kv2, kk, rfl, hkv2⟩ := cat_of (show kv.length = n' + 1 by rw [DpAll.len hkd4]; exact hkl)
    have ht : treeM ((snd_ ++ [.tuple [.str "when", dk, .tuple top]]) :: sts2.reverse) kd2.reverse (qs.drop (i + 1)) = treeM [[]] [] qs := by
      rw [List.reverse_append, List.reverse_append] at ht
      exact ht
    have hkd2 : DpAll K H4 kv2 kd2 ∧ Dp K H4 kk dk := by
      obtain ⟨g1, g2⟩ := dp_split (by rw [hkv2, hkl2]) hkd4
      cases g2 with
      | cons g3 _ => exact ⟨g1, g3⟩
    have nk2 : nlA kd2 = true ∧ nlD dk = true := by
      rw [nlA_app, Bool.and_eq_true] at nkd
      refine ⟨nkd.1, ?_⟩
      have h2 := nkd.2
      rw [nlA, Bool.and_eq_true] at h2
      exact h2.1
    refine r_seqH fun nx1 h1 => ?_
    walk_at "go"
    refine ty_l (SqL.of ln4.at_) ?_
    refine m_pop (xs := (as2 ++ [z2]).map V.ref) (y := .ref z) (by rw [ln4.at_, List.map_append]; rfl) ?_
    have ln5 := ln4.pop
    have sm5 : Same H (upd H4 Lv (.lst ((as2 ++ [z2]).map V.ref))) := Same.via sm4 hLv0 upd_but
    have tk5 : TK H4 (upd H4 Lv (.lst ((as2 ++ [z2]).map V.ref))) := TK.put ln4.at_
    have f15 : (upd H4 Lv (.lst ((as2 ++ [z2]).map V.ref))) z = some (.lst us) := by
      rw [upd_ne nz1]
      exact f1
    have eK5 : (upd H4 Lv (.lst ((as2 ++ [z2]).map V.ref))) Kn = some (.lst (kv2 ++ [kk])) := by
      rw [upd_ne nLK.symm]
      exact eK4
    generalize upd H4 Lv (.lst ((as2 ++ [z2]).map V.ref)) = H5 at ln5 sm5 tk5 f15 eK5 ⊢
    walk_at "go"
    refine k_tupL (SqL.of f15) fun p hp => ?_
    have s6 : Same H5 (upd H5 p (.tup us)) := Same.new hp
    have ep : (upd H5 p (.tup us)) p = some (.tup us) := upd_same
    generalize upd H5 p (.tup us) = H6 at s6 ep ⊢
    walk_at "go"
    refine h1 _ _ ?_
    clear h1
    have ln6 := ln5.same s6 (Nat.le_refl _)
    have tk46 := tk5.trans (Same.tk s6)
    have hpD : Dp K H6 (.ref p) (.tuple top) := .tup (SqT.of ep) (TK.dpA tk46 _ _ f3 f2)
    have eK6 := s6 _ _ eK5
    have sm6 := sm5.trans s6
    obtain ⟨us2, g1, g2, g3, g4, m1, m2, hz20⟩ := ln6.last
    walk_at "go"
    refine i_lst (SqL.of ln6.at_) (by rw [List.map_append]; exact atI_last) ?_
    refine ty_l (SqL.of g1) ?_
    walk_at "go"
    refine ty_l (SqL.of eK6) ?_
    refine m_pop eK6 ?_
    have ln7 := ln6.side (H' := upd H6 Kn (.lst kv2)) upd_but ⟨_, eK6⟩ nLK
    have sm7 : Same H (upd H6 Kn (.lst kv2)) := Same.via sm6 hKn upd_but
    have tk7 : TK H6 (upd H6 Kn (.lst kv2)) := TK.put eK6
    have eK7 : (upd H6 Kn (.lst kv2)) Kn = some (.lst kv2) := upd_same
    have g17 : (upd H6 Kn (.lst kv2)) z2 = some (.lst us2) := by
      rw [upd_ne m2]
      exact g1
    generalize upd H6 Kn (.lst kv2) = H7 at ln7 sm7 tk7 eK7 g17 ⊢
    walk_at "go"
    refine ⟨sz1000 (by show 3 ≤ 1000; decide), fun W hW => ?_⟩
    have s8 : Same H7 (upd H7 W (.tup [V.str "when", kk, V.ref p])) := Same.new hW
    have eW : (upd H7 W (.tup [V.str "when", kk, V.ref p])) W = some (.tup [V.str "when", kk, V.ref p]) := upd_same
    generalize upd H7 W (.tup [V.str "when", kk, V.ref p]) = H8 at s8 eW ⊢
    have ln8 := ln7.same s8 (Nat.le_refl _)
    have tk68 : TK H6 H8 := tk7.trans (Same.tk s8)
    have tk48 : TK H4 H8 := tk46.trans tk68
    have ndt : nlD (.tuple top) = true := by
      rw [nlD]
      exact f3
    have hWd : Dp K H8 (.ref W) (.tuple [.str "when", dk, .tuple top]) := .tup (SqT.of eW) (.cons (.str _) (.cons (TK.dp tk48 _ _ nk2.2 hkd2.2) (.cons (TK.dp tk68 _ _ ndt hpD) .nil)))
    have nW : nlD (.tuple [.str "when", dk, .tuple top]) = true := by
      rw [nlD, nlA, nlA, nlA, nk2.2, ndt]
      rfl
    have g18 := s8 _ _ g17
    refine m_app g18 (by rw [sizeLine_eq]; omega) ?_
    have ln9 := ln8.add g18 hWd nW (TK.dpA tk68 _ _ g3 g2) g3 g4
    have tk9 : TK H8 (upd H8 z2 (.lst (us2 ++ [V.ref W]))) := TK.put g18
    refine ⟨n', none, as2 ++ [z2], sts2 ++ [snd_ ++ [.tuple [.str "when", dk, .tuple top]]], kv2, kd2, _, _, _, rfl, Same.via (sm7.trans s8) hz20 upd_but, ln9, by simp [hal2], ?_, TK.dpA (tk48.trans tk9) _ _ nk2.1 hkd2.1, nk2.1, hkl2, by simp at hkv; omega, hs', ?_⟩
    · rw [upd_ne m2.symm]
      exact s8 _ _ eK7
    · rw [List.reverse_append]
      exact ht
  have ndone : k ≠ .done := fun e => by
    subst e
    exact h (decide_eq_true rfl)
  walk_at "go"
  refine i_tup hS h0i ?_
  walk_at "go"
  rw [sq_]
  refine ite2 (fun h => ?_) (fun h => ?_)
  · -- table
    obtain ⟨cc, rfl⟩ := rk_table hk (of_decide_eq_true h)
    have hgr : gr = none ∧ n' = n ∧ gr' = some (0, List.replicate cc 0) := by
      cases gr with
      | some mf =>
        obtain ⟨m1, f1⟩ := mf
        cases hst
      | none =>
        cases hst
        exact ⟨rfl, rfl, rfl⟩
    obtain ⟨rfl, rfl, rfl⟩ := hgr
    obtain ⟨hc1, hc4, r2, rfl⟩ := hk
    have ht : treeM ((top ++ [.tuple (.str "table" :: (ps ++ [gridT cc (qs.drop (i + 1))]))]) :: sts'.reverse) kd.reverse (qs.drop (i + 1)) = treeM [[]] [] qs := ht
    have hgn : nlD (gridT cc (qs.drop (i + 1))) = true := nlD_grid _ _ fun q hq => hnl q (List.mem_of_mem_drop hq)
    walk_at "go"
    refine i_lst (SqL.of ln4.at_) (by rw [List.map_append]; exact atI_last) ?_
    refine ty_l (SqL.of f1) ?_
    walk_at "go"
    have hR4 : RwDs K H4 rows qs := ⟨hR.1, fun j x q e1 e2 => (hR.2 j x q e1 e2).same sm4⟩
    refine ⟨a, i, rows, qs, cc, ps, rfl, Same.sqt sm4 hT, hR4, h80, hqi, scan_tab _ _ _ _ _ hs', fun g H5 s5 hg => ?_⟩
    walk_at "go"
    refine ⟨sz1000 (by show 1 ≤ 1000; decide), fun W hW => ?_⟩
    have s6 : Same H5 (upd H5 W (.tup [V.ref g])) := Same.new hW
    have eW : (upd H5 W (.tup [V.ref g])) W = some (.tup [V.ref g]) := upd_same
    generalize upd H5 W (.tup [V.ref g]) = H6 at s6 eW ⊢
    have s46 : Same H4 H6 := s5.trans s6
    refine b_catT (Same.sqt s46 hS) (SqT.of eW) (sz1000 (by show 3 + 1 ≤ 1000; decide)) fun p H7 s7 e7 => ?_
    have s47 := s46.trans s7
    have ln7 := ln4.same s47 (Nat.le_refl _)
    have hpD : Dp K H7 (.ref p) (.tuple (.str "table" :: (ps ++ [gridT cc (qs.drop (i + 1))]))) := by
      refine .tup e7 ?_
      have h1 := TK.dpA (Same.tk s47) _ _ hDs hDx4
      exact DpAll.app h1 (.cons (TK.dp (Same.tk (s6.trans s7)) _ _ hgn hg) .nil)
    have nW : nlD (.tuple (.str "table" :: (ps ++ [gridT cc (qs.drop (i + 1))]))) = true := by
      rw [nlD, nlA, nlA_app, hnp, nlA_one hgn]
      rfl
    have f17 := s47 _ _ f1
    refine m_app f17 (by rw [sizeLine_eq]; omega) ?_
    have ln8 := ln7.add f17 hpD nW (TK.dpA (Same.tk s47) _ _ f3 f2) f3 f4
    refine ⟨n', _, as' ++ [z], _, kv, kd, _, _, _, rfl, Same.via (sm4.trans s47) hz0 upd_but, ln8, by simp [hal'], ?_, TK.dpA ((Same.tk s47).trans (TK.put f17)) _ _ nkd hkd4, nkd, hkl, by omega, hs', ?_⟩
    · rw [upd_ne nz2.symm]
      exact s47 _ _ eK4
    · rw [List.reverse_append]
      exact ht
  have ntab : ∀ cc, k ≠ .table cc := fun cc e => by
    subst e
    exact h (decide_eq_true rfl)
  walk_at "go"
  refine i_tup hS h0i ?_
  walk_at "go"
  refine ⟨sz1000 (by show 3 ≤ 1000; decide), fun W hW => ?_⟩
  refine c_notin (xs := stS ["row", "cell", "close"]) (.inr (SqT.of upd_same)) rfl rfl ?_
  rw [in_stS]
  have s5 : Same H4 (upd H4 W (.tup [V.str "row", V.str "cell", V.str "close"])) := Same.new hW
  generalize upd H4 W (.tup [V.str "row", V.str "cell", V.str "close"]) = H5 at s5 ⊢
  have ln5 := ln4.same s5 (Nat.le_refl _)
  by_cases hin : rkW k ∈ (["row", "cell", "close"] : List Str)
  · rw [decide_eq_true hin]
    walk_at "go"
    have hsk : treeM (top :: sts'.reverse) kd.reverse (qs.drop (i + 1)) = treeM [[]] [] qs ∧ n' = n := by
      have htab : ∀ mf : Nat × List Nat, (stepT mf.1 mf.2 k).map (fun g => (n, g)) = some (n', gr') → n' = n := fun mf e => by
        cases e2 : stepT mf.1 mf.2 k with
        | none =>
          rw [e2] at e
          cases e
        | some g =>
          rw [e2] at e
          cases e
          rfl
      cases k with
      | row => exact ⟨ht, by
          cases gr with
          | none => cases hst
          | some mf => exact htab mf hst⟩
      | cell cd ca => exact ⟨ht, by
          cases gr with
          | none => cases hst
          | some mf => exact htab mf hst⟩
      | close => exact ⟨ht, by
          cases gr with
          | none => cases hst
          | some mf => exact htab mf hst⟩
      | table cc => exact absurd rfl (ntab cc)
      | when => exact absurd rfl nwhen
      | done => exact absurd rfl ndone
      | oth y => exact absurd (show y ∈ markW from by
          rcases List.mem_cons.mp hin with e | hin
          · rw [show y = _ from e]; decide +kernel
          · rcases List.mem_cons.mp hin with e | hin
            · rw [show y = _ from e]; decide +kernel
            · rw [show y = _ from List.mem_singleton.mp hin]; decide +kernel) hk.1
    obtain ⟨ht, rfl⟩ := hsk
    exact ⟨n', gr', as' ++ [z], sts' ++ [top], kv, kd, _, _, _, rfl, sm4.trans s5, ln5.same (Same.refl _) (Nat.le_succ _), by simp [hal'], s5 _ _ eK4, TK.dpA (Same.tk s5) _ _ nkd hkd4, nkd, hkl, by omega, hs', by rw [erev]; exact ht⟩
  · rw [decide_eq_false hin]
    obtain ⟨y, rfl⟩ : ∃ y, k = .oth y := by
      cases k with
      | oth y => exact ⟨y, rfl⟩
      | row => exact absurd (by simp only [rkW]; decide +kernel) hin
      | cell cd ca => exact absurd (by simp only [rkW]; decide +kernel) hin
      | close => exact absurd (by simp only [rkW]; decide +kernel) hin
      | table cc => exact absurd rfl (ntab cc)
      | when => exact absurd rfl nwhen
      | done => exact absurd rfl ndone
    have hgr : gr = none ∧ n' = n ∧ gr' = none := by
      cases gr with
      | some mf =>
        obtain ⟨m1, f1⟩ := mf
        cases hst
      | none =>
        cases hst
        exact ⟨rfl, rfl, rfl⟩
    obtain ⟨rfl, rfl, rfl⟩ := hgr
    have ht : treeM ((top ++ [.tuple (.str y :: ps)]) :: sts'.reverse) kd.reverse (qs.drop (i + 1)) = treeM [[]] [] qs := ht
    walk_at "go"
    refine i_lst (SqL.of ln5.at_) (by rw [List.map_append]; exact atI_last) ?_
    have f15 := s5 _ _ f1
    refine ty_l (SqL.of f15) ?_
    walk_at "go"
    refine m_app f15 (by rw [sizeLine_eq]; omega) ?_
    have nW : nlD (.tuple (.str y :: ps)) = true := by
      rw [nlD]
      exact hDs
    have ln6 := ln5.add f15 (TK.dp (Same.tk s5) _ _ nW hrow) nW (TK.dpA (Same.tk s5) _ _ f3 f2) f3 f4
    refine ⟨n', none, as' ++ [z], _, kv, kd, _, _, _, rfl, Same.via (sm4.trans s5) hz0 upd_but, ln6, by simp [hal'], ?_, TK.dpA ((Same.tk s5).trans (TK.put f15)) _ _ nkd hkd4, nkd, hkl, by omega, hs', ?_⟩
    · rw [upd_ne nz2.symm]
      exact s5 _ _ eK4
    · rw [List.reverse_append]
      exact ht
end
end Tk

set_option Elab.async false
set_option linter.all false
set_option maxRecDepth 100000
set_option maxHeartbeats 4000000
namespace Tk
open PySem PySem.Spec PyProof.Rows L2 Lay
open TL (tl ext_tl len_tl tl_append tl_mk mk_tl)
local macro_rules | `(tactic| walk_at "if") => `(tactic| refine ite2 (fun hc => ?_) (fun hc => ?_))
local macro_rules | `(tactic| walk_at "lk") => `(tactic| first | exact upd_same | assumption)
local macro_rules | `(tactic| walk_at "st") => `(tactic| first
  | with_reducible refine r_var rfl ?_ | with_reducible refine r_c ?_ | with_reducible refine r_op ?_ | with_reducible refine r_cons ?_ | with_reducible refine r_nil ?_ | with_reducible refine r_vals ?_
  | with_reducible refine r_cb ?_ | with_reducible refine r_tup ?_ | with_reducible refine r_lst ?_ | with_reducible refine r_call ?_ | with_reducible refine r_test ?_
  | with_reducible refine r_if ?_ | with_reducible refine r_not ?_ | with_reducible refine r_bm ?_ | with_reducible refine r_sl ?_ | with_reducible refine r_np ?_ | with_reducible refine r_part ?_
  | with_reducible refine r_seq ?_ | with_reducible refine r_asg ?_ | with_reducible refine r_name ?_ | with_reducible refine r_ifs ?_ | with_reducible refine r_ret ?_ | with_reducible refine r_next ?_ | with_reducible refine r_par ?_ | with_reducible refine r_par3 ?_ | with_reducible refine r_brk ?_ | with_reducible refine r_cnt ?_ | with_reducible refine r_sub ?_
  | with_reducible refine r_andT ?_ | with_reducible refine r_orT ?_ | with_reducible refine r_notT ?_ | with_reducible refine r_or ?_ | with_reducible refine r_and ?_ | with_reducible refine r_tB ?_ | with_reducible refine r_drop ?_ | with_reducible refine r_callN ?_ | with_reducible refine r_chain ?_
  | with_reducible refine r_for ?_ | with_reducible refine r_lc ?_ | with_reducible refine r_iseq ?_ | with_reducible refine r_rng1 ?_ | with_reducible refine r_enum ?_ | with_reducible refine r_yes ?_ | with_reducible refine r_tru ?_ | with_reducible refine r_gtup ?_ | with_reducible refine r_gcons ?_ | with_reducible refine r_gnil ?_
  | with_reducible refine b_add ?_ | with_reducible refine b_sub ?_ | (with_reducible refine b_mul (by unfold CMul; omega) ?_) | (with_reducible refine b_mod (by omega) ?_) | (with_reducible refine b_fdiv (by unfold CDiv; omega) ?_)
  | with_reducible refine c_lt ?_ | with_reducible refine c_le ?_ | with_reducible refine c_gt ?_ | with_reducible refine c_ge ?_ | with_reducible refine c_isN ?_ | with_reducible refine c_notN ?_ | with_reducible refine c_isB ?_ | with_reducible refine c_eq rfl ?_ | with_reducible refine c_ne rfl ?_
  | with_reducible refine c_insign ?_ | with_reducible refine k_int ?_ | with_reducible refine k_intb ?_ | with_reducible refine k_max ?_ | with_reducible refine k_min ?_
  | with_reducible refine i_lst (by first | exact SqL.of upd_same | exact SqL.of (by assumption) | assumption) rfl ?_
  | with_reducible refine st_l (by walk_at "lk") rfl ?_
  | with_reducible refine ⟨_, rfl, ?_⟩
  | with_reducible refine ex_par ?_
  | with_reducible refine r_back ?_
  | with_reducible refine ex_par3 ?_
  | with_reducible refine ty_s ?_
  | with_reducible refine tru_b ?_
  | with_reducible refine iteT ?_ | with_reducible refine iteF ?_ | with_reducible refine itnT ?_ | with_reducible refine itnF ?_)
local macro_rules | `(tactic| walk_at "go") => `(tactic| repeat walk_at "st")
local macro_rules | `(tactic| walk_at "cl") => `(tactic| try dsimp only [cxOf, Cx.nox, Cx.wish])
/-! ### the law's draws -/
abbrev s__law_cell : Stmt := topS 52
theorem sc__law_cell : FnScope ["_law_script", "_law_k", "_law_state", "_law_cell_here"] ["_law_script", "_law_k"] (defScope s__law_cell) := ⟨rfl, rfl, rfl, by decide +kernel, rfl, by decide +kernel, by decide +kernel⟩
abbrev s__law_purse : Stmt := topS 53
theorem sc__law_purse : FnScope ["_law_cell_here"] ["_law_cell_here"] (defScope s__law_purse) := ⟨rfl, rfl, rfl, by decide +kernel, rfl, by decide +kernel, by decide +kernel⟩
abbrev s__law_pick : Stmt := topS 54
theorem sc__law_pick : FnScope ["_law_purse_here", "_law_many", "_law_state", "_law_taken"] ["_law_purse_here", "_law_many"] (defScope s__law_pick) := ⟨rfl, rfl, rfl, by decide +kernel, rfl, by decide +kernel, by decide +kernel⟩
abbrev s__law_one_word : Stmt := topS 55
theorem sc__law_one_word : FnScope ["_law_purse_here", "_law_signs", "_law_k"] ["_law_purse_here"] (defScope s__law_one_word) := ⟨rfl, rfl, rfl, by decide +kernel, rfl, by decide +kernel, by decide +kernel⟩
def spPick : Sp := fun vs H Q _ => ∃ (p : Addr) (n : Int), vs = [.ref p, .int n] ∧ Pu H p ∧ 0 < n ∧ n < 1000000 ∧ ∀ (r : Int) H', But p H H' → Pu H' p → 0 ≤ r → r < n → Q (.int r) H'
def spPurse : Sp := fun vs H Q _ => ∃ c : Int, vs = [.int c] ∧ ∀ p H', Same H H' → H p = none → Pu H' p → Q (.ref p) H'
def spCell (K : PySem.W.Frag) : Sp := fun vs H Q _ => ∃ (a : Addr) (ns : List Int) (k : Int), vs = [.ref a, .int k] ∧ SqL K H a (ns.map V.int) ∧ 0 ≤ k ∧ k < 1000 ∧ ∀ i H', Same H H' → Q (.int i) H'
section
variable {P : Program} {w : World} {K : PySem.W.Frag} {mg : Str → Option Value} {base : Heap} {H : Hp} {Q : VK}
theorem u_pick {p : Addr} {n : Int} (h : Pu H p) (h0 : 0 < n) (h1 : n < 1000000) (q : ∀ (r : Int) H', But p H H' → Pu H' p → 0 ≤ r → r < n → Q (.int r) H') : spPick ([.ref p, .int n] ++ []) H Q E0 := ⟨p, n, rfl, h, h0, h1, q⟩
theorem u_purse {c : Int} (q : ∀ p H', Same H H' → H p = none → Pu H' p → Q (.ref p) H') : spPurse ([.int c] ++ []) H Q E0 := ⟨c, rfl, q⟩
theorem u_cell {a : Addr} {ns : List Int} {k : Int} (h : SqL K H a (ns.map V.int)) (h0 : 0 ≤ k) (h1 : k < 1000) (q : ∀ i H', Same H H' → Q (.int i) H') : spCell K ([.ref a, .int k] ++ []) H Q E0 := ⟨a, ns, k, rfl, h, h0, h1, q⟩
theorem ok__law_pick (F : Fn0 K mg "_law_pick" s__law_pick ["_law_purse_here", "_law_many"]) : FnG P w K mg base 1 "_law_pick" ["_law_purse_here", "_law_many"] spPick := by
  refine F.ok sc__law_pick (fun vs H Q E h => ?_) (fun a cdv A outer s H vs Q E L hr h => ?_)
  · obtain ⟨p, n, rfl, _⟩ := h
    rfl
  have nd := sc__law_pick.nd
  refine ⟨_, (pss_cons (ps_asg (pe_op (ob L) (pe_ix (oi L) (pv 0) pe_int (fun _ _ => rfl)) pe_int) (pg_sub (pv 0) pe_int (ose L))) (pss_cons (ps_set (i := 2) nd rfl (.inl rfl) (pe_op (ob L) (pe_ix (oi L) (pv 0) pe_int (fun _ _ => rfl)) pe_int)) (pss_cons (ps_asg (pe_op (ob L) (pe_op (ob L) (pv 2) (pe_op (ob L) (pe_op (ob L) (pv 2) pe_int) pe_int)) (pe_op (ob L) pe_int (pe_ix (oi L) (pv 0) pe_int (fun _ _ => rfl)))) (pg_sub (pv 0) pe_int (ose L))) (pss_cons (ps_if (pt_cmpR (op_ L) (pe_ix (oi L) (pv 0) pe_int (fun _ _ => rfl)) pe_int (nomark _)) (pss_cons (ps_set (i := 3) nd rfl (.inl rfl) (pe_op (ob L) (pe_ix (oi L) (pv 0) pe_int (fun _ _ => rfl)) (pv 1))) (pss_cons (ps_asg (pe_op (ob L) (pe_ix (oi L) (pv 0) pe_int (fun _ _ => rfl)) (pv 1)) (pg_sub (pv 0) pe_int (ose L))) (pss_one (ps_ret (pv 3))))) pss_nil) (pss_one (ps_ret (pe_op (ob L) (pe_op (ob L) (pe_op (ob L) (pe_ix (oi L) (pv 0) pe_int (fun _ _ => rfl)) pe_int) pe_int) (pv 1)))))))), ?_⟩
  obtain ⟨p, n, rfl, ⟨a, b, c, hp⟩, h0, h1, q⟩ := h
  have fin : ∀ (r : Int) (H' : Hp) (x y z : Int), But p H H' → H' p = some (.lst [.int x, .int y, .int z]) → 0 ≤ r → r < n → Q (.int r) H' := fun r H' x y z b e => q r H' b ⟨x, y, z, e⟩
  walk_at "go"
  refine ite2 (fun hc => ?_) (fun hc => ?_)
  · walk_at "go"
    refine fin _ _ _ _ _ (fun a o n h => ?_) upd_same (Int.emod_nonneg _ (by omega)) (Int.emod_lt_of_pos _ h0)
    rw [upd_ne n, upd_ne n, upd_ne n]
    exact h
  · walk_at "go"
    refine fin _ _ _ _ _ (fun a o n h => ?_) upd_same (Int.emod_nonneg _ (by omega)) (Int.emod_lt_of_pos _ h0)
    rw [upd_ne n, upd_ne n]
    exact h
theorem ok__law_purse (F : Fn0 K mg "_law_purse" s__law_purse ["_law_cell_here"]) (m : Md mg) : FnG P w K mg base 1 "_law_purse" ["_law_cell_here"] spPurse := by
  refine F.ok sc__law_purse (fun vs H Q E h => ?_) (fun a cdv A outer s H vs Q E L hr h => ?_)
  · obtain ⟨c, rfl, _⟩ := h
    rfl
  have nd := sc__law_purse.nd
  refine ⟨_, (pss_one (ps_ret (pe_lst (pa_cons (pe_op (ob L) (pe_op (ob L) (pe_op (ob L) (pv 0) pe_int) pe_int) pe_int) (pa_cons (pe_ix (oi L) (pe_lst (pa_cons pe_int (pa_cons (pv 0) pa_nil))) (pe_callTy (oc L) (by rfl) m.int_ bt_int (pa_cons (pe_cmpR (op_ L) (pv 0) (pe_op (ob L) pe_int pe_int) (nomark _)) pa_nil)) (fun _ _ => rfl)) (pa_cons pe_int pa_nil)))))), ?_⟩
  obtain ⟨c, rfl, q⟩ := h
  walk_at "go"
  refine ⟨sz1000 (by simp), fun l hl => ?_⟩
  walk_at "go"
  refine b_pow (by unfold CPow; decide) ?_
  walk_at "go"
  have fin : ∀ x y z : Int, ∀ H', Same H H' → [V.int x, V.int y, V.int z].length ≤ sizeLine ∧ ∀ p, H' p = none → Q (.ref p) (upd H' p (.lst [.int x, .int y, .int z])) := fun x y z H' s =>
    ⟨sz1000 (by simp), fun p hp => q p _ (s.trans (Same.new hp)) (s.free hp) ⟨x, y, z, upd_same⟩⟩
  by_cases h : (10 : Int) ^ Int.toNat 18 ≤ c
  · rw [ite_i h]
    walk_at "go"
    exact fin _ _ _ _ (Same.new hl)
  · rw [decide_eq_false h, if_neg Bool.false_ne_true]
    walk_at "go"
    exact fin _ _ _ _ (Same.new hl)
theorem ok__law_cell (F : Fn0 K mg "_law_cell" s__law_cell ["_law_script", "_law_k"]) (m : Md mg) : FnG P w K mg base 1 "_law_cell" ["_law_script", "_law_k"] (spCell K) := by
  refine F.ok sc__law_cell (fun vs H Q E h => ?_) (fun a cdv A outer s H vs Q E L hr h => ?_)
  · obtain ⟨a, ns, k, rfl, _⟩ := h
    rfl
  have nd := sc__law_cell.nd
  refine ⟨_, (pss_cons (ps_if (pt_cmpR (op_ L) (pv 1) (pe_callB (oc L) (by rfl) m.len_ bt_len (pa_cons (pv 0) pa_nil)) (nomark _)) (pss_one (ps_ret (pe_ix (oi L) (pv 0) (pv 1) (fun _ _ => rfl)))) pss_nil) (pss_cons (ps_set (i := 2) nd rfl (.inl rfl) (pe_op (ob L) (pe_op (ob L) pe_int (pe_op (ob L) (pe_op (ob L) (pe_op (ob L) (pv 1) (pv 1)) (pe_op (ob L) pe_int (pv 1))) pe_int)) pe_int)) (pss_cons (ps_for PassesOwn.never rfl (pi_seqL L (pe_slice (osl L) (pv 0) po_none (po_some pe_int))) (pg_name (i := 3) nd rfl (.inl rfl)) (pss_one (ps_set (i := 2) nd rfl (.inl rfl) (pe_op (ob L) (pe_op (ob L) (pe_op (ob L) (pv 2) pe_int) (pv 3)) pe_int)))) (pss_one (ps_ret (pv 2)))))), ?_⟩
  obtain ⟨a, ns, k, rfl, hS, h0, h1, q⟩ := h
  walk_at "go"
  refine k_lenl (.inl hS) ?_
  rw [List.length_map]
  walk_at "go"
  refine ite2 (fun hc => ?_) (fun hc => ?_)
  · have hk : k < (ns.map V.int).length := by
      rw [List.length_map]
      simpa using hc
    obtain ⟨x, hx, hm⟩ := atI_ex h0 hk
    obtain ⟨i, _, rfl⟩ := List.mem_map.mp hm
    walk_at "go"
    refine i_lst hS hx ?_
    exact q _ _ (Same.refl H)
  walk_at "go"
  refine sl_l hS fun l hl => ?_
  refine .inl ⟨l, _, rfl, SqL.of upd_same, ?_⟩
  have hcut : cutV (ns.map V.int) none (some (4 : Int)) = (ns.take 4).map V.int := by
    rw [List.map_take]
    exact cutV_to' _ 4
  refine fo_it walk_list (fun i σ H' => ∃ (t : Int) (v : Option V), σ = [some (.ref a), some (.int k), some (.int t), v] ∧ 0 ≤ t ∧ t < 1000000093 ∧ H' = upd H l (.lst (cutV (ns.map V.int) none (some 4))))
    ⟨_, none, rfl, Int.emod_nonneg _ (by decide), Int.emod_lt_of_pos _ (by decide), rfl⟩ (fun i σ H' _ ⟨_, _, _, _, _, e⟩ => by rw [e]; exact SqL.of upd_same) (fun i x σ H' H'' hi hP hY => ?_) (fun σ H' hP => ?_)
  · obtain ⟨t, v, rfl, t0, t1, rfl⟩ := hP
    obtain ⟨rfl, hx⟩ := hY
    rw [hcut] at hx
    obtain ⟨n, _, rfl⟩ := List.mem_map.mp (List.mem_of_getElem? hx)
    walk_at "go"
    exact ⟨_, _, rfl, Int.emod_nonneg _ (by decide), Int.emod_lt_of_pos _ (by decide), rfl⟩
  · obtain ⟨t, v, rfl, t0, t1, rfl⟩ := hP
    walk_at "go"
    exact q _ _ (Same.new hl)
/-! ### drawn words -/
def isW (z : Str) : Prop := isOf sWord 12 z = true
def spWord1 : Sp := fun vs H Q _ => ∃ (p : Addr), vs = [.ref p] ∧ Pu H p ∧ ∀ (z : Str) H', But p H H' → Pu H' p → isW z → Q (.str z) H'
theorem u_word1 {p : Addr} (h : Pu H p) (q : ∀ (z : Str) H', But p H H' → Pu H' p → isW z → Q (.str z) H') : spWord1 ([.ref p] ++ []) H Q E0 := ⟨p, rfl, h, q⟩
theorem isOf_len {g : Str} {n : Int} {z : Str} (h : isOf g n z = true) : 1 ≤ z.length ∧ (z.length : Int) ≤ n := by
  rw [isOf_eq] at h
  simp only [Bool.and_eq_true, decide_eq_true_eq] at h
  omega
theorem join_signs {S : List Nat} : ∀ {zs : List Str}, (∀ z ∈ zs, ∃ c, z = ⟨#[c]⟩ ∧ c ∈ S) → (tl (Txt.join "" zs)).length = zs.length ∧ ∀ c ∈ tl (Txt.join "" zs), c ∈ S := fun {zs} h => by
  have e : tl (Txt.join "" zs) = (zs.map tl).flatten := by
    rw [TL.join_eq, TL.tl_join]
    have : tl (Str.ofString "") = [] := by decide +kernel
    rw [this]
    induction zs with
    | nil => rfl
    | cons z r ih =>
      cases r with
      | nil => simp [TL.joinL]
      | cons y r =>
        have := ih fun u hu => h u (List.mem_cons_of_mem _ hu)
        simp only [List.map_cons, TL.joinL, List.flatten_cons, List.nil_append] at this ⊢
        rw [this]
  rw [e]
  clear e
  induction zs with
  | nil => exact ⟨rfl, fun _ h => nomatch h⟩
  | cons z r ih =>
    obtain ⟨c, rfl, hc⟩ := h _ List.mem_cons_self
    obtain ⟨h1, h2⟩ := ih fun u hu => h u (List.mem_cons_of_mem _ hu)
    refine ⟨?_, fun d hd => ?_⟩
    · simp only [List.map_cons, List.flatten_cons, List.length_append, h1, List.length_cons]
      show 1 + r.length = r.length + 1
      omega
    · simp only [List.map_cons, List.flatten_cons, List.mem_append] at hd
      rcases hd with hd | hd
      · rw [show d = c from List.mem_singleton.mp hd]
        exact hc
      · exact h2 d hd
theorem ok__law_one_word (F : Fn0 K mg "_law_one_word" s__law_one_word ["_law_purse_here"]) (m : Md mg) (c__law_pick : FnG P w K mg base 1 "_law_pick" ["_law_purse_here", "_law_many"] spPick) : FnG P w K mg base 2 "_law_one_word" ["_law_purse_here"] spWord1 := by
  refine F.ok sc__law_one_word (fun vs H Q E h => ?_) (fun a cdv A outer s H vs Q E L hr h => ?_)
  · obtain ⟨p, rfl, _⟩ := h
    rfl
  have nd := sc__law_one_word.nd
  refine ⟨_, (pss_cons (ps_if (pt_cmpR (op_ L) (pe_callG c__law_pick (hr.mono (by decide)) (by rfl) (pa_cons (pv 0) (pa_cons pe_int pa_nil))) pe_int (nomark _)) (pss_one (ps_ret (pe_ix (oi L) (pe_lst (pa_strs ["head", "para", "row", "close", "above", "1.2", "Figure", "done", "a", "12"])) (pe_callG c__law_pick (hr.mono (by decide)) (by rfl) (pa_cons (pv 0) (pa_cons pe_int pa_nil))) (fun _ _ => rfl)))) pss_nil) (pss_cons (ps_set (i := 1) nd rfl (.inr rfl) pe_str) (pss_one (ps_ret (pe_bmL L PySem.F.plainAttrs_str PySem.F.slot_str_join PySem.F.type_str_join pe_str (pa_cons (pe_lc (own := [("_law_k", 2)]) rfl nd (pi_range1 (by rfl) m.range_ (pa_cons (pe_op (ob L) pe_int (pe_callG c__law_pick (hr.mono (by decide)) (by rfl) (pa_cons (pv 0) (pa_cons (pe_ix (oi L) (pe_lst (pa_cons pe_int (pa_cons pe_int (pa_cons pe_int pa_nil)))) (pe_callG c__law_pick (hr.mono (by decide)) (by rfl) (pa_cons (pv 0) (pa_cons pe_int pa_nil))) (fun _ _ => rfl)) pa_nil)))) pa_nil)) (blkOk_by (own := [("_law_k", 2)]) (N := ["_law_purse_here", "_law_signs", "_law_k"]) (sc := defScope s__law_one_word) (by decide +kernel)) (fun _ _ _ _ _ => (pg_name (i := 2) nd rfl (.inl rfl))) (fun _ _ _ _ _ => inT L.b pts_nil) (fun _ _ _ _ _ => inE L.b (pe_ix (oi L.b) (pv 1) (pe_callG c__law_pick (hr.mono (by decide)) (by rfl) (pa_cons (pv 0) (pa_cons pe_int pa_nil))) (fun _ _ => rfl)))) pa_nil)))))), ?_⟩
  obtain ⟨p, rfl, hP, q⟩ := h
  walk_at "go"
  refine u_pick hP (by decide) (by decide) fun r H1 b1 P1 _ _ => ?_
  walk_at "go"
  refine ite2 (fun hc => ?_) (fun hc => ?_)
  · walk_at "go"
    refine ⟨sz1000 (by simp), fun l hl => ?_⟩
    have lp := P1.ne hl
    walk_at "go"
    refine u_pick (P1.up lp) (by decide) (by decide) fun r H2 b2 P2 r0 r1 => ?_
    refine i_draw (SqL.of (b2 _ _ lp upd_same)) r0 (by simpa using r1) fun x hx => ?_
    obtain ⟨z, hz, rfl⟩ := List.mem_map.mp hx
    refine q z H2 ((b1.trans (But.new hl)).trans b2) P2 ?_
    exact (show ∀ z ∈ ([_, _, _, _, _, _, _, _, _, _] : List Str), isW z by unfold isW; decide +kernel) z hz
  · walk_at "go"
    refine ⟨sz1000 (by simp), fun l hl => ?_⟩
    have lp := P1.ne hl
    walk_at "go"
    refine u_pick (P1.up lp) (by decide) (by decide) fun r H2 b2 P2 r0 r1 => ?_
    refine i_draw (SqL.of (b2 _ _ lp upd_same)) r0 (by simpa using r1) fun x hx => ?_
    obtain ⟨n, rfl, n0, n1⟩ : ∃ n : Int, x = .int n ∧ 0 < n ∧ n ≤ 12 := by
      simp only [List.mem_cons, List.not_mem_nil, or_false] at hx
      rcases hx with rfl | rfl | rfl <;> exact ⟨_, rfl, by decide, by decide⟩
    walk_at "go"
    refine u_pick P2 n0 (by omega) fun k H3 b3 P3 k0 k1 => ?_
    walk_at "go"
    refine ⟨by omega, by omega, fun D hD => ?_⟩
    refine lc_draw (pu := p) (Pu := fun H => Pu H p) walk_range (fun y => ∃ c, y = .str ⟨#[c]⟩ ∧ c ∈ sWord.cps.toList) (by rw [sizeLine_eq]; omega) hD P3 P3.some (fun _ _ => True.intro) (fun H o n h => h.up n)
      (fun i x H' H'' hi bb PP hy C1 h1 => ?_) yes_m name_m (fun H4 ys b4 P4 hd hlen hall => ?_)
    · obtain ⟨rfl, rfl⟩ := hy
      walk_at "go"
      refine ⟨rfl, ?_⟩
      walk_at "go"
      refine ⟨rfl, ?_⟩
      walk_at "go"
      refine u_pick PP (by decide) (by decide) fun r H5 b5 P5 r0 r1 => ?_
      refine i_sign (line_of (by decide +kernel)) r0 (Int.lt_of_lt_of_le r1 (by decide +kernel)) fun c hc => ?_
      refine h1 _ H5 b5 P5 ⟨c, rfl, ?_⟩
      exact (show ∀ c ∈ (Str.ofString "abcdefghijklmnopqrstuvwxyzABCXYZ0189.,").cps.toList, c ∈ sWord.cps.toList by decide +kernel) c hc
    · obtain ⟨zs, rfl, hz⟩ := strs_ex (P := fun z => ∃ c, z = ⟨#[c]⟩ ∧ c ∈ sWord.cps.toList) fun y hy => by
        obtain ⟨c, rfl, hc⟩ := hall y hy
        exact ⟨_, rfl, c, rfl, hc⟩
      obtain ⟨j1, j2⟩ := join_signs hz
      rw [List.length_map] at hlen
      walk_at "go"
      refine m_join (.inl (SqL.of hd)) ?_ ?_
      · have : ∀ zs : List Str, (∀ z ∈ zs, ∃ c, z = ⟨#[c]⟩ ∧ c ∈ sWord.cps.toList) → (zs.map (·.length)).sum = zs.length := fun zs => by
          induction zs with
          | nil => intro _; rfl
          | cons z r ih =>
            intro h
            obtain ⟨c, rfl, _⟩ := h z List.mem_cons_self
            rw [List.map_cons, List.sum_cons, ih fun u hu => h u (List.mem_cons_of_mem _ hu), List.length_cons]
            show 1 + r.length = r.length + 1
            omega
        rw [this zs hz, show (Str.ofString "").length = 0 by decide +kernel]
        omega
      · refine q _ H4 ((((b1.trans (But.new hl)).trans b2).trans b3).trans b4) P4 ?_
        unfold isW
        rw [isOf_eq]
        simp only [Bool.and_eq_true, decide_eq_true_eq, List.all_eq_true]
        rw [len_tl, j1]
        exact ⟨by omega, by omega, j2⟩
end
end Tk

set_option Elab.async false
set_option linter.all false
set_option maxRecDepth 100000
set_option maxHeartbeats 4000000
namespace Tk
open PySem PySem.Spec PyProof.Rows L2 Lay
open TL (tl ext_tl len_tl tl_append tl_mk mk_tl)
local macro_rules | `(tactic| walk_at "if") => `(tactic| refine ite2 (fun hc => ?_) (fun hc => ?_))
local macro_rules | `(tactic| walk_at "lk") => `(tactic| first | exact upd_same | assumption)
local macro_rules | `(tactic| walk_at "st") => `(tactic| first
  | with_reducible refine r_var rfl ?_ | with_reducible refine r_c ?_ | with_reducible refine r_op ?_ | with_reducible refine r_cons ?_ | with_reducible refine r_nil ?_ | with_reducible refine r_vals ?_
  | with_reducible refine r_cb ?_ | with_reducible refine r_tup ?_ | with_reducible refine r_lst ?_ | with_reducible refine r_call ?_ | with_reducible refine r_test ?_
  | with_reducible refine r_if ?_ | with_reducible refine r_not ?_ | with_reducible refine r_bm ?_ | with_reducible refine r_sl ?_ | with_reducible refine r_np ?_ | with_reducible refine r_part ?_
  | with_reducible refine r_seq ?_ | with_reducible refine r_asg ?_ | with_reducible refine r_name ?_ | with_reducible refine r_ifs ?_ | with_reducible refine r_ret ?_ | with_reducible refine r_next ?_ | with_reducible refine r_par ?_ | with_reducible refine r_par3 ?_ | with_reducible refine r_brk ?_ | with_reducible refine r_cnt ?_ | with_reducible refine r_sub ?_
  | with_reducible refine r_andT ?_ | with_reducible refine r_orT ?_ | with_reducible refine r_notT ?_ | with_reducible refine r_or ?_ | with_reducible refine r_and ?_ | with_reducible refine r_tB ?_ | with_reducible refine r_drop ?_ | with_reducible refine r_callN ?_ | with_reducible refine r_chain ?_
  | with_reducible refine r_for ?_ | with_reducible refine r_lc ?_ | with_reducible refine r_iseq ?_ | with_reducible refine r_rng1 ?_ | with_reducible refine r_enum ?_ | with_reducible refine r_yes ?_ | with_reducible refine r_tru ?_ | with_reducible refine r_gtup ?_ | with_reducible refine r_gcons ?_ | with_reducible refine r_gnil ?_
  | with_reducible refine b_add ?_ | with_reducible refine b_sub ?_ | (with_reducible refine b_mul (by unfold CMul; omega) ?_) | (with_reducible refine b_mod (by omega) ?_) | (with_reducible refine b_fdiv (by unfold CDiv; omega) ?_)
  | with_reducible refine c_lt ?_ | with_reducible refine c_le ?_ | with_reducible refine c_gt ?_ | with_reducible refine c_ge ?_ | with_reducible refine c_isN ?_ | with_reducible refine c_notN ?_ | with_reducible refine c_isB ?_ | with_reducible refine c_eq rfl ?_ | with_reducible refine c_ne rfl ?_
  | with_reducible refine c_insign ?_ | with_reducible refine k_int ?_ | with_reducible refine k_intb ?_ | with_reducible refine k_max ?_ | with_reducible refine k_min ?_
  | with_reducible refine ⟨_, rfl, ?_⟩
  | with_reducible refine ex_par ?_
  | with_reducible refine r_back ?_
  | with_reducible refine ex_par3 ?_
  | with_reducible refine ty_s ?_
  | with_reducible refine tru_b ?_
  | with_reducible refine iteT ?_ | with_reducible refine iteF ?_ | with_reducible refine itnT ?_ | with_reducible refine itnF ?_)
local macro_rules | `(tactic| walk_at "go") => `(tactic| repeat walk_at "st")
local macro_rules | `(tactic| walk_at "cl") => `(tactic| try dsimp only [cxOf, Cx.nox, Cx.wish])
/-! ### drawn tokens -/
/-- a token that is no bracket -/
def isPl (z : Str) : Prop := isTok z = true ∧ tl z ∉ [[123], [125], [91], [93]]
theorem word_signs : ∀ c ∈ sWord.cps.toList, c ∉ [123, 125, 91, 93, 64, 35, 126, 38, 94] ∧ c ≠ 32 ∧ c < 1114112 := by decide +kernel
theorem small_signs : ∀ c ∈ sSmall.cps.toList, c ≠ 32 ∧ c < 1114112 := by decide +kernel
theorem ofL_iff {S : List Nat} {n : Int} {l : List Nat} : ofL S n l = true ↔ 1 ≤ (l.length : Int) ∧ (l.length : Int) ≤ n ∧ ∀ c ∈ l, c ∈ S := by
  unfold ofL
  simp only [Bool.and_eq_true, decide_eq_true_eq, List.all_eq_true]
theorem isW.pl {z : Str} (h : isW z) : isPl z := by
  have h2 : ofL sWord.cps.toList 12 (tl z) = true := h
  obtain ⟨h3, h4, h5⟩ := ofL_iff.mp h2
  cases e : tl z with
  | nil =>
    rw [e] at h3
    exact absurd h3 (by decide)
  | cons c r =>
    rw [e] at h2 h5
    have hc := (word_signs c (h5 c List.mem_cons_self)).1
    simp only [List.mem_cons, List.not_mem_nil, or_false, not_or] at hc
    refine ⟨?_, ?_⟩
    · unfold isTok
      rw [show z.cps.toList = c :: r from e, tokL_cons, if_neg (by simp; omega), if_neg (by simp; omega), if_neg (by omega)]
      exact h2
    · rw [e]
      simp
      omega
theorem pl_up {z : Str} (h : isW z) : isPl (Str.ofString "^" ++ z) := by
  have h2 : ofL sWord.cps.toList 12 (tl z) = true := h
  have e : tl (Str.ofString "^" ++ z) = 94 :: tl z := by rw [tl_append, tl_up]; rfl
  refine ⟨?_, ?_⟩
  · unfold isTok
    rw [show (Str.ofString "^" ++ z).cps.toList = 94 :: tl z from e, tokL_cons, if_neg (by simp), if_neg (by simp), if_pos rfl]
    exact h2
  · rw [e]
    simp
/-! ### a note between -/
theorem stp_pl {z : Str} (h : isPl z) (cl : Nat) (hc : cl = 0 ∨ cl = 125 ∨ cl = 93) : stp cl (.str z) = some cl := by
  have h2 := h.2
  simp only [List.mem_cons, List.not_mem_nil, or_false, not_or] at h2
  rw [stp_str, if_pos h.1, if_neg, if_neg h.2]
  rintro ⟨c0, e⟩
  rcases hc with rfl | rfl | rfl
  · exact c0 rfl
  · exact h2.2.1 e
  · exact h2.2.2.2 e
theorem scan_pl : ∀ (zs : List Str) (i cl : Nat) (r : List V), (∀ z ∈ zs, isPl z) → (cl = 0 ∨ cl = 125 ∨ cl = 93) → scan i cl (stS zs ++ r) = scan (i + zs.length) cl r
  | [], _, _, _, _, _ => rfl
  | z :: zs, i, cl, r, h, hc => by
    have e : scan i cl (stS (z :: zs) ++ r) = match stp cl (.str z) with | none => .inl i | some c => scan (i + 1) c (stS zs ++ r) := rfl
    rw [e, stp_pl (h z List.mem_cons_self) cl hc]
    show scan (i + 1) cl (stS zs ++ r) = _
    rw [scan_pl zs (i + 1) cl r (fun y hy => h y (List.mem_cons_of_mem _ hy)) hc, List.length_cons, Nat.add_assoc, Nat.add_comm 1]
theorem stS_app (a b : List Str) : stS (a ++ b) = stS a ++ stS b := List.map_append
theorem stS_len (a : List Str) : (stS a).length = a.length := List.length_map _
theorem stS_flat : ∀ zs : List Str, (stS zs).all flatV = true
  | [] => rfl
  | z :: r => by
    show (flatV (.str z) && (stS r).all flatV) = true
    rw [stS_flat r]
    rfl
/-- all is well but for the length -/
def okS (zs : List Str) : Prop := scan 0 0 (stS zs) = .inr 0
theorem okS.pl {zs : List Str} (h : ∀ z ∈ zs, isPl z) : okS zs := by
  unfold okS
  have := scan_pl zs 0 0 [] h (.inl rfl)
  rw [List.append_nil] at this
  rw [this]
  rfl
theorem okS.wrong {zs : List Str} (h : okS zs) (hl : zs.length ≤ 40) : wrongV (stS zs) = .non := by
  unfold wrongV
  rw [show scan 0 0 (stS zs) = .inr 0 from h]
  simp only
  rw [if_neg]
  rw [stS_len]
  omega
theorem okS.tok {zs : List Str} (h : okS zs) : ∀ z ∈ zs, isTok z = true := fun z hz => by
  obtain ⟨y, e, t⟩ := scan_all h (.str z) (List.mem_map.mpr ⟨z, hz, rfl⟩)
  cases e
  exact t
/-- a bracket that opens is in it -/
def hasB (zs : List Str) : Bool := inV (.str "{") (stS zs) || inV (.str "[") (stS zs)
theorem inV_stS {b : Str} {zs : List Str} : inV (.str b) (stS zs) = decide (b ∈ zs) := by
  unfold inV stS
  rw [List.any_map, Bool.eq_iff_iff]
  simp [List.any_eq_true, eqV]
theorem hasB_pl {zs : List Str} (h : ∀ z ∈ zs, isPl z) : inV (.str "{") (stS zs) = false ∧ inV (.str "[") (stS zs) = false := by
  rw [inV_stS, inV_stS]
  refine ⟨decide_eq_false fun hm => ?_, decide_eq_false fun hm => ?_⟩
  · exact (h _ hm).2 (by rw [tl_ob]; decide)
  · exact (h _ hm).2 (by rw [tl_os]; decide)
/-- what is given: words, or well set with a bracket -/
def Lot (zs : List Str) : Prop := (∀ z ∈ zs, isPl z) ∨ (okS zs ∧ hasB zs = true)
theorem Lot.ok {zs : List Str} (h : Lot zs) : okS zs := h.elim okS.pl (·.1)
end Tk

set_option Elab.async false
set_option linter.all false
set_option maxRecDepth 100000
set_option maxHeartbeats 4000000
namespace Tk
open PySem PySem.Spec PyProof.Rows L2 Lay
open TL (tl ext_tl len_tl tl_append tl_mk mk_tl)
local macro_rules | `(tactic| walk_at "if") => `(tactic| refine ite2 (fun hc => ?_) (fun hc => ?_))
local macro_rules | `(tactic| walk_at "lk") => `(tactic| first | exact upd_same | assumption)
local macro_rules | `(tactic| walk_at "st") => `(tactic| first
  | with_reducible refine r_var rfl ?_ | with_reducible refine r_c ?_ | with_reducible refine r_op ?_ | with_reducible refine r_cons ?_ | with_reducible refine r_nil ?_ | with_reducible refine r_vals ?_
  | with_reducible refine r_cb ?_ | with_reducible refine r_tup ?_ | with_reducible refine r_lst ?_ | with_reducible refine r_call ?_ | with_reducible refine r_test ?_
  | with_reducible refine r_if ?_ | with_reducible refine r_not ?_ | with_reducible refine r_bm ?_ | with_reducible refine r_sl ?_ | with_reducible refine r_np ?_ | with_reducible refine r_part ?_
  | with_reducible refine r_seq ?_ | with_reducible refine r_asg ?_ | with_reducible refine r_name ?_ | with_reducible refine r_ifs ?_ | with_reducible refine r_ret ?_ | with_reducible refine r_next ?_ | with_reducible refine r_par ?_ | with_reducible refine r_par3 ?_ | with_reducible refine r_brk ?_ | with_reducible refine r_cnt ?_ | with_reducible refine r_sub ?_
  | with_reducible refine r_andT ?_ | with_reducible refine r_orT ?_ | with_reducible refine r_notT ?_ | with_reducible refine r_or ?_ | with_reducible refine r_and ?_ | with_reducible refine r_tB ?_ | with_reducible refine r_drop ?_ | with_reducible refine r_callN ?_ | with_reducible refine r_chain ?_
  | with_reducible refine r_for ?_ | with_reducible refine r_lc ?_ | with_reducible refine r_iseq ?_ | with_reducible refine r_rng1 ?_ | with_reducible refine r_enum ?_ | with_reducible refine r_yes ?_ | with_reducible refine r_tru ?_ | with_reducible refine r_gtup ?_ | with_reducible refine r_gcons ?_ | with_reducible refine r_gnil ?_
  | with_reducible refine b_add ?_ | with_reducible refine b_sub ?_ | (with_reducible refine b_mul (by unfold CMul; omega) ?_) | (with_reducible refine b_mod (by omega) ?_) | (with_reducible refine b_fdiv (by unfold CDiv; omega) ?_)
  | with_reducible refine c_lt ?_ | with_reducible refine c_le ?_ | with_reducible refine c_gt ?_ | with_reducible refine c_ge ?_ | with_reducible refine c_isN ?_ | with_reducible refine c_notN ?_ | with_reducible refine c_isB ?_ | with_reducible refine c_eq rfl ?_ | with_reducible refine c_ne rfl ?_
  | with_reducible refine c_insign ?_ | with_reducible refine k_int ?_ | with_reducible refine k_intb ?_ | with_reducible refine k_max ?_ | with_reducible refine k_min ?_
  | with_reducible refine ⟨_, rfl, ?_⟩
  | with_reducible refine ex_par ?_
  | with_reducible refine r_back ?_
  | with_reducible refine ex_par3 ?_
  | with_reducible refine ty_s ?_
  | with_reducible refine tru_b ?_
  | with_reducible refine iteT ?_ | with_reducible refine iteF ?_ | with_reducible refine itnT ?_ | with_reducible refine itnF ?_)
local macro_rules | `(tactic| walk_at "go") => `(tactic| repeat walk_at "st")
local macro_rules | `(tactic| walk_at "cl") => `(tactic| try dsimp only [cxOf, Cx.nox, Cx.wish])
/-! ### rows of texts, numbers and tuples of tokens -/
inductive Pa where
  | i (n : Int)
  | s (z : Str)
  | t (zs : List Str)
def paV (K : PySem.W.Frag) (H : Hp) : Pa → V → Prop
  | .i n, v => v = .int n
  | .s z, v => v = .str z
  | .t zs, v => ∃ a, v = .ref a ∧ SqT K H a (stS zs)
def paD : Pa → PyData
  | .i n => .int n
  | .s z => .str z
  | .t zs => .tuple (zs.map PyData.str)
/-- texts of no wild size -/
def paOk : Pa → Prop
  | .i _ => True
  | .s z => z.length ≤ 1000
  | .t zs => ∀ z ∈ zs, z.length ≤ 1000
def paVs (K : PySem.W.Frag) (H : Hp) : List Pa → List V → Prop
  | [], vs => vs = []
  | p :: ps, vs => ∃ v r, vs = v :: r ∧ paV K H p v ∧ paVs K H ps r
abbrev Rz : Type := Str × List Pa
def RzV (K : PySem.W.Frag) (H : Hp) (x : V) (z : Rz) : Prop := ∃ ra vs, x = .ref ra ∧ SqT K H ra (.str z.1 :: vs) ∧ paVs K H z.2 vs
section
variable {K : PySem.W.Frag} {H H' : Hp}
theorem paV.tk (t : TK H H') {p : Pa} {v : V} (h : paV K H p v) : paV K H' p v := by
  cases p with
  | i n => exact h
  | s z => exact h
  | t zs =>
    obtain ⟨a, e, s⟩ := h
    exact ⟨a, e, t.sqt s⟩
theorem paVs.tk (t : TK H H') : ∀ {ps : List Pa} {vs : List V}, paVs K H ps vs → paVs K H' ps vs
  | [], _, h => h
  | _ :: _, _, ⟨v, r, e, h1, h2⟩ => ⟨v, r, e, paV.tk t h1, paVs.tk t h2⟩
theorem RzV.tk (t : TK H H') {x : V} {z : Rz} (h : RzV K H x z) : RzV K H' x z := by
  obtain ⟨ra, vs, e, h1, h2⟩ := h
  exact ⟨ra, vs, e, t.sqt h1, h2.tk t⟩
theorem paVs.dp : ∀ {ps : List Pa} {vs : List V}, paVs K H ps vs → DpAll K H vs (ps.map paD)
  | [], _, h => by
    cases h
    exact .nil
  | p :: ps, _, ⟨v, r, e, h1, h2⟩ => by
    subst e
    refine .cons ?_ (paVs.dp h2)
    cases p with
    | i n =>
      cases h1
      exact .int n
    | s z =>
      cases h1
      exact .str z
    | t zs =>
      obtain ⟨a, rfl, s⟩ := h1
      exact .tup s (dp_strs zs)
theorem nlA_strs : ∀ zs : List Str, nlA (zs.map PyData.str) = true
  | [] => rfl
  | _ :: r => nlA_strs r
theorem pa_nl : ∀ ps : List Pa, nlA (ps.map paD) = true
  | [] => rfl
  | p :: ps => by
    show (nlD (paD p) && nlA (ps.map paD)) = true
    rw [pa_nl ps, Bool.and_true]
    cases p with
    | i n => rfl
    | s z => rfl
    | t zs => exact nlA_strs zs
theorem paVs.len : ∀ {ps : List Pa} {vs : List V}, paVs K H ps vs → vs.length = ps.length
  | [], _, h => by
    cases h
    rfl
  | _ :: _, _, ⟨_, _, e, _, h2⟩ => by
    subst e
    exact congrArg Nat.succ (paVs.len h2)
/-- the parts with what they hold -/
def ptOf : Pa → V → Pt
  | .t zs, v => (v, some (stS zs))
  | _, v => (v, none)
theorem tupok_strs {zs : List Str} (h : ∀ z ∈ zs, z.length ≤ 1000) : TupOk K H (stS zs) := fun x hx => by
  obtain ⟨z, hz, rfl⟩ := List.mem_map.mp hx
  exact ⟨⟨_, .str z⟩, fun y e => by
    cases e
    have := h z hz
    omega⟩
theorem paV.th {p : Pa} {v : V} (h : paV K H p v) (o : paOk p) : Th K H (ptOf p v).1 (ptOf p v).2 := by
  cases p with
  | i n =>
    cases h
    exact ⟨"int", .int n, (fun _ e => nomatch e), .inl ⟨by decide, rfl⟩⟩
  | s z =>
    cases h
    refine ⟨"str", .str z, fun y e => ?_, .inl ⟨by decide, rfl⟩⟩
    cases e
    have : z.length ≤ 1000 := o
    omega
  | t zs =>
    obtain ⟨a, rfl, s⟩ := h
    exact ⟨"tuple", .tup s, (fun _ e => nomatch e), .inr ⟨rfl, a, _, rfl, rfl, s, tupok_strs o⟩⟩
theorem paVs.rw {z : Str} (hz : z.length ≤ 1000) {ps : List Pa} {vs : List V} {ra : Addr} (hs : SqT K H ra (.str z :: vs)) (h : paVs K H ps vs) (o : ∀ p ∈ ps, paOk p) (hl : ps.length ≤ 10) : Rw K H (.ref ra) (some ((.str z, none) :: List.zipWith ptOf ps vs)) := by
  have key : ∀ {ps : List Pa} {vs : List V}, paVs K H ps vs → (∀ p ∈ ps, paOk p) → (List.zipWith ptOf ps vs).map Prod.fst = vs ∧ ∀ q ∈ List.zipWith ptOf ps vs, Th K H q.1 q.2 := by
    intro ps
    induction ps with
    | nil =>
      intro vs h _
      cases h
      exact ⟨rfl, fun _ h => nomatch h⟩
    | cons p r ih =>
      intro vs h o
      obtain ⟨v, r2, rfl, h1, h2⟩ := h
      obtain ⟨i1, i2⟩ := ih h2 fun q hq => o q (List.mem_cons_of_mem _ hq)
      refine ⟨?_, fun q hq => ?_⟩
      · show (ptOf p v).1 :: (List.zipWith ptOf r r2).map Prod.fst = v :: r2
        rw [i1]
        cases p <;> rfl
      · rcases List.mem_cons.mp (show q ∈ ptOf p v :: List.zipWith ptOf r r2 from hq) with e | hq
        · rw [e]
          exact h1.th (o p List.mem_cons_self)
        · exact i2 q hq
  obtain ⟨k1, k2⟩ := key h o
  refine ⟨"tuple", .tup hs, (fun _ e => nomatch e), .inr ⟨rfl, ra, _, rfl, rfl, ?_, ?_, fun q hq => ?_⟩⟩
  · rw [List.map_cons, k1]
    exact hs
  · rw [List.length_cons, List.length_zipWith]
    have := Nat.min_le_left ps.length vs.length
    omega
  · rcases List.mem_cons.mp hq with e | hq
    · rw [e]
      refine ⟨"str", .str z, fun y e => ?_, .inl ⟨by decide, rfl⟩⟩
      cases e
      omega
    · exact k2 q hq
end
/-! ### the rows of these laws -/
inductive Rg : Rz → Rk → Prop
  | row : Rg ("row", []) .row
  | close : Rg ("close", []) .close
  | table (c : Nat) (zs : List Str) (h1 : 1 ≤ c) (h4 : c ≤ 4) (h : zs = []) : Rg ("table", [.i c, .t zs]) (.table c)
  | cell (d a : Nat) (zs : List Str) (h1 : 1 ≤ d) (h2 : d ≤ 4) (h3 : 1 ≤ a) (h4 : a ≤ 4) (h5 : ∀ z ∈ zs, isW z) (h6 : zs.length ≤ 1) : Rg ("cell", [.i d, .i a, .t zs]) (.cell d a)
  | para : Rg ("para", [.s "-", .t []]) (.oth "para")
  | index : Rg ("index", []) (.oth "index")
  | brk : Rg ("break", []) (.oth "break")
  | when (z : Str) (h : z ∈ (["pages", "screen", "plain"] : List Str)) : Rg ("when", [.s z]) .when
  | done : Rg ("done", []) .done
theorem isW.len {z : Str} (h : isW z) : z.length ≤ 1000 := by
  have := (isOf_len h).2
  omega
theorem toks_pl {zs : List Str} (h : ∀ z ∈ zs, isW z) (hl : zs.length ≤ 1) : toksV (stS zs) true = true := by
  have hp : ∀ z ∈ zs, isPl z := fun z hz => (h z hz).pl
  unfold toksV
  rw [decide_eq_true ((okS.pl hp).wrong (by omega)), Bool.true_and]
  show (false || !(stS zs).any fun y => inV y brs) = true
  rw [Bool.false_or]
  have e : (stS zs).any (fun y => inV y brs) = false := by
    refine Bool.eq_false_iff.mpr fun hh => ?_
    obtain ⟨y, hy, hi⟩ := List.any_eq_true.mp hh
    obtain ⟨z, hz, rfl⟩ := List.mem_map.mp hy
    have e2 : inV (.str z) brs = decide (z ∈ (["{", "}", "[", "]"] : List Str)) := in_stS z ["{", "}", "[", "]"]
    rw [e2] at hi
    have hm := of_decide_eq_true hi
    refine (hp z hz).2 ?_
    rcases List.mem_cons.mp hm with rfl | hm
    · decide +kernel
    rcases List.mem_cons.mp hm with rfl | hm
    · decide +kernel
    rcases List.mem_cons.mp hm with rfl | hm
    · decide +kernel
    · rw [List.mem_singleton.mp hm]
      decide +kernel
  rw [e]
  rfl
section
variable {K : PySem.W.Frag} {H H' : Hp}
theorem Rg.w {z : Rz} {k : Rk} (h : Rg z k) : rkW k = z.1 := by cases h <;> rfl
theorem Rg.rkv {z : Rz} {k : Rk} {vs : List V} (h : Rg z k) (hv : paVs K H z.2 vs) : rkV k (.str z.1 :: vs) := by
  cases h with
  | row => cases hv; exact rfl
  | close => cases hv; exact rfl
  | table c zs h1 h4 h =>
    obtain ⟨v, r, rfl, e1, v2, r2, rfl, e2, e3⟩ := hv
    cases e1
    cases e3
    exact ⟨h1, h4, v2, rfl⟩
  | cell d a zs h1 h2 h3 h4 h5 h6 =>
    obtain ⟨v, r, rfl, e1, v2, r2, rfl, e2, v3, r3, rfl, e3, e4⟩ := hv
    cases e1
    cases e2
    cases e4
    exact ⟨h2, h4, v3, rfl⟩
  | para => exact ⟨by decide +kernel, _, rfl⟩
  | index => exact ⟨by decide +kernel, _, rfl⟩
  | brk => exact ⟨by decide +kernel, _, rfl⟩
  | when z h =>
    obtain ⟨v, r, rfl, e1, e2⟩ := hv
    cases e2
    exact ⟨v, rfl⟩
  | done => cases hv; exact rfl
theorem Rg.rwd {z : Rz} {k : Rk} {x : V} (h : Rg z k) (hv : RzV K H x z) : RwD K H x (k, z.2.map paD) := by
  obtain ⟨ra, vs, e, h1, h2⟩ := hv
  refine ⟨ra, _, e, h1, h.rkv h2, ?_, pa_nl _, ?_⟩
  · show DpAll K H (.str z.1 :: vs) (.str (rkW k) :: z.2.map paD)
    rw [h.w]
    exact .cons (.str _) h2.dp
  · rw [List.length_cons, h2.len]
    cases h <;> (dsimp only [List.length_cons, List.length_nil]; decide)
theorem Rg.norule {z : Rz} {k : Rk} (h : Rg z k) : rkW k ∉ ruleW := by
  cases h <;> (simp only [rkW]; decide +kernel)
theorem wh14 {n : Nat} {a b : Int} (h1 : a ≤ n) (h2 : (n : Int) ≤ b) : isWh a b (.int n) = true := by
  show (decide (a ≤ (n : Int)) && decide ((n : Int) ≤ b)) = true
  rw [decide_eq_true h1, decide_eq_true h2]
  rfl
theorem Rg.rwk {z : Rz} {k : Rk} {x : V} (h : Rg z k) (hv : RzV K H x z) : RwK K H x (true, k) := by
  obtain ⟨ra, vs, rfl, h1, h2⟩ := hv
  have hz : z.1.length ≤ 1000 := by cases h <;> (dsimp only; decide +kernel)
  have ho : ∀ p ∈ z.2, paOk p := by
    cases h with
    | row => exact fun _ h => nomatch h
    | close => exact fun _ h => nomatch h
    | index => exact fun _ h => nomatch h
    | brk => exact fun _ h => nomatch h
    | done => exact fun _ h => nomatch h
    | table c zs a1 a2 a3 =>
      subst a3
      intro p hp
      rcases List.mem_cons.mp hp with rfl | hp
      · exact True.intro
      · rw [List.mem_singleton.mp hp]
        exact fun _ h => nomatch h
    | cell d a zs a1 a2 a3 a4 a5 a6 =>
      intro p hp
      rcases List.mem_cons.mp hp with rfl | hp
      · exact True.intro
      rcases List.mem_cons.mp hp with rfl | hp
      · exact True.intro
      · rw [List.mem_singleton.mp hp]
        exact fun z hz => (a5 z hz).len
    | para =>
      intro p hp
      rcases List.mem_cons.mp hp with rfl | hp
      · show Str.length _ ≤ _
        decide +kernel
      · rw [List.mem_singleton.mp hp]
        exact fun _ h => nomatch h
    | when z a1 =>
      intro p hp
      rw [List.mem_singleton.mp hp]
      show z.length ≤ 1000
      rcases List.mem_cons.mp a1 with rfl | a1
      · decide +kernel
      rcases List.mem_cons.mp a1 with rfl | a1
      · decide +kernel
      · rw [List.mem_singleton.mp a1]
        decide +kernel
  have hl : z.2.length ≤ 10 := by cases h <;> (dsimp only [List.length_cons, List.length_nil]; decide)
  refine ⟨_, h2.rw hz h1 ho hl, ?_, fun _ => ⟨ra, _, rfl, h1, h.rkv h2, h.norule⟩⟩
  show isRowP ((.str z.1, none) :: List.zipWith ptOf z.2 vs) = true
  cases h with
  | row => cases h2; decide +kernel
  | close => cases h2; decide +kernel
  | index => cases h2; decide +kernel
  | brk => cases h2; decide +kernel
  | done => cases h2; decide +kernel
  | table c zs a1 a2 a3 =>
    subst a3
    obtain ⟨v, r, rfl, e1, v2, r2, rfl, e2, e3⟩ := h2
    cases e1
    cases e3
    show (decide ((2 : Nat) = 2) && ((isWh 1 4 (.int c) && (bareO (some (stS [])) && true)) && (decide (("table" : Str) ≠ Str.ofString "counter") || _))) = true
    rw [wh14 (by omega) (by omega), show decide (("table" : Str) ≠ Str.ofString "counter") = true by decide +kernel]
    rfl
  | cell d a zs a1 a2 a3 a4 a5 a6 =>
    obtain ⟨v, r, rfl, e1, v2, r2, rfl, e2, v3, r3, rfl, e3, e4⟩ := h2
    cases e1
    cases e2
    cases e4
    show (decide ((3 : Nat) = 3) && ((isWh 1 4 (.int d) && (isWh 1 4 (.int a) && (toksV (stS zs) true && true))) && (decide (("cell" : Str) ≠ Str.ofString "counter") || _))) = true
    rw [wh14 (by omega) (by omega), wh14 (by omega) (by omega), toks_pl a5 a6, show decide (("cell" : Str) ≠ Str.ofString "counter") = true by decide +kernel]
    rfl
  | para =>
    obtain ⟨v, r, rfl, e1, v2, r2, rfl, e2, e3⟩ := h2
    cases e1
    cases e3
    obtain ⟨ad, rfl, _⟩ := e2
    show (decide ((2 : Nat) = 2) && ((partV .sty (.str "-") none && (tksO false (some (stS [])) && true)) && (decide (("para" : Str) ≠ Str.ofString "counter") || cntV [(.str "-", none), (.ref ad, some (stS []))]))) = true
    rw [show decide (("para" : Str) ≠ Str.ofString "counter") = true by decide +kernel, show partV .sty (.str "-") none = true by decide +kernel]
    rfl
  | when z a1 =>
    obtain ⟨v, r, rfl, e1, e2⟩ := h2
    cases e1
    cases e2
    show (decide ((1 : Nat) = 1) && ((inV (.str z) (stS ["pages", "screen", "plain"]) && true) && (decide (("when" : Str) ≠ Str.ofString "counter") || _))) = true
    rw [in_stS, decide_eq_true a1, show decide (("when" : Str) ≠ Str.ofString "counter") = true by decide +kernel]
    rfl
end
end Tk

set_option Elab.async false
set_option linter.all false
set_option maxRecDepth 100000
set_option maxHeartbeats 4000000
namespace Tk
open PySem PySem.Spec PyProof.Rows L2 Lay
open TL (tl ext_tl len_tl tl_append tl_mk mk_tl)
local macro_rules | `(tactic| walk_at "if") => `(tactic| refine ite2 (fun hc => ?_) (fun hc => ?_))
local macro_rules | `(tactic| walk_at "lk") => `(tactic| first | exact upd_same | assumption)
local macro_rules | `(tactic| walk_at "st") => `(tactic| first
  | with_reducible refine r_var rfl ?_ | with_reducible refine r_c ?_ | with_reducible refine r_op ?_ | with_reducible refine r_cons ?_ | with_reducible refine r_nil ?_ | with_reducible refine r_vals ?_
  | with_reducible refine r_cb ?_ | with_reducible refine r_tup ?_ | with_reducible refine r_lst ?_ | with_reducible refine r_call ?_ | with_reducible refine r_test ?_
  | with_reducible refine r_if ?_ | with_reducible refine r_not ?_ | with_reducible refine r_bm ?_ | with_reducible refine r_sl ?_ | with_reducible refine r_np ?_ | with_reducible refine r_part ?_
  | with_reducible refine r_seq ?_ | with_reducible refine r_asg ?_ | with_reducible refine r_name ?_ | with_reducible refine r_ifs ?_ | with_reducible refine r_ret ?_ | with_reducible refine r_next ?_ | with_reducible refine r_par ?_ | with_reducible refine r_par3 ?_ | with_reducible refine r_brk ?_ | with_reducible refine r_cnt ?_ | with_reducible refine r_sub ?_
  | with_reducible refine r_andT ?_ | with_reducible refine r_orT ?_ | with_reducible refine r_notT ?_ | with_reducible refine r_or ?_ | with_reducible refine r_and ?_ | with_reducible refine r_tB ?_ | with_reducible refine r_drop ?_ | with_reducible refine r_callN ?_ | with_reducible refine r_chain ?_
  | with_reducible refine r_for ?_ | with_reducible refine r_lc ?_ | with_reducible refine r_iseq ?_ | with_reducible refine r_rng1 ?_ | with_reducible refine r_enum ?_ | with_reducible refine r_yes ?_ | with_reducible refine r_tru ?_ | with_reducible refine r_gtup ?_ | with_reducible refine r_gcons ?_ | with_reducible refine r_gnil ?_
  | with_reducible refine b_add ?_ | with_reducible refine b_sub ?_ | (with_reducible refine b_mul (by unfold CMul; omega) ?_) | (with_reducible refine b_mod (by omega) ?_) | (with_reducible refine b_fdiv (by unfold CDiv; omega) ?_)
  | with_reducible refine c_lt ?_ | with_reducible refine c_le ?_ | with_reducible refine c_gt ?_ | with_reducible refine c_ge ?_ | with_reducible refine c_isN ?_ | with_reducible refine c_notN ?_ | with_reducible refine c_isB ?_ | with_reducible refine c_eq rfl ?_ | with_reducible refine c_ne rfl ?_
  | with_reducible refine c_insign ?_ | with_reducible refine k_int ?_ | with_reducible refine k_intb ?_ | with_reducible refine k_max ?_ | with_reducible refine k_min ?_
  | with_reducible refine ⟨_, rfl, ?_⟩
  | with_reducible refine ex_par ?_
  | with_reducible refine r_back ?_
  | with_reducible refine ex_par3 ?_
  | with_reducible refine ty_s ?_
  | with_reducible refine tru_b ?_
  | with_reducible refine iteT ?_ | with_reducible refine iteF ?_ | with_reducible refine itnT ?_ | with_reducible refine itnF ?_)
local macro_rules | `(tactic| walk_at "go") => `(tactic| repeat walk_at "st")
local macro_rules | `(tactic| walk_at "cl") => `(tactic| try dsimp only [cxOf, Cx.nox, Cx.wish])
/-! ### a drawn strip -/
local macro_rules | `(tactic| walk_at "st") => `(tactic| first | with_reducible refine r_un ?_ | with_reducible refine u_neg ?_ | with_reducible refine r_bm0 ?_)
abbrev s__law_drawn : Stmt := topS 56
theorem sc__law_drawn : FnScope ["_law_purse_here", "_law_columns", "_law_many", "_law_found", "_law_r", "_law_c", "_law_down", "_law_across"] ["_law_purse_here", "_law_columns", "_law_many"] (defScope s__law_drawn) := ⟨rfl, rfl, rfl, by decide +kernel, rfl, by decide +kernel, by decide +kernel⟩
abbrev Wz : Type := Rz × Rk
def SrAll (K : PySem.W.Frag) (H : Hp) (rows : List V) (ws : List Wz) : Prop := rows.length = ws.length ∧ ∀ (i : Nat) x w, rows[i]? = some x → ws[i]? = some w → RzV K H x w.1 ∧ Rg w.1 w.2
def isB : Rk → Prop
  | .row => True
  | .cell _ _ => True
  | _ => False
def tabW (c : Nat) : Wz := (("table", [.i c, .t []]), .table c)
def closeW : Wz := (("close", []), .close)
def rowW : Wz := (("row", []), .row)
def cellW (d a : Nat) (zs : List Str) : Wz := (("cell", [.i d, .i a, .t zs]), .cell d a)
def StripW (c : Nat) (ws : List Wz) : Prop := ∃ body, ws = tabW c :: (body ++ [closeW]) ∧ ∀ w ∈ body, isB w.2
def spDrawn (K : PySem.W.Frag) : Sp := fun vs H Q _ => ∃ p c n, vs = [.ref p, .int (c : Nat), .int (n : Nat)] ∧ Pu H p ∧ 1 ≤ c ∧ c ≤ 4 ∧ n ≤ 8 ∧ ∀ l rows ws H', But p H H' → Pu H' p → H l = none → H' l = some (.lst rows) → SrAll K H' rows ws → StripW c ws → ws.length ≤ 60 → Q (.ref l) H'
section
variable {P : Program} {w : World} {K : PySem.W.Frag} {mg : Str → Option Value} {base : Heap}
theorem SrAll.tk {H H' : Hp} {rows : List V} {ws : List Wz} (t : TK H H') (h : SrAll K H rows ws) : SrAll K H' rows ws := ⟨h.1, fun i x w a b => ⟨(h.2 i x w a b).1.tk t, (h.2 i x w a b).2⟩⟩
theorem SrAll.push {H : Hp} {rows : List V} {ws : List Wz} {x : V} {w : Wz} (h : SrAll K H rows ws) (hx : RzV K H x w.1) (hg : Rg w.1 w.2) : SrAll K H (rows ++ [x]) (ws ++ [w]) := by
  refine ⟨by rw [List.length_append, List.length_append, h.1]; rfl, fun i y v ey ev => ?_⟩
  by_cases hi : i < rows.length
  · rw [List.getElem?_append_left hi] at ey
    rw [List.getElem?_append_left (by rw [← h.1]; exact hi)] at ev
    exact h.2 i y v ey ev
  · have hi2 : i = rows.length := by
      have := (List.getElem?_eq_some_iff.mp ey).1
      simp only [List.length_append, List.length_cons, List.length_nil] at this
      omega
    subst hi2
    rw [List.getElem?_append_right (Nat.le_refl _), Nat.sub_self] at ey
    rw [h.1, List.getElem?_append_right (Nat.le_refl _), Nat.sub_self] at ev
    cases ey
    cases ev
    exact ⟨hx, hg⟩
theorem pu_tk {H H' : Hp} {p : Addr} (b : But p H H') (h : Pu H p) : TK H H' := by
  obtain ⟨x, y, z, e⟩ := h
  exact But.tkL b e
/-- what is drawn for a cell's size -/
theorem size_of {x : V} {r : Int} (h0 : 0 ≤ r) (h1 : r < 4) (h : x ∈ [V.int 1, V.int 1, V.int 2, V.int (1 + r)]) : ∃ d : Nat, x = .int (d : Nat) ∧ 1 ≤ d ∧ d ≤ 4 := by
  rcases List.mem_cons.mp h with rfl | h
  · exact ⟨1, rfl, by omega, by omega⟩
  rcases List.mem_cons.mp h with rfl | h
  · exact ⟨1, rfl, by omega, by omega⟩
  rcases List.mem_cons.mp h with rfl | h
  · exact ⟨2, rfl, by omega, by omega⟩
  · rw [List.mem_singleton.mp h]
    refine ⟨(1 + r).toNat, congrArg V.int ?_, ?_, ?_⟩ <;> omega
theorem ok__law_drawn (F : Fn0 K mg "_law_drawn" s__law_drawn ["_law_purse_here", "_law_columns", "_law_many"]) (m : Md mg) (c__law_pick : FnG P w K mg base 1 "_law_pick" ["_law_purse_here", "_law_many"] spPick) (c__law_one_word : FnG P w K mg base 2 "_law_one_word" ["_law_purse_here"] spWord1) : FnG P w K mg base 3 "_law_drawn" ["_law_purse_here", "_law_columns", "_law_many"] (spDrawn K) := by
  refine F.ok sc__law_drawn (fun vs H Q E h => ?_) (fun a cdv A outer s H vs Q E L hr h => ?_)
  · obtain ⟨p, c, n, rfl, _⟩ := h
    rfl
  have nd := sc__law_drawn.nd
  refine ⟨_, (pss_cons (ps_set (i := 3) nd rfl (.inl rfl) (pe_lst (pa_cons (pe_tup (pa_cons pe_str (pa_cons (pv 1) (pa_cons (pe_tup pa_nil) pa_nil)))) pa_nil))) (pss_cons (ps_for PassesOwn.never rfl (pi_range1 (by rfl) m.range_ (pa_cons (pv 2) pa_nil)) (pg_name (i := 4) nd rfl (.inl rfl)) (pss_cons (ps_expr (pe_bmL L PySem.F.plainAttrs_list PySem.F.slot_list_append PySem.F.type_list_append (pv 3) (pa_cons (pe_tup (pa_cons pe_str pa_nil)) pa_nil))) (pss_one (ps_for PassesOwn.never rfl (pi_range1 (by rfl) m.range_ (pa_cons (pe_callG c__law_pick (hr.mono (by decide)) (by rfl) (pa_cons (pv 0) (pa_cons (pe_op (ob L) (pv 1) pe_int) pa_nil))) pa_nil)) (pg_name (i := 5) nd rfl (.inl rfl)) (pss_cons (ps_set (i := 6) nd rfl (.inl rfl) (pe_ix (oi L) (pe_lst (pa_cons pe_int (pa_cons pe_int (pa_cons pe_int (pa_cons (pe_op (ob L) pe_int (pe_callG c__law_pick (hr.mono (by decide)) (by rfl) (pa_cons (pv 0) (pa_cons pe_int pa_nil)))) pa_nil))))) (pe_callG c__law_pick (hr.mono (by decide)) (by rfl) (pa_cons (pv 0) (pa_cons pe_int pa_nil))) (fun _ _ => rfl))) (pss_cons (ps_set (i := 7) nd rfl (.inl rfl) (pe_ix (oi L) (pe_lst (pa_cons pe_int (pa_cons pe_int (pa_cons pe_int (pa_cons (pe_op (ob L) pe_int (pe_callG c__law_pick (hr.mono (by decide)) (by rfl) (pa_cons (pv 0) (pa_cons pe_int pa_nil)))) pa_nil))))) (pe_callG c__law_pick (hr.mono (by decide)) (by rfl) (pa_cons (pv 0) (pa_cons pe_int pa_nil))) (fun _ _ => rfl))) (pss_one (ps_expr (pe_bmL L PySem.F.plainAttrs_list PySem.F.slot_list_append PySem.F.type_list_append (pv 3) (pa_cons (pe_tup (pa_cons pe_str (pa_cons (pv 6) (pa_cons (pv 7) (pa_cons (pe_tup (pa_cons (pe_callG c__law_one_word (hr.mono (by decide)) (by rfl) (pa_cons (pv 0) pa_nil)) pa_nil)) pa_nil))))) pa_nil)))))))))) (pss_one (ps_ret (pe_op (ob L) (pv 3) (pe_lst (pa_cons (pe_tup (pa_cons pe_str pa_nil)) pa_nil))))))), ?_⟩
  obtain ⟨p, c, n, rfl, hP, hc1, hc4, hn, q⟩ := h
  refine r_seqH fun nx0 h0 => ?_
  walk_at "go"
  refine ⟨sz1000 (by show 0 ≤ 1000; decide), fun t0 ht0 => ?_⟩
  walk_at "go"
  refine ⟨sz1000 (by show 3 ≤ 1000; decide), fun r0 hr0 => ?_⟩
  walk_at "go"
  refine ⟨sz1000 (by show 1 ≤ 1000; decide), fun F0 hF0 => ?_⟩
  walk_at "go"
  refine h0 _ _ ?_
  clear h0
  have s1 : Same H (upd H t0 (.tup [])) := Same.new ht0
  have e1 : (upd H t0 (.tup [])) t0 = some (.tup []) := upd_same
  generalize upd H t0 (.tup []) = H1 at s1 e1 hr0 hF0 ⊢
  have s2 : Same H1 (upd H1 r0 (.tup [V.str "table", V.int (c : Nat), V.ref t0])) := Same.new hr0
  have e2 : (upd H1 r0 (.tup [V.str "table", V.int (c : Nat), V.ref t0])) r0 = some (.tup [V.str "table", V.int (c : Nat), V.ref t0]) := upd_same
  generalize upd H1 r0 (.tup [V.str "table", V.int (c : Nat), V.ref t0]) = H2 at s2 e2 hF0 ⊢
  have s3 : Same H2 (upd H2 F0 (.lst [V.ref r0])) := Same.new hF0
  have e3 : (upd H2 F0 (.lst [V.ref r0])) F0 = some (.lst [V.ref r0]) := upd_same
  generalize upd H2 F0 (.lst [V.ref r0]) = H3 at s3 e3 ⊢
  have hF00 : H F0 = none := free_of (s1.trans s2) hF0
  have s03 : Same H H3 := (s1.trans s2).trans s3
  have nFp : F0 ≠ p := fun e => by
    obtain ⟨x, y, z, ep⟩ := hP
    rw [e, ep] at hF00
    cases hF00
  have sr0 : SrAll K H3 [V.ref r0] [tabW c] := ⟨rfl, fun i x w ex ew => by
    cases i with
    | zero =>
      cases ex
      cases ew
      exact ⟨⟨r0, _, rfl, SqT.of (s3 _ _ e2), _, _, rfl, rfl, _, _, rfl, ⟨t0, rfl, SqT.of (s3 _ _ (s2 _ _ e1))⟩, rfl⟩, .table c [] hc1 hc4 rfl⟩
    | succ i => simp at ex⟩
  have hP3 := hP.same s03
  have b03 : But p H H3 := Same.but s03
  clear s03 s3 s2 s1 e1 e2 ht0 hr0 hF0
  refine r_seqH fun nx0 h0 => ?_
  walk_at "go"
  refine ⟨by omega, by omega, ?_⟩
  rw [show (((n : Nat) : Int)).toNat = n from Int.toNat_natCast n]
  refine fo_it walk_range (fun i σ H' => ∃ rows body v4 v5 v6 v7, σ = [some (.ref p), some (.int (c : Nat)), some (.int (n : Nat)), some (.ref F0), v4, v5, v6, v7] ∧ But p H H' ∧ Pu H' p ∧ H' F0 = some (.lst rows) ∧ SrAll K H' rows (tabW c :: body) ∧ (∀ w ∈ body, isB w.2) ∧ rows.length ≤ 1 + 6 * i)
    ⟨[.ref r0], [], _, _, _, _, rfl, b03, hP3, e3, sr0, (fun _ h => nomatch h), Nat.le_refl _⟩ (fun _ _ _ _ _ => True.intro) (fun i x σ H' H'' hi hI hY => ?_) (fun σ H' hI => ?_)
  rotate_left
  · obtain ⟨rows, body, v4, v5, v6, v7, rfl, b, hP', eF, sr, hb, hl⟩ := hI
    refine h0 _ _ ?_
    walk_at "go"
    refine ⟨sz1000 (by show 1 ≤ 1000; decide), fun tc htc => ?_⟩
    walk_at "go"
    refine ⟨sz1000 (by show 1 ≤ 1000; decide), fun lc hlc => ?_⟩
    have s1 : Same H' (upd H' tc (.tup [V.str "close"])) := Same.new htc
    have s2 : Same (upd H' tc (.tup [V.str "close"])) (upd (upd H' tc (.tup [V.str "close"])) lc (.lst [V.ref tc])) := Same.new hlc
    have e1 := s2 _ _ (upd_same (H := H') (a := tc) (o := .tup [V.str "close"]))
    refine b_cat ((s1.trans s2) _ _ eF) upd_same (sz1000 (by simp only [List.length_cons, List.length_nil]; omega)) fun R hR => ?_
    have s3 : Same _ (upd (upd (upd H' tc (.tup [V.str "close"])) lc (.lst [V.ref tc])) R (.lst (rows ++ [V.ref tc]))) := Same.new hR
    have s13 := (s1.trans s2).trans s3
    have hR0 : H R = none := But.freeP b hP' (free_of (s1.trans s2) hR)
    have sr' : SrAll K _ (rows ++ [V.ref tc]) ((tabW c :: body) ++ [closeW]) := SrAll.push (sr.tk (Same.tk s13)) ⟨tc, [], rfl, SqT.of (s3 _ _ e1), rfl⟩ .close
    refine q R _ _ _ (b.trans (Same.but s13)) (hP'.same s13) hR0 upd_same sr' ⟨body, rfl, hb⟩ ?_
    have := sr'.1
    rw [← this, List.length_append]
    simp only [List.length_cons, List.length_nil]
    omega
  obtain ⟨rows, body, v4, v5, v6, v7, rfl, b, hP', eF, sr, hb, hl⟩ := hI
  obtain ⟨rfl, rfl⟩ := hY
  refine r_seqH fun nx1 h1 => ?_
  walk_at "go"
  refine ty_l (SqL.of eF) ?_
  walk_at "go"
  refine ⟨sz1000 (by show 1 ≤ 1000; decide), fun tr htr => ?_⟩
  have s1 : Same H'' (upd H'' tr (.tup [V.str "row"])) := Same.new htr
  have e1 : (upd H'' tr (.tup [V.str "row"])) tr = some (.tup [V.str "row"]) := upd_same
  generalize upd H'' tr (.tup [V.str "row"]) = H4 at s1 e1 ⊢
  refine m_app (s1 _ _ eF) (by rw [sizeLine_eq]; omega) ?_
  refine h1 _ _ ?_
  clear h1
  have tk5 : TK H4 (upd H4 F0 (.lst (rows ++ [V.ref tr]))) := TK.put (s1 _ _ eF)
  have sr5 : SrAll K (upd H4 F0 (.lst (rows ++ [V.ref tr]))) (rows ++ [V.ref tr]) ((tabW c :: body) ++ [rowW]) := SrAll.push (sr.tk ((Same.tk s1).trans tk5)) ⟨tr, [], rfl, tk5.sqt (SqT.of e1), rfl⟩ .row
  have hP5 : Pu (upd H4 F0 (.lst (rows ++ [V.ref tr]))) p := (hP'.same s1).up nFp
  have b5 : But p H (upd H4 F0 (.lst (rows ++ [V.ref tr]))) := fun a o n e => by
    rw [upd_ne (ne_of_none e hF00)]
    exact s1 _ _ (b a o n e)
  have e5 : (upd H4 F0 (.lst (rows ++ [V.ref tr]))) F0 = some (.lst (rows ++ [V.ref tr])) := upd_same
  generalize upd H4 F0 (.lst (rows ++ [V.ref tr])) = H5 at sr5 hP5 b5 e5 ⊢
  have hb5 : ∀ w ∈ body ++ [rowW], isB w.2 := fun w hw => by
    rcases List.mem_append.mp hw with hw | hw
    · exact hb w hw
    · rw [List.mem_singleton.mp hw]
      exact True.intro
  have hl5 : (rows ++ [V.ref tr]).length ≤ 2 + 6 * i := by rw [List.length_append]; simp only [List.length_cons, List.length_nil]; omega
  have sr5 : SrAll K H5 (rows ++ [V.ref tr]) (tabW c :: (body ++ [rowW])) := sr5
  generalize body ++ [rowW] = body5 at sr5 hb5
  generalize rows ++ [V.ref tr] = rows5 at e5 sr5 hl5
  clear hb sr eF tk5 e1 s1 htr hP' b
  walk_at "go"
  refine u_pick hP5 (by omega) (by omega) fun k H6 b6 hP6 hk0 hk1 => ?_
  walk_at "go"
  refine ⟨by omega, by omega, ?_⟩
  have e6 := b6 _ _ nFp e5
  have sr6 := sr5.tk (pu_tk b6 hP5)
  refine fo_it walk_range (fun j σ H' => ∃ rows body v4 v5 v6 v7, σ = [some (.ref p), some (.int (c : Nat)), some (.int (n : Nat)), some (.ref F0), v4, v5, v6, v7] ∧ But p H H' ∧ Pu H' p ∧ H' F0 = some (.lst rows) ∧ SrAll K H' rows (tabW c :: body) ∧ (∀ w ∈ body, isB w.2) ∧ rows.length ≤ 2 + 6 * i + j)
    ⟨rows5, body5, _, _, _, _, rfl, b5.trans b6, hP6, e6, sr6, hb5, by omega⟩ (fun _ _ _ _ _ => True.intro) (fun j x σ H' H'' hj hI hY => ?_) (fun σ H' hI => ?_)
  rotate_left
  · obtain ⟨rows, body, v4, v5, v6, v7, rfl, b, hP', eF, sr, hb, hl⟩ := hI
    refine ⟨rows, body, _, _, _, _, rfl, b, hP', eF, sr, hb, ?_⟩
    have : k.toNat ≤ 5 := by omega
    omega
  obtain ⟨rows, body, v4, v5, v6, v7, rfl, b, hP', eF, sr, hb, hl⟩ := hI
  obtain ⟨rfl, rfl⟩ := hY
  have hj5 : j < 6 := by omega
  have sizes : ∀ {σ : L2.St} {H1 : Hp} {R : VK}, σ[0]? = some (some (.ref p)) → But p H H1 → Pu H1 p → H1 F0 = some (.lst rows) → SrAll K H1 rows (tabW c :: body) →
      (∀ (d : Nat) H2, But p H H2 → Pu H2 p → H2 F0 = some (.lst rows) → SrAll K H2 rows (tabW c :: body) → 1 ≤ d → d ≤ 4 → R (.int (d : Nat)) H2) →
      tOp (sI P w K) (tLst (tCons (tC (.int 1)) (tCons (tC (.int 1)) (tCons (tC (.int 2)) (tCons (tOp (sB P w K (binaryOp .Add)) (tC (.int 1)) (tCall spPick [] E0 (tCons (tVar 0) (tCons (tC (.int 4)) tNil)))) tNil))))) (tCall spPick [] E0 (tCons (tVar 0) (tCons (tC (.int 4)) tNil))) σ H1 R := fun {σ H1 R} hσ b1 p1 f1 r1 hR => by
    walk_at "go"
    refine r_var hσ ?_
    walk_at "go"
    refine u_pick p1 (by omega) (by omega) fun r H2 b2 hP2 hr0 hr1 => ?_
    walk_at "go"
    refine ⟨sz1000 (by show 4 ≤ 1000; decide), fun l hl => ?_⟩
    have s3 : Same H2 (upd H2 l (.lst [V.int 1, V.int 1, V.int 2, V.int (1 + r)])) := Same.new hl
    have e3 : (upd H2 l (.lst [V.int 1, V.int 1, V.int 2, V.int (1 + r)])) l = some (.lst [V.int 1, V.int 1, V.int 2, V.int (1 + r)]) := upd_same
    have nlp : l ≠ p := hP2.ne hl
    generalize upd H2 l (.lst [V.int 1, V.int 1, V.int 2, V.int (1 + r)]) = H3 at s3 e3 ⊢
    walk_at "go"
    refine r_var hσ ?_
    walk_at "go"
    refine u_pick (hP2.same s3) (by omega) (by omega) fun r2 H4 b4 hP4 h20 h21 => ?_
    refine i_draw (xs := [V.int 1, V.int 1, V.int 2, V.int (1 + r)]) (SqL.of (b4 _ _ nlp e3)) h20 (by simpa using h21) fun x hx => ?_
    obtain ⟨d, rfl, d1, d4⟩ := size_of hr0 hr1 hx
    refine hR d H4 (b1.trans (b2.trans ((Same.but s3).trans b4))) hP4 (b4 _ _ nFp (s3 _ _ (b2 _ _ nFp f1))) ?_ d1 d4
    exact ((r1.tk (pu_tk b2 p1)).tk (Same.tk s3)).tk (pu_tk b4 (hP2.same s3))
  refine r_seqH fun nx1 h1 => ?_
  refine r_asg ?_
  refine sizes rfl b hP' eF sr fun d H7 b7 hP7 eF7 sr7 hd1 hd4 => ?_
  refine r_name ?_
  refine h1 _ _ ?_
  clear h1
  refine r_seqH fun nx1 h1 => ?_
  refine r_asg ?_
  refine sizes rfl b7 hP7 eF7 sr7 fun ac H8 b8 hP8 eF8 sr8 ha1 ha4 => ?_
  refine r_name ?_
  refine h1 _ _ ?_
  clear h1
  walk_at "go"
  refine ty_l (SqL.of eF8) ?_
  walk_at "go"
  refine u_word1 hP8 fun z H9 b9 hP9 hz => ?_
  walk_at "go"
  refine ⟨sz1000 (by show 1 ≤ 1000; decide), fun t1 ht1 => ?_⟩
  walk_at "go"
  refine ⟨sz1000 (by show 4 ≤ 1000; decide), fun t2 ht2 => ?_⟩
  have s1 : Same H9 (upd H9 t1 (.tup [V.str z])) := Same.new ht1
  have e1 : (upd H9 t1 (.tup [V.str z])) t1 = some (.tup [V.str z]) := upd_same
  generalize upd H9 t1 (.tup [V.str z]) = H10 at s1 e1 ht2 ⊢
  have s2 : Same H10 (upd H10 t2 (.tup [V.str "cell", V.int (d : Nat), V.int (ac : Nat), V.ref t1])) := Same.new ht2
  have e2 : (upd H10 t2 (.tup [V.str "cell", V.int (d : Nat), V.int (ac : Nat), V.ref t1])) t2 = some (.tup [V.str "cell", V.int (d : Nat), V.int (ac : Nat), V.ref t1]) := upd_same
  generalize upd H10 t2 (.tup [V.str "cell", V.int (d : Nat), V.int (ac : Nat), V.ref t1]) = H11 at s2 e2 ⊢
  have eF9 := b9 _ _ nFp eF8
  have eF11 := s2 _ _ (s1 _ _ eF9)
  refine m_app eF11 (by rw [sizeLine_eq]; omega) ?_
  have tk12 : TK H11 (upd H11 F0 (.lst (rows ++ [V.ref t2]))) := TK.put eF11
  have tk9 : TK H8 H9 := pu_tk b9 hP8
  have tk : TK H8 (upd H11 F0 (.lst (rows ++ [V.ref t2]))) := tk9.trans (((Same.tk s1).trans (Same.tk s2)).trans tk12)
  refine ⟨rows ++ [V.ref t2], body ++ [cellW d ac [z]], _, _, _, _, rfl, fun a o n e => ?_, ((hP9.same s1).same s2).up nFp, upd_same, ?_, fun w hw => ?_, by rw [List.length_append]; simp only [List.length_cons, List.length_nil]; omega⟩
  · rw [upd_ne (ne_of_none e hF00)]
    exact s2 _ _ (s1 _ _ (b9 _ _ n (b8 a o n e)))
  · exact SrAll.push (sr8.tk tk) ⟨t2, _, rfl, tk12.sqt (SqT.of e2), _, _, rfl, rfl, _, _, rfl, rfl, _, _, rfl, ⟨t1, rfl, tk12.sqt (SqT.of (s2 _ _ e1))⟩, rfl⟩ (.cell d ac [z] hd1 hd4 ha1 ha4 (fun y hy => by rw [List.mem_singleton.mp hy]; exact hz) (Nat.le_refl _))
  · rcases List.mem_append.mp hw with hw | hw
    · exact hb w hw
    · rw [List.mem_singleton.mp hw]
      exact True.intro
end
end Tk

set_option Elab.async false
set_option linter.all false
set_option maxRecDepth 100000
set_option maxHeartbeats 4000000
namespace Tk
open PySem PySem.Spec PyProof.Rows L2 Lay
open TL (tl ext_tl len_tl tl_append tl_mk mk_tl)
local macro_rules | `(tactic| walk_at "if") => `(tactic| refine ite2 (fun hc => ?_) (fun hc => ?_))
local macro_rules | `(tactic| walk_at "lk") => `(tactic| first | exact upd_same | assumption)
local macro_rules | `(tactic| walk_at "st") => `(tactic| first
  | with_reducible refine r_var rfl ?_ | with_reducible refine r_c ?_ | with_reducible refine r_op ?_ | with_reducible refine r_cons ?_ | with_reducible refine r_nil ?_ | with_reducible refine r_vals ?_
  | with_reducible refine r_cb ?_ | with_reducible refine r_tup ?_ | with_reducible refine r_lst ?_ | with_reducible refine r_call ?_ | with_reducible refine r_test ?_
  | with_reducible refine r_if ?_ | with_reducible refine r_not ?_ | with_reducible refine r_bm ?_ | with_reducible refine r_sl ?_ | with_reducible refine r_np ?_ | with_reducible refine r_part ?_
  | with_reducible refine r_seq ?_ | with_reducible refine r_asg ?_ | with_reducible refine r_name ?_ | with_reducible refine r_ifs ?_ | with_reducible refine r_ret ?_ | with_reducible refine r_next ?_ | with_reducible refine r_par ?_ | with_reducible refine r_par3 ?_ | with_reducible refine r_brk ?_ | with_reducible refine r_cnt ?_ | with_reducible refine r_sub ?_
  | with_reducible refine r_andT ?_ | with_reducible refine r_orT ?_ | with_reducible refine r_notT ?_ | with_reducible refine r_or ?_ | with_reducible refine r_and ?_ | with_reducible refine r_tB ?_ | with_reducible refine r_drop ?_ | with_reducible refine r_callN ?_ | with_reducible refine r_chain ?_
  | with_reducible refine r_for ?_ | with_reducible refine r_lc ?_ | with_reducible refine r_iseq ?_ | with_reducible refine r_rng1 ?_ | with_reducible refine r_enum ?_ | with_reducible refine r_yes ?_ | with_reducible refine r_tru ?_ | with_reducible refine r_gtup ?_ | with_reducible refine r_gcons ?_ | with_reducible refine r_gnil ?_
  | with_reducible refine b_add ?_ | with_reducible refine b_sub ?_ | (with_reducible refine b_mul (by unfold CMul; omega) ?_) | (with_reducible refine b_mod (by omega) ?_) | (with_reducible refine b_fdiv (by unfold CDiv; omega) ?_)
  | with_reducible refine c_lt ?_ | with_reducible refine c_le ?_ | with_reducible refine c_gt ?_ | with_reducible refine c_ge ?_ | with_reducible refine c_isN ?_ | with_reducible refine c_notN ?_ | with_reducible refine c_isB ?_ | with_reducible refine c_eq rfl ?_ | with_reducible refine c_ne rfl ?_
  | with_reducible refine c_insign ?_ | with_reducible refine k_int ?_ | with_reducible refine k_intb ?_ | with_reducible refine k_max ?_ | with_reducible refine k_min ?_
  | with_reducible refine ⟨_, rfl, ?_⟩
  | with_reducible refine ex_par ?_
  | with_reducible refine r_back ?_
  | with_reducible refine ex_par3 ?_
  | with_reducible refine ty_s ?_
  | with_reducible refine tru_b ?_
  | with_reducible refine iteT ?_ | with_reducible refine iteF ?_ | with_reducible refine itnT ?_ | with_reducible refine itnF ?_)
local macro_rules | `(tactic| walk_at "go") => `(tactic| repeat walk_at "st")
local macro_rules | `(tactic| walk_at "cl") => `(tactic| try dsimp only [cxOf, Cx.nox, Cx.wish])
/-! ### a table laid by a map of its places -/
abbrev Kv : Type := List (K2 × V)
def rowOf : K2 → Int
  | .inl r :: _ => r
  | _ => 0
def OwK (c : Nat) (kvs : Kv) : Prop := ∀ p ∈ kvs, ∃ r c' : Nat, p.1 = k2 r c' ∧ c' < c
def OwI (c m : Nat) (ff : List Nat) (kvs : Kv) : Prop := OwK c kvs ∧ ∀ r c' : Nat, c' < c → m ≤ r + 1 → (valV kvs (k2 r c')).isSome = decide (r < ff.getD c' 0)
def laidM : Nat → Nat → List Nat → List (List PyData) → List Wz → V × List (List PyData)
  | i, m, ff, ls, (z, k) :: r => (match k with
    | .row => if m = 8 then (.int i, ls) else laidM (i + 1) (m + 1) ff (ls ++ [[]]) r
    | .cell d a => (match cellG m ff d a with
      | none => (.int i, ls)
      | some q => laidM (i + 1) m q.2 (addLast ls (.tuple (.int q.1 :: z.2.map paD))) r)
    | _ => (if closeG m ff = true then .non else .int i, ls))
  | _, _, _, ls, [] => (.non, ls)
/-- the lines of a table, told -/
def LnR (K : PySem.W.Frag) (H : Hp) (g : Addr) (ls : List (List PyData)) : Prop := ∃ as : List Addr, H g = some (.lst (as.map V.ref)) ∧ as.length = ls.length ∧ ∀ (j : Nat) a ds, as[j]? = some a → ls[j]? = some ds → ∃ us, H a = some (.lst us) ∧ DpAll K H us ds ∧ nlA ds = true ∧ us.length ≤ 100
def ShL (ls : List (List PyData)) : Prop := ∀ ds ∈ ls, ShA 4 ds
def spLaid (K : PySem.W.Frag) : Sp := fun vs H Q _ => ∃ s c rows ws, vs = [.ref s, .int (c : Nat)] ∧ 1 ≤ c ∧ c ≤ 4 ∧ H s = some (.lst rows) ∧ SrAll K H rows ws ∧ StripW c ws ∧ ws.length ≤ 60 ∧
  ∀ t g o ls H', Same H H' → (o, ls) = laidM 1 0 (List.replicate c 0) [] (ws.drop 1) → H' t = some (.tup [o, .ref g]) → LnR K H' g ls → ShL ls → ls.length ≤ 8 → Q (.ref t) H'
section
variable {c m : Nat} {ff : List Nat} {kvs : Kv}
theorem OwI.nil (c : Nat) : OwI c 0 (List.replicate c 0) [] := ⟨(fun p h => nomatch h), fun r c' hc _ => by
  have e : (List.replicate c 0).getD c' 0 = 0 := by
    rw [List.getD_eq_getElem?_getD, List.getElem?_replicate]
    split <;> rfl
  rw [e, decide_eq_false (by omega)]
  rfl⟩
theorem OwI.up (h : OwI c m ff kvs) : OwI c (m + 1) ff kvs := ⟨h.1, fun r c' hc hm => h.2 r c' hc (by omega)⟩
theorem OwI.free (h : OwI c m ff kvs) (hm : m ≠ 0) (hl : ff.length = c) : (List.range c).filter (fun c' => !(valV kvs (k2 ((m : Int) - 1) (c' : Nat))).isSome) = freeC ff (m - 1) := by
  unfold freeC
  rw [hl]
  refine List.filter_congr fun x hx => ?_
  have hx := List.mem_range.mp hx
  rw [show ((m : Int) - 1) = ((m - 1 : Nat) : Int) by omega, h.2 (m - 1) x hx (by omega)]
  by_cases q : m - 1 < ff.getD x 0
  · rw [decide_eq_true q, decide_eq_false (by omega)]
    rfl
  · rw [decide_eq_false q, decide_eq_true (by omega)]
    rfl
theorem OwI.deep (h : OwI c m ff kvs) (hl : ff.length = c) : (kvs.filter fun p => decide ((m : Int) ≤ rowOf p.1)) = [] ↔ ff.all (fun n => decide (n ≤ m)) = true := by
  constructor
  · intro e
    rw [List.all_eq_true]
    intro n hn
    obtain ⟨j, hj, ej⟩ := List.mem_iff_getElem.mp hn
    refine decide_eq_true (Classical.byContradiction fun q => ?_)
    have eg : ff.getD j 0 = n := by rw [List.getD_eq_getElem?_getD, List.getElem?_eq_getElem hj, ej]; rfl
    have hs := h.2 m j (by omega) (by omega)
    rw [eg, decide_eq_true (by omega), ← valV_any] at hs
    obtain ⟨p, hp, ep⟩ := List.any_eq_true.mp hs
    have ep := of_decide_eq_true ep
    have : p ∈ kvs.filter fun p => decide ((m : Int) ≤ rowOf p.1) := List.mem_filter.mpr ⟨hp, decide_eq_true (by rw [ep]; exact Int.le_refl _)⟩
    rw [e] at this
    cases this
  · intro e
    rw [List.all_eq_true] at e
    rw [List.filter_eq_nil_iff]
    intro p hp q
    have q := of_decide_eq_true q
    obtain ⟨r, c', ek, hc⟩ := h.1 p hp
    rw [ek] at q
    have q : (m : Int) ≤ (r : Nat) := q
    have hs := h.2 r c' hc (by omega)
    have hv : (valV kvs (k2 r c')).isSome = true := by
      rw [← valV_any]
      exact List.any_eq_true.mpr ⟨p, hp, decide_eq_true ek⟩
    rw [hv] at hs
    have hs := of_decide_eq_true hs.symm
    have hj : c' < ff.length := by omega
    have eg : ff.getD c' 0 = ff[c'] := by rw [List.getD_eq_getElem?_getD, List.getElem?_eq_getElem hj]; rfl
    have := of_decide_eq_true (e ff[c'] (List.getElem_mem hj))
    omega
theorem setW_get (f v : Nat) : ∀ (a : Nat) (ff : List Nat) (c' : Nat), f + a ≤ ff.length → (setW ff f v a).getD c' 0 = if f ≤ c' ∧ c' < f + a then v else ff.getD c' 0
  | 0, ff, c', _ => by
    rw [if_neg (by omega)]
    rfl
  | a + 1, ff, c', h => by
    show ((setW ff f v a).set (f + a) v).getD c' 0 = _
    by_cases e : c' = f + a
    · subst e
      rw [if_pos (by omega), List.getD_eq_getElem?_getD, List.getElem?_set_self (by rw [setW_len]; omega)]
      rfl
    · rw [List.getD_eq_getElem?_getD, List.getElem?_set_ne (by omega), ← List.getD_eq_getElem?_getD, setW_get f v a ff c' (by omega)]
      by_cases g : f ≤ c' ∧ c' < f + a
      · rw [if_pos g, if_pos (by omega)]
      · rw [if_neg g, if_neg (by omega)]
/-- while a cell's places are taken: rows ahead of at + i all, of the next those ahead of f + j -/
def OwP (c at_ f a i j : Nat) (ff : List Nat) (kvs : Kv) : Prop := OwK c kvs ∧ (∀ r c' : Nat, c' < c → at_ ≤ r → (valV kvs (k2 r c')).isSome = decide (r < ff.getD c' 0 ∨ (f ≤ c' ∧ c' < f + a ∧ r < at_ + i) ∨ (r = at_ + i ∧ f ≤ c' ∧ c' < f + j))) ∧
  ∀ k : Nat, (k < j ∨ (0 < i ∧ k < a)) → f + k < c ∧ ff.getD (f + k) 0 ≤ at_
theorem OwP.start (h : OwI c m ff kvs) (hm : m ≠ 0) (f a : Nat) : OwP c (m - 1) f a 0 0 ff kvs := by
  refine ⟨h.1, fun r c' hc hr => ?_, fun k hk => ?_⟩
  · rw [h.2 r c' hc (by omega)]
    refine decide_eq_decide.mpr ⟨.inl, fun q => ?_⟩
    rcases q with q | q | q
    · exact q
    · omega
    · omega
  · omega
variable {at_ f a i j : Nat}
theorem OwP.line (h : OwP c at_ f a i a ff kvs) : OwP c at_ f a (i + 1) 0 ff kvs := by
  refine ⟨h.1, fun r c' hc hr => ?_, fun k hk => h.2.2 k (by omega)⟩
  rw [h.2.1 r c' hc hr]
  refine decide_eq_decide.mpr ⟨fun q => ?_, fun q => ?_⟩
  · rcases q with q | q | q
    · exact .inl q
    · exact .inr (.inl (by omega))
    · exact .inr (.inl (by omega))
  · rcases q with q | q | q
    · exact .inl q
    · by_cases e : r = at_ + i
      · exact .inr (.inr (by omega))
      · exact .inr (.inl (by omega))
    · omega
/-- a place that is taken -/
theorem OwP.taken (h : OwP c at_ f a i j ff kvs) (hj : j < a) (hc : f + j < c) (hs : (valV kvs (k2 ((at_ : Int) + (i : Nat)) ((f : Int) + (j : Nat)))).isSome = true) : at_ < ff.getD (f + j) 0 ∧ i = 0 := by
  rw [show ((at_ : Int) + (i : Nat)) = ((at_ + i : Nat) : Int) by omega, show ((f : Int) + (j : Nat)) = ((f + j : Nat) : Int) by omega, h.2.1 (at_ + i) (f + j) hc (by omega)] at hs
  have hs := of_decide_eq_true hs
  have h1 : at_ + i < ff.getD (f + j) 0 := by omega
  refine ⟨by omega, Classical.byContradiction fun q => ?_⟩
  have := (h.2.2 j (.inr ⟨by omega, hj⟩)).2
  omega
theorem OwP.put (h : OwP c at_ f a i j ff kvs) (hj : j < a) (hc : f + j < c) (hs : (valV kvs (k2 ((at_ : Int) + (i : Nat)) ((f : Int) + (j : Nat)))).isSome = false) (v : V) :
    OwP c at_ f a i (j + 1) ff (putK kvs (k2 ((at_ : Int) + (i : Nat)) ((f : Int) + (j : Nat))) v) := by
  have e1 : ((at_ : Int) + (i : Nat)) = ((at_ + i : Nat) : Int) := by omega
  have e2 : ((f : Int) + (j : Nat)) = ((f + j : Nat) : Int) := by omega
  rw [e1, e2] at hs ⊢
  have hs2 := h.2.1 (at_ + i) (f + j) hc (by omega)
  rw [hs] at hs2
  have hs2 := of_decide_eq_false hs2.symm
  refine ⟨fun p hp => ?_, fun r c' hc' hr => ?_, fun k hk => ?_⟩
  · rcases putK_key hp with e | ⟨q, hq, e⟩
    · exact ⟨at_ + i, f + j, e, hc⟩
    · rw [e]
      exact h.1 q hq
  · rw [isSome_put, h.2.1 r c' hc' hr]
    by_cases e : r = at_ + i ∧ c' = f + j
    · obtain ⟨rfl, rfl⟩ := e
      rw [decide_eq_true rfl, Bool.true_or]
      exact (decide_eq_true (.inr (.inr (by omega)))).symm
    · rw [decide_eq_false (fun q => e (by have := k2_inj.mp q; omega)), Bool.false_or]
      refine decide_eq_decide.mpr ⟨fun q => ?_, fun q => ?_⟩
      · rcases q with q | q | q
        · exact .inl q
        · exact .inr (.inl q)
        · exact .inr (.inr (by omega))
      · rcases q with q | q | q
        · exact .inl q
        · exact .inr (.inl q)
        · exact .inr (.inr (by omega))
  · by_cases hk2 : k = j
    · subst hk2
      refine ⟨hc, ?_⟩
      by_cases hi : i = 0
      · subst hi
        omega
      · exact (h.2.2 k (.inr ⟨by omega, hj⟩)).2
    · exact h.2.2 k (by omega)
theorem mem_free {x row : Nat} : x ∈ freeC ff row ↔ x < ff.length ∧ ff.getD x 0 ≤ row := by
  unfold freeC
  rw [List.mem_filter, List.mem_range]
  exact ⟨fun h => ⟨h.1, of_decide_eq_true h.2⟩, fun h => ⟨h.1, decide_eq_true h.2⟩⟩
theorem cell_none {d fr} (hm : m ≠ 0) (hf : freeC ff (m - 1) = f :: fr) (hj : j < a) (h : ¬ f + j ∈ freeC ff (m - 1)) : cellG m ff d a = none := by
  unfold cellG
  rw [if_neg hm, hf]
  show (if (List.range a).all (fun k => decide (f + k ∈ f :: fr)) = true then _ else none) = none
  rw [if_neg fun q => ?_]
  rw [List.all_eq_true] at q
  have := of_decide_eq_true (q j (List.mem_range.mpr hj))
  rw [hf] at h
  exact h this
theorem OwP.cell {d fr} (h : OwP c (m - 1) f a d 0 ff kvs) (hm : m ≠ 0) (hl : ff.length = c) (hf : freeC ff (m - 1) = f :: fr) (hd : 1 ≤ d) : cellG m ff d a = some (f, setW ff f (m - 1 + d) a) ∧ OwI c m (setW ff f (m - 1 + d) a) kvs := by
  have all_ : ∀ k, k < a → f + k ∈ freeC ff (m - 1) := fun k hk => by
    have := h.2.2 k (.inr ⟨hd, hk⟩)
    exact mem_free.mpr ⟨by omega, this.2⟩
  have hfc : f < ff.length := (mem_free.mp (by rw [hf]; exact List.mem_cons_self : f ∈ freeC ff (m - 1))).1
  have hfa : f + a ≤ ff.length := by
    by_cases q : a = 0
    · omega
    · have := (mem_free.mp (all_ (a - 1) (by omega))).1
      omega
  refine ⟨?_, h.1, fun r c' hc hr => ?_⟩
  · unfold cellG
    rw [if_neg hm, hf]
    show (if (List.range a).all (fun k => decide (f + k ∈ f :: fr)) = true then _ else none) = _
    rw [if_pos ?_]
    rw [List.all_eq_true]
    intro k hk
    have := all_ k (List.mem_range.mp hk)
    rw [hf] at this
    exact decide_eq_true this
  · rw [h.2.1 r c' hc (by omega), setW_get _ _ _ _ _ hfa]
    refine decide_eq_decide.mpr ⟨fun q => ?_, fun q => ?_⟩
    · by_cases g : f ≤ c' ∧ c' < f + a
      · rw [if_pos g]
        have := (h.2.2 (c' - f) (.inr ⟨hd, by omega⟩)).2
        rw [show f + (c' - f) = c' by omega] at this
        omega
      · rw [if_neg g]
        omega
    · by_cases g : f ≤ c' ∧ c' < f + a
      · rw [if_pos g] at q
        exact .inr (.inl (by omega))
      · rw [if_neg g] at q
        exact .inl q
end
end Tk

set_option Elab.async false
set_option linter.all false
set_option maxRecDepth 100000
set_option maxHeartbeats 4000000
namespace Tk
open PySem PySem.Spec PyProof.Rows L2 Lay
open TL (tl ext_tl len_tl tl_append tl_mk mk_tl)
local macro_rules | `(tactic| walk_at "if") => `(tactic| refine ite2 (fun hc => ?_) (fun hc => ?_))
local macro_rules | `(tactic| walk_at "lk") => `(tactic| first | exact upd_same | assumption)
local macro_rules | `(tactic| walk_at "st") => `(tactic| first
  | with_reducible refine r_var rfl ?_ | with_reducible refine r_c ?_ | with_reducible refine r_op ?_ | with_reducible refine r_cons ?_ | with_reducible refine r_nil ?_ | with_reducible refine r_vals ?_
  | with_reducible refine r_cb ?_ | with_reducible refine r_tup ?_ | with_reducible refine r_lst ?_ | with_reducible refine r_call ?_ | with_reducible refine r_test ?_
  | with_reducible refine r_if ?_ | with_reducible refine r_not ?_ | with_reducible refine r_bm ?_ | with_reducible refine r_sl ?_ | with_reducible refine r_np ?_ | with_reducible refine r_part ?_
  | with_reducible refine r_seq ?_ | with_reducible refine r_asg ?_ | with_reducible refine r_name ?_ | with_reducible refine r_ifs ?_ | with_reducible refine r_ret ?_ | with_reducible refine r_next ?_ | with_reducible refine r_par ?_ | with_reducible refine r_par3 ?_ | with_reducible refine r_brk ?_ | with_reducible refine r_cnt ?_ | with_reducible refine r_sub ?_
  | with_reducible refine r_andT ?_ | with_reducible refine r_orT ?_ | with_reducible refine r_notT ?_ | with_reducible refine r_or ?_ | with_reducible refine r_and ?_ | with_reducible refine r_tB ?_ | with_reducible refine r_drop ?_ | with_reducible refine r_callN ?_ | with_reducible refine r_chain ?_
  | with_reducible refine r_for ?_ | with_reducible refine r_lc ?_ | with_reducible refine r_iseq ?_ | with_reducible refine r_rng1 ?_ | with_reducible refine r_enum ?_ | with_reducible refine r_yes ?_ | with_reducible refine r_tru ?_ | with_reducible refine r_gtup ?_ | with_reducible refine r_gcons ?_ | with_reducible refine r_gnil ?_
  | with_reducible refine b_add ?_ | with_reducible refine b_sub ?_ | (with_reducible refine b_mul (by unfold CMul; omega) ?_) | (with_reducible refine b_mod (by omega) ?_) | (with_reducible refine b_fdiv (by unfold CDiv; omega) ?_)
  | with_reducible refine c_lt ?_ | with_reducible refine c_le ?_ | with_reducible refine c_gt ?_ | with_reducible refine c_ge ?_ | with_reducible refine c_isN ?_ | with_reducible refine c_notN ?_ | with_reducible refine c_isB ?_ | with_reducible refine c_eq rfl ?_ | with_reducible refine c_ne rfl ?_
  | with_reducible refine c_insign ?_ | with_reducible refine k_int ?_ | with_reducible refine k_intb ?_ | with_reducible refine k_max ?_ | with_reducible refine k_min ?_
  | with_reducible refine ⟨_, rfl, ?_⟩
  | with_reducible refine ex_par ?_
  | with_reducible refine r_back ?_
  | with_reducible refine ex_par3 ?_
  | with_reducible refine ty_s ?_
  | with_reducible refine tru_b ?_
  | with_reducible refine iteT ?_ | with_reducible refine iteF ?_ | with_reducible refine itnT ?_ | with_reducible refine itnF ?_)
local macro_rules | `(tactic| walk_at "go") => `(tactic| repeat walk_at "st")
local macro_rules | `(tactic| walk_at "cl") => `(tactic| try dsimp only [cxOf, Cx.nox, Cx.wish])
/-! ### _law_laid -/
local macro_rules | `(tactic| walk_at "lf") => `(tactic| repeat (first | exact lf_nil | exact lf_eq | refine lf_ne (by decide +kernel) ?_))
abbrev s__law_laid : Stmt := topS 57
theorem sc__law_laid : FnScope ["_law_strip", "_law_columns", "_law_grid", "_law_owner", "_law_number", "_law_part", "_law_deep", "_law_at", "_law_c", "_law_free", "_law_r", "_law_place"] ["_law_strip", "_law_columns"] (defScope s__law_laid) := ⟨rfl, rfl, rfl, by decide +kernel, rfl, by decide +kernel, by decide +kernel⟩
section
variable {H : Hp} {Q : VK} {σ : L2.St}
theorem r_dnewT (q : ∀ p, H p = none → Q (.ref p) (upd H p (.dT []))) : tDNewT σ H Q := q
theorem r_rng2 {ta : TA} {R : It → Hp → Prop} (q : ta σ H fun vs H1 => ∃ i j : Int, vs = [.int i, .int j] ∧ (-(2 ^ 62) ≤ i ∧ i < 2 ^ 62 ∧ -(2 ^ 62) ≤ j ∧ j < 2 ^ 62) ∧ R (Itr i (j - i).toNat) H1) : iRng2 ta σ H R := q
theorem r_keys {td : TE} {R : It → Hp → Prop} (q : td σ H fun x H1 => ∃ d o, x = .ref d ∧ ((∃ kvs, H1 d = some (.frz o (.dK kvs)) ∧ R (Itk d o kvs) H1) ∨ ∃ kvs, H1 d = some (.frz o (.dT kvs)) ∧ R (Itkt d o kvs) H1)) : iKeys td σ H R := q
end
local macro_rules | `(tactic| walk_at "st") => `(tactic| first | with_reducible refine r_un ?_ | with_reducible refine u_neg ?_ | with_reducible refine r_bm0 ?_ | with_reducible refine r_dnewT ?_ | with_reducible refine r_rng2 ?_ | with_reducible refine r_keys ?_)
section
variable {P : Program} {w : World} {K : PySem.W.Frag} {mg : Str → Option Value} {base : Heap}
theorem LnS.r {H0 H : Hp} {Ln g l i as ls} (t : LnS K H0 H Ln g l i as ls) (hi : i ≤ 100) : LnR K H Ln ls := ⟨as, t.at_, t.len, fun j a ds ea ed => by
  obtain ⟨us, e1, e2, e3, e4⟩ := t.some_ j a ds ea ed
  exact ⟨us, e1, e2, e3, by omega⟩⟩
theorem LnS.via {H0 H H' : Hp} {Ln g l p i as ls} (t : LnS K H0 H Ln g l i as ls) (tk : TK H H') (b : But p H H') (nL : Ln ≠ p) (na : ∀ a ∈ as, a ≠ p) : LnS K H0 H' Ln g l i as ls := by
  refine t.keep tk (fun a ha => ?_) (Nat.le_refl _)
  rcases ha with rfl | ha
  · rw [t.at_]
    exact b _ _ nL t.at_
  · obtain ⟨j, hj, ej⟩ := List.mem_iff_getElem.mp ha
    have hjl : j < ls.length := by rw [← t.len]; exact hj
    obtain ⟨us, f1, _⟩ := t.some_ j a ls[j] (by rw [List.getElem?_eq_getElem hj, ej]) (List.getElem?_eq_getElem hjl)
    rw [f1]
    exact b _ _ (na a ha) f1
theorem LnS.dp {H0 H : Hp} {Ln g l i as ls} (t : LnS K H0 H Ln g l i as ls) : Dp K H (.ref Ln) (.list (ls.map PyData.list)) := by
  refine .lst (SqL.of t.at_) ?_
  have key : ∀ (as : List Addr) (ls : List (List PyData)), as.length = ls.length → (∀ (j : Nat) a ds, as[j]? = some a → ls[j]? = some ds → ∃ us, H a = some (.lst us) ∧ DpAll K H us ds) → DpAll K H (as.map V.ref) (ls.map PyData.list) := by
    intro as
    induction as with
    | nil =>
      intro ls hl _
      cases ls with
      | nil => exact .nil
      | cons d r => simp at hl
    | cons a r ih =>
      intro ls hl h
      cases ls with
      | nil => simp at hl
      | cons d r2 =>
        obtain ⟨us, e1, e2⟩ := h 0 a d rfl rfl
        exact .cons (.lst (SqL.of e1) e2) (ih r2 (by simpa using hl) fun j a ds ea ed => h (j + 1) a ds ea ed)
  exact key as ls t.len fun j a ds ea ed => by
    obtain ⟨us, e1, e2, _⟩ := t.some_ j a ds ea ed
    exact ⟨us, e1, e2⟩
theorem ShL.sh {ls : List (List PyData)} (h : ShL ls) : Shp 6 (.list (ls.map PyData.list)) := by
  refine ShA.lst (ShA.of fun d hd => ?_)
  obtain ⟨ds, hds, rfl⟩ := List.mem_map.mp hd
  exact ShA.lst (h ds hds)
theorem eqv_nil {ls : List (List PyData)} : PyData.eqv (.list (ls.map PyData.list)) (.list []) = ls.isEmpty := by
  cases ls <;> simp [PyData.eqv, PyData.eqvAll]
theorem eqv_nilA {ds : List PyData} : PyData.eqv (.list ds) (.list []) = ds.isEmpty := by
  cases ds <;> simp [PyData.eqv, PyData.eqvAll]
theorem eqv_hd {a b : PyData} {r t : List PyData} (h : PyData.eqv a b = false) : PyData.eqv (.tuple (a :: r)) (.tuple (b :: t)) = false := by simp [PyData.eqv, PyData.eqvAll, h]
theorem isW.ok {z : Str} (h : isW z) : PyData.strOk z = true := by
  have h2 : ofL sWord.cps.toList 12 (tl z) = true := h
  obtain ⟨_, _, h5⟩ := ofL_iff.mp h2
  unfold PyData.strOk
  rw [Array.all_eq_true_iff_forall_mem]
  intro c hc
  exact decide_eq_true (word_signs c (h5 c (Array.mem_toList_iff.mpr hc))).2.2
theorem sh_cell {d a : Nat} {zs : List Str} (h : ∀ z ∈ zs, PyData.strOk z = true) : ShA 2 ([Pa.i d, Pa.i a, Pa.t zs].map paD) := ShA.cons ((Shp.int _).mono (by omega)) (ShA.cons ((Shp.int _).mono (by omega)) (ShA.cons (ShA.tup (shA_strs h)) .nil))
theorem sh_w1 (z : Str) (h : PyData.strOk z = true) : Shp 2 (.tuple [.str z]) := ShA.tup (ShA.cons (Shp.str h) .nil)
theorem dpA_ints {H : Hp} : ∀ ns : List Int, DpAll K H (ns.map V.int) (ns.map PyData.int)
  | [] => .nil
  | n :: r => .cons (.int n) (dpA_ints r)
theorem shA_ints (ns : List Int) : ShA 1 (ns.map PyData.int) := ShA.of fun d hd => by
  obtain ⟨n, _, rfl⟩ := List.mem_map.mp hd
  exact Shp.int n
theorem iteTb {b : Bool} {A B : Prop} (h : b = true) (q : A) : if b = true then A else B := by
  rw [if_pos h]
  exact q
theorem iteFb {b : Bool} {A B : Prop} (h : b = false) (q : B) : if b = true then A else B := by
  rw [if_neg (by rw [h]; decide)]
  exact q
theorem ok__law_laid (F : Fn0 K mg "_law_laid" s__law_laid ["_law_strip", "_law_columns"]) (m : Md mg) : FnG P w K mg base 1 "_law_laid" ["_law_strip", "_law_columns"] (spLaid K) := by
  refine F.ok sc__law_laid (fun vs H Q E h => ?_) (fun a cdv A outer s H vs Q E L hr h => ?_)
  · obtain ⟨s, c, rows, ws, rfl, _⟩ := h
    rfl
  have nd := sc__law_laid.nd
  refine ⟨_, (pss_cons (ps_asg (pe_tup (pa_cons (pe_lst pa_nil) (pa_cons pe_dnewT pa_nil))) (pg_tupL (n := 2) L (pgs_cons (pg_name (i := 2) nd rfl (.inr rfl)) (pgs_cons (pg_name (i := 3) nd rfl (.inr rfl)) pgs_nil)) (by rfl) (by rfl))) (pss_cons (ps_for PassesOwn.never rfl (pi_range2 (by rfl) m.range_ (pa_cons pe_int (pa_cons (pe_callB (oc L) (by rfl) m.len_ bt_len (pa_cons (pv 0) pa_nil)) pa_nil))) (pg_name (i := 4) nd rfl (.inl rfl)) (pss_cons (ps_set (i := 5) nd rfl (.inl rfl) (pe_ix (oi L) (pv 0) (pv 4) (fun _ _ => rfl))) (pss_one (ps_if (pt_cmpR (op_ L) (pv 5) (pe_tup (pa_cons pe_str pa_nil)) (nomark _)) (pss_cons (ps_if (pt_cmpR (op_ L) (pe_callB (oc L) (by rfl) m.len_ bt_len (pa_cons (pv 2) pa_nil)) pe_int (nomark _)) (pss_one (ps_ret (pe_tup (pa_cons (pv 4) (pa_cons (pv 2) pa_nil))))) pss_nil) (pss_one (ps_expr (pe_bmL L PySem.F.plainAttrs_list PySem.F.slot_list_append PySem.F.type_list_append (pv 2) (pa_cons (pe_lst pa_nil) pa_nil))))) (pss_one (ps_if (pt_cmpR (op_ L) (pv 5) (pe_tup (pa_cons pe_str pa_nil)) (nomark _)) (pss_cons (ps_lock (ps_setLc (i := 6) (own := [("_law_place", 11)]) rfl nd rfl rfl (sw_true rfl rfl rfl (by decide +kernel)) (pi_keys (pv 3)) (blkOk_by (own := [("_law_place", 11)]) (N := ["_law_strip", "_law_columns", "_law_grid", "_law_owner", "_law_number", "_law_part", "_law_deep", "_law_at", "_law_c", "_law_free", "_law_r", "_law_place"]) (sc := defScope s__law_laid) (by decide +kernel)) (fun _ _ _ _ _ => (pg_name (i := 11) nd rfl (.inl rfl))) (fun _ _ _ _ _ => inT L.b (pts_one (pt_cmpR (op_ L.b) (pe_ix (oi L.b) (pv 11) pe_int (fun _ _ => rfl)) (pe_callB (oc L.b) (by rfl) m.len_ bt_len (pa_cons (pv 2) pa_nil)) (nomark _)))) (fun _ _ _ _ _ => inE L.b (pe_ix (oi L.b) (pv 11) pe_int (fun _ _ => rfl))))) (pss_one (ps_ret (pe_tup (pa_cons (pe_ix (oi L) (pe_lst (pa_cons pe_non (pa_cons (pv 4) pa_nil))) (pe_callTy (oc L) (by rfl) m.int_ bt_int (pa_cons (pe_orL L (pe_cmpR (op_ L) (pv 2) (pe_lst pa_nil) (nomark _)) (pe_one (pe_cmpR (op_ L) (pv 6) (pe_lst pa_nil) (nomark _)))) pa_nil)) (fun _ _ => rfl)) (pa_cons (pv 2) pa_nil)))))) (pss_cons (ps_set (i := 7) nd rfl (.inr rfl) (pe_op (ob L) (pe_callB (oc L) (by rfl) m.len_ bt_len (pa_cons (pv 2) pa_nil)) pe_int)) (pss_cons (ps_setLc (i := 9) (own := [("_law_c", 8)]) rfl nd rfl rfl (sw_true rfl rfl rfl (by decide +kernel)) (pi_range1 (by rfl) m.range_ (pa_cons (pv 1) pa_nil)) (blkOk_by (own := [("_law_c", 8)]) (N := ["_law_strip", "_law_columns", "_law_grid", "_law_owner", "_law_number", "_law_part", "_law_deep", "_law_at", "_law_c", "_law_free", "_law_r", "_law_place"]) (sc := defScope s__law_laid) (by decide +kernel)) (fun _ _ _ _ _ => (pg_name (i := 8) nd rfl (.inl rfl))) (fun _ _ _ _ _ => inT L.b (pts_one (pt_cmpR (op_ L.b) (pe_tup (pa_cons (pv 7) (pa_cons (pv 8) pa_nil))) (pv 3) rfl))) (fun _ _ _ _ _ => inE L.b (pv 8))) (pss_cons (ps_if (PW.pt (pw_or (pt_cmpR (op_ L) (pv 2) (pe_lst pa_nil) (nomark _)) (pw_or1 (pt_cmpR (op_ L) (pv 9) (pe_lst pa_nil) (nomark _))))) (pss_one (ps_ret (pe_tup (pa_cons (pv 4) (pa_cons (pv 2) pa_nil))))) pss_nil) (pss_cons (ps_for PassesOwn.never rfl (pi_range2 (by rfl) m.range_ (pa_cons (pv 7) (pa_cons (pe_op (ob L) (pv 7) (pe_ix (oi L) (pv 5) pe_int (fun _ _ => rfl))) pa_nil))) (pg_name (i := 10) nd rfl (.inl rfl)) (pss_one (ps_for PassesOwn.never rfl (pi_range2 (by rfl) m.range_ (pa_cons (pe_ix (oi L) (pv 9) pe_int (fun _ _ => rfl)) (pa_cons (pe_op (ob L) (pe_ix (oi L) (pv 9) pe_int (fun _ _ => rfl)) (pe_ix (oi L) (pv 5) pe_int (fun _ _ => rfl))) pa_nil))) (pg_name (i := 8) nd rfl (.inl rfl)) (pss_cons (ps_if (PW.pt (pw_or (pt_cmpR (op_ L) (pv 8) (pv 1) (nomark _)) (pw_or1 (pt_cmpR (op_ L) (pe_tup (pa_cons (pv 10) (pa_cons (pv 8) pa_nil))) (pv 3) rfl)))) (pss_one (ps_ret (pe_tup (pa_cons (pv 4) (pa_cons (pv 2) pa_nil))))) pss_nil) (pss_one (ps_asg (pv 4) (pg_sub (pv 3) (pe_tup (pa_cons (pv 10) (pa_cons (pv 8) pa_nil))) (ose L)))))))) (pss_one (ps_expr (pe_bmL L PySem.F.plainAttrs_list PySem.F.slot_list_append PySem.F.type_list_append (pe_ix (oi L) (pv 2) (pv 7) (fun _ _ => rfl)) (pa_cons (pe_op (ob L) (pe_tup (pa_cons (pe_ix (oi L) (pv 9) pe_int (fun _ _ => rfl)) pa_nil)) (pe_slice (osl L) (pv 5) (po_some pe_int) po_none)) pa_nil)))))))))))))) (pss_one (ps_ret (pe_tup (pa_cons pe_non (pa_cons (pv 2) pa_nil))))))), ?_⟩
  obtain ⟨s, c, rows, ws, rfl, hc1, hc4, hs, sr, hst, h60, q⟩ := h
  refine r_seqH fun nx0 h0 => ?_
  walk_at "go"
  refine ⟨sz1000 (by show 0 ≤ 1000; decide), fun Ln hLn => ?_⟩
  walk_at "go"
  intro od hod
  walk_at "go"
  refine ⟨sz1000 (by show 2 ≤ 1000; decide), fun tp htp => ?_⟩
  walk_at "go"
  refine ⟨tp, _, rfl, SqT.of upd_same, rfl, ?_⟩
  walk_at "go"
  refine h0 _ _ ?_
  clear h0
  have s1 : Same H (upd H Ln (.lst [])) := Same.new hLn
  have e1 : (upd H Ln (.lst [])) Ln = some (.lst []) := upd_same
  generalize upd H Ln (.lst []) = H1 at s1 e1 hod htp ⊢
  have s2 : Same H1 (upd H1 od (.dT [])) := Same.new hod
  have e2 : (upd H1 od (.dT [])) od = some (.dT []) := upd_same
  generalize upd H1 od (.dT []) = H2 at s2 e2 htp ⊢
  have s3 : Same H2 (upd H2 tp (.tup [.ref Ln, .ref od])) := Same.new htp
  generalize upd H2 tp (.tup [.ref Ln, .ref od]) = H3 at s3 ⊢
  have s03 : Same H H3 := (s1.trans s2).trans s3
  have hod0 : H od = none := free_of s1 hod
  have nLo : Ln ≠ od := fun e => by rw [← e, e1] at hod; cases hod
  have eL3 := s3 _ _ (s2 _ _ e1)
  have eo3 := s3 _ _ e2
  have ln0 : LnS K H H3 Ln od od 0 [] [] := ⟨eL3, rfl, .nil, (fun _ h => nomatch h), (fun j _ _ h _ => by simp at h), Nat.le_refl _⟩
  clear s3 s2 s1 e1 e2 htp hod
  obtain ⟨body, hws, hbody⟩ := hst
  have hrl := sr.1
  have hwl : ws.length = body.length + 2 := by rw [hws]; simp
  have fin : ∀ (H5 : Hp) (o : V) (ls : List (List PyData)) (as : List Addr) (i : Nat), Same H H5 → LnS K H H5 Ln od od i as ls → i ≤ 100 → (o, ls) = laidM 1 0 (List.replicate c 0) [] (ws.drop 1) → ShL ls → ls.length ≤ 8 → ∀ t, H5 t = none → Q (.ref t) (upd H5 t (.tup [o, .ref Ln])) :=
    fun H5 o ls as i s5 ln hi el sh hl t ht => q t Ln o ls _ (s5.trans (Same.new ht)) el upd_same ((ln.same (Same.new ht) (Nat.le_refl _)).r hi) sh hl
  refine r_seqH fun nx0 h0 => ?_
  walk_at "go"
  refine k_lenl (.inl (SqL.of (s03 _ _ hs))) ?_
  walk_at "go"
  refine ⟨_, _, rfl, ⟨by omega, by omega, by omega, by omega⟩, ?_⟩
  rw [show ((rows.length : Int) - 1).toNat = body.length + 1 by omega]
  refine fo_it walk_range (fun i σ H' => ∃ mm ff as ls kvs v4 v5 v6 v7 v8 v9 v10 v11, σ = [some (.ref s), some (.int (c : Nat)), some (.ref Ln), some (.ref od), v4, v5, v6, v7, v8, v9, v10, v11] ∧ Same H H' ∧ mm ≤ 8 ∧ ff.length = c ∧ ls.length = mm ∧ LnS K H H' Ln od od i as ls ∧ H' od = some (.dT kvs) ∧ OwI c mm ff kvs ∧ kvs.length ≤ 16 * i ∧ ShL ls ∧
      laidM (i + 1) mm ff ls (ws.drop (i + 1)) = laidM 1 0 (List.replicate c 0) [] (ws.drop 1))
    ⟨0, List.replicate c 0, [], [], [], _, _, _, _, _, _, _, _, rfl, s03, by omega, List.length_replicate, rfl, ln0, eo3, OwI.nil c, Nat.le_refl _, (fun _ h => nomatch h), rfl⟩ (fun _ _ _ _ _ => True.intro) (fun i x σ H' H'' hi hP hY => ?_) (fun σ H' hP => ?_)
  rotate_left
  · obtain ⟨mm, ff, as, ls, kvs, v4, v5, v6, v7, v8, v9, v10, v11, rfl, sm, hm8, hfl, hlm, ln, eo, ow, hkl, sh, hM⟩ := hP
    rw [List.drop_eq_nil_of_le (by omega)] at hM
    refine h0 _ _ ?_
    walk_at "go"
    refine ⟨sz1000 (by show 2 ≤ 1000; decide), fun t ht => ?_⟩
    exact fin H' .non ls as _ sm ln (by omega) hM sh (by omega) t ht
  clear h0
  obtain ⟨mm, ff, as, ls, kvs, v4, v5, v6, v7, v8, v9, v10, v11, rfl, sm, hm8, hfl, hlm, ln, eo, ow, hkl, sh, hM⟩ := hP
  obtain ⟨rfl, hx⟩ := hY
  have hx : x = .int ((i + 1 : Nat) : Int) := by
    rw [hx]
    exact congrArg V.int (by omega)
  subst hx
  have hi1 : i + 1 < ws.length := by omega
  have hi2 : i + 1 < rows.length := by omega
  rw [List.drop_eq_getElem_cons hi1] at hM
  obtain ⟨hrz, hrg⟩ := sr.2 (i + 1) rows[i + 1] ws[i + 1] (List.getElem?_eq_getElem hi2) (List.getElem?_eq_getElem hi1)
  have hkind : isB ws[i + 1].2 ∨ ws[i + 1] = closeW := by
    have e : ws[i + 1] = (body ++ [closeW])[i]'(by simp; omega) := by simp [hws]
    by_cases hb : i < body.length
    · rw [e, List.getElem_append_left hb]
      exact .inl (hbody _ (List.getElem_mem hb))
    · rw [e, List.getElem_append_right (by omega)]
      exact .inr (by simp)
  have elen : ((as.map V.ref).length : Int) = (mm : Int) := by rw [List.length_map, ln.len, hlm]
  obtain ⟨ra, vs, erow, hSx, hvs⟩ := hrz
  have hSx := Same.sqt sm hSx
  have hdx : Dp K H'' (.ref ra) (.tuple (.str ws[i + 1].1.1 :: ws[i + 1].1.2.map paD)) := .tup hSx (.cons (.str _) (paVs.dp (hvs.tk (Same.tk sm))))
  have hvs := hvs.tk (Same.tk sm)
  have hrow : atI rows ((i + 1 : Nat) : Int) = some (.ref ra) := atI_nat (j := i + 1) (by rw [List.getElem?_eq_getElem hi2, erow])
  refine r_seqH fun nx1 h1 => ?_
  walk_at "go"
  refine i_lst (SqL.of (sm _ _ hs)) hrow ?_
  walk_at "go"
  refine h1 _ _ ?_
  clear h1
  generalize ws[i + 1] = wi at *
  obtain ⟨z, k⟩ := wi
  have hk : k = .row ∨ k = .close ∨ ∃ d a, k = .cell d a := by
    rcases hkind with hk | hk
    · cases k with
      | row => exact .inl rfl
      | cell d a => exact .inr (.inr ⟨d, a, rfl⟩)
      | _ => exact hk.elim
    · cases hk
      exact .inr (.inl rfl)
  clear hkind erow sr
  rcases hk with rfl | rfl | ⟨d, a, rfl⟩
  · -- row
    cases hrg
    walk_at "go"
    refine ⟨sz1000 (by show 1 ≤ 1000; decide), fun t ht => ?_⟩
    have s4 : Same H'' (upd H'' t (.tup [V.str "row"])) := Same.new ht
    refine c_eqP (n := 2) (m := 2) (TK.dp (Same.tk s4) _ _ rfl hdx) (.tup (SqT.of upd_same) (.cons (.str _) .nil)) (sh_w1 _ (by decide +kernel)) (sh_w1 _ (by decide +kernel)) (by omega) (by omega) ?_
    generalize upd H'' t (.tup [V.str "row"]) = H4 at s4 ⊢
    have ln4 := ln.same s4 (Nat.le_refl _)
    walk_at "go"
    refine iteTb (show PyData.eqv (.tuple [.str "row"]) (.tuple [.str "row"]) = true by decide +kernel) ?_
    refine r_seqH fun nx1 h1 => ?_
    walk_at "go"
    refine k_lenl (.inl (SqL.of ln4.at_)) ?_
    walk_at "go"
    have hM : (if mm = 8 then (V.int ((i + 1 : Nat) : Int), ls) else laidM (i + 1 + 1) (mm + 1) ff (ls ++ [[]]) (ws.drop (i + 1 + 1))) = _ := hM
    refine ite2 (fun h => ?_) (fun h => ?_)
    · have h8 : mm = 8 := by
        have := of_decide_eq_true h
        injection this with this
        omega
      rw [if_pos h8] at hM
      walk_at "go"
      refine ⟨sz1000 (by show 2 ≤ 1000; decide), fun t2 ht2 => ?_⟩
      exact fin H4 _ ls as _ (sm.trans s4) ln4 (by omega) hM sh (by omega) t2 ht2
    · have h8 : mm ≠ 8 := fun e => h (decide_eq_true (by rw [elen, e]; rfl))
      rw [if_neg h8] at hM
      walk_at "go"
      refine h1 _ _ ?_
      clear h1
      walk_at "go"
      refine ty_l (SqL.of ln4.at_) ?_
      walk_at "go"
      refine ⟨sz1000 (by show 0 ≤ 1000; decide), fun e he => ?_⟩
      have neL : Ln ≠ e := fun z => by rw [← z, ln4.at_] at he; cases he
      refine m_app (xs := as.map V.ref) (by rw [upd_ne neL]; exact ln4.at_) (by rw [List.length_map, sizeLine_eq]; have := ln4.le; omega) ?_
      have eo4 := s4 _ _ eo
      have he0 := free_of (sm.trans s4) he
      have ln5 := ln4.row he (by rw [eo4]; simp) (by rw [eo4]; simp) he0
      have s5 : Same H4 (upd H4 e (.lst [])) := Same.new he
      have hLn0 : H Ln = none := hLn
      refine ⟨mm + 1, ff, as ++ [e], ls ++ [[]], kvs, _, _, _, _, _, _, _, _, rfl, Same.via ((sm.trans s4).trans s5) hLn0 upd_but, by omega, hfl, by rw [List.length_append, hlm]; rfl, ln5, ?_, ow.up, by omega, fun ds hds => ?_, hM⟩
      · rw [upd_ne nLo.symm]
        exact s5 _ _ eo4
      · rcases List.mem_append.mp hds with h | h
        · exact sh ds h
        · rw [List.mem_singleton.mp h]
          exact .nil
  · -- close
    cases hrg
    walk_at "go"
    refine ⟨sz1000 (by show 1 ≤ 1000; decide), fun t ht => ?_⟩
    have s4 : Same H'' (upd H'' t (.tup [V.str "row"])) := Same.new ht
    have hdx4 := TK.dp (Same.tk s4) _ _ rfl hdx
    refine c_eqP (n := 2) (m := 2) hdx4 (.tup (SqT.of upd_same) (.cons (.str _) .nil)) (sh_w1 _ (by decide +kernel)) (sh_w1 _ (by decide +kernel)) (by omega) (by omega) ?_
    generalize upd H'' t (.tup [V.str "row"]) = H4 at s4 hdx4 ⊢
    walk_at "go"
    refine iteFb (show PyData.eqv (.tuple [.str "close"]) (.tuple [.str "row"]) = false by decide +kernel) ?_
    walk_at "go"
    refine ⟨sz1000 (by show 1 ≤ 1000; decide), fun t ht => ?_⟩
    have s5 : Same H4 (upd H4 t (.tup [V.str "close"])) := Same.new ht
    refine c_eqP (n := 2) (m := 2) (TK.dp (Same.tk s5) _ _ rfl hdx4) (.tup (SqT.of upd_same) (.cons (.str _) .nil)) (sh_w1 _ (by decide +kernel)) (sh_w1 _ (by decide +kernel)) (by omega) (by omega) ?_
    generalize upd H4 t (.tup [V.str "close"]) = H5 at s5 ⊢
    have s45 := s4.trans s5
    have ln5 := ln.same s45 (Nat.le_refl _)
    have eo5 := s45 _ _ eo
    walk_at "go"
    refine iteTb (show PyData.eqv (.tuple [.str "close"]) (.tuple [.str "close"]) = true by decide +kernel) ?_
    have hM : (if closeG mm ff = true then V.non else V.int ((i + 1 : Nat) : Int), ls) = _ := hM
    refine r_seqH fun nx1 h1 => ?_
    refine ⟨od, _, eo5, True.intro, fun ob => ?_⟩
    have lockS : ∀ H6, Same (upd H5 od (.frz ob (.dT kvs))) H6 → Same H5 (upd H6 od (.dT kvs)) := fun H6 s6 a u e => by
      by_cases n : a = od
      · subst n
        rw [eo5] at e
        cases e
        exact upd_same
      · rw [upd_ne n]
        exact s6 _ _ (by rw [upd_ne n]; exact e)
    have eLf : (upd H5 od (.frz ob (.dT kvs))) Ln = some (.lst (as.map V.ref)) := by
      rw [upd_ne nLo]
      exact ln5.at_
    have eof : (upd H5 od (.frz ob (.dT kvs))) od = some (.frz ob (.dT kvs)) := upd_same
    generalize upd H5 od (.frz ob (.dT kvs)) = HF at lockS eLf eof ⊢
    walk_at "go"
    refine ⟨od, ob, rfl, .inr ⟨kvs, eof, fun D hD => ?_⟩⟩
    refine lc_pureL kvs ([], .non) walk_keysT (fun p => decide ((mm : Int) ≤ rowOf p.1)) (fun p => .int (rowOf p.1)) (by rw [sizeLine_eq]; omega) hD (fun H' s => s _ _ eof) (fun j p x H6 H7 hj s6 hy C1 C0 g1 g0 => ?_) (fun H6 s6 hD6 => ?_)
    · obtain ⟨rfl, k, v, q2, ek, rfl, eq2⟩ := hy
      rw [hj] at ek
      cases ek
      obtain ⟨r, c', ek, _⟩ := ow.1 _ (List.mem_of_getElem? hj)
      have ek : k = k2 r c' := ek
      subst ek
      have eq2 : H7 q2 = some (.tup [V.int (r : Nat), V.int (c' : Nat)]) := eq2
      walk_at "go"
      refine ⟨rfl, ?_⟩
      walk_at "go"
      refine i_tup (SqT.of eq2) (atI_nat (j := 0) rfl) ?_
      walk_at "go"
      refine k_lenl (.inl (SqL.of (s6 _ _ eLf))) ?_
      walk_at "go"
      rw [elen]
      refine ite2 (fun h => ?_) (fun h => ?_)
      · walk_at "go"
        refine i_tup (SqT.of eq2) (atI_nat (j := 0) rfl) ?_
        exact g1 h _ (Same.refl _)
      · exact g0 (eq_false_of_ne_true h) _ (Same.refl _)
    walk_at "go"
    refine ⟨s6 _ _ eof, ?_⟩
    refine h1 _ _ ?_
    have s56 := lockS H6 s6
    have nDo : D ≠ od := fun e => by rw [e, eof] at hD; cases hD
    have eD : (upd H6 od (.dT kvs)) D = some (.lst ((kvs.filter fun p => decide ((mm : Int) ≤ rowOf p.1)).map fun p => V.int (rowOf p.1))) := by
      rw [upd_ne nDo]
      exact hD6
    generalize upd H6 od (.dT kvs) = H7 at s56 eD ⊢
    clear h1
    have ln7 := ln5.same s56 (Nat.le_refl _)
    walk_at "go"
    refine ⟨sz1000 (by show 2 ≤ 1000; decide), fun l8 hl8 => ?_⟩
    have s8 : Same H7 (upd H7 l8 (.lst [V.non, V.int ((i + 1 : Nat) : Int)])) := Same.new hl8
    have e8 : (upd H7 l8 (.lst [V.non, V.int ((i + 1 : Nat) : Int)])) l8 = some (.lst [V.non, V.int ((i + 1 : Nat) : Int)]) := upd_same
    generalize upd H7 l8 (.lst [V.non, V.int ((i + 1 : Nat) : Int)]) = H8 at s8 e8 ⊢
    have ln8 := ln7.same s8 (Nat.le_refl _)
    walk_at "go"
    refine ⟨sz1000 (by show 0 ≤ 1000; decide), fun p9 hp9 => ?_⟩
    have s9 : Same H8 (upd H8 p9 (.lst [])) := Same.new hp9
    have ln9 := ln8.same s9 (Nat.le_refl _)
    refine c_eqP ln9.dp (.lst (SqL.of upd_same) .nil) sh.sh (ShA.lst (n := 0) .nil) (by omega) (by omega) ?_
    rw [eqv_nil]
    generalize upd H8 p9 (.lst []) = H9 at s9 ln9 ⊢
    refine tru_b ?_
    have hdeep := ow.deep hfl
    have eg : closeG mm ff = (!ls.isEmpty && (kvs.filter fun p => decide ((mm : Int) ≤ rowOf p.1)).isEmpty) := by
      unfold closeG
      have e1 : decide (0 < mm) = !ls.isEmpty := by
        rw [← hlm]
        cases ls <;> simp
      rw [e1]
      congr 1
      by_cases hq : ff.all (fun n => decide (n ≤ mm)) = true
      · rw [hq, hdeep.mpr hq]
        rfl
      · rw [eq_false_of_ne_true hq]
        cases hz : (kvs.filter fun p => decide ((mm : Int) ≤ rowOf p.1)) with
        | nil => exact absurd (hdeep.mp hz) hq
        | cons _ _ => rfl
    rw [eg] at hM
    have s9' : Same H H9 := ((sm.trans s45).trans s56).trans (s8.trans s9)
    generalize hb : ls.isEmpty = b at hM ⊢
    cases b with
    | true =>
      walk_at "go"
      refine i_lst (SqL.of (s9 _ _ e8)) (atI_nat (j := 1) rfl) ?_
      walk_at "go"
      refine ⟨sz1000 (by show 2 ≤ 1000; decide), fun t2 ht2 => ?_⟩
      exact fin H9 _ ls as _ s9' ln9 (by omega) hM sh (by omega) t2 ht2
    | false =>
      walk_at "go"
      refine ⟨sz1000 (by show 0 ≤ 1000; decide), fun p10 hp10 => ?_⟩
      have s10 : Same H9 (upd H9 p10 (.lst [])) := Same.new hp10
      have ln10 := ln9.same s10 (Nat.le_refl _)
      have eD2 := s10 _ _ (s9 _ _ (s8 _ _ eD))
      generalize kvs.filter (fun p => decide ((mm : Int) ≤ rowOf p.1)) = fs at eD2 hM
      have eD3 : (upd H9 p10 (.lst [])) D = some (.lst ((fs.map fun p => rowOf p.1).map V.int)) := by
        rw [eD2, List.map_map]
        rfl
      refine c_neP (.lst (SqL.of eD3) (dpA_ints _)) (.lst (SqL.of upd_same) .nil) (ShA.lst (shA_ints _)) (ShA.lst (n := 0) .nil) (by omega) (by omega) ?_
      rw [eqv_nilA]
      generalize upd H9 p10 (.lst []) = H10 at s10 ln10 eD3 ⊢
      walk_at "go"
      cases fs with
      | nil =>
        refine i_lst (SqL.of (s10 _ _ (s9 _ _ e8))) (atI_nat (j := 0) rfl) ?_
        walk_at "go"
        refine ⟨sz1000 (by show 2 ≤ 1000; decide), fun t2 ht2 => ?_⟩
        exact fin H10 _ ls as _ (s9'.trans s10) ln10 (by omega) hM sh (by omega) t2 ht2
      | cons f0 fr =>
        refine i_lst (SqL.of (s10 _ _ (s9 _ _ e8))) (atI_nat (j := 1) rfl) ?_
        walk_at "go"
        refine ⟨sz1000 (by show 2 ≤ 1000; decide), fun t2 ht2 => ?_⟩
        exact fin H10 _ ls as _ (s9'.trans s10) ln10 (by omega) hM sh (by omega) t2 ht2
  · -- cell
    cases hrg with
    | cell _ _ zs d1 d4 a1 a4 hz hzl =>
    have hda := paVs.dp hvs
    obtain ⟨w1, r1, rfl, ew1, w2, r2, rfl, ew2, w3, r3, rfl, ew3, ew4⟩ := hvs
    cases ew1
    cases ew2
    cases ew4
    have hzo : ∀ z ∈ zs, PyData.strOk z = true := fun z h => (hz z h).ok
    have shx : Shp 3 (.tuple (.str "cell" :: [Pa.i d, Pa.i a, Pa.t zs].map paD)) := ShA.tup (ShA.cons ((Shp.str (by decide +kernel)).mono (by omega)) (sh_cell hzo))
    have nx_ : nlD (.tuple (.str "cell" :: [Pa.i d, Pa.i a, Pa.t zs].map paD)) = true := by
      rw [nlD, nlA, pa_nl]
      rfl
    have hM : (match cellG mm ff d a with | none => (V.int ((i + 1 : Nat) : Int), ls) | some q => laidM (i + 1 + 1) mm q.2 (addLast ls (.tuple (.int q.1 :: [Pa.i d, Pa.i a, Pa.t zs].map paD))) (ws.drop (i + 1 + 1))) = _ := hM
    have no : cellG mm ff d a = none → (V.int ((i + 1 : Nat) : Int), ls) = laidM 1 0 (List.replicate c 0) [] (ws.drop 1) := fun e => by
      rw [e] at hM
      exact hM
    walk_at "go"
    refine ⟨sz1000 (by show 1 ≤ 1000; decide), fun t ht => ?_⟩
    have s4 : Same H'' (upd H'' t (.tup [V.str "row"])) := Same.new ht
    have hdx4 := TK.dp (Same.tk s4) _ _ nx_ hdx
    refine c_eqP hdx4 (.tup (SqT.of upd_same) (.cons (.str _) .nil)) shx (sh_w1 _ (by decide +kernel)) (by omega) (by omega) ?_
    generalize upd H'' t (.tup [V.str "row"]) = H4 at s4 hdx4 ⊢
    walk_at "go"
    refine iteFb (eqv_hd (by decide +kernel)) ?_
    walk_at "go"
    refine ⟨sz1000 (by show 1 ≤ 1000; decide), fun t ht => ?_⟩
    have s5 : Same H4 (upd H4 t (.tup [V.str "close"])) := Same.new ht
    refine c_eqP (TK.dp (Same.tk s5) _ _ nx_ hdx4) (.tup (SqT.of upd_same) (.cons (.str _) .nil)) shx (sh_w1 _ (by decide +kernel)) (by omega) (by omega) ?_
    generalize upd H4 t (.tup [V.str "close"]) = H5 at s5 ⊢
    have s45 := s4.trans s5
    have ln5 := ln.same s45 (Nat.le_refl _)
    have eo5 := s45 _ _ eo
    walk_at "go"
    refine iteFb (eqv_hd (by decide +kernel)) ?_
    refine r_seqH fun nx1 h1 => ?_
    walk_at "go"
    refine k_lenl (.inl (SqL.of ln5.at_)) ?_
    rw [elen]
    walk_at "go"
    refine h1 _ _ ?_
    clear h1
    refine r_seqH fun nx1 h1 => ?_
    walk_at "go"
    refine ⟨by omega, by omega, ?_⟩
    rw [show (((c : Nat) : Int)).toNat = c from Int.toNat_natCast c]
    intro D hD
    have wk : Walk (Itr 0 c) (List.range c).length (fun _ => True) (YFn fun i => .int (0 + i)) := by
      rw [List.length_range]
      exact walk_range
    refine lc_pureL (List.range c) 0 wk (fun c' => !(valV kvs (k2 ((mm : Int) - 1) (c' : Nat))).isSome) (fun (c' : Nat) => .int c') (by rw [List.length_range, sizeLine_eq]; omega) hD (fun _ _ => True.intro) (fun j c' x H6 H7 hj s6 hy C1 C0 g1 g0 => ?_) (fun H6 s6 hD6 => ?_)
    · obtain ⟨rfl, hx⟩ := hy
      have hj2 : j < c := by
        have := (List.getElem?_eq_some_iff.mp hj).1
        rwa [List.length_range] at this
      rw [List.getElem?_range hj2] at hj
      cases hj
      have hx : x = .int ((j : Nat) : Int) := by
        rw [hx]
        exact congrArg V.int (by omega)
      subst hx
      walk_at "go"
      refine ⟨rfl, ?_⟩
      walk_at "go"
      refine ⟨sz1000 (by show 2 ≤ 1000; decide), fun t ht => ?_⟩
      have s7 : Same H7 (upd H7 t (.tup [V.int ((mm : Int) - 1), V.int (j : Nat)])) := Same.new ht
      walk_at "go"
      refine c_ninD (g2 (s7 _ _ (s6 _ _ eo5)) upd_same) ?_
      walk_at "go"
      refine ite2 (fun h => ?_) (fun h => ?_)
      · walk_at "go"
        exact g1 h _ s7
      · exact g0 (eq_false_of_ne_true h) _ s7
    walk_at "go"
    refine h1 _ _ ?_
    clear h1
    have s56 : Same H'' H6 := s45.trans s6
    have ln6 := ln5.same s6 (Nat.le_refl _)
    have nDo : D ≠ od := fun e => by rw [e, eo5] at hD; cases hD
    refine r_seqH fun nx1 h1 => ?_
    walk_at "go"
    refine ⟨sz1000 (by show 0 ≤ 1000; decide), fun p9 hp9 => ?_⟩
    have s9 : Same H6 (upd H6 p9 (.lst [])) := Same.new hp9
    have ln9 := ln6.same s9 (Nat.le_refl _)
    refine c_eqP ln9.dp (.lst (SqL.of upd_same) .nil) sh.sh (ShA.lst (n := 0) .nil) (by omega) (by omega) ?_
    rw [eqv_nil]
    generalize upd H6 p9 (.lst []) = H9 at s9 ln9 ⊢
    walk_at "go"
    refine ite2 (fun hb => ?_) (fun hb => ?_)
    · have m0 : mm = 0 := by
        rw [← hlm]
        exact List.length_eq_zero_iff.mpr (List.isEmpty_iff.mp hb)
      walk_at "go"
      refine ⟨sz1000 (by show 2 ≤ 1000; decide), fun t2 ht2 => ?_⟩
      refine fin H9 _ ls as _ ((sm.trans s56).trans s9) ln9 (by omega) (no ?_) sh (by omega) t2 ht2
      unfold cellG
      rw [if_pos m0]
    have m0 : mm ≠ 0 := fun e => hb (by
      rw [List.isEmpty_iff]
      exact List.length_eq_zero_iff.mp (hlm.trans e))
    have hfree := ow.free m0 hfl
    rw [hfree] at hD6
    have e7 : (mm : Int) - 1 = ((mm - 1 : Nat) : Int) := by omega
    rw [e7]
    walk_at "go"
    refine ⟨sz1000 (by show 0 ≤ 1000; decide), fun p10 hp10 => ?_⟩
    have s10 : Same H9 (upd H9 p10 (.lst [])) := Same.new hp10
    have ln10 := ln9.same s10 (Nat.le_refl _)
    have eD2 := s10 _ _ (s9 _ _ hD6)
    have eD3 : (upd H9 p10 (.lst [])) D = some (.lst (((freeC ff (mm - 1)).map fun c => ((c : Nat) : Int)).map V.int)) := by
      rw [eD2, List.map_map]
      rfl
    refine c_eqP (.lst (SqL.of eD3) (dpA_ints _)) (.lst (SqL.of upd_same) .nil) (ShA.lst (shA_ints _)) (ShA.lst (n := 0) .nil) (by omega) (by omega) ?_
    rw [eqv_nilA]
    clear eD3
    generalize upd H9 p10 (.lst []) = H10 at s10 ln10 eD2 ⊢
    have s610 : Same H'' H10 := s56.trans (s9.trans s10)
    have sm10 : Same H H10 := sm.trans s610
    have eo10 := s610 _ _ eo
    have hS10 := Same.sqt s610 hSx
    have hdx10 := TK.dp (Same.tk s610) _ _ nx_ hdx
    walk_at "go"
    cases hfr : freeC ff (mm - 1) with
    | nil =>
      refine iteTb rfl ?_
      walk_at "go"
      refine ⟨sz1000 (by show 2 ≤ 1000; decide), fun t2 ht2 => ?_⟩
      refine fin H10 _ ls as _ sm10 ln10 (by omega) (no ?_) sh (by omega) t2 ht2
      unfold cellG
      rw [if_neg m0, hfr]
    | cons f fr =>
    rw [hfr] at eD2
    refine iteFb rfl ?_
    walk_at "go"
    refine h1 _ _ ?_
    clear h1 s10 s9 s6 s56 s45 s4 s5 ln9 ln6 ln5 hD6 hD eo5 hdx hSx ln eo
    have f4 : f < c := by
      have := freeC_lt (by rw [hfr]; exact List.mem_cons_self : f ∈ freeC ff (mm - 1))
      omega
    refine r_seqH fun nx1 h1 => ?_
    walk_at "go"
    refine i_tup hS10 (atI_nat (j := 1) rfl) ?_
    walk_at "go"
    have hda10 := TK.dpA (Same.tk s610) _ _ (pa_nl _) hda
    have lnG : ∀ G, But od H10 G → LnS K H G Ln od od i as ls := fun G b => ln10.via (But.tkD b eo10) b nLo fun a ha => (ln10.off a ha).2.1
    have smG : ∀ G, But od H10 G → Same H G := fun G b => Same.via sm10 hod0 b
    have DG : ∀ G, But od H10 G → G D = some (.lst ((f :: fr).map fun (c : Nat) => V.int c)) := fun G b => b _ _ nDo eD2
    have SG : ∀ G, But od H10 G → SqT K G ra [V.str "cell", V.int (d : Nat), V.int (a : Nat), w3] := fun G b => (But.tkD b eo10).sqt hS10
    have stop : ∀ G, But od H10 G → cellG mm ff d a = none → ∀ t, G t = none → Q (.ref t) (upd G t (.tup [V.int ((i + 1 : Nat) : Int), .ref Ln])) := fun G b e t ht => fin G _ ls as _ (smG G b) (lnG G b) (by omega) (no e) sh (by omega) t ht
    refine ⟨_, _, rfl, ⟨by omega, by omega, by omega, by omega⟩, ?_⟩
    rw [show (((mm - 1 : Nat) : Int) + (d : Nat) - ((mm - 1 : Nat) : Int)).toNat = d by omega]
    refine fo_it walk_range (fun i2 σ H' => ∃ kvs v8 v10, σ = [some (.ref s), some (.int (c : Nat)), some (.ref Ln), some (.ref od), some (.int ((i + 1 : Nat) : Int)), some (.ref ra), v6, some (.int ((mm - 1 : Nat) : Int)), v8, some (.ref D), v10, v11] ∧ But od H10 H' ∧ H' od = some (.dT kvs) ∧ OwP c (mm - 1) f a i2 0 ff kvs ∧ kvs.length ≤ 16 * i + 4 * i2)
      ⟨kvs, _, _, rfl, But.refl, eo10, OwP.start ow m0 f a, by omega⟩ (fun _ _ _ _ _ => True.intro) (fun i2 x σ G0 G1 hi3 hP hY => ?_) (fun σ G0 hP => ?_)
    rotate_left
    · obtain ⟨kvs2, v8, v10, rfl, b, eo2, ow2, hkl2⟩ := hP
      obtain ⟨ecell, ow3⟩ := ow2.cell m0 hfl hfr d1
      refine h1 _ _ ?_
      clear h1
      rw [ecell] at hM
      have hM : laidM (i + 1 + 1) mm (setW ff f (mm - 1 + d) a) (addLast ls (.tuple (.int f :: [Pa.i d, Pa.i a, Pa.t zs].map paD))) (ws.drop (i + 1 + 1)) = _ := hM
      have hln := lnG _ b
      have h4S := smG _ b
      obtain ⟨as', z, rfl⟩ : ∃ as' z, as = as' ++ [z] := by
        have hne : as ≠ [] := fun e => by
          have := hln.len
          rw [e, hlm] at this
          exact m0 this.symm
        exact ⟨as.dropLast, as.getLast hne, (List.dropLast_concat_getLast hne).symm⟩
      obtain ⟨ls', dl, rfl⟩ : ∃ ls' dl, ls = ls' ++ [dl] := by
        have hne : ls ≠ [] := fun e => by
          rw [e] at hlm
          exact m0 hlm.symm
        exact ⟨ls.dropLast, ls.getLast hne, (List.dropLast_concat_getLast hne).symm⟩
      have lens : as'.length = ls'.length := by
        have := hln.len
        simp only [List.length_append, List.length_cons, List.length_nil] at this
        omega
      have lenm : as'.length = mm - 1 := by
        simp only [List.length_append, List.length_cons, List.length_nil] at hlm
        omega
      obtain ⟨us, f1, f2, f3, f4⟩ := hln.some_ as'.length z dl (by simp) (by rw [lens]; simp)
      have hzm : z ∈ as' ++ [z] := by simp
      walk_at "go"
      refine i_lst (x := .ref z) (SqL.of hln.at_) (atI_nat (j := mm - 1) (by rw [List.getElem?_map, ← lenm]; simp)) ?_
      refine ty_l (SqL.of f1) ?_
      walk_at "go"
      refine i_lst (SqL.of (DG _ b)) (atI_nat (j := 0) rfl) ?_
      walk_at "go"
      refine ⟨sz1000 (by show 1 ≤ 1000; decide), fun T hT4 => ?_⟩
      have s5 : Same G0 (upd G0 T (.tup [V.int (f : Nat)])) := Same.new hT4
      have eT : (upd G0 T (.tup [V.int (f : Nat)])) T = some (.tup [V.int (f : Nat)]) := upd_same
      generalize upd G0 T (.tup [V.int (f : Nat)]) = H5 at s5 eT
      walk_at "go"
      refine sl_t (Same.sqt s5 (SG _ b)) fun b2 H6 s6 e6 => ?_
      rw [show cutV [V.str (Str.ofString "cell"), V.int (d : Nat), V.int (a : Nat), w3] (some 1) none = List.drop 1 _ from cutV_from _ 1] at e6
      refine b_catT (SqT.of (s6 _ _ eT)) e6 (sz1000 (by show 1 + 3 ≤ 1000; decide)) fun p H7 s7 e7 => ?_
      have s47 : Same G0 H7 := (s5.trans s6).trans s7
      have s7' : Same H H7 := h4S.trans s47
      have hnD : nlD (.tuple (.int (f : Nat) :: [Pa.i d, Pa.i a, Pa.t zs].map paD)) = true := by
        rw [nlD, nlA, pa_nl]
        rfl
      have hDp : Dp K H7 (.ref p) (.tuple (.int (f : Nat) :: [Pa.i d, Pa.i a, Pa.t zs].map paD)) := .tup e7 (.cons (.int _) (TK.dpA ((But.tkD b eo10).trans (Same.tk s47)) _ _ (pa_nl _) hda10))
      have ln7 := hln.same s47 (Nat.le_refl _)
      have f17 := s47 _ _ f1
      refine m_app f17 (by rw [sizeLine_eq]; omega) ?_
      have ln8 := ln7.add f17 hDp hnD (TK.dpA (Same.tk s47) _ _ f3 f2) f3 f4
      have eal : addLast (ls' ++ [dl]) (.tuple (.int f :: [Pa.i d, Pa.i a, Pa.t zs].map paD)) = ls' ++ [dl ++ [.tuple (.int f :: [Pa.i d, Pa.i a, Pa.t zs].map paD)]] := by
        unfold addLast
        rw [List.dropLast_concat]
        simp
      rw [eal] at hM
      obtain ⟨nzL, nzo, _, hz0⟩ := ln7.off z hzm
      refine ⟨mm, setW ff f (mm - 1 + d) a, as' ++ [z], ls' ++ [dl ++ [.tuple (.int f :: [Pa.i d, Pa.i a, Pa.t zs].map paD)]], kvs2, _, _, _, _, _, _, _, _, rfl, Same.via s7' hz0 upd_but, hm8, by rw [setW_len]; exact hfl, ?_, ln8, ?_, ow3, by omega, fun ds hds => ?_, hM⟩
      · rw [← hlm]
        simp
      · rw [upd_ne nzo.symm]
        exact s47 _ _ eo2
      · rcases List.mem_append.mp hds with h | h
        · exact sh ds (List.mem_append_left _ h)
        · rw [List.mem_singleton.mp h]
          exact (sh dl (by simp)).app (ShA.cons ((ShA.tup (ShA.cons ((Shp.int _).mono (by omega)) (sh_cell hzo))).mono (by omega)) .nil)
    obtain ⟨kvs2, v8, v10, rfl, b, eo2, ow2, hkl2⟩ := hP
    obtain ⟨rfl, hx⟩ := hY
    have hx : x = .int (((mm - 1 : Nat) : Int) + (i2 : Nat)) := hx
    subst hx
    walk_at "go"
    refine i_lst (SqL.of (DG _ b)) (atI_nat (j := 0) rfl) ?_
    walk_at "go"
    refine i_lst (SqL.of (DG _ b)) (atI_nat (j := 0) rfl) ?_
    walk_at "go"
    refine i_tup (SG _ b) (atI_nat (j := 2) rfl) ?_
    walk_at "go"
    refine ⟨_, _, rfl, ⟨by omega, by omega, by omega, by omega⟩, ?_⟩
    rw [show (((f : Nat) : Int) + (a : Nat) - ((f : Nat) : Int)).toNat = a by omega]
    refine fo_it walk_range (fun j σ H' => ∃ kvs v8, σ = [some (.ref s), some (.int (c : Nat)), some (.ref Ln), some (.ref od), some (.int ((i + 1 : Nat) : Int)), some (.ref ra), v6, some (.int ((mm - 1 : Nat) : Int)), v8, some (.ref D), some (.int (((mm - 1 : Nat) : Int) + (i2 : Nat))), v11] ∧ But od H10 H' ∧ H' od = some (.dT kvs) ∧ OwP c (mm - 1) f a i2 j ff kvs ∧ kvs.length ≤ 16 * i + 4 * i2 + j)
      ⟨kvs2, _, rfl, b, eo2, ow2, by omega⟩ (fun _ _ _ _ _ => True.intro) (fun j x σ G2 G3 hj hP hY => ?_) (fun σ G2 hP => ?_)
    rotate_left
    · obtain ⟨kvs3, v8, rfl, b3, eo3', ow3, hkl3⟩ := hP
      exact ⟨kvs3, _, _, rfl, b3, eo3', ow3.line, by omega⟩
    obtain ⟨kvs3, v8, rfl, b3, eo3', ow3, hkl3⟩ := hP
    obtain ⟨rfl, hx⟩ := hY
    have hx : x = .int ((f : Int) + (j : Nat)) := hx
    subst hx
    refine r_seqH fun nx2 h2 => ?_
    walk_at "go"
    refine ite2 (fun hh => ?_) (fun hh => ?_)
    · walk_at "go"
      refine ⟨sz1000 (by show 2 ≤ 1000; decide), fun t2 ht2 => ?_⟩
      refine stop _ b3 (cell_none m0 hfr hj fun hm => ?_) t2 ht2
      have h5 := (mem_free.mp hm).1
      have h6 := of_decide_eq_true hh
      omega
    have hcc : f + j < c := by
      have := of_decide_eq_false (eq_false_of_ne_true hh)
      omega
    walk_at "go"
    refine ⟨sz1000 (by show 2 ≤ 1000; decide), fun t ht => ?_⟩
    have s7 : Same G3 (upd G3 t (.tup [V.int (((mm - 1 : Nat) : Int) + (i2 : Nat)), V.int ((f : Int) + (j : Nat))])) := Same.new ht
    walk_at "go"
    refine c_ind (g2 (s7 _ _ eo3') upd_same) ?_
    generalize upd G3 t (.tup [V.int (((mm - 1 : Nat) : Int) + (i2 : Nat)), V.int ((f : Int) + (j : Nat))]) = G4 at s7 ⊢
    walk_at "go"
    have b4 := b3.trans (Same.but s7)
    have eo4 := s7 _ _ eo3'
    refine ite2 (fun hs => ?_) (fun hs => ?_)
    · walk_at "go"
      refine ⟨sz1000 (by show 2 ≤ 1000; decide), fun t2 ht2 => ?_⟩
      refine stop _ b4 (cell_none m0 hfr hj fun hm => ?_) t2 ht2
      have h5 := (ow3.taken hj hcc hs).1
      have h6 := (mem_free.mp hm).2
      omega
    walk_at "go"
    refine h2 _ _ ?_
    clear h2
    walk_at "go"
    refine ⟨sz1000 (by show 2 ≤ 1000; decide), fun t5 ht5 => ?_⟩
    have s8 : Same G4 (upd G4 t5 (.tup [V.int (((mm - 1 : Nat) : Int) + (i2 : Nat)), V.int ((f : Int) + (j : Nat))])) := Same.new ht5
    walk_at "go"
    refine st_d (p2 (s8 _ _ eo4) upd_same (by rw [sizeLine_eq]; omega)) ?_
    refine ⟨_, _, rfl, (b4.trans (Same.but s8)).trans upd_but, upd_same, ow3.put hj hcc (eq_false_of_ne_true hs) _, ?_⟩
    have := putK_le kvs3 (k2 (((mm - 1 : Nat) : Int) + (i2 : Nat)) ((f : Int) + (j : Nat))) (V.int ((i + 1 : Nat) : Int))
    omega
end
end Tk

set_option Elab.async false
set_option linter.all false
set_option maxRecDepth 100000
set_option maxHeartbeats 4000000
namespace Tk
open PySem PySem.Spec PyProof.Rows L2 Lay
open TL (tl ext_tl len_tl tl_append tl_mk mk_tl)
local macro_rules | `(tactic| walk_at "if") => `(tactic| refine ite2 (fun hc => ?_) (fun hc => ?_))
local macro_rules | `(tactic| walk_at "lk") => `(tactic| first | exact upd_same | assumption)
local macro_rules | `(tactic| walk_at "st") => `(tactic| first
  | with_reducible refine r_var rfl ?_ | with_reducible refine r_c ?_ | with_reducible refine r_op ?_ | with_reducible refine r_cons ?_ | with_reducible refine r_nil ?_ | with_reducible refine r_vals ?_
  | with_reducible refine r_cb ?_ | with_reducible refine r_tup ?_ | with_reducible refine r_lst ?_ | with_reducible refine r_call ?_ | with_reducible refine r_test ?_
  | with_reducible refine r_if ?_ | with_reducible refine r_not ?_ | with_reducible refine r_bm ?_ | with_reducible refine r_sl ?_ | with_reducible refine r_np ?_ | with_reducible refine r_part ?_
  | with_reducible refine r_seq ?_ | with_reducible refine r_asg ?_ | with_reducible refine r_name ?_ | with_reducible refine r_ifs ?_ | with_reducible refine r_ret ?_ | with_reducible refine r_next ?_ | with_reducible refine r_par ?_ | with_reducible refine r_par3 ?_ | with_reducible refine r_brk ?_ | with_reducible refine r_cnt ?_ | with_reducible refine r_sub ?_
  | with_reducible refine r_andT ?_ | with_reducible refine r_orT ?_ | with_reducible refine r_notT ?_ | with_reducible refine r_or ?_ | with_reducible refine r_and ?_ | with_reducible refine r_tB ?_ | with_reducible refine r_drop ?_ | with_reducible refine r_callN ?_ | with_reducible refine r_chain ?_
  | with_reducible refine r_for ?_ | with_reducible refine r_lc ?_ | with_reducible refine r_iseq ?_ | with_reducible refine r_rng1 ?_ | with_reducible refine r_enum ?_ | with_reducible refine r_yes ?_ | with_reducible refine r_tru ?_ | with_reducible refine r_gtup ?_ | with_reducible refine r_gcons ?_ | with_reducible refine r_gnil ?_
  | with_reducible refine b_add ?_ | with_reducible refine b_sub ?_ | (with_reducible refine b_mul (by unfold CMul; omega) ?_) | (with_reducible refine b_mod (by omega) ?_) | (with_reducible refine b_fdiv (by unfold CDiv; omega) ?_)
  | with_reducible refine c_lt ?_ | with_reducible refine c_le ?_ | with_reducible refine c_gt ?_ | with_reducible refine c_ge ?_ | with_reducible refine c_isN ?_ | with_reducible refine c_notN ?_ | with_reducible refine c_isB ?_ | with_reducible refine c_eq rfl ?_ | with_reducible refine c_ne rfl ?_
  | with_reducible refine c_insign ?_ | with_reducible refine k_int ?_ | with_reducible refine k_intb ?_ | with_reducible refine k_max ?_ | with_reducible refine k_min ?_
  | with_reducible refine ⟨_, rfl, ?_⟩
  | with_reducible refine ex_par ?_
  | with_reducible refine r_back ?_
  | with_reducible refine ex_par3 ?_
  | with_reducible refine ty_s ?_
  | with_reducible refine tru_b ?_
  | with_reducible refine iteT ?_ | with_reducible refine iteF ?_ | with_reducible refine itnT ?_ | with_reducible refine itnF ?_)
local macro_rules | `(tactic| walk_at "go") => `(tactic| repeat walk_at "st")
local macro_rules | `(tactic| walk_at "cl") => `(tactic| try dsimp only [cxOf, Cx.nox, Cx.wish])
/-! ### a Text's tree -/
local macro_rules | `(tactic| walk_at "lf") => `(tactic| repeat (first | exact lf_nil | exact lf_eq | refine lf_ne (by decide +kernel) ?_))
local macro_rules | `(tactic| walk_at "st") => `(tactic| first
  | with_reducible refine r_fld ?_ | with_reducible refine r_sfld ?_ | with_reducible refine r_make ?_ | with_reducible refine r_meth ?_)
abbrev s_Text_tree : Stmt := inClass (topS 50) 1
theorem sc_Text_tree : FnScope ["self"] ["self"] (defScope s_Text_tree) := ⟨rfl, rfl, rfl, by decide +kernel, rfl, by decide +kernel, by decide +kernel⟩
def spTt (K : PySem.W.Frag) (C : Addr) : Sp := fun vs H Q _ => ∃ p dx a rows qs, vs = [.ref p] ∧ H p = some (.ins C dx [("rows", .ref a)]) ∧ SqT K H a rows ∧ RwDs K H rows qs ∧ rows.length ≤ 80 ∧ scanR 0 0 none (osOf qs) = .non ∧
  ∀ t H', Same H H' → Dp K H' (.ref t) (.tuple (treeN qs)) → nlA (treeN qs) = true → Q (.ref t) H'
section
variable {P : Program} {w : World} {K : PySem.W.Frag} {mg : Str → Option Value} {base : Heap} {C : Addr}
theorem ok_Text_tree (F : Mt0 K C "tree" "Text.tree" s_Text_tree ["self"]) (c : TxC K C) (c_tree_of : FnG P w K mg base 4 "tree_of" ["rows"] (spTr K)) : MtG P w K mg base 5 C "tree" (spTt K C) := by
  refine F.ok sc_Text_tree (fun vs H Q E h => ?_) (fun a cdv A outer s H vs Q E L hr h => ?_)
  · obtain ⟨p, dx, a, rows, qs, rfl, _⟩ := h
    rfl
  have nd := sc_Text_tree.nd
  refine ⟨_, (pss_one (ps_ret (pe_callG c_tree_of (hr.mono (by decide)) (by rfl) (pa_cons (pe_fldL L (pv 0)) pa_nil)))), ?_⟩
  obtain ⟨p, dx, a, rows, qs, rfl, hp, hT, hR, h80, hsc, q⟩ := h
  walk_at "go"
  refine f_get (v := .ref a) hp c.cl c.n1 (by walk_at "lf") ?_
  walk_at "go"
  exact ⟨a, rows, qs, rfl, hT, hR, h80, hsc, q⟩
end
/-! ### what is told of a table laid -/
abbrev QS (ws : List Wz) : List Rq := ws.map fun w => (w.2, w.1.2.map paD)
def osW (ws : List Wz) : List (Bool × Rk) := ws.map fun w => (true, w.2)
theorem osOf_QS (ws : List Wz) : osOf (QS ws) = osW ws := by
  unfold osOf osW QS
  rw [List.map_map]
  rfl
def brkW : Wz := (("break", []), .oth "break")
def doneW : Wz := (("done", []), .done)
theorem scan_ends : ∀ (n i : Nat), scanR i n none (osW (List.replicate n doneW)) = .non
  | 0, i => by
    show (if (none : Gst) = none ∧ 0 = 0 then V.non else V.int i) = .non
    rw [if_pos ⟨rfl, rfl⟩]
  | n + 1, i => by
    show (match (if n + 1 = 0 then none else some (n + 1 - 1, none) : Option (Nat × Gst)) with | none => V.int i | some q => scanR (i + 1) q.1 q.2 (osW (List.replicate n doneW))) = .non
    rw [if_neg (by omega)]
    exact scan_ends n (i + 1)
/-- the table's rows are judged as they are laid -/
theorem scan_laid (n off : Nat) (tail : List Wz) : ∀ (body : List Wz) (k m : Nat) (ff : List Nat) (ls : List (List PyData)), (∀ w ∈ body, isB w.2) →
    scanR (off + k) n (some (m, ff)) (osW (body ++ closeW :: tail)) = match (laidM k m ff ls (body ++ [closeW])).1 with
      | .int j => .int ((off : Int) + j)
      | _ => scanR (off + k + body.length + 1) n none (osW tail)
  | [], k, m, ff, ls, _ => by
    show (match ((if closeG m ff = true then some none else none : Option Gst).map fun g => (n, g)) with | none => V.int (off + k : Nat) | some q => scanR (off + k + 1) q.1 q.2 (osW tail)) = match (if closeG m ff = true then V.non else V.int k) with
      | .int j => .int ((off : Int) + j)
      | _ => scanR (off + k + 0 + 1) n none (osW tail)
    by_cases h : closeG m ff = true
    · rw [if_pos h, if_pos h]
      rfl
    · rw [if_neg h, if_neg h]
      exact congrArg V.int (by omega)
  | (z, kd) :: r, k, m, ff, ls, hb => by
    have ih := fun k m ff ls => scan_laid n off tail r k m ff ls fun w hw => hb w (List.mem_cons_of_mem _ hw)
    have h0 : isB kd := hb (z, kd) List.mem_cons_self
    cases kd with
    | row =>
      show (match ((if m = 8 then none else some (some (m + 1, ff)) : Option Gst).map fun g => (n, g)) with | none => V.int (off + k : Nat) | some q => scanR (off + k + 1) q.1 q.2 (osW (r ++ closeW :: tail))) = match (if m = 8 then (V.int k, ls) else laidM (k + 1) (m + 1) ff (ls ++ [[]]) (r ++ [closeW])).1 with
        | .int j => .int ((off : Int) + j)
        | _ => scanR (off + k + (r.length + 1) + 1) n none (osW tail)
      by_cases h : m = 8
      · rw [if_pos h, if_pos h]
        exact congrArg V.int (by omega)
      · rw [if_neg h, if_neg h]
        rw [show off + k + (r.length + 1) + 1 = off + (k + 1) + r.length + 1 by omega]
        exact ih (k + 1) (m + 1) ff (ls ++ [[]])
    | cell d a =>
      show (match (((cellG m ff d a).map fun p => some (m, p.2) : Option Gst).map fun g => (n, g)) with | none => V.int (off + k : Nat) | some q => scanR (off + k + 1) q.1 q.2 (osW (r ++ closeW :: tail))) = match (match cellG m ff d a with | none => (V.int k, ls) | some q => laidM (k + 1) m q.2 (addLast ls (.tuple (.int q.1 :: z.2.map paD))) (r ++ [closeW])).1 with
        | .int j => .int ((off : Int) + j)
        | _ => scanR (off + k + (r.length + 1) + 1) n none (osW tail)
      cases cellG m ff d a with
      | none => exact congrArg V.int (by omega)
      | some q =>
        rw [show off + k + (r.length + 1) + 1 = off + (k + 1) + r.length + 1 by omega]
        exact ih (k + 1) m q.2 _
    | _ => exact h0.elim
/-- where nothing is wrong the grid is the same -/
theorem grid_laid (tail : List Wz) : ∀ (body : List Wz) (k m : Nat) (ff : List Nat) (ls ls' : List (List PyData)), (∀ w ∈ body, isB w.2) → laidM k m ff ls (body ++ [closeW]) = (.non, ls') → gridM m ff ls (QS (body ++ closeW :: tail)) = ls'
  | [], k, m, ff, ls, ls', _, h => by
    have h : (if closeG m ff = true then V.non else V.int k, ls) = (.non, ls') := h
    exact (Prod.mk.inj h).2
  | (z, kd) :: r, k, m, ff, ls, ls', hb, h => by
    have ih := fun k m ff ls => grid_laid tail r k m ff ls ls' fun w hw => hb w (List.mem_cons_of_mem _ hw)
    have h0 : isB kd := hb (z, kd) List.mem_cons_self
    cases kd with
    | row =>
      have h : (if m = 8 then (V.int k, ls) else laidM (k + 1) (m + 1) ff (ls ++ [[]]) (r ++ [closeW])) = (.non, ls') := h
      by_cases h8 : m = 8
      · rw [if_pos h8] at h
        cases (Prod.mk.inj h).1
      · rw [if_neg h8] at h
        exact ih (k + 1) (m + 1) ff (ls ++ [[]]) h
    | cell d a =>
      have h : (match cellG m ff d a with | none => (V.int k, ls) | some q => laidM (k + 1) m q.2 (addLast ls (.tuple (.int q.1 :: z.2.map paD))) (r ++ [closeW])) = (.non, ls') := h
      show (match cellG m ff d a with | some q => gridM m q.2 (addLast ls (.tuple (.int q.1 :: z.2.map paD))) (QS (r ++ closeW :: tail)) | none => ls) = ls'
      cases hc : cellG m ff d a with
      | none =>
        rw [hc] at h
        cases (Prod.mk.inj h).1
      | some q =>
        rw [hc] at h
        exact ih (k + 1) m q.2 _ h
    | _ => exact h0.elim
/-- nodes with this one the last but one, within whens -/
def Nest (tab : PyData) : Nat → List PyData → Prop
  | 0, ds => ∃ pre, ds = pre ++ [tab, .tuple [.str "break"]]
  | n + 1, ds => ∃ pre kk ds', ds = pre ++ [.tuple [.str "when", kk, .tuple ds']] ∧ Nest tab n ds'
theorem nest_ends (tab : PyData) : ∀ (n j : Nat) (top : List PyData) (st : List (List PyData)) (ks : List PyData), Nest tab j top → st.length = n → ks.length = n →
    Nest tab (j + n) ((treeM (top :: st) ks (QS (List.replicate n doneW))).headD [])
  | 0, j, top, st, ks, h, h1, h2 => by
    cases st with
    | nil => exact h
    | cons _ _ => cases h1
  | n + 1, j, top, st, ks, h, h1, h2 => by
    cases st with
    | nil => cases h1
    | cons snd st =>
      cases ks with
      | nil => cases h2
      | cons kk ks =>
        show Nest tab (j + (n + 1)) ((treeM ((snd ++ [.tuple [.str "when", kk, .tuple top]]) :: st) ks (QS (List.replicate n doneW))).headD [])
        rw [show j + (n + 1) = (j + 1) + n by omega]
        exact nest_ends tab n (j + 1) _ st ks ⟨snd, kk, top, rfl, h⟩ (Nat.succ.inj h1) (Nat.succ.inj h2)
theorem tree_body (tail : List Wz) (st : List (List PyData)) (ks : List PyData) : ∀ body : List Wz, (∀ w ∈ body, isB w.2) → treeM st ks (QS (body ++ closeW :: tail)) = treeM st ks (QS tail)
  | [], _ => rfl
  | (z, kd) :: r, hb => by
    have ih := tree_body tail st ks r fun w hw => hb w (List.mem_cons_of_mem _ hw)
    have h0 : isB kd := hb (z, kd) List.mem_cons_self
    cases kd with
    | row => exact ih
    | cell d a => exact ih
    | _ => exact h0.elim
/-- behind the rows ahead: nodes of each when that is open -/
theorem tree_strip (c n : Nat) (body : List Wz) (ls : List (List PyData)) (top : List PyData) (st : List (List PyData)) (ks : List PyData) (hb : ∀ w ∈ body, isB w.2) (h : laidM 1 0 (List.replicate c 0) [] (body ++ [closeW]) = (.non, ls))
    (h1 : st.length = n) (h2 : ks.length = n) : Nest (.tuple (.str "table" :: ([Pa.i c, Pa.t []].map paD ++ [.tuple (ls.map PyData.tuple)]))) n ((treeM (top :: st) ks (QS (tabW c :: (body ++ closeW :: brkW :: List.replicate n doneW)))).headD []) := by
  have eg : gridT c (QS (body ++ closeW :: brkW :: List.replicate n doneW)) = .tuple (ls.map PyData.tuple) := by
    unfold gridT
    rw [grid_laid _ body 1 0 (List.replicate c 0) [] ls hb h]
  show Nest _ n ((treeM ((top ++ [.tuple (.str "table" :: ([Pa.i c, Pa.t []].map paD ++ [gridT c (QS (body ++ closeW :: brkW :: List.replicate n doneW))]))]) :: st) ks (QS (body ++ closeW :: brkW :: List.replicate n doneW))).headD [])
  rw [eg, tree_body _ _ _ body hb]
  show Nest _ n ((treeM (((top ++ [_]) ++ [.tuple (.str "break" :: [])]) :: st) ks (QS (List.replicate n doneW))).headD [])
  have := nest_ends (.tuple (.str "table" :: ([Pa.i c, Pa.t []].map paD ++ [.tuple (ls.map PyData.tuple)]))) n 0 ((top ++ [.tuple (.str "table" :: ([Pa.i c, Pa.t []].map paD ++ [.tuple (ls.map PyData.tuple)]))]) ++ [.tuple (.str "break" :: [])]) st ks ⟨top, by simp⟩ h1 h2
  rw [Nat.zero_add] at this
  exact this
end Tk

set_option Elab.async false
set_option linter.all false
set_option maxRecDepth 100000
set_option maxHeartbeats 4000000
namespace Tk
open PySem PySem.Spec PyProof.Rows L2 Lay
open TL (tl ext_tl len_tl tl_append tl_mk mk_tl)
local macro_rules | `(tactic| walk_at "if") => `(tactic| refine ite2 (fun hc => ?_) (fun hc => ?_))
local macro_rules | `(tactic| walk_at "lk") => `(tactic| first | exact upd_same | assumption)
local macro_rules | `(tactic| walk_at "st") => `(tactic| first
  | with_reducible refine r_var rfl ?_ | with_reducible refine r_c ?_ | with_reducible refine r_op ?_ | with_reducible refine r_cons ?_ | with_reducible refine r_nil ?_ | with_reducible refine r_vals ?_
  | with_reducible refine r_cb ?_ | with_reducible refine r_tup ?_ | with_reducible refine r_lst ?_ | with_reducible refine r_call ?_ | with_reducible refine r_test ?_
  | with_reducible refine r_if ?_ | with_reducible refine r_not ?_ | with_reducible refine r_bm ?_ | with_reducible refine r_sl ?_ | with_reducible refine r_np ?_ | with_reducible refine r_part ?_
  | with_reducible refine r_seq ?_ | with_reducible refine r_asg ?_ | with_reducible refine r_name ?_ | with_reducible refine r_ifs ?_ | with_reducible refine r_ret ?_ | with_reducible refine r_next ?_ | with_reducible refine r_par ?_ | with_reducible refine r_par3 ?_ | with_reducible refine r_brk ?_ | with_reducible refine r_cnt ?_ | with_reducible refine r_sub ?_
  | with_reducible refine r_andT ?_ | with_reducible refine r_orT ?_ | with_reducible refine r_notT ?_ | with_reducible refine r_or ?_ | with_reducible refine r_and ?_ | with_reducible refine r_tB ?_ | with_reducible refine r_drop ?_ | with_reducible refine r_callN ?_ | with_reducible refine r_chain ?_
  | with_reducible refine r_for ?_ | with_reducible refine r_lc ?_ | with_reducible refine r_iseq ?_ | with_reducible refine r_rng1 ?_ | with_reducible refine r_enum ?_ | with_reducible refine r_yes ?_ | with_reducible refine r_tru ?_ | with_reducible refine r_gtup ?_ | with_reducible refine r_gcons ?_ | with_reducible refine r_gnil ?_
  | with_reducible refine b_add ?_ | with_reducible refine b_sub ?_ | (with_reducible refine b_mul (by unfold CMul; omega) ?_) | (with_reducible refine b_mod (by omega) ?_) | (with_reducible refine b_fdiv (by unfold CDiv; omega) ?_)
  | with_reducible refine c_lt ?_ | with_reducible refine c_le ?_ | with_reducible refine c_gt ?_ | with_reducible refine c_ge ?_ | with_reducible refine c_isN ?_ | with_reducible refine c_notN ?_ | with_reducible refine c_isB ?_ | with_reducible refine c_eq rfl ?_ | with_reducible refine c_ne rfl ?_
  | with_reducible refine c_insign ?_ | with_reducible refine k_int ?_ | with_reducible refine k_intb ?_ | with_reducible refine k_max ?_ | with_reducible refine k_min ?_
  | with_reducible refine ⟨_, rfl, ?_⟩
  | with_reducible refine ex_par ?_
  | with_reducible refine r_back ?_
  | with_reducible refine ex_par3 ?_
  | with_reducible refine ty_s ?_
  | with_reducible refine tru_b ?_
  | with_reducible refine iteT ?_ | with_reducible refine iteF ?_ | with_reducible refine itnT ?_ | with_reducible refine itnF ?_)
local macro_rules | `(tactic| walk_at "go") => `(tactic| repeat walk_at "st")
local macro_rules | `(tactic| walk_at "cl") => `(tactic| try dsimp only [cxOf, Cx.nox, Cx.wish])
/-! ### _law_right -/
local macro_rules | `(tactic| walk_at "lf") => `(tactic| repeat (first | exact lf_nil | exact lf_eq | refine lf_ne (by decide +kernel) ?_))
local macro_rules | `(tactic| walk_at "st") => `(tactic| first | with_reducible refine r_un ?_ | with_reducible refine u_neg ?_ | with_reducible refine r_bm0 ?_ | with_reducible refine r_meth ?_)
abbrev s__law_right : Stmt := topS 59
theorem sc__law_right : FnScope ["_law_strip", "_law_columns", "_law_ahead", "_law_wrong", "_law_grid", "_law_ends", "_law_told_here", "_law_nodes", "_law_part", "_law_cells"] ["_law_strip", "_law_columns", "_law_ahead"] (defScope s__law_right) := ⟨rfl, rfl, rfl, by decide +kernel, rfl, by decide +kernel, by decide +kernel⟩
def paraW : Wz := (("para", [.s "-", .t []]), .oth "para")
def indexW : Wz := (("index", []), .oth "index")
def whenW (z : Str) : Wz := (("when", [.s z]), .when)
def AheadW (aws : List Wz) : Prop := aws = [] ∨ aws = [paraW] ∨ aws = [indexW, whenW "pages"] ∨ aws = [whenW "plain", whenW "screen"]
structure AhO (aws : List Wz) (n : Nat) : Prop where
  n2 : n ≤ 2
  len : aws.length ≤ 2
  cnt : (aws.filter fun w => decide (w.1.1 = Str.ofString "when")).length = n
  scan : ∀ rest, scanR 0 0 none (osW (aws ++ rest)) = scanR aws.length n none (osW rest)
  tree : ∃ top st ks, st.length = n ∧ ks.length = n ∧ ∀ rest, treeM [[]] [] (QS (aws ++ rest)) = treeM (top :: st) ks (QS rest)
theorem ahead_of {aws : List Wz} (h : AheadW aws) : ∃ n, AhO aws n := by
  rcases h with rfl | rfl | rfl | rfl
  · exact ⟨0, by decide, by decide, by decide +kernel, fun _ => rfl, _, _, _, rfl, rfl, fun _ => rfl⟩
  · exact ⟨0, by decide, by decide, by decide +kernel, fun _ => rfl, _, _, _, rfl, rfl, fun _ => rfl⟩
  · exact ⟨1, by decide, by decide, by decide +kernel, fun _ => rfl, _, _, _, rfl, rfl, fun _ => rfl⟩
  · exact ⟨2, by decide, by decide, by decide +kernel, fun _ => rfl, _, _, _, rfl, rfl, fun _ => rfl⟩
def spRight (K : PySem.W.Frag) : Sp := fun vs H Q _ => ∃ s c ah rows ws arows aws, vs = [.ref s, .int (c : Nat), .ref ah] ∧ 1 ≤ c ∧ c ≤ 4 ∧ H s = some (.lst rows) ∧ SrAll K H rows ws ∧ StripW c ws ∧ ws.length ≤ 60 ∧
  SqT K H ah arows ∧ SrAll K H arows aws ∧ AheadW aws ∧ ∀ H', Same H H' → Q (.bl true) H'
def offV (off : Nat) : V → V
  | .int j => .int ((off : Int) + j)
  | _ => .non
theorem laid_kind : ∀ (ws : List Wz) (k m : Nat) (ff : List Nat) (ls : List (List PyData)), (laidM k m ff ls ws).1 = .non ∨ ∃ j : Nat, (laidM k m ff ls ws).1 = .int j
  | [], _, _, _, _ => .inl rfl
  | (z, kd) :: r, k, m, ff, ls => by
    have cl : ∀ q : laidM k m ff ls ((z, kd) :: r) = (if closeG m ff = true then V.non else V.int k, ls), (laidM k m ff ls ((z, kd) :: r)).1 = .non ∨ ∃ j : Nat, (laidM k m ff ls ((z, kd) :: r)).1 = .int j := fun q => by
      rw [q]
      by_cases h : closeG m ff = true
      · exact .inl (if_pos h)
      · exact .inr ⟨k, if_neg h⟩
    cases kd with
    | row =>
      show (if m = 8 then (V.int k, ls) else laidM (k + 1) (m + 1) ff (ls ++ [[]]) r).1 = .non ∨ ∃ j : Nat, (if m = 8 then (V.int k, ls) else laidM (k + 1) (m + 1) ff (ls ++ [[]]) r).1 = .int j
      by_cases h : m = 8
      · rw [if_pos h]
        exact .inr ⟨k, rfl⟩
      · rw [if_neg h]
        exact laid_kind r _ _ _ _
    | cell d a =>
      show (match cellG m ff d a with | none => (V.int k, ls) | some q => laidM (k + 1) m q.2 (addLast ls (.tuple (.int q.1 :: z.2.map paD))) r).1 = .non ∨ ∃ j : Nat, (match cellG m ff d a with | none => (V.int k, ls) | some q => laidM (k + 1) m q.2 (addLast ls (.tuple (.int q.1 :: z.2.map paD))) r).1 = .int j
      cases cellG m ff d a with
      | none => exact .inr ⟨k, rfl⟩
      | some q => exact laid_kind r _ _ _ _
    | close => exact cl rfl
    | table _ => exact cl rfl
    | when => exact cl rfl
    | done => exact cl rfl
    | oth _ => exact cl rfl
section
variable {P : Program} {w : World} {K : PySem.W.Frag} {mg : Str → Option Value} {base : Heap} {H : Hp} {C : Addr}
theorem SrAll.app {rows rows2 : List V} {ws ws2 : List Wz} (h : SrAll K H rows ws) (g : SrAll K H rows2 ws2) : SrAll K H (rows ++ rows2) (ws ++ ws2) := by
  refine ⟨by rw [List.length_append, List.length_append, h.1, g.1], fun i x v ex ev => ?_⟩
  by_cases hi : i < rows.length
  · rw [List.getElem?_append_left hi] at ex
    rw [List.getElem?_append_left (by rw [← h.1]; exact hi)] at ev
    exact h.2 i x v ex ev
  · rw [List.getElem?_append_right (by omega)] at ex
    rw [List.getElem?_append_right (by rw [← h.1]; omega), ← h.1] at ev
    exact g.2 _ x v ex ev
theorem SrAll.rep {x : V} {v : Wz} (hx : RzV K H x v.1) (hg : Rg v.1 v.2) (n : Nat) : SrAll K H (List.replicate n x) (List.replicate n v) := ⟨by rw [List.length_replicate, List.length_replicate], fun i y u ey eu => by
  have h1 := List.mem_of_getElem? ey
  have h2 := List.mem_of_getElem? eu
  rw [List.eq_of_mem_replicate h1, List.eq_of_mem_replicate h2]
  exact ⟨hx, hg⟩⟩
theorem SrAll.rw {rows : List V} {ws : List Wz} (h : SrAll K H rows ws) : RwAll K H rows (osW ws) := ⟨by unfold osW; rw [List.length_map]; exact h.1, fun i x o ex eo => by
  unfold osW at eo
  rw [List.getElem?_map] at eo
  cases e : ws[i]? with
  | none => rw [e] at eo; cases eo
  | some w =>
    rw [e] at eo
    cases eo
    obtain ⟨h1, h2⟩ := h.2 i x w ex e
    exact h2.rwk h1⟩
theorem SrAll.rd {rows : List V} {ws : List Wz} (h : SrAll K H rows ws) : RwDs K H rows (QS ws) := ⟨by unfold QS; rw [List.length_map]; exact h.1, fun i x q ex eq => by
  unfold QS at eq
  rw [List.getElem?_map] at eq
  cases e : ws[i]? with
  | none => rw [e] at eq; cases eq
  | some w =>
    rw [e] at eq
    cases eq
    obtain ⟨h1, h2⟩ := h.2 i x w ex e
    exact h2.rwd h1⟩
theorem dp_snoc {xs : List V} {ds : List PyData} {d : PyData} (h : DpAll K H xs (ds ++ [d])) : ∃ ys v, xs = ys ++ [v] ∧ DpAll K H ys ds ∧ Dp K H v d := by
  induction ds generalizing xs with
  | nil =>
    cases h with
    | cons h1 h2 =>
      cases h2
      exact ⟨[], _, rfl, .nil, h1⟩
  | cons e r ih =>
    cases h with
    | cons h1 h2 =>
      obtain ⟨ys, v, rfl, g1, g2⟩ := ih h2
      exact ⟨_ :: ys, v, rfl, .cons h1 g1, g2⟩
theorem atI_last2 {xs : List V} {x y : V} : atI (xs ++ [x, y]) (-2) = some x := by
  unfold atI ixN
  rw [if_neg (by omega), if_pos (by simp; omega)]
  have e : ((-2 : Int) + ((xs ++ [x, y]).length : Nat)).toNat = xs.length := by
    simp only [List.length_append, List.length_cons, List.length_nil]
    omega
  rw [Option.bind_some, e]
  simp
theorem ok__law_right (F : Fn0 K mg "_law_right" s__law_right ["_law_strip", "_law_columns", "_law_ahead"]) (m : Md mg) (l_Text : Cls K C) (c__law_laid : FnG P w K mg base 1 "_law_laid" ["_law_strip", "_law_columns"] (spLaid K)) (c__law_told : FnG P w K mg base 13 "_law_told" ["_law_strip"] (spTold K C))
    (c_Text_tree : MtG P w K mg base 5 C "tree" (spTt K C)) : FnG P w K mg base 14 "_law_right" ["_law_strip", "_law_columns", "_law_ahead"] (spRight K) := by
  refine F.ok sc__law_right (fun vs H Q E h => ?_) (fun a cdv A outer s H vs Q E L hr h => ?_)
  · obtain ⟨s, c, ah, rows, ws, arows, aws, rfl, _⟩ := h
    rfl
  have nd := sc__law_right.nd
  refine ⟨_, (pss_cons (ps_asg (pe_callG c__law_laid (hr.mono (by decide)) (by rfl) (pa_cons (pv 0) (pa_cons (pv 1) pa_nil))) (pg_tupL (n := 2) L (pgs_cons (pg_name (i := 3) nd rfl (.inl rfl)) (pgs_cons (pg_name (i := 4) nd rfl (.inl rfl)) pgs_nil)) (by rfl) (by rfl))) (pss_cons (ps_set (i := 5) nd rfl (.inl rfl) (pe_op (ob L) (pe_tup (pa_cons (pe_tup (pa_cons pe_str pa_nil)) pa_nil)) (pe_callB (oc L) (by rfl) m.len_ bt_len (pa_cons (pe_lc (own := [("_law_part", 8)]) rfl nd (pi_seqL L (pv 2)) (blkOk_by (own := [("_law_part", 8)]) (N := ["_law_strip", "_law_columns", "_law_ahead", "_law_wrong", "_law_grid", "_law_ends", "_law_told_here", "_law_nodes", "_law_part", "_law_cells"]) (sc := defScope s__law_right) (by decide +kernel)) (fun _ _ _ _ _ => (pg_name (i := 8) nd rfl (.inl rfl))) (fun _ _ _ _ _ => inT L.b (pts_one (pt_cmpR (op_ L.b) (pe_ix (oi L.b) (pv 8) pe_int (fun _ _ => rfl)) pe_str (nomark _)))) (fun _ _ _ _ _ => inE L.b pe_int)) pa_nil)))) (pss_cons (ps_set (i := 6) nd rfl (.inl rfl) (pe_callG c__law_told (hr.mono (by decide)) (by rfl) (pa_cons (pe_op (ob L) (pe_op (ob L) (pe_op (ob L) (pv 2) (pe_callTy (oc L) (by rfl) m.tuple_ bt_tuple (pa_cons (pv 0) pa_nil))) (pe_tup (pa_cons (pe_tup (pa_cons pe_str pa_nil)) pa_nil))) (pv 5)) pa_nil))) (pss_cons (ps_if (pt_cmpR (op_ L) (pv 3) pe_non (nomark _)) (pss_one (ps_ret (pe_cmpR (op_ L) (pv 6) (pe_tup (pa_cons pe_str (pa_cons (pe_op (ob L) (pe_callB (oc L) (by rfl) m.len_ bt_len (pa_cons (pv 2) pa_nil)) (pv 3)) pa_nil))) (nomark _)))) pss_nil) (pss_cons (ps_if (pt_cmpR (op_ L) (pe_ix (oi L) (pv 6) pe_int (fun _ _ => rfl)) pe_str (nomark _)) (pss_one (ps_ret pe_bl)) pss_nil) (pss_cons (ps_set (i := 7) nd rfl (.inl rfl) (pe_mtG0 l_Text c_Text_tree (hr.mono (by decide)) (pe_ix (oi L) (pv 6) pe_int (fun _ _ => rfl)))) (pss_cons (ps_while PassesOwn.never (pt_cmpR (op_ L) (pe_ix (oi L) (pe_ix (oi L) (pv 7) (pe_un (ou L) pe_int) (fun _ _ => rfl)) pe_int (fun _ _ => rfl)) pe_str (nomark _)) (pss_one (ps_set (i := 7) nd rfl (.inl rfl) (pe_ix (oi L) (pe_ix (oi L) (pv 7) (pe_un (ou L) pe_int) (fun _ _ => rfl)) pe_int (fun _ _ => rfl))))) (pss_one (ps_ret (pe_cmpR (op_ L) (pe_ix (oi L) (pv 7) (pe_un (ou L) pe_int) (fun _ _ => rfl)) (pe_op (ob L) (pe_callTy (oc L) (by rfl) m.tuple_ bt_tuple (pa_cons (pe_ix (oi L) (pv 0) pe_int (fun _ _ => rfl)) pa_nil)) (pe_tup (pa_cons (pe_callTy (oc L) (by rfl) m.tuple_ bt_tuple (pa_cons (pe_lc (own := [("_law_cells", 9)]) rfl nd (pi_seqL L (pv 4)) (blkOk_by (own := [("_law_cells", 9)]) (N := ["_law_strip", "_law_columns", "_law_ahead", "_law_wrong", "_law_grid", "_law_ends", "_law_told_here", "_law_nodes", "_law_part", "_law_cells"]) (sc := defScope s__law_right) (by decide +kernel)) (fun _ _ _ _ _ => (pg_name (i := 9) nd rfl (.inl rfl))) (fun _ _ _ _ _ => inT L.b pts_nil) (fun _ _ _ _ _ => inE L.b (pe_callTy (oc L.b) (by rfl) m.tuple_ bt_tuple (pa_cons (pv 9) pa_nil)))) pa_nil)) pa_nil))) (nomark _))))))))))), ?_⟩
  obtain ⟨s, c, ah, rows, ws, arows, aws, rfl, hc1, hc4, hs, sr, hst, h60, hA, sa, hah, q⟩ := h
  obtain ⟨n, ao⟩ := ahead_of hah
  refine r_seqH fun nx0 h0 => ?_
  walk_at "go"
  refine ⟨s, c, rows, ws, rfl, hc1, hc4, hs, sr, hst, h60, fun t g o ls H1 s1 el et gl sh hl => ?_⟩
  walk_at "go"
  refine ⟨t, _, rfl, SqT.of et, rfl, ?_⟩
  walk_at "go"
  refine h0 _ _ ?_
  clear h0
  refine r_seqH fun nx0 h0 => ?_
  walk_at "go"
  refine ⟨sz1000 (by show 1 ≤ 1000; decide), fun t1 ht1 => ?_⟩
  walk_at "go"
  refine ⟨sz1000 (by show 1 ≤ 1000; decide), fun t2 ht2 => ?_⟩
  have s2 : Same H1 (upd H1 t1 (.tup [V.str "done"])) := Same.new ht1
  have e2 : (upd H1 t1 (.tup [V.str "done"])) t1 = some (.tup [V.str "done"]) := upd_same
  generalize upd H1 t1 (.tup [V.str "done"]) = H2 at s2 e2 ht2 ⊢
  have s3 : Same H2 (upd H2 t2 (.tup [V.ref t1])) := Same.new ht2
  have e3 : (upd H2 t2 (.tup [V.ref t1])) t2 = some (.tup [V.ref t1]) := upd_same
  generalize upd H2 t2 (.tup [V.ref t1]) = H3 at s3 e3 ⊢
  have s03 : Same H H3 := s1.trans (s2.trans s3)
  walk_at "go"
  refine .inr (.inl ⟨ah, _, rfl, Same.sqt s03 hA, fun D hD => ?_⟩)
  have wk : Walk (Itt K ah) aws.length (fun H => SqT K H ah arows) (YAt arows) := by
    rw [← sa.1]
    exact walk_tup
  refine lc_pureL aws brkW wk (fun w => decide (w.1.1 = Str.ofString "when")) (fun _ => .int 1) (by rw [sizeLine_eq]; have := ao.len; omega) hD (fun H' s' => Same.sqt (s03.trans s') hA) (fun i w x H6 H7 hi s6 hy C1 C0 g1 g0 => ?_) (fun H4 s4 hD4 => ?_)
  · obtain ⟨rfl, hx⟩ := hy
    obtain ⟨⟨ra, vs, rfl, hSr, _⟩, _⟩ := sa.2 i x w hx hi
    walk_at "go"
    refine ⟨rfl, ?_⟩
    walk_at "go"
    refine i_tup (Same.sqt (s03.trans s6) hSr) (atI_nat (j := 0) rfl) ?_
    walk_at "go"
    rw [sq_]
    refine ite2 (fun h => ?_) (fun h => ?_)
    · walk_at "go"
      exact g1 h _ (Same.refl _)
    · exact g0 (eq_false_of_ne_true h) _ (Same.refl _)
  walk_at "go"
  refine k_lenl (.inl (SqL.of hD4)) ?_
  rw [List.length_map, ao.cnt]
  walk_at "go"
  refine b_rep1 (SqT.of (s4 _ _ e3)) (by omega) (by have := ao.n2; omega) fun en H5 s5 e5 => ?_
  rw [show ((n : Nat) : Int).toNat = n from Int.toNat_natCast n] at e5
  walk_at "go"
  refine h0 _ _ ?_
  clear h0
  have s15 : Same H1 H5 := (s2.trans s3).trans (s4.trans s5)
  have s05 : Same H H5 := s1.trans s15
  have ed5 : H5 t1 = some (.tup [V.str "done"]) := (s3.trans (s4.trans s5)) _ _ e2
  clear s2 s3 s4 s5 e2 e3 hD4 hD ht1 ht2 wk s03
  refine r_seqH fun nx0 h0 => ?_
  walk_at "go"
  refine k_tupL (SqL.of (s05 _ _ hs)) fun ts hts => ?_
  have s6 : Same H5 (upd H5 ts (.tup rows)) := Same.new hts
  have e6 : (upd H5 ts (.tup rows)) ts = some (.tup rows) := upd_same
  generalize upd H5 ts (.tup rows) = H6 at s6 e6 ⊢
  have hrl := sr.1
  have harl := sa.1
  have hal := ao.len
  have hn2 := ao.n2
  refine b_catT (Same.sqt (s05.trans s6) hA) (SqT.of e6) (sz1000 (by omega)) fun c1 H7 s7 e7 => ?_
  walk_at "go"
  refine ⟨sz1000 (by show 1 ≤ 1000; decide), fun tb htb => ?_⟩
  have s8 : Same H7 (upd H7 tb (.tup [V.str "break"])) := Same.new htb
  have e8 : (upd H7 tb (.tup [V.str "break"])) tb = some (.tup [V.str "break"]) := upd_same
  generalize upd H7 tb (.tup [V.str "break"]) = H8 at s8 e8 ⊢
  walk_at "go"
  refine ⟨sz1000 (by show 1 ≤ 1000; decide), fun tbb htbb => ?_⟩
  have s9 : Same H8 (upd H8 tbb (.tup [V.ref tb])) := Same.new htbb
  have e9 : (upd H8 tbb (.tup [V.ref tb])) tbb = some (.tup [V.ref tb]) := upd_same
  generalize upd H8 tbb (.tup [V.ref tb]) = H9 at s9 e9 ⊢
  refine b_catT (Same.sqt (s8.trans s9) e7) (SqT.of e9) (sz1000 (by simp only [List.length_append, List.length_cons, List.length_nil]; omega)) fun c2 H10 s10 e10 => ?_
  walk_at "go"
  refine b_catT e10 (Same.sqt (s6.trans (s7.trans (s8.trans (s9.trans s10)))) e5) (sz1000 (by simp only [List.length_append, List.length_replicate, List.length_cons, List.length_nil]; omega)) fun c3 H11 s11 e11 => ?_
  have s5b : Same H5 H11 := (s6.trans (s7.trans (s8.trans (s9.trans s10)))).trans s11
  have s0b : Same H H11 := s05.trans s5b
  have edn : H11 t1 = some (.tup [V.str "done"]) := s5b _ _ ed5
  have ebr : H11 tb = some (.tup [V.str "break"]) := (s9.trans (s10.trans s11)) _ _ e8
  have srA : SrAll K H11 (arows ++ rows ++ [V.ref tb] ++ List.replicate n (V.ref t1)) (aws ++ ws ++ [brkW] ++ List.replicate n doneW) := by
    refine SrAll.app (SrAll.app (SrAll.app (sa.tk (Same.tk s0b)) (sr.tk (Same.tk s0b))) ?_) (SrAll.rep (v := doneW) ⟨t1, [], rfl, SqT.of edn, rfl⟩ .done n)
    exact SrAll.rep (v := brkW) ⟨tb, [], rfl, SqT.of ebr, rfl⟩ .brk 1
  obtain ⟨body, hws, hbody⟩ := hst
  have ewA : aws ++ ws ++ [brkW] ++ List.replicate n doneW = aws ++ (tabW c :: (body ++ closeW :: brkW :: List.replicate n doneW)) := by
    rw [hws]
    simp
  rw [ewA] at srA
  have elb : (o, ls) = laidM 1 0 (List.replicate c 0) [] (body ++ [closeW]) := by
    rw [el, hws]
    rfl
  have hscan : scanR 0 0 none (osW (aws ++ (tabW c :: (body ++ closeW :: brkW :: List.replicate n doneW)))) = offV aws.length o := by
    rw [ao.scan]
    show scanR (aws.length + 1) n (some (0, List.replicate c 0)) (osW (body ++ closeW :: brkW :: List.replicate n doneW)) = _
    rw [scan_laid n aws.length (brkW :: List.replicate n doneW) body 1 0 (List.replicate c 0) [] hbody]
    have e1 : (laidM 1 0 (List.replicate c 0) [] (body ++ [closeW])).1 = o := by rw [← elb]
    rw [e1]
    have e : ∀ i, scanR i n none (osW (brkW :: List.replicate n doneW)) = .non := fun i => scan_ends n (i + 1)
    rcases laid_kind (body ++ [closeW]) 1 0 (List.replicate c 0) [] with h | ⟨j, h⟩
    · rw [e1] at h
      subst h
      exact e _
    · rw [e1] at h
      subst h
      rfl
  have hok : o = .non ∨ ∃ j : Nat, o = .int j := by
    have := laid_kind (body ++ [closeW]) 1 0 (List.replicate c 0) []
    rw [← elb] at this
    exact this
  have h80 : (arows ++ rows ++ [V.ref tb] ++ List.replicate n (V.ref t1)).length ≤ 80 := by
    simp only [List.length_append, List.length_replicate, List.length_cons, List.length_nil]
    omega
  walk_at "go"
  refine ⟨c3, _, _, rfl, e11, h80, srA.rw, fun ek H12 t p dx s12 ep et2 => ?_, fun i ek H12 t s12 et2 => ?_⟩
  · have eo : o = .non := by
      rcases hok with rfl | ⟨j, rfl⟩
      · rfl
      · rw [hscan] at ek
        cases ek
    subst eo
    walk_at "go"
    refine h0 _ _ ?_
    clear h0
    have s0c : Same H H12 := s0b.trans s12
    walk_at "go"
    refine iteFb (by rw [decide_eq_true rfl]; rfl) ?_
    walk_at "go"
    refine i_tup (SqT.of et2) (atI_nat (j := 0) rfl) ?_
    walk_at "go"
    refine iteFb (by rw [decide_eq_true rfl]; rfl) ?_
    refine r_next ?_
    refine r_seqH fun nx0 h0 => ?_
    walk_at "go"
    refine i_tup (SqT.of et2) (atI_nat (j := 1) rfl) ?_
    walk_at "go"
    refine ⟨p, dx, _, rfl, ep, by walk_at "lf", ?_⟩
    walk_at "go"
    have s1c : Same H1 H12 := s15.trans (s5b.trans s12)
    refine ⟨p, dx, c3, _, _, rfl, ep, Same.sqt s12 e11, (srA.tk (Same.tk s12)).rd, h80, by rw [osOf_QS]; exact ek, fun t2 H13 s13 hd nl => ?_⟩
    walk_at "go"
    refine h0 _ _ ?_
    clear h0
    obtain ⟨top, st, ks, hst1, hks1, htree⟩ := ao.tree
    have hnest : Nest (.tuple (.str "table" :: ([Pa.i c, Pa.t []].map paD ++ [.tuple (ls.map PyData.tuple)]))) n (treeN (QS (aws ++ (tabW c :: (body ++ closeW :: brkW :: List.replicate n doneW))))) := by
      unfold treeN
      rw [htree]
      exact tree_strip c n body ls top st ks hbody elb.symm hst1 hks1
    have shT : Shp 7 (.tuple (.str "table" :: ([Pa.i c, Pa.t []].map paD ++ [.tuple (ls.map PyData.tuple)]))) := by
      refine ShA.tup (ShA.cons ((Shp.str (by decide +kernel)).mono (by omega)) (ShA.app (ShA.cons ((Shp.int _).mono (by omega)) (ShA.cons ((ShA.tup (n := 0) .nil).mono (by omega)) .nil)) (ShA.cons (ShA.tup (n := 5) (ShA.of fun d hd => ?_)) .nil)))
      obtain ⟨ds, hds, rfl⟩ := List.mem_map.mp hd
      exact ShA.tup (sh ds hds)
    generalize htab : PyData.tuple (.str "table" :: ([Pa.i c, Pa.t []].map paD ++ [.tuple (ls.map PyData.tuple)])) = tab at hnest shT
    generalize treeN (QS (aws ++ (tabW c :: (body ++ closeW :: brkW :: List.replicate n doneW)))) = nodes at hd nl hnest
    refine r_seqH fun nx0 h0 => ?_
    refine ⟨fun k σ G => ∃ t ds v8 v9 x3 x5 x6, σ = [some (.ref s), some (.int (c : Nat)), some (.ref ah), x3, some (.ref g), x5, x6, some (.ref t), v8, v9] ∧ Same H13 G ∧ Dp K G (.ref t) (.tuple ds) ∧ nlA ds = true ∧ Nest tab k ds,
      ⟨n, t2, nodes, _, _, _, _, _, rfl, Same.refl _, hd, nl, hnest⟩, fun k σ G hw => ?_⟩
    obtain ⟨tn, ds, v8, v9, x3, x5, x6, rfl, sG, hdp, nld, hne⟩ := hw
    cases k with
    | zero =>
      obtain ⟨pre, rfl⟩ := hne
      rw [show pre ++ [tab, .tuple [.str "break"]] = (pre ++ [tab]) ++ [.tuple [.str "break"]] by simp] at hdp
      cases hdp with
      | tup hS hDA =>
      obtain ⟨ys, v, rfl, g1, g2⟩ := dp_snoc hDA
      obtain ⟨ys, u, rfl, g3, g4⟩ := dp_snoc g1
      cases g2 with
      | tup hS2 hA2 =>
      cases hA2 with
      | cons a1 a2 =>
      cases a1
      cases a2
      walk_at "go"
      refine i_tup hS atI_last ?_
      walk_at "go"
      refine i_tup hS2 (atI_nat (j := 0) rfl) ?_
      walk_at "go"
      rw [sq_]
      refine iteFb (by decide +kernel) ?_
      refine h0 _ _ ?_
      clear h0
      walk_at "go"
      refine i_tup hS (by rw [List.append_assoc]; exact atI_last2) ?_
      walk_at "go"
      have s0g : Same H G := (s0c.trans s13).trans sG
      have h0lt : 0 < rows.length := by
        rw [hrl, hws]
        simp
      obtain ⟨⟨ra, vs, er0, hSr, hvs⟩, _⟩ := sr.2 0 rows[0] (tabW c) (List.getElem?_eq_getElem h0lt) (by rw [hws]; rfl)
      refine i_lst (x := .ref ra) (SqL.of (s0g _ _ hs)) (atI_nat (j := 0) (by rw [List.getElem?_eq_getElem h0lt, er0])) ?_
      walk_at "go"
      refine k_tupT (Same.sqt s0g hSr) ?_
      walk_at "go"
      obtain ⟨as, eg, elen, esome⟩ := gl
      have sg1 : Same H1 G := (s1c.trans s13).trans sG
      refine .inl ⟨g, _, rfl, SqL.of (sg1 _ _ eg), fun D hD => ?_⟩
      have nls : nlA (ls.map PyData.tuple) = true := nlA_tups fun j ds ed => by
        have hj : j < as.length := by rw [elen]; exact (List.getElem?_eq_some_iff.mp ed).1
        obtain ⟨_, _, _, e, _⟩ := esome j as[j] ds (List.getElem?_eq_getElem hj) ed
        exact e
      have wk : Walk (Itl K g) (ls.map PyData.tuple).length (fun H => SqL K H g (as.map V.ref)) (YAt (as.map V.ref)) := by
        rw [List.length_map, ← elen, ← List.length_map (f := V.ref) (as := as)]
        exact walk_list
      refine lc_dat (K := K) (ls.map PyData.tuple) nls wk (by rw [List.length_map, sizeLine_eq]; omega) hD (fun H' s' => SqL.of ((sg1.trans s') _ _ eg)) (fun j d x H3 H4 hj sm3 hy C1 C0 f1 => ?_) (fun H3 zs sm3 hD3 hzs => ?_)
      · obtain ⟨rfl, hx⟩ := hy
        have hj2 : j < ls.length := by
          have := (List.getElem?_eq_some_iff.mp hj).1
          rwa [List.length_map] at this
        rw [List.getElem?_map, List.getElem?_eq_getElem hj2] at hj
        cases hj
        have hja : j < as.length := by rw [elen]; exact hj2
        rw [List.getElem?_map, List.getElem?_eq_getElem hja] at hx
        cases hx
        obtain ⟨us, k1, k2, k3, k4⟩ := esome j as[j] ls[j] (List.getElem?_eq_getElem hja) (List.getElem?_eq_getElem hj2)
        walk_at "go"
        refine ⟨rfl, ?_⟩
        walk_at "go"
        refine k_tupL (SqL.of ((sg1.trans sm3) _ _ k1)) fun p hp => ?_
        exact f1 _ _ (Same.new hp) (.tup (SqT.of upd_same) (TK.dpA (Same.tk ((sg1.trans sm3).trans (Same.new hp))) _ _ k3 k2))
      walk_at "go"
      refine k_tupL (SqL.of hD3) fun pg hpg => ?_
      have s14 : Same H3 (upd H3 pg (.tup zs)) := Same.new hpg
      have hgt : Dp K (upd H3 pg (.tup zs)) (.ref pg) (.tuple (ls.map PyData.tuple)) := .tup (SqT.of upd_same) (TK.dpA (Same.tk s14) _ _ nls hzs)
      generalize upd H3 pg (.tup zs) = H14 at s14 hgt ⊢
      walk_at "go"
      refine ⟨sz1000 (by show 1 ≤ 1000; decide), fun pt hpt => ?_⟩
      have s15' : Same H14 (upd H14 pt (.tup [V.ref pg])) := Same.new hpt
      have nlg : nlD (.tuple (ls.map PyData.tuple)) = true := by
        rw [nlD]
        exact nls
      have hgt2 := TK.dp (Same.tk s15') _ _ nlg hgt
      have ept : (upd H14 pt (.tup [V.ref pg])) pt = some (.tup [V.ref pg]) := upd_same
      generalize upd H14 pt (.tup [V.ref pg]) = H15 at s15' hgt2 ept ⊢
      have sg15 : Same G H15 := (sm3.trans s14).trans s15'
      have hvl := hvs.len
      refine b_catT (Same.sqt (s0g.trans sg15) hSr) (SqT.of ept) (sz1000 (by rw [List.length_cons, hvl]; show 3 + 1 ≤ 1000; decide)) fun pe H16 s16 e16 => ?_
      have hvd : DpAll K H16 vs ([Pa.i c, Pa.t []].map paD) := (hvs.tk (Same.tk ((s0g.trans sg15).trans s16))).dp
      have hy : Dp K H16 (.ref pe) tab := by
        rw [← htab]
        exact .tup e16 (DpAll.app (.cons (.str _) hvd) (.cons (TK.dp (Same.tk s16) _ _ nlg hgt2) .nil))
      have nlt : nlD tab = true := by
        have : nlA (pre ++ [tab, .tuple [.str "break"]]) = true := nld
        rw [nlA_app, Bool.and_eq_true] at this
        have h2 : (nlD tab && nlA [.tuple [.str "break"]]) = true := this.2
        rw [Bool.and_eq_true] at h2
        exact h2.1
      refine c_eqP (TK.dp (Same.tk (sg15.trans s16)) _ _ nlt g4) hy shT shT (by omega) (by omega) ?_
      rw [SeqAt.eqv_refl _ shT.1]
      exact q _ ((s0g.trans sg15).trans s16)
    | succ k =>
      obtain ⟨pre, kk, ds', rfl, hne⟩ := hne
      cases hdp with
      | tup hS hDA =>
      obtain ⟨ys, v, rfl, g1, g2⟩ := dp_snoc hDA
      cases g2 with
      | tup hS2 hA2 =>
      cases hA2 with
      | cons a1 a2 =>
      cases a1
      cases a2 with
      | cons a3 a4 =>
      cases a4 with
      | cons a5 a6 =>
      cases a6
      walk_at "go"
      refine i_tup hS atI_last ?_
      walk_at "go"
      refine i_tup hS2 (atI_nat (j := 0) rfl) ?_
      walk_at "go"
      rw [sq_]
      refine iteTb (by decide +kernel) ?_
      refine ⟨fun σ G => ∃ t ds v8 v9 x3 x5 x6, σ = [some (.ref s), some (.int (c : Nat)), some (.ref ah), x3, some (.ref g), x5, x6, some (.ref t), v8, v9] ∧ Same H13 G ∧ Dp K G (.ref t) (.tuple ds) ∧ nlA ds = true ∧ Nest tab k ds, fun σ' G' h => ⟨k, Nat.lt_succ_self k, h⟩, ?_⟩
      walk_at "go"
      refine i_tup hS atI_last ?_
      walk_at "go"
      refine i_tup hS2 (atI_nat (j := 2) rfl) ?_
      walk_at "go"
      rw [nlA_app, Bool.and_eq_true] at nld
      have nl2 : nlA ds' = true := by
        have : nlD kk = true ∧ nlA ds' = true := by simpa [nlA, nlD] using nld.2
        exact this.2
      cases a5 with
      | tup hS5 hA5 => exact ⟨_, ds', _, _, _, _, _, rfl, sG, .tup hS5 hA5, nl2, hne⟩
  · have eo : ∃ j : Nat, o = .int j := by
      rcases hok with rfl | ⟨j, rfl⟩
      · rw [hscan] at ek
        cases ek
      · exact ⟨j, rfl⟩
    obtain ⟨j, rfl⟩ := eo
    rw [hscan] at ek
    have ek : V.int ((aws.length : Int) + (j : Nat)) = .int i := ek
    injection ek with ek
    subst ek
    walk_at "go"
    refine h0 _ _ ?_
    clear h0
    have s0c : Same H H12 := s0b.trans s12
    walk_at "go"
    refine iteTb (by rw [decide_eq_false (fun e => nomatch e)]; rfl) ?_
    walk_at "go"
    refine k_lenl (.inr (Same.sqt s0c hA)) ?_
    walk_at "go"
    refine ⟨sz1000 (by show 2 ≤ 1000; decide), fun tr htr => ?_⟩
    have s13 : Same H12 (upd H12 tr (.tup [V.str "rows", V.int ((arows.length : Int) + (j : Nat))])) := Same.new htr
    have shr : Shp 2 (.tuple [.str "rows", .int ((aws.length : Int) + (j : Nat))]) := ShA.tup (ShA.cons (Shp.str (by decide +kernel)) (ShA.cons (Shp.int _) .nil))
    refine c_eqP (.tup (SqT.of (s13 _ _ et2)) (.cons (.str _) (.cons (.int _) .nil))) (.tup (SqT.of (by rw [← harl]; exact upd_same)) (.cons (.str _) (.cons (.int _) .nil))) shr shr (by omega) (by omega) ?_
    rw [SeqAt.eqv_refl _ shr.1]
    exact q _ (s0c.trans s13)
end
end Tk

set_option Elab.async false
set_option linter.all false
set_option maxRecDepth 100000
set_option maxHeartbeats 4000000
namespace Tk
open PySem PySem.Spec PyProof.Rows L2 Lay
open TL (tl ext_tl len_tl tl_append tl_mk mk_tl)
local macro_rules | `(tactic| walk_at "if") => `(tactic| refine ite2 (fun hc => ?_) (fun hc => ?_))
local macro_rules | `(tactic| walk_at "lk") => `(tactic| first | exact upd_same | assumption)
local macro_rules | `(tactic| walk_at "st") => `(tactic| first
  | with_reducible refine r_var rfl ?_ | with_reducible refine r_c ?_ | with_reducible refine r_op ?_ | with_reducible refine r_cons ?_ | with_reducible refine r_nil ?_ | with_reducible refine r_vals ?_
  | with_reducible refine r_cb ?_ | with_reducible refine r_tup ?_ | with_reducible refine r_lst ?_ | with_reducible refine r_call ?_ | with_reducible refine r_test ?_
  | with_reducible refine r_if ?_ | with_reducible refine r_not ?_ | with_reducible refine r_bm ?_ | with_reducible refine r_sl ?_ | with_reducible refine r_np ?_ | with_reducible refine r_part ?_
  | with_reducible refine r_seq ?_ | with_reducible refine r_asg ?_ | with_reducible refine r_name ?_ | with_reducible refine r_ifs ?_ | with_reducible refine r_ret ?_ | with_reducible refine r_next ?_ | with_reducible refine r_par ?_ | with_reducible refine r_par3 ?_ | with_reducible refine r_brk ?_ | with_reducible refine r_cnt ?_ | with_reducible refine r_sub ?_
  | with_reducible refine r_andT ?_ | with_reducible refine r_orT ?_ | with_reducible refine r_notT ?_ | with_reducible refine r_or ?_ | with_reducible refine r_and ?_ | with_reducible refine r_tB ?_ | with_reducible refine r_drop ?_ | with_reducible refine r_callN ?_ | with_reducible refine r_chain ?_
  | with_reducible refine r_for ?_ | with_reducible refine r_lc ?_ | with_reducible refine r_iseq ?_ | with_reducible refine r_rng1 ?_ | with_reducible refine r_enum ?_ | with_reducible refine r_yes ?_ | with_reducible refine r_tru ?_ | with_reducible refine r_gtup ?_ | with_reducible refine r_gcons ?_ | with_reducible refine r_gnil ?_
  | with_reducible refine b_add ?_ | with_reducible refine b_sub ?_ | (with_reducible refine b_mul (by unfold CMul; omega) ?_) | (with_reducible refine b_mod (by omega) ?_) | (with_reducible refine b_fdiv (by unfold CDiv; omega) ?_)
  | with_reducible refine c_lt ?_ | with_reducible refine c_le ?_ | with_reducible refine c_gt ?_ | with_reducible refine c_ge ?_ | with_reducible refine c_isN ?_ | with_reducible refine c_notN ?_ | with_reducible refine c_isB ?_ | with_reducible refine c_eq rfl ?_ | with_reducible refine c_ne rfl ?_
  | with_reducible refine c_insign ?_ | with_reducible refine k_int ?_ | with_reducible refine k_intb ?_ | with_reducible refine k_max ?_ | with_reducible refine k_min ?_
  | with_reducible refine ⟨_, rfl, ?_⟩
  | with_reducible refine ex_par ?_
  | with_reducible refine r_back ?_
  | with_reducible refine ex_par3 ?_
  | with_reducible refine ty_s ?_
  | with_reducible refine tru_b ?_
  | with_reducible refine iteT ?_ | with_reducible refine iteF ?_ | with_reducible refine itnT ?_ | with_reducible refine itnF ?_)
local macro_rules | `(tactic| walk_at "go") => `(tactic| repeat walk_at "st")
local macro_rules | `(tactic| walk_at "cl") => `(tactic| try dsimp only [cxOf, Cx.nox, Cx.wish])
/-! ### rows written in the law -/
local macro_rules | `(tactic| walk_at "lf") => `(tactic| repeat (first | exact lf_nil | exact lf_eq | refine lf_ne (by decide +kernel) ?_))
local macro_rules | `(tactic| walk_at "st") => `(tactic| first | with_reducible refine r_un ?_ | with_reducible refine u_neg ?_ | with_reducible refine r_bm0 ?_ | with_reducible refine r_meth ?_)
abbrev s_law : Stmt := topS 60
theorem sc_law : FnScope ["_law_script", "_law_fixed", "_law_some", "_law_k", "_law_purse_here", "_law_columns", "_law_many", "_law_ahead", "_law_turn"] ["_law_script"] (defScope s_law) := ⟨rfl, rfl, rfl, by decide +kernel, rfl, by decide +kernel, by decide +kernel⟩
def paT : List Pa → TA
  | [] => tNil
  | .i n :: r => tCons (tC (.int n)) (paT r)
  | .s z :: r => tCons (tC (.str z)) (paT r)
  | .t _ :: r => tCons (tTup tNil) (paT r)
def rowT (w : Wz) : TE := tTup (tCons (tC (.str w.1.1)) (paT w.1.2))
def rowsT : List Wz → TA
  | [] => tNil
  | w :: r => tCons (rowT w) (rowsT r)
def litP : List Pa → Prop
  | [] => True
  | .t zs :: r => zs = [] ∧ litP r
  | _ :: r => litP r
def litW (ws : List Wz) : Prop := ∀ w ∈ ws, litP w.1.2 ∧ w.1.2.length ≤ 5 ∧ Rg w.1 w.2
def FixO (K : PySem.W.Frag) (H : Hp) (x : V) : Prop := ∃ l rows body b, x = .ref l ∧ H l = some (.lst rows) ∧ SrAll K H rows (body ++ (if b = true then [closeW] else [])) ∧ (∀ w ∈ body, isB w.2) ∧ (b = true ∨ body ≠ []) ∧ rows.length ≤ 20
def Fx (K : PySem.W.Frag) (n : Nat) (H : Hp) (L : Addr) : Prop := ∃ xs, H L = some (.lst xs) ∧ (∀ x ∈ xs, FixO K H x) ∧ xs.length ≤ n
section
variable {P : Program} {w : World} {K : PySem.W.Frag} {mg : Str → Option Value} {base : Heap} {H : Hp} {σ : L2.St}
theorem mk_pas : ∀ (ps : List Pa) {H : Hp} {Q : List V → Hp → Prop}, litP ps → (∀ vs H', Same H H' → paVs K H' ps vs → Q vs H') → paT ps σ H Q
  | [], H, Q, _, q => q [] H (Same.refl H) rfl
  | .i n :: r, H, Q, h, q => mk_pas r (h : litP r) fun vs H' s g => q _ H' s ⟨_, vs, rfl, rfl, g⟩
  | .s z :: r, H, Q, h, q => mk_pas r (h : litP r) fun vs H' s g => q _ H' s ⟨_, vs, rfl, rfl, g⟩
  | .t zs :: r, H, Q, h, q => by
    obtain ⟨rfl, h⟩ := (h : zs = [] ∧ litP r)
    show tCons (tTup tNil) (paT r) σ H Q
    refine r_cons ?_
    refine ⟨sz1000 (by show 0 ≤ 1000; decide), fun t ht => ?_⟩
    refine mk_pas r h fun vs H' s g => q _ H' ((Same.new ht).trans s) ⟨.ref t, vs, rfl, ⟨t, rfl, SqT.of (s _ _ upd_same)⟩, g⟩
theorem mk_row {v : Wz} {Q : VK} (h : litP v.1.2) (hl : v.1.2.length ≤ 5) (q : ∀ t H', Same H H' → RzV K H' (.ref t) v.1 → Q (.ref t) H') : rowT v σ H Q := by
  unfold rowT
  refine mk_pas (K := K) v.1.2 h fun vs H' s g => ?_
  refine ⟨sz1000 (by rw [List.length_cons, g.len]; omega), fun t ht => ?_⟩
  exact q t _ (s.trans (Same.new ht)) ⟨t, vs, rfl, SqT.of upd_same, g.tk (Same.tk (Same.new ht))⟩
theorem mk_rows : ∀ (ws : List Wz) {H : Hp} {Q : List V → Hp → Prop}, litW ws → (∀ xs H', Same H H' → SrAll K H' xs ws → Q xs H') → rowsT ws σ H Q
  | [], H, Q, _, q => q [] H (Same.refl H) ⟨rfl, fun i x w e => by simp at e⟩
  | v :: r, H, Q, h, q => by
    show tCons (rowT v) (rowsT r) σ H Q
    refine r_cons ?_
    obtain ⟨h1, h2, h3⟩ := h v List.mem_cons_self
    refine mk_row (K := K) h1 h2 fun t H1 s1 z1 => ?_
    refine mk_rows r (fun w hw => h w (List.mem_cons_of_mem _ hw)) fun xs H2 s2 sr => ?_
    exact q _ H2 (s1.trans s2) (SrAll.app (rows := [.ref t]) (ws := [v]) (SrAll.rep (z1.tk (Same.tk s2)) h3 1) sr)
theorem mk_lstR (ws : List Wz) {Q : VK} (h : litW ws) (hl : ws.length ≤ 900) (q : ∀ l rows H', Same H H' → H' l = some (.lst rows) → SrAll K H' rows ws → Q (.ref l) H') : tLst (rowsT ws) σ H Q := by
  refine r_lst ?_
  refine mk_rows (K := K) ws h fun xs H1 s1 sr => ?_
  refine ⟨sz1000 (by rw [sr.1]; omega), fun l hl => ?_⟩
  exact q l xs _ (s1.trans (Same.new hl)) upd_same (sr.tk (Same.tk (Same.new hl)))
theorem mk_tupR (ws : List Wz) {Q : VK} (h : litW ws) (hl : ws.length ≤ 900) (q : ∀ l rows H', Same H H' → H' l = some (.tup rows) → SrAll K H' rows ws → Q (.ref l) H') : tTup (rowsT ws) σ H Q := by
  refine r_tup ?_
  refine mk_rows (K := K) ws h fun xs H1 s1 sr => ?_
  refine ⟨sz1000 (by rw [sr.1]; omega), fun l hl => ?_⟩
  exact q l xs _ (s1.trans (Same.new hl)) upd_same (sr.tk (Same.tk (Same.new hl)))
theorem FixO.same {H H' : Hp} {x : V} (s : Same H H') (h : FixO K H x) : FixO K H' x := by
  obtain ⟨l, rows, body, b, e, h1, h2, h3⟩ := h
  exact ⟨l, rows, body, b, e, s _ _ h1, h2.tk (Same.tk s), h3⟩
theorem mk_fix (body : List Wz) (b : Bool) {ws : List Wz} {Q : VK} (e : ws = body ++ (if b = true then [closeW] else [])) (hb : ∀ w ∈ body, isB w.2) (h : litW ws) (hn : b = true ∨ body ≠ []) (hl : ws.length ≤ 20) (q : ∀ x H', Same H H' → FixO K H' x → Q x H') : tLst (rowsT ws) σ H Q := by
  refine mk_lstR (K := K) ws h (by omega) fun l rows H1 s1 e1 sr => ?_
  exact q _ H1 s1 ⟨l, rows, body, b, rfl, e1, by rw [← e]; exact sr, hb, hn, by rw [sr.1]; exact hl⟩
theorem lit_row : litP rowW.1.2 ∧ rowW.1.2.length ≤ 5 ∧ Rg rowW.1 rowW.2 := ⟨True.intro, by decide, .row⟩
theorem lit_close : litP closeW.1.2 ∧ closeW.1.2.length ≤ 5 ∧ Rg closeW.1 closeW.2 := ⟨True.intro, by decide, .close⟩
theorem lit_cell (d a : Nat) (h1 : 1 ≤ d) (h2 : d ≤ 4) (h3 : 1 ≤ a) (h4 : a ≤ 4) : litP (cellW d a []).1.2 ∧ (cellW d a []).1.2.length ≤ 5 ∧ Rg (cellW d a []).1 (cellW d a []).2 := ⟨⟨rfl, True.intro⟩, (show 3 ≤ 5 by decide), .cell d a [] h1 h2 h3 h4 (fun _ h => nomatch h) (by decide)⟩
theorem lit_tab (c : Nat) (h1 : 1 ≤ c) (h2 : c ≤ 4) : litP (tabW c).1.2 ∧ (tabW c).1.2.length ≤ 5 ∧ Rg (tabW c).1 (tabW c).2 := ⟨⟨rfl, True.intro⟩, (show 2 ≤ 5 by decide), .table c [] h1 h2 rfl⟩
theorem litW.nil : litW [] := fun _ h => nomatch h
theorem litW.cons {v : Wz} {r : List Wz} (h : litP v.1.2 ∧ v.1.2.length ≤ 5 ∧ Rg v.1 v.2) (g : litW r) : litW (v :: r) := fun w hw => by
  rcases List.mem_cons.mp hw with rfl | hw
  · exact h
  · exact g w hw
theorem mk_rc (k : Nat) {Q : VK} (hk : 1 ≤ k) (hk2 : k ≤ 19) (q : ∀ x H', Same H H' → FixO K H' x → Q x H') :
    tOp (sB P w K (binaryOp .Add)) (tOp (sB P w K (binaryOp .Mult)) (tLst (rowsT [rowW])) (tC (.int k))) (tLst (rowsT [closeW])) σ H Q := by
  refine r_op ?_
  refine r_op ?_
  refine mk_lstR (K := K) [rowW] (litW.cons lit_row .nil) (by decide) fun l1 r1 H1 s1 e1 z1 => ?_
  refine r_c ?_
  refine b_rep e1 (by omega) (by omega) (sz1000 (by rw [z1.1, Int.toNat_natCast]; simp; omega)) fun l2 n2 => ?_
  have s2 : Same H1 (upd H1 l2 (.lst (List.replicate ((k : Nat) : Int).toNat r1).flatten)) := Same.new n2
  have e2 : (upd H1 l2 (.lst (List.replicate ((k : Nat) : Int).toNat r1).flatten)) l2 = some (.lst (List.replicate ((k : Nat) : Int).toNat r1).flatten) := upd_same
  generalize upd H1 l2 (.lst (List.replicate ((k : Nat) : Int).toNat r1).flatten) = H2 at s2 e2 ⊢
  refine mk_lstR (K := K) [closeW] (litW.cons lit_close .nil) (by decide) fun l3 r3 H3 s3 e3 z3 => ?_
  rw [Int.toNat_natCast] at e2
  obtain ⟨x1, rfl⟩ : ∃ x, r1 = [x] := by
    have := z1.1
    cases r1 with
    | nil => cases this
    | cons x r => cases r with
      | nil => exact ⟨x, rfl⟩
      | cons _ _ => simp at this
  have ef : (List.replicate k [x1]).flatten = List.replicate k x1 := by
    clear e2 hk hk2
    induction k with
    | zero => rfl
    | succ k ih => rw [List.replicate_succ, List.flatten_cons, ih, List.replicate_succ]; rfl
  rw [ef] at e2
  have hz := z1.2 0 x1 rowW rfl rfl
  have sr : SrAll K H3 (List.replicate k x1 ++ r3) (List.replicate k rowW ++ [closeW]) := SrAll.app (SrAll.rep (hz.1.tk (Same.tk (s2.trans s3))) hz.2 k) z3
  refine b_cat (s3 _ _ e2) e3 (sz1000 (by have := z3.1; rw [List.length_replicate, this]; simp; omega)) fun l4 n4 => ?_
  refine q _ _ (s1.trans (s2.trans (s3.trans (Same.new n4)))) ⟨l4, _, List.replicate k rowW, true, rfl, upd_same, sr.tk (Same.tk (Same.new n4)), fun w hw => by rw [List.eq_of_mem_replicate hw]; exact True.intro, .inl rfl, ?_⟩
  have := sr.1
  rw [this, List.length_append, List.length_replicate]
  simp
  omega
theorem Fx.same {n : Nat} {H H' : Hp} {L : Addr} (s : Same H H') (h : Fx K n H L) : Fx K n H' L := by
  obtain ⟨xs, e, h1, h2⟩ := h
  exact ⟨xs, s _ _ e, fun x hx => (h1 x hx).same s, h2⟩
theorem fx_cat {n k : Nat} {L B : Addr} {ys : List V} {Q : VK} (h : Fx K n H L) (e : H B = some (.lst ys)) (hy : ∀ y ∈ ys, FixO K H y) (hl : ys.length ≤ k) (hn : n + k ≤ 100) (q : ∀ R H', Same H H' → Fx K (n + k) H' R → Q (.ref R) H') : sB P w K (binaryOp .Add) (.ref L) (.ref B) H Q := by
  obtain ⟨xs, e1, h1, h2⟩ := h
  refine b_cat e1 e (sz1000 (by omega)) fun R hR => ?_
  refine q R _ (Same.new hR) ⟨_, upd_same, fun x hx => ?_, by rw [List.length_append]; omega⟩
  rcases List.mem_append.mp hx with hx | hx
  · exact (h1 x hx).same (Same.new hR)
  · exact (hy x hx).same (Same.new hR)
end
end Tk

set_option Elab.async false
set_option linter.all false
set_option maxRecDepth 100000
set_option maxHeartbeats 4000000
namespace Tk
open PySem PySem.Spec PyProof.Rows L2 Lay
open TL (tl ext_tl len_tl tl_append tl_mk mk_tl)
local macro_rules | `(tactic| walk_at "if") => `(tactic| refine ite2 (fun hc => ?_) (fun hc => ?_))
local macro_rules | `(tactic| walk_at "lk") => `(tactic| first | exact upd_same | assumption)
local macro_rules | `(tactic| walk_at "st") => `(tactic| first
  | with_reducible refine r_var rfl ?_ | with_reducible refine r_c ?_ | with_reducible refine r_op ?_ | with_reducible refine r_cons ?_ | with_reducible refine r_nil ?_ | with_reducible refine r_vals ?_
  | with_reducible refine r_cb ?_ | with_reducible refine r_tup ?_ | with_reducible refine r_lst ?_ | with_reducible refine r_call ?_ | with_reducible refine r_test ?_
  | with_reducible refine r_if ?_ | with_reducible refine r_not ?_ | with_reducible refine r_bm ?_ | with_reducible refine r_sl ?_ | with_reducible refine r_np ?_ | with_reducible refine r_part ?_
  | with_reducible refine r_seq ?_ | with_reducible refine r_asg ?_ | with_reducible refine r_name ?_ | with_reducible refine r_ifs ?_ | with_reducible refine r_ret ?_ | with_reducible refine r_next ?_ | with_reducible refine r_par ?_ | with_reducible refine r_par3 ?_ | with_reducible refine r_brk ?_ | with_reducible refine r_cnt ?_ | with_reducible refine r_sub ?_
  | with_reducible refine r_andT ?_ | with_reducible refine r_orT ?_ | with_reducible refine r_notT ?_ | with_reducible refine r_or ?_ | with_reducible refine r_and ?_ | with_reducible refine r_tB ?_ | with_reducible refine r_drop ?_ | with_reducible refine r_callN ?_ | with_reducible refine r_chain ?_
  | with_reducible refine r_for ?_ | with_reducible refine r_lc ?_ | with_reducible refine r_iseq ?_ | with_reducible refine r_rng1 ?_ | with_reducible refine r_enum ?_ | with_reducible refine r_yes ?_ | with_reducible refine r_tru ?_ | with_reducible refine r_gtup ?_ | with_reducible refine r_gcons ?_ | with_reducible refine r_gnil ?_
  | with_reducible refine b_add ?_ | with_reducible refine b_sub ?_ | (with_reducible refine b_mul (by unfold CMul; omega) ?_) | (with_reducible refine b_mod (by omega) ?_) | (with_reducible refine b_fdiv (by unfold CDiv; omega) ?_)
  | with_reducible refine c_lt ?_ | with_reducible refine c_le ?_ | with_reducible refine c_gt ?_ | with_reducible refine c_ge ?_ | with_reducible refine c_isN ?_ | with_reducible refine c_notN ?_ | with_reducible refine c_isB ?_ | with_reducible refine c_eq rfl ?_ | with_reducible refine c_ne rfl ?_
  | with_reducible refine c_insign ?_ | with_reducible refine k_int ?_ | with_reducible refine k_intb ?_ | with_reducible refine k_max ?_ | with_reducible refine k_min ?_
  | with_reducible refine ⟨_, rfl, ?_⟩
  | with_reducible refine ex_par ?_
  | with_reducible refine r_back ?_
  | with_reducible refine ex_par3 ?_
  | with_reducible refine ty_s ?_
  | with_reducible refine tru_b ?_
  | with_reducible refine iteT ?_ | with_reducible refine iteF ?_ | with_reducible refine itnT ?_ | with_reducible refine itnF ?_)
local macro_rules | `(tactic| walk_at "go") => `(tactic| repeat walk_at "st")
local macro_rules | `(tactic| walk_at "cl") => `(tactic| try dsimp only [cxOf, Cx.nox, Cx.wish])
/-! ### the law -/
local macro_rules | `(tactic| walk_at "lf") => `(tactic| repeat (first | exact lf_nil | exact lf_eq | refine lf_ne (by decide +kernel) ?_))
local macro_rules | `(tactic| walk_at "st") => `(tactic| first | with_reducible refine r_un ?_ | with_reducible refine u_neg ?_ | with_reducible refine r_bm0 ?_ | with_reducible refine r_meth ?_)
def spLaw (K : PySem.W.Frag) : Sp := fun vs H Q _ => ∃ (a : Addr) (ns : List Int), vs = [.ref a] ∧ SqL K H a (ns.map V.int) ∧ ns.length ≤ 63 ∧ ∀ H', Q (.bl true) H'
def isC : Rk → Bool
  | .close => true
  | _ => false
section
theorem rgShp {z : Rz} {k : Rk} (h : Rg z k) (hk : isB k ∨ k = .close) : Shp 3 (.tuple (.str z.1 :: z.2.map paD)) ∧ nlD (.tuple (.str z.1 :: z.2.map paD)) = true ∧ PyData.eqv (.tuple (.str z.1 :: z.2.map paD)) (.tuple [.str "close"]) = isC k := by
  cases h with
  | row => exact ⟨(sh_w1 _ (by decide +kernel)).mono (by omega), by decide +kernel, by decide +kernel⟩
  | close => exact ⟨(sh_w1 _ (by decide +kernel)).mono (by omega), by decide +kernel, by decide +kernel⟩
  | cell d a zs h1 h2 h3 h4 h5 h6 =>
    refine ⟨ShA.tup (ShA.cons ((Shp.str (z := Str.ofString "cell") (by decide +kernel)).mono (by omega)) (sh_cell fun z hz => (h5 z hz).ok)), ?_, ?_⟩
    · rw [nlD, nlA, pa_nl]
      rfl
    · exact eqv_hd (a := .str "cell") (by decide +kernel)
  | _ => rcases hk with hk | hk <;> cases hk
def AhdO (K : PySem.W.Frag) (H : Hp) (x : V) : Prop := ∃ l rows aws, x = .ref l ∧ SqT K H l rows ∧ SrAll K H rows aws ∧ AheadW aws
theorem AhdO.tk {K : PySem.W.Frag} {H H' : Hp} {x : V} (t : TK H H') (h : AhdO K H x) : AhdO K H' x := by
  obtain ⟨l, rows, aws, e, h1, h2, h3⟩ := h
  exact ⟨l, rows, aws, e, t.sqt h1, h2.tk t, h3⟩
variable {P : Program} {w : World} {K : PySem.W.Frag} {mg : Str → Option Value} {base : Heap}
theorem ok_law {fa : Addr} {fd : FuncData} (F : Fun K "law" "law" s_law fa fd) (m : Md mg) (c__law_pick : FnG P w K mg base 1 "_law_pick" ["_law_purse_here", "_law_many"] spPick) (c__law_purse : FnG P w K mg base 1 "_law_purse" ["_law_cell_here"] spPurse) (c__law_cell : FnG P w K mg base 1 "_law_cell" ["_law_script", "_law_k"] (spCell K))
    (c__law_drawn : FnG P w K mg base 3 "_law_drawn" ["_law_purse_here", "_law_columns", "_law_many"] (spDrawn K)) (c__law_right : FnG P w K mg base 14 "_law_right" ["_law_strip", "_law_columns", "_law_ahead"] (spRight K)) : FnOk P w K mg base CX0 15 fa fd ["_law_script"] (spLaw K) := by
  refine F.ok sc_law (fun vs H Q E h => ?_) (fun cdv A outer s H vs Q E hr h => ?_)
  · obtain ⟨a, ns, rfl, _⟩ := h
    rfl
  have nd := sc_law.nd
  have L : LX P w K (cxOf CX0 P w K mg base ["_law_script", "_law_fixed", "_law_some", "_law_k", "_law_purse_here", "_law_columns", "_law_many", "_law_ahead", "_law_turn"] "law" (defScope s_law) fa cdv A outer s H E).nox := ⟨rfl, rfl, rfl, rfl, hr.units⟩
  refine ⟨_, (pss_cons (ps_set (i := 1) nd rfl (.inl rfl) (pe_lst (pa_cons (pe_lst (pa_cons (pe_tup (pa_cons pe_str pa_nil)) pa_nil)) (pa_cons (pe_lst (pa_cons (pe_tup (pa_cons pe_str pa_nil)) (pa_cons (pe_tup (pa_cons pe_str pa_nil)) pa_nil))) (pa_cons (pe_op (ob L) (pe_op (ob L) (pe_lst (pa_cons (pe_tup (pa_cons pe_str pa_nil)) pa_nil)) pe_int) (pe_lst (pa_cons (pe_tup (pa_cons pe_str pa_nil)) pa_nil))) pa_nil))))) (pss_cons (ps_set (i := 1) nd rfl (.inl rfl) (pe_op (ob L) (pv 1) (pe_lst (pa_cons (pe_op (ob L) (pe_op (ob L) (pe_lst (pa_cons (pe_tup (pa_cons pe_str pa_nil)) pa_nil)) pe_int) (pe_lst (pa_cons (pe_tup (pa_cons pe_str pa_nil)) pa_nil))) (pa_cons (pe_lst (pa_cons (pe_tup (pa_cons pe_str (pa_cons pe_int (pa_cons pe_int (pa_cons (pe_tup pa_nil) pa_nil))))) (pa_cons (pe_tup (pa_cons pe_str pa_nil)) pa_nil))) pa_nil))))) (pss_cons (ps_set (i := 1) nd rfl (.inl rfl) (pe_op (ob L) (pv 1) (pe_lst (pa_cons (pe_lst (pa_cons (pe_tup (pa_cons pe_str pa_nil)) (pa_cons (pe_tup (pa_cons pe_str (pa_cons pe_int (pa_cons pe_int (pa_cons (pe_tup pa_nil) pa_nil))))) (pa_cons (pe_tup (pa_cons pe_str pa_nil)) pa_nil)))) (pa_cons (pe_lst (pa_cons (pe_tup (pa_cons pe_str pa_nil)) (pa_cons (pe_tup (pa_cons pe_str (pa_cons pe_int (pa_cons pe_int (pa_cons (pe_tup pa_nil) pa_nil))))) (pa_cons (pe_tup (pa_cons pe_str pa_nil)) pa_nil)))) pa_nil))))) (pss_cons (ps_set (i := 1) nd rfl (.inl rfl) (pe_op (ob L) (pv 1) (pe_lst (pa_cons (pe_lst (pa_cons (pe_tup (pa_cons pe_str pa_nil)) (pa_cons (pe_tup (pa_cons pe_str (pa_cons pe_int (pa_cons pe_int (pa_cons (pe_tup pa_nil) pa_nil))))) (pa_cons (pe_tup (pa_cons pe_str (pa_cons pe_int (pa_cons pe_int (pa_cons (pe_tup pa_nil) pa_nil))))) (pa_cons (pe_tup (pa_cons pe_str pa_nil)) (pa_cons (pe_tup (pa_cons pe_str (pa_cons pe_int (pa_cons pe_int (pa_cons (pe_tup pa_nil) pa_nil))))) (pa_cons (pe_tup (pa_cons pe_str pa_nil)) pa_nil))))))) pa_nil)))) (pss_cons (ps_set (i := 1) nd rfl (.inl rfl) (pe_op (ob L) (pv 1) (pe_lst (pa_cons (pe_lst (pa_cons (pe_tup (pa_cons pe_str pa_nil)) (pa_cons (pe_tup (pa_cons pe_str (pa_cons pe_int (pa_cons pe_int (pa_cons (pe_tup pa_nil) pa_nil))))) (pa_cons (pe_tup (pa_cons pe_str pa_nil)) (pa_cons (pe_tup (pa_cons pe_str pa_nil)) (pa_cons (pe_tup (pa_cons pe_str pa_nil)) pa_nil)))))) pa_nil)))) (pss_cons (ps_set (i := 1) nd rfl (.inl rfl) (pe_op (ob L) (pv 1) (pe_lst (pa_cons (pe_lst (pa_cons (pe_tup (pa_cons pe_str pa_nil)) (pa_cons (pe_tup (pa_cons pe_str (pa_cons pe_int (pa_cons pe_int (pa_cons (pe_tup pa_nil) pa_nil))))) (pa_cons (pe_tup (pa_cons pe_str pa_nil)) (pa_cons (pe_tup (pa_cons pe_str (pa_cons pe_int (pa_cons pe_int (pa_cons (pe_tup pa_nil) pa_nil))))) pa_nil))))) pa_nil)))) (pss_cons (ps_for PassesOwn.never rfl (pi_seqL L (pv 1)) (pg_name (i := 2) nd rfl (.inl rfl)) (pss_one (ps_if (pt_not (pt_truthL L (pe_callG c__law_right (hr.mono (by decide)) (by rfl) (pa_cons (pe_op (ob L) (pe_op (ob L) (pe_lst (pa_cons (pe_tup (pa_cons pe_str (pa_cons pe_int (pa_cons (pe_tup pa_nil) pa_nil)))) pa_nil)) (pv 2)) (pe_op (ob L) (pe_lst (pa_cons (pe_tup (pa_cons pe_str pa_nil)) pa_nil)) (pe_callTy (oc L) (by rfl) m.int_ bt_int (pa_cons (pe_cmpR (op_ L) (pe_ix (oi L) (pv 2) (pe_un (ou L) pe_int) (fun _ _ => rfl)) (pe_tup (pa_cons pe_str pa_nil)) (nomark _)) pa_nil)))) (pa_cons pe_int (pa_cons (pe_tup pa_nil) pa_nil)))))) (pss_one (ps_ret pe_bl)) pss_nil))) (pss_cons (ps_for PassesOwn.never rfl (pi_range1 (by rfl) m.range_ (pa_cons (pe_callB (oc L) (by rfl) m.max_ bt_max (pa_cons pe_int (pa_cons (pe_callB (oc L) (by rfl) m.min_ bt_min (pa_cons pe_int (pa_cons (pe_callB (oc L) (by rfl) m.len_ bt_len (pa_cons (pv 0) pa_nil)) pa_nil))) pa_nil))) pa_nil)) (pg_name (i := 3) nd rfl (.inl rfl)) (pss_cons (ps_set (i := 4) nd rfl (.inl rfl) (pe_callG c__law_purse (hr.mono (by decide)) (by rfl) (pa_cons (pe_callG c__law_cell (hr.mono (by decide)) (by rfl) (pa_cons (pv 0) (pa_cons (pv 3) pa_nil))) pa_nil))) (pss_cons (ps_par (i := 5) (j := 6) rfl nd rfl rfl (by decide) rfl rfl (pa_cons (pe_op (ob L) pe_int (pe_callG c__law_pick (hr.mono (by decide)) (by rfl) (pa_cons (pv 4) (pa_cons pe_int pa_nil)))) (pa_cons (pe_ix (oi L) (pe_lst (pa_cons pe_int (pa_cons pe_int (pa_cons pe_int (pa_cons (pe_op (ob L) pe_int (pe_callG c__law_pick (hr.mono (by decide)) (by rfl) (pa_cons (pv 4) (pa_cons pe_int pa_nil)))) pa_nil))))) (pe_callG c__law_pick (hr.mono (by decide)) (by rfl) (pa_cons (pv 4) (pa_cons pe_int pa_nil))) (fun _ _ => rfl)) pa_nil)) (by rfl)) (pss_cons (ps_set (i := 7) nd rfl (.inl rfl) (pe_lst (pa_cons (pe_tup pa_nil) (pa_cons (pe_tup (pa_cons (pe_tup (pa_cons pe_str (pa_cons pe_str (pa_cons (pe_tup pa_nil) pa_nil)))) pa_nil)) (pa_cons (pe_tup (pa_cons (pe_tup (pa_cons pe_str pa_nil)) (pa_cons (pe_tup (pa_cons pe_str (pa_cons pe_str pa_nil))) pa_nil))) (pa_cons (pe_tup (pa_cons (pe_tup (pa_cons pe_str (pa_cons pe_str pa_nil))) (pa_cons (pe_tup (pa_cons pe_str (pa_cons pe_str pa_nil))) pa_nil))) pa_nil)))))) (pss_cons (ps_set (i := 7) nd rfl (.inl rfl) (pe_ix (oi L) (pv 7) (pe_callG c__law_pick (hr.mono (by decide)) (by rfl) (pa_cons (pv 4) (pa_cons pe_int pa_nil))) (fun _ _ => rfl))) (pss_one (ps_for PassesOwn.never rfl (pi_range1 (by rfl) m.range_ (pa_cons pe_int pa_nil)) (pg_name (i := 8) nd rfl (.inl rfl)) (pss_one (ps_if (pt_not (pt_truthL L (pe_callG c__law_right (hr.mono (by decide)) (by rfl) (pa_cons (pe_callG c__law_drawn (hr.mono (by decide)) (by rfl) (pa_cons (pv 4) (pa_cons (pv 5) (pa_cons (pv 6) pa_nil)))) (pa_cons (pv 5) (pa_cons (pv 7) pa_nil)))))) (pss_one (ps_ret pe_bl)) pss_nil))))))))) (pss_one (ps_ret pe_bl)))))))))), ?_⟩
  obtain ⟨a, ns, rfl, hS, hns, q⟩ := h
  have lr := lit_row
  have lc := lit_close
  refine r_seqH fun nx0 h0 => ?_
  refine r_asg ?_
  refine r_lst ?_
  refine r_cons ?_
  refine mk_fix (K := K) [] true (ws := [closeW]) rfl (fun _ h => nomatch h) (litW.cons lc .nil) (.inl rfl) (by decide) fun x1 H1 s1 f1 => ?_
  refine r_cons ?_
  refine mk_fix (K := K) [rowW] true (ws := [rowW, closeW]) rfl (fun w hw => by rw [List.mem_singleton.mp hw]; exact True.intro) (litW.cons lr (litW.cons lc .nil)) (.inl rfl) (by decide) fun x2 H2 s2 f2 => ?_
  refine r_cons ?_
  refine mk_rc (K := K) 8 (by decide) (by decide) fun x3 H3 s3 f3 => ?_
  refine r_nil ?_
  refine ⟨sz1000 (by show 3 ≤ 1000; decide), fun L1 hL1 => ?_⟩
  refine r_name ?_
  refine h0 _ _ ?_
  clear h0
  have s4 : Same H3 (upd H3 L1 (.lst [x1, x2, x3])) := Same.new hL1
  have fx : Fx K 3 (upd H3 L1 (.lst [x1, x2, x3])) L1 := ⟨_, upd_same, fun x hx => by
    rcases List.mem_cons.mp hx with rfl | hx
    · exact f1.same (s2.trans (s3.trans s4))
    rcases List.mem_cons.mp hx with rfl | hx
    · exact f2.same (s3.trans s4)
    · rw [List.mem_singleton.mp hx]
      exact f3.same s4, Nat.le_refl _⟩
  have sm : Same H (upd H3 L1 (.lst [x1, x2, x3])) := s1.trans (s2.trans (s3.trans s4))
  generalize upd H3 L1 (.lst [x1, x2, x3]) = H4 at sm fx
  clear f1 f2 f3 s1 s2 s3 s4 hL1
  have cl : ∀ (d a : Nat), 1 ≤ d → d ≤ 4 → 1 ≤ a → a ≤ 4 → litP (cellW d a []).1.2 ∧ (cellW d a []).1.2.length ≤ 5 ∧ Rg (cellW d a []).1 (cellW d a []).2 := lit_cell
  have two : ∀ {x y : V} {G : Hp}, FixO K G x → FixO K G y → ∀ z ∈ [x, y], FixO K G z := fun h1 h2 z hz => by
    rcases List.mem_cons.mp hz with rfl | hz
    · exact h1
    · rw [List.mem_singleton.mp hz]
      exact h2
  have one : ∀ {x : V} {G : Hp}, FixO K G x → ∀ z ∈ [x], FixO K G z := fun h1 z hz => by
    rw [List.mem_singleton.mp hz]
    exact h1
  refine r_seqH fun nx0 h0 => ?_
  refine r_asg ?_
  refine r_op ?_
  refine r_var rfl ?_
  refine r_lst ?_
  refine r_cons ?_
  refine mk_rc (K := K) 9 (by decide) (by decide) fun x1 H1 s1 f1 => ?_
  refine r_cons ?_
  refine mk_fix (K := K) [cellW 1 1 []] true (ws := [cellW 1 1 [], closeW]) rfl (fun w hw => by rw [List.mem_singleton.mp hw]; exact True.intro) (litW.cons (cl 1 1 (by decide) (by decide) (by decide) (by decide)) (litW.cons lc .nil)) (.inl rfl) (by decide) fun x2 H2 s2 f2 => ?_
  refine r_nil ?_
  refine ⟨sz1000 (by show 2 ≤ 1000; decide), fun L2 hL2 => ?_⟩
  have s3 : Same H2 (upd H2 L2 (.lst [x1, x2])) := Same.new hL2
  refine fx_cat (k := 2) (fx.same (s1.trans (s2.trans s3))) upd_same (two (f1.same (s2.trans s3)) (f2.same s3)) (Nat.le_refl _) (by decide) fun L1 H5 s4 fx => ?_
  refine r_name ?_
  refine h0 _ _ ?_
  clear h0
  have sm := sm.trans ((s1.trans (s2.trans s3)).trans s4)
  clear f1 f2 s1 s2 s3 s4 hL2
  refine r_seqH fun nx0 h0 => ?_
  refine r_asg ?_
  refine r_op ?_
  refine r_var rfl ?_
  refine r_lst ?_
  refine r_cons ?_
  refine mk_fix (K := K) [rowW, cellW 2 1 []] true (ws := [rowW, cellW 2 1 [], closeW]) rfl (fun w hw => ?_) (litW.cons lr (litW.cons (cl 2 1 (by decide) (by decide) (by decide) (by decide)) (litW.cons lc .nil))) (.inl rfl) (by decide) fun x1 H1 s1 f1 => ?_
  · rcases List.mem_cons.mp hw with rfl | hw
    · exact True.intro
    · rw [List.mem_singleton.mp hw]
      exact True.intro
  refine r_cons ?_
  refine mk_fix (K := K) [rowW, cellW 1 3 []] true (ws := [rowW, cellW 1 3 [], closeW]) rfl (fun w hw => ?_) (litW.cons lr (litW.cons (cl 1 3 (by decide) (by decide) (by decide) (by decide)) (litW.cons lc .nil))) (.inl rfl) (by decide) fun x2 H2 s2 f2 => ?_
  · rcases List.mem_cons.mp hw with rfl | hw
    · exact True.intro
    · rw [List.mem_singleton.mp hw]
      exact True.intro
  refine r_nil ?_
  refine ⟨sz1000 (by show 2 ≤ 1000; decide), fun L2 hL2 => ?_⟩
  have s3 : Same H2 (upd H2 L2 (.lst [x1, x2])) := Same.new hL2
  refine fx_cat (k := 2) (fx.same (s1.trans (s2.trans s3))) upd_same (two (f1.same (s2.trans s3)) (f2.same s3)) (Nat.le_refl _) (by decide) fun L1 H5 s4 fx => ?_
  refine r_name ?_
  refine h0 _ _ ?_
  clear h0
  have sm := sm.trans ((s1.trans (s2.trans s3)).trans s4)
  clear f1 f2 s1 s2 s3 s4 hL2
  refine r_seqH fun nx0 h0 => ?_
  refine r_asg ?_
  refine r_op ?_
  refine r_var rfl ?_
  refine r_lst ?_
  refine r_cons ?_
  refine mk_fix (K := K) [rowW, cellW 2 1 [], cellW 1 1 [], rowW, cellW 1 1 []] true (ws := [rowW, cellW 2 1 [], cellW 1 1 [], rowW, cellW 1 1 [], closeW]) rfl (by simp only [List.mem_cons, List.not_mem_nil, or_false, forall_eq_or_imp, forall_eq]; exact ⟨True.intro, True.intro, True.intro, True.intro, True.intro⟩)
    (litW.cons lr (litW.cons (cl 2 1 (by decide) (by decide) (by decide) (by decide)) (litW.cons (cl 1 1 (by decide) (by decide) (by decide) (by decide)) (litW.cons lr (litW.cons (cl 1 1 (by decide) (by decide) (by decide) (by decide)) (litW.cons lc .nil)))))) (.inl rfl) (by decide) fun x1 H1 s1 f1 => ?_
  refine r_nil ?_
  refine ⟨sz1000 (by show 1 ≤ 1000; decide), fun L2 hL2 => ?_⟩
  have s3 : Same H1 (upd H1 L2 (.lst [x1])) := Same.new hL2
  refine fx_cat (k := 1) (fx.same (s1.trans s3)) upd_same (one (f1.same s3)) (Nat.le_refl _) (by decide) fun L1 H5 s4 fx => ?_
  refine r_name ?_
  refine h0 _ _ ?_
  clear h0
  have sm := sm.trans ((s1.trans s3).trans s4)
  clear f1 s1 s3 s4 hL2
  refine r_seqH fun nx0 h0 => ?_
  refine r_asg ?_
  refine r_op ?_
  refine r_var rfl ?_
  refine r_lst ?_
  refine r_cons ?_
  refine mk_fix (K := K) [rowW, cellW 3 2 [], rowW, rowW] true (ws := [rowW, cellW 3 2 [], rowW, rowW, closeW]) rfl (by simp only [List.mem_cons, List.not_mem_nil, or_false, forall_eq_or_imp, forall_eq]; exact ⟨True.intro, True.intro, True.intro, True.intro⟩)
    (litW.cons lr (litW.cons (cl 3 2 (by decide) (by decide) (by decide) (by decide)) (litW.cons lr (litW.cons lr (litW.cons lc .nil))))) (.inl rfl) (by decide) fun x1 H1 s1 f1 => ?_
  refine r_nil ?_
  refine ⟨sz1000 (by show 1 ≤ 1000; decide), fun L2 hL2 => ?_⟩
  have s3 : Same H1 (upd H1 L2 (.lst [x1])) := Same.new hL2
  refine fx_cat (k := 1) (fx.same (s1.trans s3)) upd_same (one (f1.same s3)) (Nat.le_refl _) (by decide) fun L1 H5 s4 fx => ?_
  refine r_name ?_
  refine h0 _ _ ?_
  clear h0
  have sm := sm.trans ((s1.trans s3).trans s4)
  clear f1 s1 s3 s4 hL2
  refine r_seqH fun nx0 h0 => ?_
  refine r_asg ?_
  refine r_op ?_
  refine r_var rfl ?_
  refine r_lst ?_
  refine r_cons ?_
  refine mk_fix (K := K) [rowW, cellW 2 2 [], rowW, cellW 1 1 []] false (ws := [rowW, cellW 2 2 [], rowW, cellW 1 1 []]) rfl (by simp only [List.mem_cons, List.not_mem_nil, or_false, forall_eq_or_imp, forall_eq]; exact ⟨True.intro, True.intro, True.intro, True.intro⟩)
    (litW.cons lr (litW.cons (cl 2 2 (by decide) (by decide) (by decide) (by decide)) (litW.cons lr (litW.cons (cl 1 1 (by decide) (by decide) (by decide) (by decide)) .nil)))) (.inr (by simp)) (by decide) fun x1 H1 s1 f1 => ?_
  refine r_nil ?_
  refine ⟨sz1000 (by show 1 ≤ 1000; decide), fun L2 hL2 => ?_⟩
  have s3 : Same H1 (upd H1 L2 (.lst [x1])) := Same.new hL2
  refine fx_cat (k := 1) (fx.same (s1.trans s3)) upd_same (one (f1.same s3)) (Nat.le_refl _) (by decide) fun L1 H5 s4 fx => ?_
  refine r_name ?_
  refine h0 _ _ ?_
  clear h0
  have sm := sm.trans ((s1.trans s3).trans s4)
  clear f1 s1 s3 s4 hL2
  obtain ⟨xs, eL, hfo, hxl⟩ := fx
  -- the fixed ones
  refine r_seqH fun nx0 h0 => ?_
  walk_at "go"
  refine .inl ⟨L1, xs, rfl, SqL.of eL, ?_⟩
  refine fo_it walk_list (fun i σ H' => ∃ v2 v3 v4 v5 v6 v7 v8, σ = [some (.ref a), some (.ref L1), v2, v3, v4, v5, v6, v7, v8] ∧ Same H5 H')
    ⟨_, _, _, _, _, _, _, rfl, Same.refl _⟩ (fun _ _ H' _ hp => by obtain ⟨_, _, _, _, _, _, _, _, s⟩ := hp; exact SqL.of (s _ _ eL)) (fun i x σ H1 H2 hi hP hY => ?_) (fun σ H1 hP => ?_)
  · obtain ⟨v2, v3, v4, v5, v6, v7, v8, rfl, s1⟩ := hP
    obtain ⟨rfl, hx⟩ := hY
    obtain ⟨l, rows, body, b, rfl, el, sr, hb, hnb, hlen⟩ := (hfo x (List.mem_of_getElem? hx)).same s1
    refine r_name ?_
    refine r_ifs ?_
    refine r_not ?_
    refine r_tru ?_
    refine r_call ?_
    refine r_cons ?_
    refine r_op ?_
    refine r_op ?_
    refine mk_lstR (K := K) [tabW 2] (litW.cons (lit_tab 2 (by decide) (by decide)) .nil) (Nat.le_of_ble_eq_true rfl) fun l1 r1 G1 t1 e1 z1 => ?_
    refine r_var rfl ?_
    have hz1 := z1.1
    refine b_cat e1 (t1 _ _ el) (sz1000 (by rw [hz1]; show 1 + rows.length ≤ 1000; omega)) fun l2 n2 => ?_
    have t2 : Same G1 (upd G1 l2 (.lst (r1 ++ rows))) := Same.new n2
    have e2 : (upd G1 l2 (.lst (r1 ++ rows))) l2 = some (.lst (r1 ++ rows)) := upd_same
    generalize upd G1 l2 (.lst (r1 ++ rows)) = G2 at t2 e2 ⊢
    refine r_op ?_
    refine mk_lstR (K := K) [closeW] (litW.cons lc .nil) (Nat.le_of_ble_eq_true rfl) fun l3 r3 G3 t3 e3 z3 => ?_
    have hws : ∃ ws' wl, body ++ (if b = true then [closeW] else []) = ws' ++ [wl] ∧ (isB wl.2 ∨ wl.2 = .close) ∧ isC wl.2 = b := by
      cases b with
      | true => exact ⟨body, closeW, rfl, .inr rfl, rfl⟩
      | false =>
        have hne : body ≠ [] := hnb.resolve_left (by decide)
        refine ⟨body.dropLast, body.getLast hne, ?_, .inl (hb _ (List.getLast_mem hne)), ?_⟩
        · rw [if_neg (by decide), List.append_nil, List.dropLast_concat_getLast hne]
        · have := hb _ (List.getLast_mem hne)
          generalize (body.getLast hne).2 = k at this
          cases k <;> first | rfl | exact this.elim
    obtain ⟨ws', wl, ews, hwl, hdb⟩ := hws
    obtain ⟨rows', y, erows, hlr⟩ := cat_of (show rows.length = ws'.length + 1 by rw [sr.1, ews, List.length_append]; rfl)
    have hy : RzV K H2 y wl.1 ∧ Rg wl.1 wl.2 := sr.2 ws'.length y wl (by rw [erows, ← hlr]; simp) (by rw [ews]; simp)
    obtain ⟨⟨ry, vy, rfl, hSy, hvy⟩, hgy⟩ := hy
    obtain ⟨sh1, nl1, ev1⟩ := rgShp hgy hwl
    have t03 : Same H2 G3 := t1.trans (t2.trans t3)
    refine r_cb ?_
    refine r_cons ?_
    refine r_op ?_
    refine r_op ?_
    refine r_var rfl ?_
    refine r_un ?_
    refine r_c ?_
    refine u_neg ?_
    refine i_lst (SqL.of (t03 _ _ el)) (by rw [erows]; exact atI_last) ?_
    refine mk_row (K := K) (v := closeW) lc.1 lc.2.1 fun tc G4 t4 z4 => ?_
    obtain ⟨_, vc, ec, hSc, hvc⟩ := z4
    cases ec
    have hdy : Dp K G4 (.ref ry) (.tuple (.str wl.1.1 :: wl.1.2.map paD)) := .tup (Same.sqt (t03.trans t4) hSy) (.cons (.str _) (paVs.dp (hvy.tk (Same.tk (t03.trans t4)))))
    have hdc : Dp K G4 (.ref tc) (.tuple [.str "close"]) := .tup hSc (.cons (.str _) hvc.dp)
    refine c_neP hdy hdc sh1 (sh_w1 _ (by decide +kernel)) (by omega) (by omega) ?_
    rw [ev1, hdb]
    refine r_nil ?_
    refine k_intb ?_
    have hz3 := z3.1
    refine b_rep (t4 _ _ e3) (by cases b <;> decide) (by cases b <;> decide) (sz1000 (by rw [hz3]; cases b <;> decide)) fun l4 n4 => ?_
    have er : (List.replicate (if (!b) = true then (1 : Int) else 0).toNat r3).flatten = if b = true then [] else r3 := by cases b <;> simp
    have t5 : Same G4 (upd G4 l4 (.lst (List.replicate (if (!b) = true then (1 : Int) else 0).toNat r3).flatten)) := Same.new n4
    have e5 : (upd G4 l4 (.lst (List.replicate (if (!b) = true then (1 : Int) else 0).toNat r3).flatten)) l4 = some (.lst (if b = true then [] else r3)) := by rw [upd_same, er]
    generalize upd G4 l4 (.lst (List.replicate (if (!b) = true then (1 : Int) else 0).toNat r3).flatten) = G5 at t5 e5 ⊢
    have t35 := t4.trans t5
    have sr5 : SrAll K G5 (r1 ++ rows ++ (if b = true then [] else r3)) (tabW 2 :: (body ++ [closeW])) := by
      have h1 : SrAll K G5 ((r1 ++ rows) ++ (if b = true then [] else r3)) (([tabW 2] ++ (body ++ (if b = true then [closeW] else []))) ++ (if b = true then [] else [closeW])) := by
        refine SrAll.app (SrAll.app (z1.tk (Same.tk (t2.trans (t3.trans t35)))) (sr.tk (Same.tk (t03.trans t35)))) ?_
        cases b with
        | true => exact ⟨rfl, fun i x w e => by simp at e⟩
        | false => exact z3.tk (Same.tk t35)
      have e : ([tabW 2] ++ (body ++ (if b = true then [closeW] else []))) ++ (if b = true then [] else [closeW]) = tabW 2 :: (body ++ [closeW]) := by cases b <;> simp
      rw [e] at h1
      exact h1
    have hl5 : (r1 ++ rows ++ (if b = true then [] else r3)).length ≤ 30 := by
      rw [List.length_append, List.length_append, hz1]
      have : (if b = true then [] else r3).length ≤ 1 := by
        cases b with
        | true => exact Nat.zero_le _
        | false =>
          show r3.length ≤ 1
          rw [hz3]
          exact Nat.le_refl _
      show 1 + rows.length + _ ≤ 30
      omega
    refine b_cat ((t3.trans t35) _ _ e2) e5 (sz1000 (by rw [← List.length_append]; omega)) fun l6 n6 => ?_
    have t6 : Same G5 (upd G5 l6 (.lst (r1 ++ rows ++ (if b = true then [] else r3)))) := Same.new n6
    have e6 : (upd G5 l6 (.lst (r1 ++ rows ++ (if b = true then [] else r3)))) l6 = some (.lst (r1 ++ rows ++ (if b = true then [] else r3))) := upd_same
    generalize upd G5 l6 (.lst (r1 ++ rows ++ (if b = true then [] else r3))) = G6 at t6 e6 ⊢
    refine r_cons ?_
    refine r_c ?_
    refine r_cons ?_
    refine mk_tupR (K := K) [] .nil (Nat.zero_le _) fun ta ra G7 t7 e7 z7 => ?_
    refine r_nil ?_
    refine ⟨l6, 2, ta, _, _, ra, [], rfl, by decide, by decide, t7 _ _ e6, sr5.tk (Same.tk (t6.trans t7)), ⟨body, rfl, hb⟩, by rw [← sr5.1]; omega, SqT.of e7, z7, .inl rfl, fun G8 t8 => ?_⟩
    refine tru_b ?_
    refine itnT ?_
    refine r_next ?_
    exact ⟨_, _, _, _, _, _, _, rfl, s1.trans (t03.trans (t35.trans (t6.trans (t7.trans t8))))⟩
  obtain ⟨v2, v3, v4, v5, v6, v7, v8, rfl, s1⟩ := hP
  refine h0 _ _ ?_
  clear h0
  have sm1 := sm.trans s1
  refine r_seqH fun nx0 h0 => ?_
  walk_at "go"
  refine k_lenl (.inl (sm1.seq hS)) ?_
  rw [List.length_map]
  walk_at "go"
  generalize hn : (if (if (ns.length : Int) < 6 then (ns.length : Int) else 6) > 2 then (if (ns.length : Int) < 6 then (ns.length : Int) else 6) else 2) = nn
  have n6 : nn ≤ 6 ∧ 2 ≤ nn := by
    split at hn <;> split at hn <;> omega
  refine ⟨by omega, by omega, ?_⟩
  refine fo_it walk_range (fun i σ H' => ∃ v2 v3 v4 v5 v6 v7 v8, σ = [some (.ref a), some (.ref L1), v2, v3, v4, v5, v6, v7, v8] ∧ Same H H') ⟨_, _, _, _, _, _, _, rfl, sm1⟩ (fun _ _ _ _ _ => True.intro) (fun i x σ H6 H7 hi hP hY => ?_) (fun σ H6 hP => ?_)
  rotate_left
  · obtain ⟨v2, v3, v4, v5, v6, v7, v8, rfl, _⟩ := hP
    refine h0 _ _ ?_
    walk_at "go"
    exact q _
  clear h0
  obtain ⟨v2, v3, v4, v5, v6, v7, v8, rfl, s6⟩ := hP
  obtain ⟨rfl, hx⟩ := hY
  have hx : x = .int ((0 : Int) + (i : Nat)) := hx
  subst hx
  refine r_seqH fun nx1 h1 => ?_
  walk_at "go"
  refine u_cell (s6.seq hS) (by omega) (by omega) fun ci H8 s8 => ?_
  walk_at "go"
  refine u_purse fun p H9 s9 np hPu => ?_
  walk_at "go"
  refine h1 _ _ ?_
  clear h1
  have s69 : Same H H9 := s6.trans (s8.trans s9)
  have np0 : H p = none := free_of (s6.trans s8) np
  refine r_seqH fun nx1 h1 => ?_
  walk_at "go"
  refine u_pick hPu (by omega) (by omega) fun k1 H10 b10 hP10 k10 k11 => ?_
  walk_at "go"
  refine u_pick hP10 (by omega) (by omega) fun k2 H11 b11 hP11 k20 k21 => ?_
  walk_at "go"
  refine ⟨sz1000 (by show 4 ≤ 1000; decide), fun l hl => ?_⟩
  have s12 : Same H11 (upd H11 l (.lst [V.int 1, V.int 2, V.int 3, V.int (1 + k2)])) := Same.new hl
  have e12 : (upd H11 l (.lst [V.int 1, V.int 2, V.int 3, V.int (1 + k2)])) l = some (.lst [V.int 1, V.int 2, V.int 3, V.int (1 + k2)]) := upd_same
  have nlp : l ≠ p := hP11.ne hl
  generalize upd H11 l (.lst [V.int 1, V.int 2, V.int 3, V.int (1 + k2)]) = H12 at s12 e12 ⊢
  walk_at "go"
  refine u_pick (hP11.same s12) (by omega) (by omega) fun k3 H13 b13 hP13 k30 k31 => ?_
  refine i_draw (xs := [V.int 1, V.int 2, V.int 3, V.int (1 + k2)]) (SqL.of (b13 _ _ nlp e12)) k30 (by simpa using k31) fun x hx => ?_
  obtain ⟨n, rfl, n8⟩ : ∃ n : Nat, x = .int (n : Nat) ∧ n ≤ 8 := by
    rcases List.mem_cons.mp hx with rfl | hx
    · exact ⟨1, rfl, by omega⟩
    rcases List.mem_cons.mp hx with rfl | hx
    · exact ⟨2, rfl, by omega⟩
    rcases List.mem_cons.mp hx with rfl | hx
    · exact ⟨3, rfl, by omega⟩
    · rw [List.mem_singleton.mp hx]
      refine ⟨(1 + k2).toNat, congrArg V.int ?_, ?_⟩ <;> omega
  obtain ⟨c, hc, hc1, hc4⟩ : ∃ c : Nat, 1 + k1 = (c : Int) ∧ 1 ≤ c ∧ c ≤ 4 := ⟨(1 + k1).toNat, by omega, by omega, by omega⟩
  rw [hc]
  walk_at "go"
  refine h1 _ _ ?_
  clear h1
  have b913 : But p H9 H13 := b10.trans (b11.trans ((Same.but s12).trans b13))
  refine r_seqH fun nx1 h1 => ?_
  refine r_asg ?_
  refine r_lst ?_
  refine r_cons ?_
  refine mk_tupR (K := K) [] .nil (Nat.zero_le _) fun ta ra G1 t1 e1 z1 => ?_
  refine r_cons ?_
  refine mk_tupR (K := K) [paraW] (litW.cons ⟨⟨rfl, True.intro⟩, (show 2 ≤ 5 by decide), .para⟩ .nil) (Nat.le_of_ble_eq_true rfl) fun tb rb G2 t2 e2 z2 => ?_
  refine r_cons ?_
  refine mk_tupR (K := K) [indexW, whenW "pages"] (litW.cons ⟨True.intro, (show 0 ≤ 5 by decide), .index⟩ (litW.cons ⟨True.intro, (show 1 ≤ 5 by decide), .when _ (by decide +kernel)⟩ .nil)) (Nat.le_of_ble_eq_true rfl) fun tc rc G3 t3 e3 z3 => ?_
  refine r_cons ?_
  refine mk_tupR (K := K) [whenW "plain", whenW "screen"] (litW.cons ⟨True.intro, (show 1 ≤ 5 by decide), .when _ (by decide +kernel)⟩ (litW.cons ⟨True.intro, (show 1 ≤ 5 by decide), .when _ (by decide +kernel)⟩ .nil)) (Nat.le_of_ble_eq_true rfl) fun td rd G4 t4 e4 z4 => ?_
  refine r_nil ?_
  refine ⟨sz1000 (by show 4 ≤ 1000; decide), fun la hla => ?_⟩
  have t5 : Same G4 (upd G4 la (.lst [V.ref ta, V.ref tb, V.ref tc, V.ref td])) := Same.new hla
  have e5 : (upd G4 la (.lst [V.ref ta, V.ref tb, V.ref tc, V.ref td])) la = some (.lst [V.ref ta, V.ref tb, V.ref tc, V.ref td]) := upd_same
  have hall : ∀ x ∈ [V.ref ta, V.ref tb, V.ref tc, V.ref td], AhdO K (upd G4 la (.lst [V.ref ta, V.ref tb, V.ref tc, V.ref td])) x := fun x hx => by
    rcases List.mem_cons.mp hx with rfl | hx
    · exact AhdO.tk (Same.tk (t2.trans (t3.trans (t4.trans t5)))) ⟨ta, ra, [], rfl, SqT.of e1, z1, .inl rfl⟩
    rcases List.mem_cons.mp hx with rfl | hx
    · exact AhdO.tk (Same.tk (t3.trans (t4.trans t5))) ⟨tb, rb, _, rfl, SqT.of e2, z2, .inr (.inl rfl)⟩
    rcases List.mem_cons.mp hx with rfl | hx
    · exact AhdO.tk (Same.tk (t4.trans t5)) ⟨tc, rc, _, rfl, SqT.of e3, z3, .inr (.inr (.inl rfl))⟩
    · rw [List.mem_singleton.mp hx]
      exact AhdO.tk (Same.tk t5) ⟨td, rd, _, rfl, SqT.of e4, z4, .inr (.inr (.inr rfl))⟩
  generalize upd G4 la (.lst [V.ref ta, V.ref tb, V.ref tc, V.ref td]) = G5 at t5 e5 hall ⊢
  have t15 : Same H13 G5 := t1.trans (t2.trans (t3.trans (t4.trans t5)))
  have hPG := hP13.same t15
  have nlap : la ≠ p := fun e => by
    obtain ⟨_, _, _, ep⟩ := hPG
    rw [e, ep] at e5
    cases e5
  refine r_name ?_
  refine h1 _ _ ?_
  clear h1
  refine r_seqH fun nx1 h1 => ?_
  walk_at "go"
  refine u_pick hPG (by omega) (by omega) fun k4 G6 b6 hP6 k40 k41 => ?_
  refine i_draw (xs := [V.ref ta, V.ref tb, V.ref tc, V.ref td]) (SqL.of (b6 _ _ nlap e5)) k40 (by simpa using k41) fun x hx => ?_
  obtain ⟨lh, arows, aws, rfl, hA, zA, hAw⟩ := (hall x hx).tk (pu_tk b6 hPG)
  walk_at "go"
  refine h1 _ _ ?_
  clear h1
  have b96 : But p H9 G6 := b913.trans ((Same.but t15).trans b6)
  walk_at "go"
  refine ⟨by omega, by omega, ?_⟩
  refine fo_it walk_range (fun j σ H' => ∃ v2 v3 v8, σ = [some (.ref a), some (.ref L1), v2, v3, some (.ref p), some (.int (c : Nat)), some (.int (n : Nat)), some (.ref lh), v8] ∧ But p H9 H' ∧ Pu H' p ∧ SqT K H' lh arows ∧ SrAll K H' arows aws)
    ⟨_, _, _, rfl, b96, hP6, hA, zA⟩ (fun _ _ _ _ _ => True.intro) (fun j x σ K1 K2 hj hP hY => ?_) (fun σ K1 hP => ?_)
  rotate_left
  · obtain ⟨v2, v3, v8, rfl, b, _⟩ := hP
    exact ⟨_, _, _, _, _, _, _, rfl, Same.via s69 np0 b⟩
  obtain ⟨v2, v3, v8, rfl, b, hPk, hAk, zAk⟩ := hP
  obtain ⟨rfl, hx⟩ := hY
  walk_at "go"
  refine ⟨p, c, n, rfl, hPk, hc1, hc4, n8, fun ld rows ws K3 b3 hP3 _ el sr st hlen => ?_⟩
  walk_at "go"
  refine ⟨ld, c, lh, rows, ws, arows, aws, rfl, hc1, hc4, el, sr, st, hlen, (pu_tk b3 hPk).sqt hAk, zAk.tk (pu_tk b3 hPk), hAw, fun K4 s4 => ?_⟩
  refine tru_b ?_
  refine itnT ?_
  refine r_next ?_
  exact ⟨_, _, _, rfl, b.trans (b3.trans (Same.but s4)), hP3.same s4, Same.sqt s4 ((pu_tk b3 hPk).sqt hAk), (zAk.tk (pu_tk b3 hPk)).tk (Same.tk s4)⟩
end
end Tk

set_option Elab.async false
set_option linter.all false
set_option maxRecDepth 100000
set_option maxHeartbeats 4000000
namespace Tk
open PySem PySem.Spec PyProof.Rows L2 Lay
open TL (tl ext_tl len_tl tl_append tl_mk mk_tl)
local macro_rules | `(tactic| walk_at "if") => `(tactic| refine ite2 (fun hc => ?_) (fun hc => ?_))
local macro_rules | `(tactic| walk_at "lk") => `(tactic| first | exact upd_same | assumption)
local macro_rules | `(tactic| walk_at "st") => `(tactic| first
  | with_reducible refine r_var rfl ?_ | with_reducible refine r_c ?_ | with_reducible refine r_op ?_ | with_reducible refine r_cons ?_ | with_reducible refine r_nil ?_ | with_reducible refine r_vals ?_
  | with_reducible refine r_cb ?_ | with_reducible refine r_tup ?_ | with_reducible refine r_lst ?_ | with_reducible refine r_call ?_ | with_reducible refine r_test ?_
  | with_reducible refine r_if ?_ | with_reducible refine r_not ?_ | with_reducible refine r_bm ?_ | with_reducible refine r_sl ?_ | with_reducible refine r_np ?_ | with_reducible refine r_part ?_
  | with_reducible refine r_seq ?_ | with_reducible refine r_asg ?_ | with_reducible refine r_name ?_ | with_reducible refine r_ifs ?_ | with_reducible refine r_ret ?_ | with_reducible refine r_next ?_ | with_reducible refine r_par ?_ | with_reducible refine r_par3 ?_ | with_reducible refine r_brk ?_ | with_reducible refine r_cnt ?_ | with_reducible refine r_sub ?_
  | with_reducible refine r_andT ?_ | with_reducible refine r_orT ?_ | with_reducible refine r_notT ?_ | with_reducible refine r_or ?_ | with_reducible refine r_and ?_ | with_reducible refine r_tB ?_ | with_reducible refine r_drop ?_ | with_reducible refine r_callN ?_ | with_reducible refine r_chain ?_
  | with_reducible refine r_for ?_ | with_reducible refine r_lc ?_ | with_reducible refine r_iseq ?_ | with_reducible refine r_rng1 ?_ | with_reducible refine r_enum ?_ | with_reducible refine r_yes ?_ | with_reducible refine r_tru ?_ | with_reducible refine r_gtup ?_ | with_reducible refine r_gcons ?_ | with_reducible refine r_gnil ?_
  | with_reducible refine b_add ?_ | with_reducible refine b_sub ?_ | (with_reducible refine b_mul (by unfold CMul; omega) ?_) | (with_reducible refine b_mod (by omega) ?_) | (with_reducible refine b_fdiv (by unfold CDiv; omega) ?_)
  | with_reducible refine c_lt ?_ | with_reducible refine c_le ?_ | with_reducible refine c_gt ?_ | with_reducible refine c_ge ?_ | with_reducible refine c_isN ?_ | with_reducible refine c_notN ?_ | with_reducible refine c_isB ?_ | with_reducible refine c_eq rfl ?_ | with_reducible refine c_ne rfl ?_
  | with_reducible refine c_insign ?_ | with_reducible refine k_int ?_ | with_reducible refine k_intb ?_ | with_reducible refine k_max ?_ | with_reducible refine k_min ?_
  | with_reducible refine ⟨_, rfl, ?_⟩
  | with_reducible refine ex_par ?_
  | with_reducible refine r_back ?_
  | with_reducible refine ex_par3 ?_
  | with_reducible refine ty_s ?_
  | with_reducible refine tru_b ?_
  | with_reducible refine iteT ?_ | with_reducible refine iteF ?_ | with_reducible refine itnT ?_ | with_reducible refine itnF ?_)
local macro_rules | `(tactic| walk_at "go") => `(tactic| repeat walk_at "st")
local macro_rules | `(tactic| walk_at "cl") => `(tactic| try dsimp only [cxOf, Cx.nox, Cx.wish])
/-! ### what the top leaves: the table of forms, the refusal -/
open LayX (XcK XcBody)
open LayHd He
abbrev s_NoRows___init__ : Stmt := inClass (topS 5) 0
abbrev s_Standing__takes_rule : Stmt := inClass (topS 43) 3
theorem sc_Standing__takes_rule : FnScope ["self", "row", "key"] ["self", "row"] (defScope s_Standing__takes_rule) := ⟨rfl, rfl, rfl, by decide +kernel, rfl, by decide +kernel, by decide +kernel⟩
theorem nr_body : XcBody "place" (defBody s_NoRows___init__) := ⟨_, _, _, _, _, _, _, _, _, _, _, _, _, rfl, fun _ => rfl, fun _ => rfl, fun _ => rfl⟩
def refsOf (K : PySem.W.Frag) (a : Addr) : List Addr := match K.lookup a with
  | some ⟨_, _, .seq its _, _⟩ => its.toList.filterMap fun v => match v with
    | .ref b => some b
    | _ => none
  | _ => []
def fsB (K : PySem.W.Frag) : List Fm → List Addr → Bool
  | [], [] => true
  | f :: fs, b :: bs => tpB b (fmV f) K && fsB K fs bs
  | _, _ => false
def rsB (K : PySem.W.Frag) (d : Addr) (l : List (Str × List Fm)) : Bool := l.all fun p => match PySem.W.nsIn K d p.1 with
  | some (some (.ref a)) => tpB a ((refsOf K a).map V.ref) K && fsB K p.2 (refsOf K a)
  | _ => false
def rpB (K : PySem.W.Frag) : Bool := gaB "ROW_PARTS" K && (rsB K (ga K "ROW_PARTS") rowL && (match K.lookup (ga K "ROW_PARTS") with
  | some ⟨_, _, .dict es _, _⟩ => (keysOf es.toList).all fun z => (rowF z).isSome
  | _ => false))
theorem fsB_ok {K : PySem.W.Frag} : ∀ {fs : List Fm} {bs : List Addr}, fsB K fs bs = true → FsK K fs bs
  | [], [], _ => True.intro
  | f :: fs, b :: bs, h => by
    have h : (tpB b (fmV f) K && fsB K fs bs) = true := h
    rw [Bool.and_eq_true] at h
    exact ⟨tpB_ok h.1, fsB_ok h.2⟩
  | [], _ :: _, h => nomatch h
  | _ :: _, [], h => nomatch h
theorem rsB_ok {K : PySem.W.Frag} {d : Addr} : ∀ {l : List (Str × List Fm)}, rsB K d l = true → RsK K d l
  | [], _ => True.intro
  | p :: r, h => by
    have h : ((match PySem.W.nsIn K d p.1 with
      | some (some (.ref a)) => tpB a ((refsOf K a).map V.ref) K && fsB K p.2 (refsOf K a)
      | _ => false) && rsB K d r) = true := by
      have h2 := h
      unfold rsB at h2 ⊢
      rw [List.all_cons] at h2
      exact h2
    rw [Bool.and_eq_true] at h
    refine ⟨?_, rsB_ok h.2⟩
    have h1 := h.1
    split at h1
    · rename_i a e
      rw [Bool.and_eq_true] at h1
      exact ⟨a, refsOf K a, e, tpB_ok h1.1, fsB_ok h1.2⟩
    · cases h1
theorem RwGK.ofZ {K : PySem.W.Frag} {w : World} (h : rpB K = true) (t : ∃ es n, KDict K w (ga K "ROW_PARTS") es n) : RwGK K w := by
  unfold rpB at h
  rw [Bool.and_eq_true, Bool.and_eq_true] at h
  obtain ⟨h1, h2, h3⟩ := h
  obtain ⟨es, n, k1, k2, k3⟩ := t
  rw [k1] at h3
  exact ⟨_, es, n, gaB_ok h1, k1, k2, k3, rsB_ok h2, fun z hz => List.all_eq_true.mp h3 z hz⟩
def exoB (cn : Str) (K : PySem.W.Frag) : Bool := decide (PySem.W.exmOne K (.ref (ga K cn)) (.ref (ga K cn)) = some true)
def NrK (P : Program) (K : PySem.W.Frag) : Prop := ∃ C CT CS CR, PySem.W.nsIn K mainGlobals "NoRows" = some (some (.ref C)) ∧ (∃ fI, XcK P K C fI "place" "NoRows.__init__" (defBody s_NoRows___init__)) ∧ NrX K C CT CS CR ∧
  PySem.W.nsIn K mainGlobals "TongueError" = some (some (.ref CT)) ∧ PySem.W.nsIn K mainGlobals "StandError" = some (some (.ref CS)) ∧ PySem.W.nsIn K mainGlobals "RoomError" = some (some (.ref CR))
theorem NrK.mk {P : Program} {K : PySem.W.Frag} {C fI : Addr} (n0 : PySem.W.nsIn K mainGlobals "NoRows" = some (some (.ref C))) (xc : XcK P K C fI "place" "NoRows.__init__" (defBody s_NoRows___init__)) (ex : ExcC K C) (xf : XfG K C "place") (me : PySem.W.exmOne K (.ref C) (.ref C) = some true)
    (t : IsKK K C "TongueError" true) (s : IsKK K C "StandError" false) (r : IsKK K C "RoomError" false) : NrK P K := by
  obtain ⟨CT, t1, t2⟩ := t
  obtain ⟨CS, s1, s2⟩ := s
  obtain ⟨CR, r1, r2⟩ := r
  exact ⟨C, CT, CS, CR, n0, ⟨fI, xc⟩, ⟨ex, xf, me, t2, s2, r2⟩, t1, s1, r1⟩
theorem NrK.xg {P : Program} {K : PySem.W.Frag} {h : Heap} {mg : Str → Option Value} {C : Addr} (h1 : PySem.W.nsIn K mainGlobals "NoRows" = some (some (.ref C))) (h2 : ∃ fI, XcK P K C fI "place" "NoRows.__init__" (defBody s_NoRows___init__)) (X : K.In h) (G : h.Ns mainGlobals mg) : XcG P K mg "NoRows" C "place" := by
  obtain ⟨fI, t⟩ := h2
  exact ⟨fI, _, _, t, nr_body, by decide +kernel, PySem.W.mg_of X G h1⟩
section
variable {P : Program} {w : World} {K : PySem.W.Frag} {mg : Str → Option Value} {base : Heap} {C : Addr}
theorem ok_Standing__takes_rule (F : Mt0 K C "_takes_rule" "Standing._takes_rule" s_Standing__takes_rule ["self", "row"]) : MtG P w K mg base 2 C "_takes_rule" spNo := by
  refine F.ok sc_Standing__takes_rule (fun vs H Q E h => ?_) (fun a cdv A outer s H vs Q E L hr h => ?_)
  · exact (h : False).elim
  · exact (h : False).elim
end
end Tk

set_option Elab.async false
set_option linter.all false
set_option maxRecDepth 100000
set_option maxHeartbeats 4000000
namespace Tk
open PySem PySem.Spec PyProof.Rows L2 Lay
open TL (tl ext_tl len_tl tl_append tl_mk mk_tl)
local macro_rules | `(tactic| walk_at "if") => `(tactic| refine ite2 (fun hc => ?_) (fun hc => ?_))
local macro_rules | `(tactic| walk_at "lk") => `(tactic| first | exact upd_same | assumption)
local macro_rules | `(tactic| walk_at "st") => `(tactic| first
  | with_reducible refine r_var rfl ?_ | with_reducible refine r_c ?_ | with_reducible refine r_op ?_ | with_reducible refine r_cons ?_ | with_reducible refine r_nil ?_ | with_reducible refine r_vals ?_
  | with_reducible refine r_cb ?_ | with_reducible refine r_tup ?_ | with_reducible refine r_lst ?_ | with_reducible refine r_call ?_ | with_reducible refine r_test ?_
  | with_reducible refine r_if ?_ | with_reducible refine r_not ?_ | with_reducible refine r_bm ?_ | with_reducible refine r_sl ?_ | with_reducible refine r_np ?_ | with_reducible refine r_part ?_
  | with_reducible refine r_seq ?_ | with_reducible refine r_asg ?_ | with_reducible refine r_name ?_ | with_reducible refine r_ifs ?_ | with_reducible refine r_ret ?_ | with_reducible refine r_next ?_ | with_reducible refine r_par ?_ | with_reducible refine r_par3 ?_ | with_reducible refine r_brk ?_ | with_reducible refine r_cnt ?_ | with_reducible refine r_sub ?_
  | with_reducible refine r_andT ?_ | with_reducible refine r_orT ?_ | with_reducible refine r_notT ?_ | with_reducible refine r_or ?_ | with_reducible refine r_and ?_ | with_reducible refine r_tB ?_ | with_reducible refine r_drop ?_ | with_reducible refine r_callN ?_ | with_reducible refine r_chain ?_
  | with_reducible refine r_for ?_ | with_reducible refine r_lc ?_ | with_reducible refine r_iseq ?_ | with_reducible refine r_rng1 ?_ | with_reducible refine r_enum ?_ | with_reducible refine r_yes ?_ | with_reducible refine r_tru ?_ | with_reducible refine r_gtup ?_ | with_reducible refine r_gcons ?_ | with_reducible refine r_gnil ?_
  | with_reducible refine b_add ?_ | with_reducible refine b_sub ?_ | (with_reducible refine b_mul (by unfold CMul; omega) ?_) | (with_reducible refine b_mod (by omega) ?_) | (with_reducible refine b_fdiv (by unfold CDiv; omega) ?_)
  | with_reducible refine c_lt ?_ | with_reducible refine c_le ?_ | with_reducible refine c_gt ?_ | with_reducible refine c_ge ?_ | with_reducible refine c_isN ?_ | with_reducible refine c_notN ?_ | with_reducible refine c_isB ?_ | with_reducible refine c_eq rfl ?_ | with_reducible refine c_ne rfl ?_
  | with_reducible refine c_insign ?_ | with_reducible refine k_int ?_ | with_reducible refine k_intb ?_ | with_reducible refine k_max ?_ | with_reducible refine k_min ?_
  | with_reducible refine ⟨_, rfl, ?_⟩
  | with_reducible refine ex_par ?_
  | with_reducible refine r_back ?_
  | with_reducible refine ex_par3 ?_
  | with_reducible refine ty_s ?_
  | with_reducible refine tru_b ?_
  | with_reducible refine iteT ?_ | with_reducible refine iteF ?_ | with_reducible refine itnT ?_ | with_reducible refine itnF ?_)
local macro_rules | `(tactic| walk_at "go") => `(tactic| repeat walk_at "st")
local macro_rules | `(tactic| walk_at "cl") => `(tactic| try dsimp only [cxOf, Cx.nox, Cx.wish])
/-! ### the end -/
theorem all_mk {P : Program} {w : World} {K : PySem.W.Frag} {h : Heap} {mg : Str → Option Value} {fa : Addr} (X : K.In h) (G : h.Ns mainGlobals mg) (hfa : mg "law" = some (.ref fa)) (m : MdK K)
    (t_is_text : FnK K "is_text" s_is_text)
    (t_is_tuple : FnK K "is_tuple" s_is_tuple)
    (t_is_whole : FnK K "is_whole" s_is_whole)
    (t__is_of : FnK K "_is_of" s__is_of)
    (t_is_name : FnK K "is_name" s_is_name)
    (t_is_word : FnK K "is_word" s_is_word)
    (t_is_token : FnK K "is_token" s_is_token)
    (t__wrong_place : FnK K "_wrong_place" s__wrong_place)
    (t_is_bare : FnK K "is_bare" s_is_bare)
    (t__counts_within : FnK K "_counts_within" s__counts_within)
    (t_is_style : FnK K "is_style" s_is_style)
    (t__is_part : FnK K "_is_part" s__is_part)
    (t_is_row : FnK K "is_row" s_is_row)
    (t_table_grid : FnK K "table_grid" s_table_grid)
    (t_wrong_place : FnK K "wrong_place" s_wrong_place)
    (t_tree_of : FnK K "tree_of" s_tree_of)
    (t__law_pick : FnK K "_law_pick" s__law_pick)
    (t__law_purse : FnK K "_law_purse" s__law_purse)
    (t__law_cell : FnK K "_law_cell" s__law_cell)
    (t__law_one_word : FnK K "_law_one_word" s__law_one_word)
    (t__law_drawn : FnK K "_law_drawn" s__law_drawn)
    (t__law_laid : FnK K "_law_laid" s__law_laid)
    (t__law_told : FnK K "_law_told" s__law_told)
    (t__law_right : FnK K "_law_right" s__law_right)
    (t_law : FnK K "law" s_law)
    (t_is_tokens : FnKD K "is_tokens" s_is_tokens [("plain", .bl false)])
    (g_SMALL_LETTERS : GvK K "SMALL_LETTERS" (.str sSmall))
    (g_WORD_SIGNS : GvK K "WORD_SIGNS" (.str sWord))
    (g_MOST_LETTERS : GvK K "MOST_LETTERS" (.int 8))
    (g_MOST_SIGNS : GvK K "MOST_SIGNS" (.int 12))
    (g_MOST_TOKENS : GvK K "MOST_TOKENS" (.int 40))
    (g_AHEAD_OF_WORDS : GvK K "AHEAD_OF_WORDS" (.str "^"))
    (g_MOST_ROWS : GvK K "MOST_ROWS" (.int 80))
    (g_MOST_TABLE_ROWS : GvK K "MOST_TABLE_ROWS" (.int 8))
    (g_MOST_WHENS : GvK K "MOST_WHENS" (.int 3))
    (g_BRACKETS : GtK K "BRACKETS" brs)
    (g_AHEAD_OF_NAMES : GtK K "AHEAD_OF_NAMES" ahd)
    (g_RULE_ROWS : GtK K "RULE_ROWS" (stS ruleW))
    (g_PAIRS : GdK K w "PAIRS" prs npr)
    (cl_Grid : ClK K "Grid")
    (no_Grid_many : NoK K "Grid" "many")
    (no_Grid_free_from : NoK K "Grid" "free_from")
    (mk_Grid : MakesK K "Grid")
    (mt_Grid___init__ : MtK K "Grid" "__init__" "Grid.__init__" s_Grid___init__)
    (mt_Grid_add_row : MtK K "Grid" "add_row" "Grid.add_row" s_Grid_add_row)
    (mt_Grid_add_cell : MtK K "Grid" "add_cell" "Grid.add_cell" s_Grid_add_cell)
    (mt_Grid_may_close : MtK K "Grid" "may_close" "Grid.may_close" s_Grid_may_close)
    (cl_Standing : ClK K "Standing")
    (no_Standing_rules : NoK K "Standing" "rules")
    (no_Standing_is_ahead : NoK K "Standing" "is_ahead")
    (no_Standing_whens : NoK K "Standing" "whens")
    (no_Standing_grid : NoK K "Standing" "grid")
    (mk_Standing : MakesK K "Standing")
    (mt_Standing___init__ : MtK K "Standing" "__init__" "Standing.__init__" s_Standing___init__)
    (mt_Standing_is_closed : MtK K "Standing" "is_closed" "Standing.is_closed" s_Standing_is_closed)
    (mt_Standing__takes_when : MtK K "Standing" "_takes_when" "Standing._takes_when" s_Standing__takes_when)
    (mt_Standing__takes_done : MtK K "Standing" "_takes_done" "Standing._takes_done" s_Standing__takes_done)
    (mt_Standing__takes_in_table : MtK K "Standing" "_takes_in_table" "Standing._takes_in_table" s_Standing__takes_in_table)
    (mt_Standing__takes_rule : MtK K "Standing" "_takes_rule" "Standing._takes_rule" s_Standing__takes_rule)
    (mt_Standing_takes : MtK K "Standing" "takes" "Standing.takes" s_Standing_takes)
    (cl_Text : ClK K "Text")
    (no_Text_rows : NoK K "Text" "rows")
    (mk_Text : MakesK K "Text")
    (mt_Text_tree : MtK K "Text" "tree" "Text.tree" s_Text_tree)
    (ie_Text : InEK K "Text" "Text.__init__" s_Text___init__)
    (rp : RwGK K w)
    (nrk : NrK P K)
    : ∃ fd : FuncData, (∀ (s : Shared) (v : Value), BindsTo s fd ⟨[v], []⟩ [("_law_script", v)]) ∧ ∀ base : Heap, K.In base → base.Ns mainGlobals mg → FnOk P w K mg base CX0 15 fa fd ["_law_script"] (spLaw K) := by
  refine law_end t_law X G hfa (fun _ _ _ _ _ _ _ => rfl) fun base mg fd B1 B2 F => ?_
  have M := m.md B1 B2
  have g_SMALL_LETTERS := g_SMALL_LETTERS.gv B1 B2
  have g_WORD_SIGNS := g_WORD_SIGNS.gv B1 B2
  have g_MOST_LETTERS := g_MOST_LETTERS.gv B1 B2
  have g_MOST_SIGNS := g_MOST_SIGNS.gv B1 B2
  have g_MOST_TOKENS := g_MOST_TOKENS.gv B1 B2
  have g_AHEAD_OF_WORDS := g_AHEAD_OF_WORDS.gv B1 B2
  have g_MOST_ROWS := g_MOST_ROWS.gv B1 B2
  have g_MOST_TABLE_ROWS := g_MOST_TABLE_ROWS.gv B1 B2
  have g_MOST_WHENS := g_MOST_WHENS.gv B1 B2
  have g_BRACKETS := g_BRACKETS.gt B1 B2
  have g_AHEAD_OF_NAMES := g_AHEAD_OF_NAMES.gt B1 B2
  have g_RULE_ROWS := g_RULE_ROWS.gt B1 B2
  have g_PAIRS := g_PAIRS.gd B1 B2
  have RG := rp.rw B1 B2
  have F_is_text := t_is_text.fn0 (ps := ["thing"]) B1 B2 (fun _ _ _ _ _ _ us hl => match us, hl with | [_], _ => rfl)
  have F_is_tuple := t_is_tuple.fn0 (ps := ["thing"]) B1 B2 (fun _ _ _ _ _ _ us hl => match us, hl with | [_], _ => rfl)
  have F_is_whole := t_is_whole.fn0 (ps := ["thing", "least", "most"]) B1 B2 (fun _ _ _ _ _ _ us hl => match us, hl with | [_, _, _], _ => rfl)
  have F__is_of := t__is_of.fn0 (ps := ["thing", "signs", "most"]) B1 B2 (fun _ _ _ _ _ _ us hl => match us, hl with | [_, _, _], _ => rfl)
  have F_is_name := t_is_name.fn0 (ps := ["thing"]) B1 B2 (fun _ _ _ _ _ _ us hl => match us, hl with | [_], _ => rfl)
  have F_is_word := t_is_word.fn0 (ps := ["thing"]) B1 B2 (fun _ _ _ _ _ _ us hl => match us, hl with | [_], _ => rfl)
  have F_is_token := t_is_token.fn0 (ps := ["thing"]) B1 B2 (fun _ _ _ _ _ _ us hl => match us, hl with | [_], _ => rfl)
  have F__wrong_place := t__wrong_place.fn0 (ps := ["tokens"]) B1 B2 (fun _ _ _ _ _ _ us hl => match us, hl with | [_], _ => rfl)
  have F_is_bare := t_is_bare.fn0 (ps := ["thing"]) B1 B2 (fun _ _ _ _ _ _ us hl => match us, hl with | [_], _ => rfl)
  have F__counts_within := t__counts_within.fn0 (ps := ["kind", "within"]) B1 B2 (fun _ _ _ _ _ _ us hl => match us, hl with | [_, _], _ => rfl)
  have F_is_style := t_is_style.fn0 (ps := ["thing"]) B1 B2 (fun _ _ _ _ _ _ us hl => match us, hl with | [_], _ => rfl)
  have F__is_part := t__is_part.fn0 (ps := ["thing", "form"]) B1 B2 (fun _ _ _ _ _ _ us hl => match us, hl with | [_, _], _ => rfl)
  have F_is_row := t_is_row.fn0 (ps := ["thing"]) B1 B2 (fun _ _ _ _ _ _ us hl => match us, hl with | [_], _ => rfl)
  have F_table_grid := t_table_grid.fn0 (ps := ["rows", "at"]) B1 B2 (fun _ _ _ _ _ _ us hl => match us, hl with | [_, _], _ => rfl)
  have F_wrong_place := t_wrong_place.fn0 (ps := ["rows"]) B1 B2 (fun _ _ _ _ _ _ us hl => match us, hl with | [_], _ => rfl)
  have F_tree_of := t_tree_of.fn0 (ps := ["rows"]) B1 B2 (fun _ _ _ _ _ _ us hl => match us, hl with | [_], _ => rfl)
  have F__law_pick := t__law_pick.fn0 (ps := ["_law_purse_here", "_law_many"]) B1 B2 (fun _ _ _ _ _ _ us hl => match us, hl with | [_, _], _ => rfl)
  have F__law_purse := t__law_purse.fn0 (ps := ["_law_cell_here"]) B1 B2 (fun _ _ _ _ _ _ us hl => match us, hl with | [_], _ => rfl)
  have F__law_cell := t__law_cell.fn0 (ps := ["_law_script", "_law_k"]) B1 B2 (fun _ _ _ _ _ _ us hl => match us, hl with | [_, _], _ => rfl)
  have F__law_one_word := t__law_one_word.fn0 (ps := ["_law_purse_here"]) B1 B2 (fun _ _ _ _ _ _ us hl => match us, hl with | [_], _ => rfl)
  have F__law_drawn := t__law_drawn.fn0 (ps := ["_law_purse_here", "_law_columns", "_law_many"]) B1 B2 (fun _ _ _ _ _ _ us hl => match us, hl with | [_, _, _], _ => rfl)
  have F__law_laid := t__law_laid.fn0 (ps := ["_law_strip", "_law_columns"]) B1 B2 (fun _ _ _ _ _ _ us hl => match us, hl with | [_, _], _ => rfl)
  have F__law_told := t__law_told.fn0 (ps := ["_law_strip"]) B1 B2 (fun _ _ _ _ _ _ us hl => match us, hl with | [_], _ => rfl)
  have F__law_right := t__law_right.fn0 (ps := ["_law_strip", "_law_columns", "_law_ahead"]) B1 B2 (fun _ _ _ _ _ _ us hl => match us, hl with | [_, _, _], _ => rfl)
  have c_is_text := ok_is_text (P := P) (w := w) (base := base) F_is_text M
  have c_is_tuple := ok_is_tuple (P := P) (w := w) (base := base) F_is_tuple M
  have c_is_whole := ok_is_whole (P := P) (w := w) (base := base) F_is_whole M
  have c__is_of := ok__is_of (P := P) (w := w) (base := base) F__is_of M c_is_text
  have c_is_name := ok_is_name (P := P) (w := w) (base := base) F_is_name M g_SMALL_LETTERS g_MOST_LETTERS c__is_of
  have c_is_word := ok_is_word (P := P) (w := w) (base := base) F_is_word M g_WORD_SIGNS g_MOST_SIGNS c__is_of
  have c_is_token := ok_is_token (P := P) (w := w) (base := base) F_is_token M g_BRACKETS g_AHEAD_OF_NAMES g_AHEAD_OF_WORDS c_is_text c_is_name c_is_word
  have c__wrong_place := ok__wrong_place (P := P) (w := w) (base := base) F__wrong_place M g_BRACKETS g_PAIRS g_MOST_TOKENS c_is_token
  have okT : ∀ a fd, Fun K "is_tokens" "is_tokens" s_is_tokens a fd → FnOk P w K mg base CX0 6 a fd ["thing", "plain"] (spIsTokens K) := fun a fd F => ok_is_tokens F M g_BRACKETS c_is_tuple c__wrong_place
  have c_is_tokens_1_plain := t_is_tokens.kwAll (P := P) (w := w) (base := base) (k := 6) (n := 1) (ps := ["thing", "plain"]) (ks := ["plain"]) (gV := fun vs zs => vs ++ zs) (g := fun us ws => us ++ ws) (sp := spIsTokens K) B1 B2 (fun a b => a.append b) (fun D _ _ _ _ _ us ws hl hk => match us, ws, hl, hk with | [_], [_], _, _ => rfl) okT
  have c_is_bare := ok_is_bare (P := P) (w := w) (base := base) F_is_bare M c_is_tokens_1_plain
  have c__counts_within := ok__counts_within (P := P) (w := w) (base := base) F__counts_within M
  have c_is_style := ok_is_style (P := P) (w := w) (base := base) F_is_style M c_is_text c_is_name
  have c__is_part := ok__is_part (P := P) (w := w) (base := base) F__is_part M c_is_whole c_is_text c_is_name c_is_style c_is_bare c_is_tokens_1_plain
  have c_is_row := ok_is_row (P := P) (w := w) (base := base) F_is_row M RG c_is_tuple c_is_text c__is_part c__counts_within
  obtain ⟨CGrid, eGrid, l_Grid⟩ := cl_Grid
  obtain ⟨CStanding, eStanding, l_Standing⟩ := cl_Standing
  obtain ⟨CText, eText, l_Text⟩ := cl_Text
  have grC : GrC K CGrid := ⟨l_Grid, no_Grid_many.at eGrid, no_Grid_free_from.at eGrid⟩
  have stC : StC K CStanding := ⟨l_Standing, no_Standing_rules.at eStanding, no_Standing_is_ahead.at eStanding, no_Standing_whens.at eStanding, no_Standing_grid.at eStanding⟩
  have txC : TxC K CText := ⟨l_Text, no_Text_rows.at eText⟩
  have i_Grid := mt_Grid___init__.in0 (ps := ["self", "columns"]) mk_Grid B1 B2 eGrid (fun _ _ _ _ _ _ us hl => match us, hl with | [_, _], _ => rfl)
  have m_Grid_add_row := mt_Grid_add_row.mt0 (ps := ["self"]) eGrid (fun _ _ _ _ _ _ us hl => match us, hl with | [_], _ => rfl)
  have m_Grid_add_cell := mt_Grid_add_cell.mt0 (ps := ["self", "down", "across"]) eGrid (fun _ _ _ _ _ _ us hl => match us, hl with | [_, _, _], _ => rfl)
  have m_Grid_may_close := mt_Grid_may_close.mt0 (ps := ["self"]) eGrid (fun _ _ _ _ _ _ us hl => match us, hl with | [_], _ => rfl)
  have i_Standing := mt_Standing___init__.in0 (ps := ["self"]) mk_Standing B1 B2 eStanding (fun _ _ _ _ _ _ us hl => match us, hl with | [_], _ => rfl)
  have m_Standing_is_closed := mt_Standing_is_closed.mt0 (ps := ["self"]) eStanding (fun _ _ _ _ _ _ us hl => match us, hl with | [_], _ => rfl)
  have m_Standing__takes_when := mt_Standing__takes_when.mt0 (ps := ["self"]) eStanding (fun _ _ _ _ _ _ us hl => match us, hl with | [_], _ => rfl)
  have m_Standing__takes_done := mt_Standing__takes_done.mt0 (ps := ["self"]) eStanding (fun _ _ _ _ _ _ us hl => match us, hl with | [_], _ => rfl)
  have m_Standing__takes_in_table := mt_Standing__takes_in_table.mt0 (ps := ["self", "row"]) eStanding (fun _ _ _ _ _ _ us hl => match us, hl with | [_, _], _ => rfl)
  have m_Standing__takes_rule := mt_Standing__takes_rule.mt0 (ps := ["self", "row"]) eStanding (fun _ _ _ _ _ _ us hl => match us, hl with | [_, _], _ => rfl)
  have m_Standing_takes := mt_Standing_takes.mt0 (ps := ["self", "row"]) eStanding (fun _ _ _ _ _ _ us hl => match us, hl with | [_, _], _ => rfl)
  have m_Text_tree := mt_Text_tree.mt0 (ps := ["self"]) eText (fun _ _ _ _ _ _ us hl => match us, hl with | [_], _ => rfl)
  have k_Grid := ok_Grid (P := P) (w := w) (base := base) i_Grid grC
  have c_Grid_add_row := ok_Grid_add_row (P := P) (w := w) (base := base) m_Grid_add_row grC g_MOST_TABLE_ROWS
  have c_Grid_add_cell := ok_Grid_add_cell (P := P) (w := w) (base := base) m_Grid_add_cell M grC
  have c_Grid_may_close := ok_Grid_may_close (P := P) (w := w) (base := base) m_Grid_may_close M grC
  have k_Standing := ok_Standing (P := P) (w := w) (base := base) i_Standing stC
  have c_Standing_is_closed := ok_Standing_is_closed (P := P) (w := w) (mg := mg) (base := base) m_Standing_is_closed stC
  have c_Standing__takes_when := ok_Standing__takes_when (P := P) (w := w) (base := base) m_Standing__takes_when stC g_MOST_WHENS
  have c_Standing__takes_done := ok_Standing__takes_done (P := P) (w := w) (mg := mg) (base := base) m_Standing__takes_done stC
  have c_Standing__takes_in_table := ok_Standing__takes_in_table (P := P) (w := w) (base := base) m_Standing__takes_in_table M stC l_Grid c_Grid_add_row c_Grid_add_cell c_Grid_may_close
  have c_Standing__takes_rule := ok_Standing__takes_rule (P := P) (w := w) (mg := mg) (base := base) m_Standing__takes_rule
  have c_Standing_takes := ok_Standing_takes (P := P) (w := w) (base := base) m_Standing_takes M stC l_Standing g_RULE_ROWS c_Standing__takes_rule c_Standing__takes_in_table c_Standing__takes_when c_Standing__takes_done k_Grid
  have c_wrong_place := ok_wrong_place (P := P) (w := w) (base := base) F_wrong_place M l_Standing k_Standing c_Standing_is_closed c_Standing_takes c_is_row
  obtain ⟨CN, CT, CS, CR, nN, xk, nr, nT, nS, nR⟩ := nrk
  have XG := NrK.xg nN xk B1 B2
  have i_Text := ie_Text.in1 (ps := ["self", "rows"]) mk_Text B1 B2 eText (n := 2) rfl (fun T _ _ _ _ _ _ us its hl hk => match us, its, hl, hk with | [_, _], [_], _, _ => ⟨_, rfl, rfl⟩)
  have k_Text := ok_Text (P := P) (w := w) (base := base) i_Text M XG txC g_MOST_ROWS c_is_tuple c_wrong_place
  have c__law_told := ok__law_told F__law_told M (PySem.W.mg_of B1 B2 nN) ⟨.ref CS, PySem.W.mg_of B1 B2 nS, rfl⟩ ⟨.ref CR, PySem.W.mg_of B1 B2 nR, rfl⟩ ⟨.ref CT, PySem.W.mg_of B1 B2 nT, rfl⟩ nr k_Text
  have c_table_grid := ok_table_grid (P := P) (w := w) (base := base) F_table_grid M l_Grid k_Grid c_Grid_add_row c_Grid_add_cell
  have c_tree_of := ok_tree_of F_tree_of M c_table_grid
  have c_Text_tree := ok_Text_tree m_Text_tree txC c_tree_of
  have c__law_pick := ok__law_pick (P := P) (w := w) (base := base) F__law_pick
  have c__law_purse := ok__law_purse (P := P) (w := w) (base := base) F__law_purse M
  have c__law_cell := ok__law_cell (P := P) (w := w) (base := base) F__law_cell M
  have c__law_one_word := ok__law_one_word F__law_one_word M c__law_pick
  have c__law_drawn := ok__law_drawn F__law_drawn M c__law_pick c__law_one_word
  have c__law_laid := ok__law_laid (P := P) (w := w) (base := base) F__law_laid M
  have c__law_right := ok__law_right F__law_right M l_Text c__law_laid c__law_told c_Text_tree
  exact ok_law F M c__law_pick c__law_purse c__law_cell c__law_drawn c__law_right
/-! ### the top, by one run -/
namespace Hz
def names0 : List Str := ["TongueError", "StandError", "RoomError", "NoTokens", "NoRows", "is_text", "is_tuple", "is_whole", "SMALL_LETTERS", "WORD_SIGNS", "MOST_LETTERS", "MOST_SIGNS", "MOST_TOKENS", "PAIRS", "BRACKETS", "AHEAD_OF_NAMES", "AHEAD_OF_WORDS", "is_name", "is_word", "_is_of", "is_token", "is_tokens", "is_bare", "show_tokens", "_refuse_wrong", "_wrong_place", "ROW_PARTS", "RULE_ROWS", "is_row", "_is_part"]
def names1 : List Str := ["is_style", "_counts_within", "show_row", "MOST_TABLE_ROWS", "Grid", "table_grid", "MOST_WHENS", "Standing", "_rule_key", "wrong_place", "tree_of", "MOST_ROWS", "Text", "_law_cell", "_law_purse", "_law_pick", "_law_one_word", "_law_drawn", "_law_laid", "_law_told", "_law_right"]
def names : List Str := names0 ++ names1
def exs0 : List (PySem.W.Frag → Bool) := [fnB "is_text", fnB "is_tuple", fnB "is_whole", fnB "_is_of", fnB "is_name", fnB "is_word", fnB "is_token", fnB "_wrong_place", fnB "is_bare", fnB "_counts_within", fnB "is_style", fnB "_is_part", fnB "is_row", fnB "table_grid", fnB "wrong_place", fnB "tree_of", fnB "_law_pick", fnB "_law_purse", fnB "_law_cell", fnB "_law_one_word"]
def exs1 : List (PySem.W.Frag → Bool) := [fnB "_law_drawn", fnB "_law_laid", fnB "_law_told", fnB "_law_right", fnB "law", fnkB "is_tokens" [("plain", .bl false)], gvB "SMALL_LETTERS" (.str sSmall), gvB "WORD_SIGNS" (.str sWord), gvB "MOST_LETTERS" (.int 8), gvB "MOST_SIGNS" (.int 12), gvB "MOST_TOKENS" (.int 40), gvB "AHEAD_OF_WORDS" (.str "^"), gvB "MOST_ROWS" (.int 80), gvB "MOST_TABLE_ROWS" (.int 8), gvB "MOST_WHENS" (.int 3), gtB "BRACKETS" brs, gtB "AHEAD_OF_NAMES" ahd, gtB "RULE_ROWS" (stS ruleW), gdB "PAIRS" prs npr, clB "Grid"]
def exs2 : List (PySem.W.Frag → Bool) := [naB "Grid" "many", naB "Grid" "free_from", mkB "Grid", mtB "Grid" "__init__" "Grid.__init__", mtB "Grid" "add_row" "Grid.add_row", mtB "Grid" "add_cell" "Grid.add_cell", mtB "Grid" "may_close" "Grid.may_close", clB "Standing", naB "Standing" "rules", naB "Standing" "is_ahead", naB "Standing" "whens", naB "Standing" "grid", mkB "Standing", mtB "Standing" "__init__" "Standing.__init__", mtB "Standing" "is_closed" "Standing.is_closed", mtB "Standing" "_takes_when" "Standing._takes_when", mtB "Standing" "_takes_done" "Standing._takes_done", mtB "Standing" "_takes_in_table" "Standing._takes_in_table", mtB "Standing" "_takes_rule" "Standing._takes_rule", mtB "Standing" "takes" "Standing.takes"]
def exs3 : List (PySem.W.Frag → Bool) := [clB "Text", naB "Text" "rows", mkB "Text", mtB "Text" "tree" "Text.tree", ieB "Text" "Text.__init__", Lay.isB "NoRows" [("TongueError", true), ("StandError", false), ("RoomError", false)], xcB "NoRows" "place" "NoRows.__init__" "/claim/cut.py", gaB "NoRows", exB "NoRows", naB "NoRows" "place", exoB "NoRows", rpB, mdB]
def exs : List (PySem.W.Frag → Bool) := exs0 ++ exs1 ++ exs2 ++ exs3
def fns0 : List LayHd.FdZ := [fz "is_text" s_is_text, fz "is_tuple" s_is_tuple, fz "is_whole" s_is_whole, fz "_is_of" s__is_of, fz "is_name" s_is_name, fz "is_word" s_is_word, fz "is_token" s_is_token, fz "_wrong_place" s__wrong_place, fz "is_bare" s_is_bare, fz "_counts_within" s__counts_within, fz "is_style" s_is_style, fz "_is_part" s__is_part, fz "is_row" s_is_row, fz "table_grid" s_table_grid, fz "wrong_place" s_wrong_place, fz "tree_of" s_tree_of, fz "_law_pick" s__law_pick, fz "_law_purse" s__law_purse, fz "_law_cell" s__law_cell, fz "_law_one_word" s__law_one_word]
def fns1 : List LayHd.FdZ := [fz "_law_drawn" s__law_drawn, fz "_law_laid" s__law_laid, fz "_law_told" s__law_told, fz "_law_right" s__law_right, fz "law" s_law, fz "is_tokens" s_is_tokens, fm "Grid" "__init__" "Grid.__init__" s_Grid___init__, fm "Grid" "add_row" "Grid.add_row" s_Grid_add_row, fm "Grid" "add_cell" "Grid.add_cell" s_Grid_add_cell, fm "Grid" "may_close" "Grid.may_close" s_Grid_may_close, fm "Standing" "__init__" "Standing.__init__" s_Standing___init__, fm "Standing" "is_closed" "Standing.is_closed" s_Standing_is_closed, fm "Standing" "_takes_when" "Standing._takes_when" s_Standing__takes_when, fm "Standing" "_takes_done" "Standing._takes_done" s_Standing__takes_done, fm "Standing" "_takes_in_table" "Standing._takes_in_table" s_Standing__takes_in_table, fm "Standing" "_takes_rule" "Standing._takes_rule" s_Standing__takes_rule, fm "Standing" "takes" "Standing.takes" s_Standing_takes, fm "Text" "tree" "Text.tree" s_Text_tree, fm "Text" "__init__" "Text.__init__" s_Text___init__, fx "NoRows" "NoRows.__init__" s_NoRows___init__]
def fns : List LayHd.FdZ := fns0 ++ fns1
def tsz0 : List He.Tab := [gdT "PAIRS" ["{", "["], gdT "ROW_PARTS" ["style", "counter", "head", "para", "item", "figure", "table", "row", "cell", "close", "contents", "figures", "index", "endnotes", "break", "include", "when", "done"]]
def tsz : List He.Tab := tsz0
def asz0 : List Addr := [3, 2, 23, 24, 37, 50, 78, 89, 90, 92, 93, 101, 102, 108, 109, 115, 116, 117, 118, 119, 125, 126, 132, 133, 137, 138, 144, 145, 146, 150, 151, 155, 156, 176, 177, 178, 179, 180, 181, 182]
def asz1 : List Addr := [183, 184, 185, 186, 187, 188, 189, 190, 191, 192, 193, 194, 195, 196, 197, 198, 199, 200, 201, 202, 203, 204, 205, 206, 207, 208, 209, 210, 211, 212, 213, 214, 215, 216, 217, 218, 219, 220, 222, 223]
def asz2 : List Addr := [227, 228, 234, 235, 241, 242, 248, 249, 267, 268, 274, 275, 279, 280, 286, 287, 289, 290, 298, 299, 312, 313, 319, 320, 326, 327, 333, 334, 340, 341, 347, 348, 354, 355, 357, 358, 375, 376, 382, 383]
def asz3 : List Addr := [391, 392, 398, 399, 405, 406, 434, 435, 445, 446, 452, 453, 459, 460, 464, 465, 471, 472, 476, 477, 483, 484, 488, 489, 495, 496]
def asz : List Addr := asz0 ++ asz1 ++ asz2 ++ asz3
abbrev R : PySem.W.OpenRow := PySem.W.OpenLaw.row PySem.Challenge.rw_papertongue_k06_tables_by_their_cells
abbrev q : Program := PySem.W.view R.prog [60]
abbrev hk : PySem.W.Hook := LayHd.hookZ asz exs fns tsz
def ob (s : PySem.W.SharedT) : LayHd.AlZ := LayHd.obsZG asz exs fns tsz (HandSHeadRun.getT s)
theorem ob_eq (s : PySem.W.SharedT) : ob s = hk.obs s.abs := LayHd.obsZG_eq (HandSHeadRun.getT_eq s)
set_option maxHeartbeats 0 in
theorem run_false (w : World) : HandSHeadRun.RunEq R q hk ob 4600 names (w.withFollow "special-get-raises" false) := by
  intro os
  kernel_rfl
set_option maxHeartbeats 0 in
theorem run_true (w : World) : HandSHeadRun.RunEq R q hk ob 4600 names (w.withFollow "special-get-raises" true) := by
  intro os
  kernel_rfl
theorem run (w : World) : HandSHeadRun.RunEq R q hk ob 4600 names w := PySem.W.byRow2 (P := HandSHeadRun.RunEq R q hk ob 4600 names) "special-get-raises" run_false run_true w
end Hz
theorem of_says {P : Program} {w : World} {K : PySem.W.Frag} {h : Heap} {mg : Str → Option Value} {fa : Addr} (X : K.In h) (G : h.Ns mainGlobals mg) (hfa : mg "law" = some (.ref fa)) (c : LayHd.SaysZ Hz.exs Hz.fns Hz.tsz w K) (hP : P = PySem.Challenge.pw_papertongue_k06_tables_by_their_cells)
    : ∃ fd : FuncData, (∀ (s : Shared) (v : Value), BindsTo s fd ⟨[v], []⟩ [("_law_script", v)]) ∧ ∀ base : Heap, K.In base → base.Ns mainGlobals mg → FnOk P w K mg base CX0 15 fa fd ["_law_script"] (spLaw K) := by
  subst hP
  refine all_mk X G hfa (MdK.ofZ (c.ex 72 (b := mdB))) ?q0 ?q1 ?q2 ?q3 ?q4 ?q5 ?q6 ?q7 ?q8 ?q9 ?q10 ?q11 ?q12 ?q13 ?q14 ?q15 ?q16 ?q17 ?q18 ?q19 ?q20 ?q21 ?q22 ?q23 ?q24 ?q25 ?q26 ?q27 ?q28 ?q29 ?q30 ?q31 ?q32 ?q33 ?q34 ?q35 ?q36 ?q37 ?q38 ?q39 ?q40 ?q41 ?q42 ?q43 ?q44 ?q45 ?q46 ?q47 ?q48 ?q49 ?q50 ?q51 ?q52 ?q53 ?q54 ?q55 ?q56 ?q57 ?q58 ?q59 ?q60 ?q61 ?q62 ?q63 ?q64 ?q65 ?q66
  case q0 => exact FnK.ofZ (c.fn 0 (d := fz "is_text" s_is_text)) (c.ex 0 (b := fnB "is_text"))
  case q1 => exact FnK.ofZ (c.fn 1 (d := fz "is_tuple" s_is_tuple)) (c.ex 1 (b := fnB "is_tuple"))
  case q2 => exact FnK.ofZ (c.fn 2 (d := fz "is_whole" s_is_whole)) (c.ex 2 (b := fnB "is_whole"))
  case q3 => exact FnK.ofZ (c.fn 3 (d := fz "_is_of" s__is_of)) (c.ex 3 (b := fnB "_is_of"))
  case q4 => exact FnK.ofZ (c.fn 4 (d := fz "is_name" s_is_name)) (c.ex 4 (b := fnB "is_name"))
  case q5 => exact FnK.ofZ (c.fn 5 (d := fz "is_word" s_is_word)) (c.ex 5 (b := fnB "is_word"))
  case q6 => exact FnK.ofZ (c.fn 6 (d := fz "is_token" s_is_token)) (c.ex 6 (b := fnB "is_token"))
  case q7 => exact FnK.ofZ (c.fn 7 (d := fz "_wrong_place" s__wrong_place)) (c.ex 7 (b := fnB "_wrong_place"))
  case q8 => exact FnK.ofZ (c.fn 8 (d := fz "is_bare" s_is_bare)) (c.ex 8 (b := fnB "is_bare"))
  case q9 => exact FnK.ofZ (c.fn 9 (d := fz "_counts_within" s__counts_within)) (c.ex 9 (b := fnB "_counts_within"))
  case q10 => exact FnK.ofZ (c.fn 10 (d := fz "is_style" s_is_style)) (c.ex 10 (b := fnB "is_style"))
  case q11 => exact FnK.ofZ (c.fn 11 (d := fz "_is_part" s__is_part)) (c.ex 11 (b := fnB "_is_part"))
  case q12 => exact FnK.ofZ (c.fn 12 (d := fz "is_row" s_is_row)) (c.ex 12 (b := fnB "is_row"))
  case q13 => exact FnK.ofZ (c.fn 13 (d := fz "table_grid" s_table_grid)) (c.ex 13 (b := fnB "table_grid"))
  case q14 => exact FnK.ofZ (c.fn 14 (d := fz "wrong_place" s_wrong_place)) (c.ex 14 (b := fnB "wrong_place"))
  case q15 => exact FnK.ofZ (c.fn 15 (d := fz "tree_of" s_tree_of)) (c.ex 15 (b := fnB "tree_of"))
  case q16 => exact FnK.ofZ (c.fn 16 (d := fz "_law_pick" s__law_pick)) (c.ex 16 (b := fnB "_law_pick"))
  case q17 => exact FnK.ofZ (c.fn 17 (d := fz "_law_purse" s__law_purse)) (c.ex 17 (b := fnB "_law_purse"))
  case q18 => exact FnK.ofZ (c.fn 18 (d := fz "_law_cell" s__law_cell)) (c.ex 18 (b := fnB "_law_cell"))
  case q19 => exact FnK.ofZ (c.fn 19 (d := fz "_law_one_word" s__law_one_word)) (c.ex 19 (b := fnB "_law_one_word"))
  case q20 => exact FnK.ofZ (c.fn 20 (d := fz "_law_drawn" s__law_drawn)) (c.ex 20 (b := fnB "_law_drawn"))
  case q21 => exact FnK.ofZ (c.fn 21 (d := fz "_law_laid" s__law_laid)) (c.ex 21 (b := fnB "_law_laid"))
  case q22 => exact FnK.ofZ (c.fn 22 (d := fz "_law_told" s__law_told)) (c.ex 22 (b := fnB "_law_told"))
  case q23 => exact FnK.ofZ (c.fn 23 (d := fz "_law_right" s__law_right)) (c.ex 23 (b := fnB "_law_right"))
  case q24 => exact FnK.ofZ (c.fn 24 (d := fz "law" s_law)) (c.ex 24 (b := fnB "law"))
  case q25 => exact FnKD.ofZ (c.fn 25 (d := fz "is_tokens" s_is_tokens)) (c.ex 25 (b := fnkB "is_tokens" [("plain", .bl false)])) (by simp)
  case q26 => exact GvK.ofZ (c.ex 26 (b := gvB "SMALL_LETTERS" (.str sSmall)))
  case q27 => exact GvK.ofZ (c.ex 27 (b := gvB "WORD_SIGNS" (.str sWord)))
  case q28 => exact GvK.ofZ (c.ex 28 (b := gvB "MOST_LETTERS" (.int 8)))
  case q29 => exact GvK.ofZ (c.ex 29 (b := gvB "MOST_SIGNS" (.int 12)))
  case q30 => exact GvK.ofZ (c.ex 30 (b := gvB "MOST_TOKENS" (.int 40)))
  case q31 => exact GvK.ofZ (c.ex 31 (b := gvB "AHEAD_OF_WORDS" (.str "^")))
  case q32 => exact GvK.ofZ (c.ex 32 (b := gvB "MOST_ROWS" (.int 80)))
  case q33 => exact GvK.ofZ (c.ex 33 (b := gvB "MOST_TABLE_ROWS" (.int 8)))
  case q34 => exact GvK.ofZ (c.ex 34 (b := gvB "MOST_WHENS" (.int 3)))
  case q35 => exact GtK.ofZ (c.ex 35 (b := gtB "BRACKETS" brs))
  case q36 => exact GtK.ofZ (c.ex 36 (b := gtB "AHEAD_OF_NAMES" ahd))
  case q37 => exact GtK.ofZ (c.ex 37 (b := gtB "RULE_ROWS" (stS ruleW)))
  case q38 => exact GdK.ofZ (c.ex 38 (b := gdB "PAIRS" prs npr)) (c.tab 0 (t := gdT "PAIRS" ["{", "["]))
  case q39 => exact ClK.ofZ (c.ex 39 (b := clB "Grid"))
  case q40 => exact NoK.ofZ (c.ex 40 (b := naB "Grid" "many"))
  case q41 => exact NoK.ofZ (c.ex 41 (b := naB "Grid" "free_from"))
  case q42 => exact MakesK.ofZ (c.ex 42 (b := mkB "Grid"))
  case q43 => exact MtK.ofZ (c.fn 26 (d := fm "Grid" "__init__" "Grid.__init__" s_Grid___init__)) (c.ex 43 (b := mtB "Grid" "__init__" "Grid.__init__"))
  case q44 => exact MtK.ofZ (c.fn 27 (d := fm "Grid" "add_row" "Grid.add_row" s_Grid_add_row)) (c.ex 44 (b := mtB "Grid" "add_row" "Grid.add_row"))
  case q45 => exact MtK.ofZ (c.fn 28 (d := fm "Grid" "add_cell" "Grid.add_cell" s_Grid_add_cell)) (c.ex 45 (b := mtB "Grid" "add_cell" "Grid.add_cell"))
  case q46 => exact MtK.ofZ (c.fn 29 (d := fm "Grid" "may_close" "Grid.may_close" s_Grid_may_close)) (c.ex 46 (b := mtB "Grid" "may_close" "Grid.may_close"))
  case q47 => exact ClK.ofZ (c.ex 47 (b := clB "Standing"))
  case q48 => exact NoK.ofZ (c.ex 48 (b := naB "Standing" "rules"))
  case q49 => exact NoK.ofZ (c.ex 49 (b := naB "Standing" "is_ahead"))
  case q50 => exact NoK.ofZ (c.ex 50 (b := naB "Standing" "whens"))
  case q51 => exact NoK.ofZ (c.ex 51 (b := naB "Standing" "grid"))
  case q52 => exact MakesK.ofZ (c.ex 52 (b := mkB "Standing"))
  case q53 => exact MtK.ofZ (c.fn 30 (d := fm "Standing" "__init__" "Standing.__init__" s_Standing___init__)) (c.ex 53 (b := mtB "Standing" "__init__" "Standing.__init__"))
  case q54 => exact MtK.ofZ (c.fn 31 (d := fm "Standing" "is_closed" "Standing.is_closed" s_Standing_is_closed)) (c.ex 54 (b := mtB "Standing" "is_closed" "Standing.is_closed"))
  case q55 => exact MtK.ofZ (c.fn 32 (d := fm "Standing" "_takes_when" "Standing._takes_when" s_Standing__takes_when)) (c.ex 55 (b := mtB "Standing" "_takes_when" "Standing._takes_when"))
  case q56 => exact MtK.ofZ (c.fn 33 (d := fm "Standing" "_takes_done" "Standing._takes_done" s_Standing__takes_done)) (c.ex 56 (b := mtB "Standing" "_takes_done" "Standing._takes_done"))
  case q57 => exact MtK.ofZ (c.fn 34 (d := fm "Standing" "_takes_in_table" "Standing._takes_in_table" s_Standing__takes_in_table)) (c.ex 57 (b := mtB "Standing" "_takes_in_table" "Standing._takes_in_table"))
  case q58 => exact MtK.ofZ (c.fn 35 (d := fm "Standing" "_takes_rule" "Standing._takes_rule" s_Standing__takes_rule)) (c.ex 58 (b := mtB "Standing" "_takes_rule" "Standing._takes_rule"))
  case q59 => exact MtK.ofZ (c.fn 36 (d := fm "Standing" "takes" "Standing.takes" s_Standing_takes)) (c.ex 59 (b := mtB "Standing" "takes" "Standing.takes"))
  case q60 => exact ClK.ofZ (c.ex 60 (b := clB "Text"))
  case q61 => exact NoK.ofZ (c.ex 61 (b := naB "Text" "rows"))
  case q62 => exact MakesK.ofZ (c.ex 62 (b := mkB "Text"))
  case q63 => exact MtK.ofZ (c.fn 37 (d := fm "Text" "tree" "Text.tree" s_Text_tree)) (c.ex 63 (b := mtB "Text" "tree" "Text.tree"))
  case q64 => exact InEK.ofZ (c.fn 38 (d := fm "Text" "__init__" "Text.__init__" s_Text___init__)) (c.ex 64 (b := ieB "Text" "Text.__init__"))
  case q65 => exact RwGK.ofZ (c.ex 71 (b := rpB)) (c.tab 1 (t := gdT "ROW_PARTS" ["style", "counter", "head", "para", "item", "figure", "table", "row", "cell", "close", "contents", "figures", "index", "endnotes", "break", "include", "when", "done"]))
  case q66 => exact NrK.mk (gaB_ok (c.ex 67 (b := gaB "NoRows"))) (XcK.ofZ (c.fn 39 (d := fx "NoRows" "NoRows.__init__" s_NoRows___init__)) (c.ex 66 (b := xcB "NoRows" "place" "NoRows.__init__" "/claim/cut.py")) (by first | rfl | decide +kernel) rfl rfl (fun _ _ _ _ _ _ _ us hl => match us, hl with | [_, _], _ => rfl) rfl rfl rfl (by decide +kernel) rfl rfl rfl rfl (by first | rfl | decide +kernel) (by decide)) (ExcC.ofZ (c.ex 68 (b := exB "NoRows"))) (XfG.ofZ (c.ex 68 (b := exB "NoRows")) (c.ex 69 (b := naB "NoRows" "place"))) (of_decide_eq_true (c.ex 70 (b := exoB "NoRows"))) (Lay.isB_ok (l := [("TongueError", true), ("StandError", false), ("RoomError", false)]) (c.ex 65 (b := Lay.isB "NoRows" [("TongueError", true), ("StandError", false), ("RoomError", false)])) 0) (Lay.isB_ok (l := [("TongueError", true), ("StandError", false), ("RoomError", false)]) (c.ex 65 (b := Lay.isB "NoRows" [("TongueError", true), ("StandError", false), ("RoomError", false)])) 1) (Lay.isB_ok (l := [("TongueError", true), ("StandError", false), ("RoomError", false)]) (c.ex 65 (b := Lay.isB "NoRows" [("TongueError", true), ("StandError", false), ("RoomError", false)])) 2)
end Tk
open PySem PySem.W PySem.Calls PyProof.Rows
set_option maxHeartbeats 0 in
theorem PySem.Challenge.cw_papertongue_k06_tables_by_their_cells_holds : PySem.Challenge.rw_papertongue_k06_tables_by_their_cells.Holds := by
  w_on; o_law
  refine HandSHeadRun.head_any (r := OpenLaw.row PySem.Challenge.rw_papertongue_k06_tables_by_their_cells) (q := view (OpenLaw.row PySem.Challenge.rw_papertongue_k06_tables_by_their_cells).prog [60]) (H := Tk.Hz.hk) (ob := Tk.Hz.ob) (M := 4600) (loose := Tk.Hz.names) (d := HandSHeadRun.topDef (OpenLaw.row PySem.Challenge.rw_papertongue_k06_tables_by_their_cells).prog 60) (kwd := []) Tk.Hz.ob_eq
    (by kernel_rfl) (fun s => by kernel_rfl) Tk.Hz.run (by kernel_rfl) (by kernel_rfl) (by kernel_rfl) (by rfl) (by first | assumption | decide +kernel) (by decide +kernel) ⟨rfl, rfl, rfl, rfl, rfl, by decide +kernel⟩ ?hw ?hc
  case hw => w_witness2
  case hc =>
    refine L2.walk_ofE (l := PySem.Challenge.rw_papertongue_k06_tables_by_their_cells) (n := 63) (k := 15) (x := "_law_script") (CX := L2.CX0) rfl (by decide) (by kernel_rfl) ⟨rfl, by decide, by decide⟩ ?F (fun _ _ _ _ z => z)
    intro w mg fa h Y G hmg0
    obtain ⟨K, KX, c⟩ := Y
    have hmg : mg ("law" : PySem.Str) = some (.ref fa) := by
      have e : (HandSHeadRun.topDef (OpenLaw.row PySem.Challenge.rw_papertongue_k06_tables_by_their_cells).prog 60).name = ("law" : PySem.Str) := by kernel_rfl
      rw [← e]
      exact hmg0
    obtain ⟨fd, hb, hF⟩ := Tk.of_says (P := (PySem.Challenge.rw_papertongue_k06_tables_by_their_cells).prog) (w := w) KX G hmg c rfl
    exact ⟨K, fd, Tk.spLaw K, KX, hb, fun H a ns hl _ hS => ⟨a, ns, rfl, hS, hl, fun _ => rfl⟩, hF⟩

