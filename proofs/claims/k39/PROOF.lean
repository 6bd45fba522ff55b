import PyProof.Rows.All
import Wide.All
import OpenK.AllK
import Wide.FinOn
import HandS.Evl
import HandS.Codes
import HandS.Iter
import HandS.Dict
import HandS.Text
import HandS.Words
import HandS.Walk
import HandS.IsInst
import HandS.Steps
import HandS.More
import HandS.ReplaceList
import HandS.ReplaceLit
import HandS.Replace
import HandS.ExcInit
import HandS.ExcIs
import HandS.ExcField
import HandS.IntHex
import HandS.FStr
import KE.KExcIs
import KE.KxField
import HandS.WordsExc
import HandS.Defaults
import HandS.ReplaceDef
import HandS.TryMany
import HandS.WordsDict
import HandS.StrMore
import PyProof.StrOps2
import PyProof.Rows.SortShellAny
import HandS.Strs
import HandS.Style
import HandS.Set
import HandS.SetTxt0
import HandS.SortKw
import HandS.DictComp
import HandS.DeepEq
import KE.DataMinMax
import KE.KTryMore
import HandS.TryOnly
import HandS.CallLocal
import KE.GoesEnumKw
import HandS.TupAny
import PySem.Challenge.RW_kilnyard_k39_what_is_not_a_saved_form
set_option Elab.async false
set_option linter.all false
set_option maxRecDepth 100000
set_option maxHeartbeats 4000000
/-! Kn: what all our proofs share: named relations, values, comprehensions, promises of pure defs. -/
namespace Kn
open PySem PySem.Spec PyProof.Rows L2 Evl SX

/-! ### relations with a name -/
def rAddStr : R2 := fun x y H Q => ∃ i j, x = .str i ∧ y = .str j ∧ i.length + j.length ≤ sizeLine ∧ Q (.str (i ++ j)) H
theorem op_addS {X : Cx} : OpR X (binaryOp .Add) rAddStr := op_add_str
def rLenStr : List V → Hp → VK → Prop := fun xs H Q => ∃ z, xs = [.str z] ∧ z.length ≤ sizeLine ∧ Q (.int z.length) H
theorem cr_lenStr {X : Cx} : CallR X (.builtin "len") rLenStr := call_len_str
theorem cr_lenSeq {X : Cx} : CallR X (.builtin "len") (rLenS X.K) := call_len_seq
def rOrd : List V → Hp → VK → Prop := fun xs H Q => ∃ x, xs = [.str x] ∧ x.length = 1 ∧ Q (.int (x.cps.getD 0 0 : Nat)) H
theorem cr_ord {X : Cx} : CallR X (.builtin "ord") rOrd := call_ord
def rInt1 : List V → Hp → VK → Prop := fun xs H Q => (∃ i, xs = [.int i] ∧ Q (.int i) H) ∨ ∃ k, xs = [.bl k] ∧ Q (.int (if k then 1 else 0)) H
theorem cr_int1 {X : Cx} : CallR X (.type "int") rInt1 := call_int1
def rAbs : List V → Hp → VK → Prop := fun xs H Q => ∃ i, xs = [.int i] ∧ Q (.int (if i < 0 then -i else i)) H
theorem cr_abs {X : Cx} : CallR X (.builtin "abs") rAbs := call_abs
def rJoin (K : PySem.W.Frag) : V → List V → Hp → VK → Prop := fun x xs H Q => ∃ a p, ∃ ys : List Str, x = .str a ∧ xs = [.ref p] ∧ (SqL K H p (ys.map V.str) ∨ SqT K H p (ys.map V.str)) ∧ (ys.map (·.length)).sum + ys.length * a.length ≤ 16777216 ∧ Q (.str (Txt.join a ys)) H
theorem pe_joinN {X : Cx} {e : Expr} {to te : TE} (h : PE X e (tM1 (fun x xs H Q => ∃ a p, ∃ ys : List Str, x = .str a ∧ xs = [.ref p] ∧ (SqL X.K H p (ys.map V.str) ∨ SqT X.K H p (ys.map V.str)) ∧ (ys.map (·.length)).sum + ys.length * a.length ≤ 16777216 ∧ Q (.str (Txt.join a ys)) H) to te)) : PE X e (tM1 (rJoin X.K) to te) := h
theorem cr_isi {X : Cx} : CallR X (.builtin "isinstance") (rIsi X.K) := call_isi

/-! ### values -/
section
variable {K : PySem.W.Frag} {σ : L2.St} {H H' : Hp} {ta tb te tc : TE} {t u : TT} {x y z v : V}
theorem val_abs (i : Int) : (if i < 0 then -i else i) = (i.natAbs : Int) := by split <;> omega
theorem rc_abs {i : Int} : RC rAbs [.int i] H (.int (i.natAbs : Int)) := fun H1 _ _ q => ⟨i, rfl, by rw [val_abs]; exact q H1 (Ex.refl H1)⟩
theorem rc_int {i : Int} : RC rInt1 [.int i] H (.int i) := fun H1 _ _ q => .inl ⟨i, rfl, q H1 (Ex.refl H1)⟩
theorem rc_intB {b : Bool} : RC rInt1 [.bl b] H (.int (if b then 1 else 0)) := fun H1 _ _ q => .inr ⟨b, rfl, q H1 (Ex.refl H1)⟩
theorem rc_ord {c : Nat} : RC rOrd [.str (S [c])] H (.int (c : Int)) := fun H1 _ _ q => ⟨S [c], rfl, rfl, q H1 (Ex.refl H1)⟩
theorem rc_lenS {l : List Nat} (h : l.length ≤ 100000) : RC rLenStr [.str (S l)] H (.int (l.length : Int)) := fun H1 _ _ q => ⟨S l, rfl, by rw [S_len]; exact sz_of h, by rw [S_len]; exact q H1 (Ex.refl H1)⟩
theorem rv_addS {a b : List Nat} (h : a.length + b.length ≤ 100000) : RV rAddStr (.str (S a)) (.str (S b)) H (.str (S (a ++ b))) := fun H1 _ _ q =>
  ⟨S a, S b, rfl, rfl, by rw [S_len, S_len]; exact sz_of h, by rw [S_cat]; exact q H1 (Ex.refl H1)⟩
theorem rv_mod {i j : Int} (h : 0 < j) : RV (rI (fun _ j => 0 < j) fun i j => .int (i % j)) (.int i) (.int j) H (.int (i % j)) := rv_I h
theorem rv_fdiv {i j : Int} (h : CDiv i j) : RV (rI CDiv fun i j => .int (i / j)) (.int i) (.int j) H (.int (i / j)) := rv_I h
theorem rv_mul {i j : Int} (h : CMul i j) : RV (rI CMul fun i j => .int (i * j)) (.int i) (.int j) H (.int (i * j)) := rv_I h
theorem S1 (x : Str) {l : List Nat} (h : x.cps.toList = l) : x = S l := TL.ext_tl h
theorem ev_chain {r r' : R2} {k b : Bool} (ha : Ev ta σ H x) (hb : Ev tb σ H y) (hr : RV r x y H (.bl k)) (hc : Ev tc σ H z) (hr' : RV r' y z H (.bl b)) : Ev (tChain r r' ta tb tc) σ H (.bl (k && b)) := fun H1 e Q q =>
  ha H1 e _ fun H2 e2 => hb H2 (e.trans e2) _ fun H3 e3 => hr H3 ((e.trans e2).trans e3) _ fun H4 e4 => ⟨k, rfl, by
    have e14 := (e2.trans e3).trans e4
    cases k with
    | true =>
      show tc σ H4 fun w' H5 => r' y w' H5 Q
      exact hc H4 (e.trans e14) _ fun H5 e5 => hr' H5 ((e.trans e14).trans e5) Q fun H6 e6 => q H6 ((e14.trans e5).trans e6)
    | false =>
      show Q (.bl false) H4
      exact q H4 e14⟩
theorem ev_idxS {l : List Nat} {i : Int} {c : Nat} (ha : Ev ta σ H (.str (S l))) (hb : Ev tb σ H (.int i)) (h : l.length ≤ 100000) (hat : atI l i = some c) : Ev (tOp rIxS ta tb) σ H (.str (S [c])) := ev_op ha hb (rv_ixS (w := S l) (by rw [S_len]; exact h) hat)
theorem atI_nat' {α : Type} {xs : List α} {i : Int} {j : Nat} {v : α} (hi : i = (j : Int)) (h : xs[j]? = some v) : atI xs i = some v := by
  subst hi
  exact atI_nat h
theorem ev_join {s : List Nat} {ys : List (List Nat)} (hs : Ev ta σ H (.str (S s))) (hl : EvL tb σ H (ys.map fun l => V.str (S l))) (hz : (ys.map (·.length)).sum + ys.length * s.length ≤ 16777216) : Ev (tM1 (rJoin K) ta tb) σ H (.str (S (TL.joinL s ys))) := fun H1 e Q q =>
  hs H1 e _ fun H2 e2 => ⟨⟨_, rfl⟩, hl H2 (e.trans e2) _ fun p H3 _ e3 hp => ⟨S s, p, ys.map S, rfl, rfl, .inl (.inl (.inl (by rw [List.map_map]; exact hp))), by
    rw [SX.lens, List.length_map, S_len]
    exact hz, by
    rw [SX.join_S]
    exact q H3 (e2.trans e3)⟩⟩
theorem ev_slS {to tp : TO} {l : List Nat} {lo hi : Option Int} (h : Ev te σ H (.str (S l))) (h1 : EvO to σ H lo) (h2 : EvO tp σ H hi) (hz : l.length ≤ 100000) : Ev (tSl rSlS te to tp) σ H (.str (cutS (S l) lo hi)) := fun H1 e _ q =>
  h H1 e _ fun H2 e2 => h1 H2 (e.trans e2) _ fun H3 e3 => h2 H3 ((e.trans e2).trans e3) _ fun H4 e4 => ⟨S l, rfl, by rw [S_len]; exact sz_of hz, q H4 ((e2.trans e3).trans e4)⟩
theorem ev_isi {T : String} {c : String} {b : Bool} (ha : Ev ta σ H x) (ht : TyX K H x (.type T)) (hb : kitB T c = some b) (hm : ∀ H1, Ex H H1 → TyX K H1 x (.type T)) : Ev (tCB (rIsi K) (tCons ta (tCons (tC (.ty c)) tNil))) σ H (.bl b) := fun H1 e Q q =>
  ha H1 e _ fun H2 e2 => ⟨x, .ty c, .type T, .type c, b, rfl, .ty c, hm H2 (e.trans e2), kit_ty hb, q H2 e2⟩
theorem ev_all {τ : Type} {xs : List τ} {p : τ → Bool} (ha : EvL ta σ H (xs.map fun a => V.bl (p a))) : Ev (tCB (rAll K) (tCons ta tNil)) σ H (.bl (xs.all p)) := fun H1 e Q q =>
  ha H1 e _ fun a H2 _ e2 h2 => ⟨a, xs.map p, rfl, sq_of (by rw [List.map_map]; exact h2), by
    have hh : (xs.map p).all id = xs.all p := by rw [List.all_map]; rfl
    rw [hh]
    exact q H2 e2⟩

/-! ### comprehensions: no test, a new list of what each item gives -/
theorem given_all {α : Type} {xs : List α} {f : α → V} {d : V} : given xs.length (fun _ => true) (fun i => (xs[i]?.map f).getD d) = xs.map f := by
  unfold given
  rw [List.filter_eq_self.mpr (fun _ _ => rfl)]
  refine List.ext_getElem (by simp) fun i h1 h2 => ?_
  simp at h1 h2
  simp [h2]
theorem et_yes {H : Hp} : EvT tYes σ H true := fun H1 _ _ q => q H1 (Ex.refl H1)
theorem el_lcM {τ : Type} {a : Addr} {ns : List τ} {g f : τ → V} {tl : TE} {j : Nat} {vs : List Nat} (h : Ev tl σ H (.ref a)) (hx : SqL K H a (ns.map g)) (hz : ns.length ≤ 40000) (hw : ∀ x, wipe ((wipe σ vs).set j (some x)) vs = wipe σ vs)
    (he : ∀ n ∈ ns, ∀ H1, Ex H H1 → Ev te ((wipe σ vs).set j (some (g n))) H1 (f n)) : EvL (tLc (iList K tl) (gName j) tYes te vs) σ H (ns.map f) := by
  have k := el_lcL (K := K) (te := te) (t := tYes) (j := j) (vs := vs) (fun _ => true) (fun i => (ns[i]?.map f).getD .non) h hx (by rw [List.length_map]; exact hz) hw (fun _ _ H1 _ _ => et_yes) (fun i x H1 e hi _ => by
    rw [List.getElem?_map] at hi
    cases hn : ns[i]? with
    | none => rw [hn] at hi; cases hi
    | some n =>
      rw [hn] at hi
      cases Option.some.inj hi
      exact he n (List.mem_of_getElem? hn) H1 e)
  rw [List.length_map, given_all] at k
  exact k
theorem el_lcR {n : Int} {f : Nat → V} {ta : TA} {j : Nat} {vs : List Nat} (h : EvA ta σ H [.int n]) (hn : 0 ≤ n ∧ n ≤ 40000) (hw : ∀ x, wipe ((wipe σ vs).set j (some x)) vs = wipe σ vs)
    (he : ∀ (i : Nat) H1, Ex H H1 → (i : Int) < n → Ev te ((wipe σ vs).set j (some (.int (i : Int)))) H1 (f i)) : EvL (tLc (iRng1 ta) (gName j) tYes te vs) σ H ((List.range n.toNat).map f) := by
  have k := el_lcR1 (te := te) (t := tYes) (j := j) (vs := vs) (fun _ => true) f h hn hw (fun _ H1 _ _ => et_yes) (fun i H1 e hi _ => he i H1 e hi)
  unfold given at k
  rw [List.filter_eq_self.mpr (fun _ _ => rfl)] at k
  exact k
/-- over the signs of a text -/
theorem el_lcS {l : List Nat} {f : Nat → V} {ts : TE} {j : Nat} {vs : List Nat} (h : Ev ts σ H (.str (S l))) (hz : l.length ≤ 40000) (hw : ∀ x, wipe ((wipe σ vs).set j (some x)) vs = wipe σ vs)
    (he : ∀ c ∈ l, ∀ H1, Ex H H1 → Ev te ((wipe σ vs).set j (some (.str (S [c])))) H1 (f c)) : EvL (tLc (iStr ts) (gName j) tYes te vs) σ H (l.map f) := fun H0 e Q q => h H0 e _ fun H1 e1 => ⟨S l, rfl, fun Dl hD => by
  have hl : (S l).cps.size = l.length := by simp [S]
  refine lc_it walk_str (Cw H1 (fun _ => true) (fun i => (l[i]?.map f).getD .non) Dl) ⟨hD, Ex.new hD, upd_same⟩ (fun _ _ _ _ => trivial) (fun i x H2 H3 hi p y => ?_) (fun H2 p => ?_)
  · obtain ⟨rfl, c, hc, rfl⟩ := y
    have hc' : l[i]? = some c := by simpa [S] using hc
    refine ⟨hw _, cw_turn p (by rw [hl] at hi; omega) et_yes (fun _ => ?_)⟩
    rw [hc']
    exact he c (List.mem_of_getElem? hc') H1 (e.trans e1)
  · rw [hl] at p
    have := p.2.2
    rw [given_all] at this
    exact q Dl H2 (fresh_back e1 p.1) (e1.trans p.2.1) this⟩
end

/-! ### promises of pure defs: a value, a new list -/
def Rt (H : Hp) (v : V) (Q : VK) : Prop := ∀ H1, Ex H H1 → Q v H1
def Rl (H : Hp) (xs : List V) (Q : VK) : Prop := ∀ p H1, H p = none → Ex H H1 → H1 p = some (.lst xs) → Q (.ref p) H1
def sp1 {α : Type} (A : α → List V) (pre : α → Hp → Prop) (val : α → V) : Sp := fun vs H Q _ => ∃ a, vs = A a ∧ pre a H ∧ Rt H (val a) Q
def sp2 {α β : Type} (A : α → β → List V) (pre : α → β → Hp → Prop) (val : α → β → V) : Sp := fun vs H Q _ => ∃ a b, vs = A a b ∧ pre a b H ∧ Rt H (val a b) Q
def sp3 {α β γ : Type} (A : α → β → γ → List V) (pre : α → β → γ → Hp → Prop) (val : α → β → γ → V) : Sp := fun vs H Q _ => ∃ a b c, vs = A a b c ∧ pre a b c H ∧ Rt H (val a b c) Q
def sl1 {α : Type} (A : α → List V) (pre : α → Hp → Prop) (val : α → List V) : Sp := fun vs H Q _ => ∃ a, vs = A a ∧ pre a H ∧ Rl H (val a) Q
def sl2 {α β : Type} (A : α → β → List V) (pre : α → β → Hp → Prop) (val : α → β → List V) : Sp := fun vs H Q _ => ∃ a b, vs = A a b ∧ pre a b H ∧ Rl H (val a b) Q
def sl3 {α β γ : Type} (A : α → β → γ → List V) (pre : α → β → γ → Hp → Prop) (val : α → β → γ → List V) : Sp := fun vs H Q _ => ∃ a b c, vs = A a b c ∧ pre a b c H ∧ Rl H (val a b c) Q
section
variable {K : PySem.W.Frag} {σ : L2.St} {H H' : Hp} {ta : TA} {E : XK} {α β γ : Type}
theorem ev_c1 {A : α → List V} {pre : α → Hp → Prop} {val : α → V} {a : α} (h : EvA ta σ H (A a)) (hp : ∀ H1, Ex H H1 → pre a H1) : Ev (tCall (sp1 A pre val) [] E ta) σ H (val a) := fun H1 e Q q =>
  h H1 e _ fun H2 e2 => ⟨a, List.append_nil _, hp H2 (e.trans e2), fun H3 e3 => q H3 (e2.trans e3)⟩
theorem ev_c2 {A : α → β → List V} {pre : α → β → Hp → Prop} {val : α → β → V} {a : α} {b : β} (h : EvA ta σ H (A a b)) (hp : ∀ H1, Ex H H1 → pre a b H1) : Ev (tCall (sp2 A pre val) [] E ta) σ H (val a b) := fun H1 e Q q =>
  h H1 e _ fun H2 e2 => ⟨a, b, List.append_nil _, hp H2 (e.trans e2), fun H3 e3 => q H3 (e2.trans e3)⟩
theorem ev_c3 {A : α → β → γ → List V} {pre : α → β → γ → Hp → Prop} {val : α → β → γ → V} {a : α} {b : β} {c : γ} (h : EvA ta σ H (A a b c)) (hp : ∀ H1, Ex H H1 → pre a b c H1) : Ev (tCall (sp3 A pre val) [] E ta) σ H (val a b c) := fun H1 e Q q =>
  h H1 e _ fun H2 e2 => ⟨a, b, c, List.append_nil _, hp H2 (e.trans e2), fun H3 e3 => q H3 (e2.trans e3)⟩
end

/-! ### a def that may be called by its name -/
structure Cl (P : Program) (w : World) (K : PySem.W.Frag) (mg : Str → Option Value) (base : Heap) (k : Nat) (x : Str) (sp : Sp) : Prop where
  ex : ∃ (f : Addr) (fd : FuncData) (ps : List Str), FnOk P w K mg base CX0 k f fd ps sp ∧ mg x = some (.ref f) ∧ PySem.W.keepIn K (.ref f) = true ∧ Binds K fd ps []
section
variable {P : Program} {w : World} {K : PySem.W.Frag} {mg : Str → Option Value} {base : Heap}
theorem cl_of {k : Nat} {x : Str} {sp : Sp} {st : Stmt} {f : Addr} {fd : FuncData} {ps : List Str} (ok : FnOk P w K mg base CX0 k f fd ps sp) (F : Fun K x x st f fd) (g : mg x = some (.ref f)) (b : Binds K fd ps []) : Cl P w K mg base k x sp := ⟨f, fd, ps, ok, g, F.kp, b⟩
variable {X : Cx} {k j : Nat} {x : Str} {sp : Sp} {p pos : Pos} {e : Expr} {es : List Expr} {t : TA}
theorem pe_cl (c : Cl X.prog X.w X.K X.mg X.base k x sp) (hr : Room j X.A) (hk : k ≤ j) (hg : Gl X x) (ha : PA X (e :: es) t)
    (hdb : (x == ("__debug__" : Str)) = false := by decide) (he : starEach (e :: es) X.env = (false, eval e X.env) :: starEach es X.env := by rfl) (hpl : (backTo pos (starEach es X.env)).any (·.1) = false := by rfl) :
    PE X (.Call (.Name x p) (e :: es) [] pos) (tCall sp [] E0 t) := by
  obtain ⟨f, fd, ps, F, hm, kp, b⟩ := c.ex
  exact pe_call F (hr.mono hk) hg hm kp b .nil pass0 ha hdb he hpl
end
end Kn
/-! ### values, step by step -/
namespace Kn
open PySem PySem.Spec PyProof.Rows L2 Evl SX
section
variable {H : Hp}
theorem rv_eqI {a b : Int} : RV rEq (.int a) (.int b) H (.bl (decide (a = b))) := fun H1 _ _ q => ⟨rfl, by
  have e : decide (V.int a = V.int b) = decide (a = b) := by simp
  rw [e]
  exact q H1 (Ex.refl H1)⟩
theorem rv_neI {a b : Int} : RV rNe (.int a) (.int b) H (.bl (!decide (a = b))) := fun H1 _ _ q => ⟨rfl, by
  have e : decide (V.int a = V.int b) = decide (a = b) := by simp
  rw [e]
  exact q H1 (Ex.refl H1)⟩
theorem dec_S {a b : List Nat} : decide (V.str (S a) = V.str (S b)) = decide (a = b) := by
  by_cases h : a = b
  · subst h
    simp
  · rw [decide_eq_false h, decide_eq_false (fun e => h (S_inj (V.str.inj e)))]
theorem rv_eqS {a b : List Nat} : RV rEq (.str (S a)) (.str (S b)) H (.bl (decide (a = b))) := fun H1 _ _ q => ⟨rfl, by
  rw [dec_S]
  exact q H1 (Ex.refl H1)⟩
theorem rv_neS {a b : List Nat} : RV rNe (.str (S a)) (.str (S b)) H (.bl (!decide (a = b))) := fun H1 _ _ q => ⟨rfl, by
  rw [dec_S]
  exact q H1 (Ex.refl H1)⟩
theorem rv_le {a b : Int} : RV (rI0 fun i j => .bl (decide (i ≤ j))) (.int a) (.int b) H (.bl (decide (a ≤ b))) := rv_I0
theorem rv_lt {a b : Int} : RV (rI0 fun i j => .bl (decide (i < j))) (.int a) (.int b) H (.bl (decide (a < b))) := rv_I0
theorem rv_inS {c : Nat} {l : List Nat} : RV rInS (.str (S [c])) (.str (S l)) H (.bl (decide (c ∈ l))) := fun H1 _ _ q => ⟨c, S l, rfl, rfl, q H1 (Ex.refl H1)⟩
theorem rv_ninS {c : Nat} {l : List Nat} : RV rNotInS (.str (S [c])) (.str (S l)) H (.bl (!decide (c ∈ l))) := fun H1 _ _ q => ⟨c, S l, rfl, rfl, q H1 (Ex.refl H1)⟩
end
end Kn
/-! ### lists cut, texts cut, constants -/
namespace Kn
open PySem PySem.Spec PyProof.Rows L2 Evl SX
theorem cut_nat {α : Type} (xs : List α) (a b : Nat) : (xs.drop (min a xs.length)).take (min b xs.length - min a xs.length) = (xs.drop a).take (b - a) := by
  by_cases h : a ≤ xs.length
  · have e : min a xs.length = a := Nat.min_eq_left h
    rw [e, List.take_eq_take_iff, List.length_drop]
    omega
  · have e : xs.drop a = [] := List.drop_of_length_le (by omega)
    have e2 : xs.drop (min a xs.length) = [] := List.drop_of_length_le (by omega)
    rw [e, e2, List.take_nil, List.take_nil]
theorem cutV_nat {xs : List V} (a b : Nat) : cutV xs (some (a : Int)) (some (b : Int)) = (xs.drop a).take (b - a) := by
  unfold cutV
  rw [HT.sIx_nat, HT.sIx_nat]
  exact cut_nat xs a b
theorem join_nil : ∀ ys : List (List Nat), TL.joinL [] ys = ys.flatten
  | [] => rfl
  | [p] => by rw [List.flatten_cons, List.flatten_nil, List.append_nil]; rfl
  | p :: q :: r => by
    show p ++ ([] ++ TL.joinL [] (q :: r)) = _
    rw [join_nil (q :: r), List.nil_append, List.flatten_cons (l := p)]
section
variable {K : PySem.W.Frag} {σ : L2.St} {H H' : Hp} {ta tb te tc : TE} {t u : TT} {x y z v : V}
theorem ev_cS {x : Str} {l : List Nat} (h : x.cps.toList = l) : Ev (tC (.str x)) σ H (.str (S l)) := by
  rw [S1 x h]
  exact ev_c
theorem ev_slTo {to tp : TO} {l : List Nat} {i : Int} (h : Ev te σ H (.str (S l))) (h1 : EvO to σ H none) (h2 : EvO tp σ H (some i)) (hz : l.length ≤ 100000) (hi : 0 ≤ i) : Ev (tSl rSlS te to tp) σ H (.str (S (l.take i.toNat))) := by
  have k := ev_slS h h1 h2 hz
  rw [C8.cutS_slice, slice_to hi] at k
  exact k
theorem ev_slFrom {to tp : TO} {l : List Nat} {i : Int} (h : Ev te σ H (.str (S l))) (h1 : EvO to σ H (some i)) (h2 : EvO tp σ H none) (hz : l.length ≤ 100000) (hi : 0 ≤ i) : Ev (tSl rSlS te to tp) σ H (.str (S (l.drop i.toNat))) := by
  have k := ev_slS h h1 h2 hz
  rw [C8.cutS_slice, slice_from hi] at k
  exact k
end
end Kn
namespace Kn
open PySem PySem.Spec PyProof.Rows L2 Evl SX
section
variable {K : PySem.W.Frag} {σ : L2.St} {H H' : Hp} {ta tb te tc : TE} {t u : TT} {x y z v : V} {D : Ends} {tu tw tz : TS}
end
end Kn
/-! ### rpartition; joins; more of lists -/
namespace Kn
open PySem PySem.Spec PyProof.Rows L2 Evl SX
def rRpart : V → List V → Hp → VK → Prop := fun x xs H Q => ∃ a b, x = .str a ∧ xs = [.str b] ∧ (b.length == 0) = false ∧ a.length ≤ sizeLine ∧ ∀ p, H p = none → Q (.ref p) (upd H p (.tup [.str (Txt.rpartition a b).1, .str (Txt.rpartition a b).2.1, .str (Txt.rpartition a b).2.2]))
section
variable {K : PySem.W.Frag} {σ : L2.St} {H H' : Hp} {ta tb te tc : TE} {t u : TT} {x y z v : V}
theorem ev_joinV {s : List Nat} {ys : List (List Nat)} {p : Addr} (hs : Ev ta σ H (.str (S s))) (hl : Ev tb σ H (.ref p)) (hp : SqL K H p (ys.map fun l => V.str (S l))) (hz : (ys.map (·.length)).sum + ys.length * s.length ≤ 16777216) : Ev (tM1 (rJoin K) ta tb) σ H (.str (S (TL.joinL s ys))) := fun H1 e Q q =>
  hs H1 e _ fun H2 e2 => ⟨⟨_, rfl⟩, hl H2 (e.trans e2) _ fun H3 e3 => ⟨S s, p, ys.map S, rfl, rfl, .inl (by rw [List.map_map]; exact ex_l ((e.trans e2).trans e3) hp), by
    rw [SX.lens, List.length_map, S_len]
    exact hz, by
    rw [SX.join_S]
    exact q H3 (e2.trans e3)⟩⟩
theorem el_slTo {τ : Type} {g : τ → V} {ns : List τ} {j : Int} {p : Addr} {to tp : TO} (h : Ev te σ H (.ref p)) (h1 : EvO to σ H none) (h2 : EvO tp σ H (some j)) (hs : SqL K H p (ns.map g)) (b : Nat) (hj : j = (b : Int)) :
    EvL (tSl (rSlL K) te to tp) σ H ((ns.take b).map g) := by
  have e : cutV (ns.map g) none (some j) = (ns.take b).map g := by
    subst hj
    have k := cutV_nat (xs := ns.map g) 0 b
    unfold cutV at k ⊢
    rw [HT.sIx_none, HT.sIx_nat]
    rw [HT.sIx_nat, HT.sIx_nat, Nat.zero_min] at k
    rw [k, List.drop_zero, Nat.sub_zero, List.map_take]
  rw [← e]
  exact el_sl h h1 h2 hs
theorem rv_ge {a b : Int} : RV (rI0 fun i j => .bl (decide (j ≤ i))) (.int a) (.int b) H (.bl (decide (b ≤ a))) := rv_I0
theorem rv_gt {a b : Int} : RV (rI0 fun i j => .bl (decide (j < i))) (.int a) (.int b) H (.bl (decide (b < a))) := rv_I0
theorem rv_pow {i j : Int} (h : CPow i j) : RV (rI CPow fun i j => .int (i ^ j.toNat)) (.int i) (.int j) H (.int (i ^ j.toNat)) := rv_I h
end
theorem joinL_snoc (s x : List Nat) : ∀ {l : List (List Nat)}, l ≠ [] → TL.joinL s (l ++ [x]) = TL.joinL s l ++ (s ++ x)
  | [], h => absurd rfl h
  | [p], _ => rfl
  | p :: q :: r, _ => by
    show p ++ (s ++ TL.joinL s ((q :: r) ++ [x])) = (p ++ (s ++ TL.joinL s (q :: r))) ++ (s ++ x)
    rw [joinL_snoc s x (List.cons_ne_nil q r)]
    simp only [List.append_assoc]
theorem at_one {l : List Nat} {c i : Nat} : StrLaws.At (S l) (S [c]) (S l).length i ↔ l[i]? = some c := by
  rw [TL.at_iff (x := S l) (y := S [c]) (List.cons_ne_nil _ _)]
  show ((l.drop i).take 1 == [c]) = true ↔ l[i]? = some c
  rw [beq_iff_eq]
  constructor
  · intro h
    have e := congrArg (fun z : List Nat => z[0]?) h
    simpa using e
  · intro h
    obtain ⟨hi, e⟩ := List.getElem?_eq_some_iff.mp h
    rw [List.drop_eq_getElem_cons hi, e]
    rfl
theorem rpart_some {p q : List Nat} {c : Nat} (h : c ∉ q) : (Txt.rpartition (S (p ++ c :: q)) (S [c])).1 = S p := by
  have hp : (p ++ c :: q)[p.length]? = some c := by simp
  unfold Txt.rpartition
  rcases StrLaws.last_spec (S (p ++ c :: q)) (S [c]) with ⟨h0, hn⟩ | ⟨i, h0, hi, hn⟩
  · exact absurd (at_one.mpr hp) (hn _)
  · rw [h0]
    have e : i = p.length := by
      have h1 := at_one.mp hi
      rcases Nat.lt_trichotomy i p.length with z | z | z
      · exact absurd (at_one.mpr hp) (hn _ z)
      · exact z
      · rw [List.getElem?_append_right (by omega)] at h1
        obtain ⟨k, hk⟩ : ∃ k, i - p.length = k + 1 := ⟨i - p.length - 1, by omega⟩
        rw [hk, List.getElem?_cons_succ] at h1
        exact absurd (List.mem_of_getElem? h1) h
    subst e
    show PySem.Builtin.Str.strSub (S (p ++ c :: q)) 0 p.length = S p
    refine TL.ext_tl ?_
    rw [TL.tl_strSub]
    show ((p ++ c :: q).drop 0).take (p.length - 0) = p
    simp
end Kn
/-! ### rules that name the written part: for the elements of a comprehension -/
namespace Kn
open PySem PySem.Spec PyProof.Rows L2 Evl SX
section
variable {X : Cx} {K : PySem.W.Frag}
end
end Kn
/-! ### texts: split, count, startswith, replace; loops over signs -/
namespace Kn
open PySem PySem.Spec PyProof.Rows L2 Evl SX
def rSplit : V → List V → Hp → VK → Prop := fun x xs H Q => ∃ a b, x = .str a ∧ xs = [.str b] ∧ (b.length == 0) = false ∧ a.length + 2 ≤ sizeLine ∧ rNewStrs (Txt.split a b) H Q
theorem mt_split {X : Cx} : MtR X "str.split" rSplit := L2.mt_split
def rCount : V → List V → Hp → VK → Prop := fun x xs H Q => ∃ a b, x = .str a ∧ xs = [.str b] ∧ Q (.int (Txt.count a b)) H
def rStarts : V → List V → Hp → VK → Prop := fun x xs H Q => ∃ a b, x = .str a ∧ xs = [.str b] ∧ Q (.bl (Txt.startswith a b)) H
theorem mt_startswith {X : Cx} : MtR X "str.startswith" rStarts := L2.mt_startswith
def rEnds : V → List V → Hp → VK → Prop := fun x xs H Q => ∃ a b, x = .str a ∧ xs = [.str b] ∧ Q (.bl (Txt.endswith a b)) H
/-- l cut at each c -/
def cut1 (c : Nat) (l : List Nat) : List (List Nat) := TL.spl [c] 0 [] l
theorem starts_one {l : List Nat} {c : Nat} : Txt.startswith (S l) (S [c]) = decide (l[0]? = some c) := by
  have h : StrLaws.At (S l) (S [c]) (S l).length 0 ↔ l[0]? = some c := at_one
  unfold Txt.startswith
  rw [Bool.eq_iff_iff, Bool.and_eq_true, decide_eq_true_eq, decide_eq_true_eq]
  exact h
theorem spl_bound (c : Nat) : ∀ (l acc : List Nat), (TL.spl [c] 0 acc l).length ≤ l.length + 1 ∧ ∀ p ∈ TL.spl [c] 0 acc l, p.length ≤ acc.length + l.length
  | [], acc => ⟨Nat.le_refl _, fun p hp => by rw [List.mem_singleton.mp hp]; exact Nat.le_add_right _ _⟩
  | e :: r, acc => by
    by_cases ec : e = c
    · have h1 : TL.pre [c] (e :: r) = true := by
        subst ec
        exact TL.pre_self [e] r
      have ih := spl_bound c r []
      rw [TL.spl_hit h1]
      refine ⟨Nat.succ_le_succ ih.1, fun p hp => ?_⟩
      rcases List.mem_cons.mp hp with z | z
      · rw [z]
        omega
      · have := ih.2 p z
        rw [List.length_cons]
        simp at this
        omega
    · have ih := spl_bound c r (acc ++ [e])
      rw [TL.spl_miss (TL.pre_of_head [] r ec)]
      refine ⟨by have := ih.1; rw [List.length_cons]; omega, fun p hp => ?_⟩
      have := ih.2 p hp
      rw [List.length_append] at this
      rw [List.length_cons]
      simp at this
      omega
theorem cut1_len (c : Nat) (l : List Nat) : (cut1 c l).length ≤ l.length + 1 := (spl_bound c l []).1
theorem cut1_part {c : Nat} {l p : List Nat} (h : p ∈ cut1 c l) : p.length ≤ l.length := by
  have := (spl_bound c l []).2 p h
  simpa using this
section
variable {K : PySem.W.Frag} {σ : L2.St} {H H' : Hp} {ta tb te tc : TE} {t u : TT} {x y z v : V} {D : Ends} {tu tz : TS}
theorem el_split {l : List Nat} {c : Nat} (ha : Ev ta σ H (.str (S l))) (hb : Ev tb σ H (.str (S [c]))) (hc : c < 256) (hl : l.length ≤ 90000) : EvL (tM1 rSplit ta tb) σ H ((cut1 c l).map fun p => V.str (S p)) := fun H1 e Q q =>
  ha H1 e _ fun H2 e2 => ⟨⟨_, rfl⟩, hb H2 (e.trans e2) _ fun H3 e3 => ⟨S l, S [c], rfl, rfl, rfl, sz_of (by rw [S_len]; omega), fun p hp => by
    rw [SX.split_S (List.cons_ne_nil _ _) (by simp [hc]), List.map_map]
    exact q p _ (fresh_back (e2.trans e3) hp) ((e2.trans e3).trans (Ex.new hp)) upd_same⟩⟩
theorem ev_starts {l : List Nat} {c : Nat} (ha : Ev ta σ H (.str (S l))) (hb : Ev tb σ H (.str (S [c]))) : Ev (tM1 rStarts ta tb) σ H (.bl (decide (l[0]? = some c))) := fun H1 e Q q =>
  ha H1 e _ fun H2 e2 => ⟨⟨_, rfl⟩, hb H2 (e.trans e2) _ fun H3 e3 => ⟨S l, S [c], rfl, rfl, by
    rw [starts_one]
    exact q H3 (e2.trans e3)⟩⟩
end
/-! ### an expression behind which a token is out -/
section
variable {X : Cx} {a b e o : Expr} {ta tb te to : TE} {pos apos : Pos}
def PEb (X : Cx) (e : Expr) (t : TE) : Prop := ∀ (pins : List (Addr × Obj)) (s : Shared) (σ : L2.St) (H : Hp) (Q : VK), Inv X pins σ H s → t σ H Q → wpAny (model X.prog X.w) X.A (eval e X.env) (fun v s1 => 1 ≤ s1.toks ∧ EP X pins σ Q v s1) X.xe s
end
end Kn
/-! ### methods, classes, dicts with text keys -/
namespace Kn
open PySem PySem.Spec PyProof.Rows L2 Evl SX
structure Mt (P : Program) (w : World) (K : PySem.W.Frag) (mg : Str → Option Value) (base : Heap) (k : Nat) (C : Addr) (m : Str) (sp : Sp) : Prop where
  ex : ∃ (f : Addr) (fd : FuncData) (ps : List Str), Cls K C ∧ Meth K C m f ∧ FnOk P w K mg base CX0 k f fd ps sp ∧ Binds K fd ps []
structure Mkr (P : Program) (w : World) (K : PySem.W.Frag) (mg : Str → Option Value) (base : Heap) (k : Nat) (x : Str) (C : Addr) (sp : Sp) : Prop where
  ex : ∃ (f : Addr) (fd : FuncData) (ps : List Str), Mk K C f ∧ FnOk P w K mg base CX0 k f fd ps sp ∧ mg x = some (.ref C) ∧ Binds K fd ps []
section
variable {X : Cx} {k j : Nat} {C : Addr} {x m : Str} {sp : Sp} {p pos apos : Pos} {e o : Expr} {es : List Expr} {ta : TE} {t : TA}
theorem pe_mt {pl : Sem Bool} (c : Mt X.prog X.w X.K X.mg X.base k C m sp) (hr : Room j X.A) (hk : k ≤ j) (he : PE X o ta) (ha : PA X (e :: es) t)
    (hst : starEach (e :: es) X.env = (false, eval e X.env) :: starEach es X.env := by rfl) (hpl : (backTo pos (starEach es X.env)).any (·.1) = false := by rfl)
    (ht : eval (.Call (.Attribute o m apos) (e :: es) [] pos) X.env = (do
      let ov ← eval o X.env
      standAt apos.atName
      let (f, first) ← holding [ov] (getMethod ov m pl)
      callWith pos f first (backTo pos (starEach (e :: es) X.env)) (backToKw pos (keywordEach [] X.env))) := by rfl) :
    PE X (.Call (.Attribute o m apos) (e :: es) [] pos) (tMeth C m sp [] E0 ta t) := by
  obtain ⟨f, fd, ps, hc, hm, F, b⟩ := c.ex
  exact pe_meth (pl := pl) he hc hm F (hr.mono hk) b .nil pass0 ha hst hpl ht
theorem pe_mt0 {pl : Sem Bool} (c : Mt X.prog X.w X.K X.mg X.base k C m sp) (hr : Room j X.A) (hk : k ≤ j) (he : PE X o ta)
    (ht : eval (.Call (.Attribute o m apos) [] [] pos) X.env = (do
      let ov ← eval o X.env
      standAt apos.atName
      let (f, first) ← holding [ov] (getMethod ov m pl)
      callWith pos f first (backTo pos (starEach [] X.env)) (backToKw pos (keywordEach [] X.env))) := by rfl) :
    PE X (.Call (.Attribute o m apos) [] [] pos) (tMeth C m sp [] E0 ta tNil) := by
  obtain ⟨f, fd, ps, hc, hm, F, b⟩ := c.ex
  exact pe_meth0 (pl := pl) he hc hm F (hr.mono hk) b .nil pass0 ht
theorem pe_mkr0 (c : Mkr X.prog X.w X.K X.mg X.base k x C sp) (hr : Room j X.A) (hk : k + 1 ≤ j) (hg : Gl X x) (hdb : (x == ("__debug__" : Str)) = false := by decide) :
    PE X (.Call (.Name x p) [] [] pos) (tMake C sp [] E0 tNil) := by
  obtain ⟨f, fd, ps, M, F, hm, b⟩ := c.ex
  exact pe_make0 M F (hr.mono hk) hg hm b .nil pass0 hdb
def rStrInt : List V → Hp → VK → Prop := fun xs H Q => ∃ i, xs = [.int i] ∧ i.natAbs.log2 < 1920 ∧ Q (.str (toString i)) H
theorem cr_strInt : CallR X (.type "str") rStrInt := call_str_int
def rSortD (K : PySem.W.Frag) : List V → Hp → VK → Prop := fun xs H Q => ∃ (a : Addr) (kvs : List (Key × V)) (ks : List Str), xs = [.ref a] ∧ Rd H a (.dK kvs) ∧ kvs.map (·.1) = ks.map Sum.inr ∧ ks.length < 64 ∧ ∀ ys p, ys.Perm ks → sortedS ys = true → H p = none → Q (.ref p) (upd H p (.lst (ys.map V.str)))
theorem cr_sortD (h : X.calm = true) : CallR X (.builtin "sorted") (rSortD X.K) := call_sortedD h
def rDictP (K : PySem.W.Frag) : List V → Hp → VK → Prop := fun xs H Q => ∃ (a : Addr) (ps : List Addr) (kvs : List (Key × V)), xs = [.ref a] ∧ SqL K H a (ps.map V.ref) ∧ Paired (fun p kv => SqT K H p [kV kv.1, kv.2]) ps kvs ∧ ∀ p, H p = none → Q (.ref p) (upd H p (.dK (mergeK [] kvs)))
end
section
variable {K : PySem.W.Frag} {σ : L2.St} {H H' : Hp} {ta tb td ty te tc tv : TE} {t u : TT} {x y z v : V} {D : Ends} {tu tw tz : TS} {C p d dx : Addr} {fs : List (Str × V)} {kvs : List (Key × V)} {k : List Nat}
theorem ev_fld {f : Str} (ha : Ev ta σ H (.ref p)) (ho : H p = some (.ins C dx fs)) (hc : Cls K C) (hn : NoAttr K C f) (hl : fs.lookup f = some v) : Ev (tFld K ta f) σ H v := fun H1 e Q q =>
  ha H1 e _ fun H2 e2 => ⟨p, C, dx, fs, v, rfl, (e.trans e2) _ _ ho, hc, hn, hl, q H2 e2⟩
theorem ev_meth {m : Str} {sp : Sp} {E : XK} {t : TA} {vs : List V} (ha : Ev ta σ H (.ref p)) (ho : H p = some (.ins C dx fs)) (hm : fs.lookup m = none) (h : EvA t σ H vs) (hs : SpV sp (.ref p :: vs) H z) : Ev (tMeth C m sp [] E ta t) σ H z := fun H1 e Q q =>
  ha H1 e _ fun H2 e2 => ⟨p, dx, fs, rfl, (e.trans e2) _ _ ho, hm, h H2 (e.trans e2) _ fun H3 e3 => by
    rw [List.append_nil]
    exact hs H3 ((e.trans e2).trans e3) Q (fun H4 e4 => q H4 ((e2.trans e3).trans e4)) E⟩
theorem ev_dget (h1 : Ev td σ H (.ref d)) (h2 : Ev ty σ H (.str (S k))) (hd : H d = some (.dK kvs)) (hv : valV kvs (Sum.inr (S k)) = some v) : Ev (tDGet td ty) σ H v := fun H1 e Q q =>
  h1 H1 e _ fun H2 e2 => h2 H2 (e.trans e2) _ fun H3 e3 => ⟨d, v, rfl, by
    have g := DGet.k (k := (Sum.inr (S k) : Key)) (((e.trans e2).trans e3) _ _ hd)
    rw [hv] at g
    exact g, q H3 (e2.trans e3)⟩
theorem ev_dget1 (h1 : Ev td σ H (.ref d)) (h2 : Ev ty σ H (.str (S k))) (hd : H d = some (.dK kvs)) : Ev (tDGet1 td ty) σ H ((valV kvs (Sum.inr (S k))).getD .non) := fun H1 e Q q =>
  h1 H1 e _ fun H2 e2 => ⟨d, rfl, .inl ⟨kvs, .inl ((e.trans e2) _ _ hd)⟩, h2 H2 (e.trans e2) _ fun H3 e3 => ⟨_, DGet.k (k := (Sum.inr (S k) : Key)) (((e.trans e2).trans e3) _ _ hd), q H3 (e2.trans e3)⟩⟩
theorem et_din (h2 : Ev ty σ H (.str (S k))) (h1 : Ev td σ H (.ref d)) (hd : H d = some (.dK kvs)) : EvT (tB (tDIn ty td)) σ H (valV kvs (Sum.inr (S k))).isSome := fun H1 e Q q =>
  h2 H1 e _ fun H2 e2 => h1 H2 (e.trans e2) _ fun H3 e3 => ⟨d, _, rfl, DGet.k (k := (Sum.inr (S k) : Key)) (((e.trans e2).trans e3) _ _ hd), _, rfl, q H3 (e2.trans e3)⟩
/-- d[k] = (a, ..), a new tuple -/
theorem s_dputU {xs : List V} (hv : EvU tv σ H xs) (h1 : ∀ H1, Ex H H1 → Ev td σ H1 (.ref d)) (h2 : ∀ H1, Ex H H1 → Ev ty σ H1 (.str (S k))) (hd : H d = some (.dK kvs)) (hl : kvs.length < 100000) (q : ∀ r H1, H r = none → Ex H H1 → H1 r = some (.tup xs) → D.nx σ (upd H1 d (.dK (putK kvs (Sum.inr (S k)) (.ref r))))) : sDPut td ty tv D σ H :=
  hv H (Ex.refl H) _ fun r H1 nr e1 hr => h1 H1 e1 H1 (Ex.refl H1) _ fun H2 e2 => h2 H2 (e1.trans e2) H2 (Ex.refl H2) _ fun H3 e3 => ⟨d, _, rfl, DPut.k (k := (Sum.inr (S k) : Key)) (((e1.trans e2).trans e3) _ _ hd) (sz_lt hl), q r H3 nr ((e1.trans e2).trans e3) (e3 _ _ (e2 _ _ hr))⟩
theorem et_isN (ha : Ev ta σ H x) : EvT (tTest (tOp rIsN ta (tC .non))) σ H (decide (x = .non)) := et_test (ev_op ha ev_c fun H1 _ Q q => ⟨rfl, q H1 (Ex.refl H1)⟩)
theorem et_notN (ha : Ev ta σ H x) : EvT (tTest (tOp rNotN ta (tC .non))) σ H (!decide (x = .non)) := et_test (ev_op ha ev_c fun H1 _ Q q => ⟨rfl, q H1 (Ex.refl H1)⟩)
theorem rv_ix0 {q : Addr} {xs : List V} {i : Nat} (h : SqT K H q xs) (hi : xs[i]? = some v) : RV (rIxT K) (.ref q) (.int (i : Int)) H v := rv_ixT h (atI_nat hi)
theorem ev_strInt {n : Nat} (ha : Ev ta σ H (.int (n : Int))) (hn : n < 1000) : Ev (tCB rStrInt (tCons ta tNil)) σ H (.str (S (TL.numL n))) := fun H1 e Q q =>
  ha H1 e _ fun H2 e2 => ⟨(n : Int), rfl, by
    rw [Int.natAbs_natCast]
    have : n.log2 < 10 := by
      by_cases h0 : n = 0
      · subst h0
        decide
      · exact (Nat.log2_lt h0).mpr (by omega)
    omega, by
    have z := num_S n
    rw [← z] at q
    exact q H2 e2⟩
end
end Kn
/-! ### lists of pairs with text keys: what a dict holds -/
namespace Kn
open PySem PySem.Spec PyProof.Rows L2 Evl SX
section
variable {α : Type}
def look (es : List (List Nat × α)) (k : List Nat) : Option α := (es.find? fun x => decide (x.1 = k)).map (·.2)
def put (es : List (List Nat × α)) (k : List Nat) (e : α) : List (List Nat × α) := if (es.any fun x => decide (x.1 = k)) = true then es.map (fun x => if x.1 = k then (x.1, e) else x) else es ++ [(k, e)]
theorem look_cons (x : List Nat × α) (r : List (List Nat × α)) (k : List Nat) : look (x :: r) k = if x.1 = k then some x.2 else look r k := by
  unfold look
  rw [List.find?_cons]
  by_cases h : x.1 = k
  · rw [decide_eq_true h, if_pos h]
    rfl
  · rw [decide_eq_false h, if_neg h]
theorem look_any (k : List Nat) : ∀ es : List (List Nat × α), (es.any fun x => decide (x.1 = k)) = (look es k).isSome
  | [] => rfl
  | x :: r => by
    rw [List.any_cons, look_cons, look_any k r]
    by_cases h : x.1 = k
    · rw [decide_eq_true h, if_pos h]
      rfl
    · rw [decide_eq_false h, if_neg h]
      rfl
theorem look_map (k j : List Nat) (e : α) : ∀ es : List (List Nat × α), look (es.map fun x => if x.1 = k then (x.1, e) else x) j = (look es j).map fun y => if j = k then e else y
  | [] => rfl
  | x :: r => by
    rw [List.map_cons, look_cons, look_cons, look_map k j e r]
    by_cases h : x.1 = k
    · rw [if_pos h]
      by_cases h2 : x.1 = j
      · rw [if_pos h2, if_pos h2, Option.map_some, if_pos (h2.symm.trans h)]
      · rw [if_neg h2, if_neg h2]
    · rw [if_neg h]
      by_cases h2 : x.1 = j
      · rw [if_pos h2, if_pos h2, Option.map_some, if_neg (fun z => h (h2.trans z))]
      · rw [if_neg h2, if_neg h2]
theorem look_snoc (k j : List Nat) (e : α) : ∀ es : List (List Nat × α), look es k = none → look (es ++ [(k, e)]) j = if j = k then some e else look es j
  | [], _ => by
    show look [(k, e)] j = _
    rw [look_cons]
    by_cases h : k = j
    · rw [if_pos h, if_pos h.symm]
    · rw [if_neg h, if_neg (fun z => h z.symm)]
  | x :: r, hn => by
    rw [look_cons] at hn
    by_cases h : x.1 = k
    · rw [if_pos h] at hn
      cases hn
    · rw [if_neg h] at hn
      rw [List.cons_append, look_cons, look_cons, look_snoc k j e r hn]
      by_cases h2 : x.1 = j
      · rw [if_pos h2, if_pos h2, if_neg (fun z => h (h2.trans z))]
      · rw [if_neg h2, if_neg h2]
theorem look_put (es : List (List Nat × α)) (k j : List Nat) (e : α) : look (put es k e) j = if j = k then some e else look es j := by
  unfold put
  rw [look_any]
  cases h : look es k with
  | none => exact look_snoc k j e es h
  | some y =>
    show look (es.map _) j = _
    rw [look_map]
    by_cases hj : j = k
    · subst hj
      rw [h, if_pos rfl, Option.map_some, if_pos rfl]
    · rw [if_neg hj]
      cases look es j with
      | none => rfl
      | some z => rw [Option.map_some, if_neg hj]
theorem look_mem {es : List (List Nat × α)} {k : List Nat} {e : α} (h : look es k = some e) : (k, e) ∈ es := by
  unfold look at h
  cases hf : es.find? fun x => decide (x.1 = k) with
  | none => rw [hf] at h; cases h
  | some x =>
    rw [hf] at h
    have h1 : x.1 = k := of_decide_eq_true (List.find?_some (p := fun x : List Nat × α => decide (x.1 = k)) hf)
    have h2 : x.2 = e := Option.some.inj h
    rw [← h1, ← h2]
    exact List.mem_of_find?_eq_some hf
end
/-- how pairs lie as a dict's: R tells which value stands for which thing -/
def Lies {α : Type} (R : α → V → Prop) (es : List (List Nat × α)) (kvs : List (Key × V)) : Prop := Paired (fun x (kv : Key × V) => kv.1 = Sum.inr (S x.1) ∧ R x.2 kv.2) es kvs
section
variable {α : Type} {R R' : α → V → Prop}
theorem key_eq {a b : List Nat} : ((Sum.inr (S a) : Key) = Sum.inr (S b)) ↔ a = b := ⟨fun h => S_inj (Sum.inr.inj h), fun h => by rw [h]⟩
theorem Lies.len {es : List (List Nat × α)} {kvs : List (Key × V)} (h : Lies R es kvs) : es.length = kvs.length := Paired.length h
theorem Lies.mono {es : List (List Nat × α)} {kvs : List (Key × V)} (h : Lies R es kvs) (f : ∀ a v, R a v → R' a v) : Lies R' es kvs := Paired.mapP h fun _ _ z => ⟨z.1, f _ _ z.2⟩
theorem Lies.look : ∀ {es : List (List Nat × α)} {kvs : List (Key × V)}, Lies R es kvs → ∀ k, (Kn.look es k = none ∧ valV kvs (Sum.inr (S k)) = none) ∨ ∃ e v, Kn.look es k = some e ∧ valV kvs (Sum.inr (S k)) = some v ∧ R e v
  | [], _, .nil, _ => .inl ⟨rfl, rfl⟩
  | x :: r, kv :: kvs, .cons h t, k => by
    rw [look_cons]
    by_cases hk : x.1 = k
    · rw [if_pos hk]
      refine .inr ⟨x.2, kv.2, rfl, valV_pos (h.1.trans (key_eq.mpr hk)), h.2⟩
    · rw [if_neg hk, valV_neg (fun z => hk (key_eq.mp (h.1.symm.trans z)))]
      exact Lies.look t k
theorem Lies.any {es : List (List Nat × α)} {kvs : List (Key × V)} (h : Lies R es kvs) (k : List Nat) : (kvs.any fun kv => decide (kv.1 = Sum.inr (S k))) = es.any fun x => decide (x.1 = k) := by
  rw [valV_any, look_any]
  rcases h.look k with ⟨a, b⟩ | ⟨e, v, a, b, _⟩
  · rw [a, b]
    rfl
  · rw [a, b]
    rfl
theorem Lies.mapped {k : List Nat} {e : α} {v : V} (hv : R e v) : ∀ {es : List (List Nat × α)} {kvs : List (Key × V)}, Lies R es kvs → Lies R (es.map fun x => if x.1 = k then (x.1, e) else x) (kvs.map fun kv => if kv.1 = (Sum.inr (S k) : Key) then (kv.1, v) else kv)
  | [], _, .nil => .nil
  | x :: r, kv :: kvs, .cons h t => by
    refine .cons ?_ (Lies.mapped hv t)
    by_cases hk : x.1 = k
    · dsimp only
      rw [if_pos hk, if_pos (h.1.trans (key_eq.mpr hk))]
      exact ⟨h.1, hv⟩
    · dsimp only
      rw [if_neg hk, if_neg (fun z => hk (key_eq.mp (h.1.symm.trans z)))]
      exact h
theorem Lies.snoc {k : List Nat} {e : α} {v : V} (hv : R e v) : ∀ {es : List (List Nat × α)} {kvs : List (Key × V)}, Lies R es kvs → Lies R (es ++ [(k, e)]) (kvs ++ [(Sum.inr (S k), v)])
  | [], _, .nil => .cons ⟨rfl, hv⟩ .nil
  | _ :: _, _ :: _, .cons h t => .cons h (Lies.snoc hv t)
theorem Lies.put {es : List (List Nat × α)} {kvs : List (Key × V)} {k : List Nat} {e : α} {v : V} (h : Lies R es kvs) (hv : R e v) : Lies R (Kn.put es k e) (putK kvs (Sum.inr (S k)) v) := by
  unfold Kn.put putK
  rw [h.any k]
  split
  · exact h.mapped hv
  · exact h.snoc hv
theorem Lies.keys : ∀ {es : List (List Nat × α)} {kvs : List (Key × V)}, Lies R es kvs → kvs.map (·.1) = (es.map fun x => S x.1).map Sum.inr
  | [], _, .nil => rfl
  | _ :: _, _ :: _, .cons h t => by
    rw [List.map_cons, List.map_cons, List.map_cons, h.1, Lies.keys t]
theorem Lies.get : ∀ {es : List (List Nat × α)} {kvs : List (Key × V)}, Lies R es kvs → ∀ (i : Nat) kv, kvs[i]? = some kv → ∃ x, es[i]? = some x ∧ kv.1 = Sum.inr (S x.1) ∧ R x.2 kv.2
  | [], _, .nil, _, _, h => by simp at h
  | x :: _, kv :: _, .cons h t, 0, kv', e => by
    cases Option.some.inj e
    exact ⟨x, rfl, h.1, h.2⟩
  | _ :: _, _ :: _, .cons h t, i + 1, kv', e => by
    obtain ⟨y, h1, h2⟩ := Lies.get t i kv' (by simpa using e)
    exact ⟨y, by simpa using h1, h2⟩
end
section
variable {K : PySem.W.Frag} {σ : L2.St} {H H' : Hp} {ta tb td ty te tc tv : TE} {t u : TT} {x y z v : V} {D : Ends} {tu tw tz : TS} {C p d dx : Addr} {fs : List (Str × V)} {kvs : List (Key × V)} {k : List Nat}
/-- y = [x for x in d.values() if t] -/
theorem s_lcVals {i j : Nat} {vs : List Nat} (f : Nat → Bool) (h1 : ∀ H1 : Hp, (∀ a o, a ≠ d → H a = some o → H1 a = some o) → Ev td σ H1 (.ref d)) (hd : H d = some (.dK kvs)) (hz : kvs.length ≤ 40000) (hw : ∀ x, wipe ((wipe σ vs).set j (some x)) vs = wipe σ vs)
    (ht : ∀ (i : Nat) (kv : Key × V) (H1 : Hp), (∀ a o, a ≠ d → H a = some o → H1 a = some o) → kvs[i]? = some kv → EvT t ((wipe σ vs).set j (some kv.2)) H1 (f i)) (he : ∀ (x : V) H1, Ev te ((wipe σ vs).set j (some x)) H1 x)
    (k : ∀ p H1, H p = none → Ex H H1 → H1 p = some (.lst (given kvs.length f fun i => (kvs[i]?.map (·.2)).getD .non)) → D.nx (σ.set i (some (.ref p))) H1) : tLock (tAsg (tLc (iVals td) (gName j) t te vs) (gName i)) D σ H := by
  refine ⟨d, .dK kvs, hd, trivial, fun od => ?_⟩
  have base : ∀ H1, Ex (upd H d (.frz od (.dK kvs))) H1 → ∀ a o, a ≠ d → H a = some o → H1 a = some o := fun H1 e a o ha h => e a o (by rw [upd_ne ha]; exact h)
  refine h1 _ (base _ (Ex.refl _)) _ (Ex.refl _) _ fun H1 e1 => ⟨d, od, kvs, rfl, e1 _ _ upd_same, fun Dl hD => ?_⟩
  refine lc_it walk_values (Cw H1 f (fun i => (kvs[i]?.map (·.2)).getD .non) Dl) ⟨hD, Ex.new hD, upd_same⟩ (fun i H2 _ q => q.2.1 _ _ (e1 _ _ upd_same)) (fun i x H2 H3 hi q y => ?_) (fun H2 q => ?_)
  · obtain ⟨rfl, ky, hy⟩ := y
    refine ⟨hw x, cw_turn q (by omega) (ht i (ky, x) H1 (base H1 e1) hy) (fun _ => ?_)⟩
    rw [hy]
    exact he x H1
  · have dn : H1 d = some (.frz od (.dK kvs)) := e1 _ _ upd_same
    have hd2 : H2 d = some (.frz od (.dK kvs)) := q.2.1 _ _ dn
    refine ⟨hd2, k Dl _ ?_ (fun a o h => ?_) ?_⟩
    · cases h : H Dl with
      | none => rfl
      | some o =>
        have ne : Dl ≠ d := fun z => by rw [z] at hD; rw [hD] at dn; cases dn
        have := e1 _ _ (by rw [upd_ne ne]; exact h)
        rw [hD] at this
        cases this
    · by_cases ha : a = d
      · rw [ha] at h ⊢
        rw [upd_same, ← hd, h]
      · rw [upd_ne ha]
        exact q.2.1 _ _ (base H1 e1 a o ha h)
    · have ne : Dl ≠ d := fun z => by rw [z] at hD; rw [hD] at dn; cases dn
      rw [upd_ne ne]
      exact q.2.2
end
end Kn
namespace Kn
open PySem PySem.Spec PyProof.Rows L2 Evl SX
section
variable {K : PySem.W.Frag} {σ : L2.St} {H H' : Hp} {ta tb td ty te tc tv : TE} {t u : TT} {x y z v : V} {D : Ends} {tu tw tz : TS} {C p d dx : Addr} {fs : List (Str × V)} {kvs : List (Key × V)} {k : List Nat}
end
/-! ### a dict made of pairs -/
def puts {α : Type} (acc L : List (List Nat × α)) : List (List Nat × α) := L.foldl (fun a x => put a x.1 x.2) acc
theorem Lies.puts {α : Type} {R : α → V → Prop} : ∀ {L : List (List Nat × α)} {kvs : List (Key × V)} {acc : List (List Nat × α)} {akvs : List (Key × V)}, Lies R L kvs → Lies R acc akvs → Lies R (Kn.puts acc L) (mergeK akvs kvs)
  | [], _, _, _, .nil, h => h
  | x :: r, kv :: kvs, acc, akvs, .cons h t, ha => by
    have h2 := ha.put (k := x.1) h.2
    rw [← h.1] at h2
    show Lies R (Kn.puts (Kn.put acc x.1 x.2) r) (mergeK (putK akvs kv.1 kv.2) kvs)
    exact Lies.puts (L := r) (kvs := kvs) t h2
theorem upd_none {H : Hp} {a b : Addr} {o : HO} (h : upd H a o b = none) : H b = none := by
  by_cases e : b = a
  · subst e
    rw [upd_same] at h
    cases h
  · rw [upd_ne e] at h
    exact h
end Kn

/-! ### own exceptions over an own base -/
namespace Kn
open PySem PySem.Spec PyProof.Rows L2 Evl SX
/-- what the base's __init__ asks of the own base class at B -/
structure BaseC (K : PySem.W.Frag) (B : Addr) : Prop where
  sp : PySem.W.specialIn K (.ref B) "__getattribute__" = some (some (.builtin "type.__getattribute__"))
  rd : PySem.W.readsIn K B (.type "type") = true
  fi : PySem.W.findCls K (.ref B) (.type "type") "__init__" = some (.val (.builtin "ValueError.__init__"))
theorem pe_beinit {X : Cx} {b : Str} {B : Addr} {e : Expr} {es : List Expr} {ta : TA} {p1 p2 pos : Pos} {pl : Sem Bool} (T : BaseC X.K B) (hg : Gl X b) (hm : X.mg b = some (.ref B)) (ha : PA X (e :: es) ta)
    (hdb : (b == ("__debug__" : Str)) = false := by decide)
    (hc : eval (.Call (.Attribute (.Name b p1) "__init__" p2) (e :: es) [] pos) X.env = (do
      let ov ← eval (.Name b p1) X.env
      standAt p2.atName
      let (f, first) ← holding [ov] (getMethod ov "__init__" pl)
      callWith pos f first (backTo pos (starEach (e :: es) X.env)) (backToKw pos (keywordEach [] X.env))) := by rfl)
    (he : starEach (e :: es) X.env = (false, eval e X.env) :: starEach es X.env := by rfl) (hpl : (backTo pos (starEach es X.env)).any (·.1) = false := by rfl) :
    PE X (.Call (.Attribute (.Name b p1) "__init__" p2) (e :: es) [] pos) (tVeI X.K ta) := by
  refine ⟨fun pins s σ H Q I h => ?_⟩
  refine PySem.W.methodCall_KW (ld_glob I hg hm ?_ hdb) hc
  refine PySem.W.method_cls I.kIn T.sp (PySem.W.cls_value I.kIn T.rd T.fi (by decide +kernel) ?_)
  show wpAny _ _ (callWith pos (Value.builtin "ValueError.__init__") [] (backTo pos (starEach (e :: es) X.env)) []) _ _ _
  refine PyProof.Rows.callWith_method1 (thn (ha.run pos pins _ σ H _ (I.tok _) h) fun us s1 ⟨vs, H1, I1, r1, a, C, ws, ev, hl, T, ea, q⟩ => ?_) he hpl
  subst ev
  cases r1 with
  | @cons _ u0 _ ur ra rw' =>
    obtain rfl : u0 = Value.ref a := ra
    have hlen : ur.length ≤ sizeLine := by
      rw [← Paired.length rw', sizeLine_eq]
      omega
    exact oinit_ok T I1 ea hlen fun s' J => ⟨.non, H1, J, rfl, q⟩
/-- isinstance(e, c), e the exception at a that the suite holds, with a dict -/
def rIsX (K : PySem.W.Frag) (a : Addr) (cls : Value) (d : Option Addr) : List V → Hp → VK → Prop := fun xs H Q => ∃ (D dd : Addr) (fs : List (Str × V)) (c : V) (cv : Value) (b : Bool),
  cls = .ref D ∧ d = some dd ∧ ExcC K D ∧ H dd = some (.xd fs) ∧ xs = [.ref a, c] ∧ (∀ u, RelV c u → u = cv) ∧ PySem.W.kitOne K (.ref D) cv = some b ∧ Q (.bl b) H
theorem cr_isX {X : Cx} {a : Addr} {oe : Obj} {cls : Value} {d : Option Addr} {pn : List (Addr × Obj)} (hz : Zc cls d oe) (hf : ∃ vs, oe.data = .fields vs) : CallR (X.suite a ((a, oe) :: pn)) (.builtin "isinstance") (rIsX X.K a cls d) := by
  intro pins s σ H xs us Q I r h
  obtain ⟨D, dd, fs, c, cv, b, rfl, rfl, C, hd, rfl, hcv, e, q⟩ := h
  obtain ⟨u0, u1, rfl, r0, r1⟩ := vals2 r
  obtain rfl : u0 = Value.ref a := r0
  obtain rfl := hcv _ r1
  obtain ⟨hget, _⟩ := I.pin (a, oe) (List.mem_append_left _ List.mem_cons_self)
  obtain ⟨vs, hv⟩ := hf
  obtain ⟨mA, hns, _⟩ := (I.hok dd _ hd : ObjOk X.prog X.w H s.heap dd (.xd fs))
  obtain ⟨od, ho, _⟩ := lookIn_ns hns
  have J : PySem.W.InstAt s.heap a oe D (some od) := ⟨hget, hz.1, by unfold PySem.W.notCls; rw [hv] <;> rfl, by rw [hz.2]; exact ho⟩
  obtain ⟨cd, hc, _⟩ := PySem.W.any_some C.hd
  exact PySem.W.kia_one (PySem.W.kitx_exc (by rw [hc]; rfl) C.hg C.hk C.hs C.ha C.hn C.ht C.hm) I.kIn J e (fun z => nomatch z) fun tk => ⟨.bl b, H, I.kept (t' := tk) fun _ _ z => z, rfl, q⟩
end Kn
/-! ### int(t, 2) -/
namespace Kn.Bi
open PySem PySem.Spec PyProof.Rows L2 PySem.NumText PySem.Calls
def IsBin (c : Nat) : Prop := c = 48 ∨ c = 49
theorem IsBin.hex {c : Nat} (h : IsBin c) : Hx.IsHex c := .inl (by unfold IsBin at h; omega)
theorem IsBin.lt {c : Nat} (h : IsBin c) : Hx.hv c < 2 := by
  rcases h with rfl | rfl <;> decide
def binNum (l : List Nat) : Nat := l.foldl (fun a c => a * 2 + Hx.hv c) 0
theorem step_bin {ds : Array Nat} {b : Bool} {c : Nat} (h : IsBin c) : PySem.NumText.step 2 (ds, b) c = some (ds.push (Hx.hv c), true) := by
  unfold PySem.NumText.step
  rw [if_neg (by rw [beq_iff_eq]; exact (Hx.hex_rng h.hex).2.2), Hx.digit_hex h.hex]
  exact if_pos h.lt
theorem fold_bin : ∀ (cs : List Nat) (ds : Array Nat), (∀ c ∈ cs, IsBin c) → cs.foldlM (PySem.NumText.step 2) (ds, true) = some (cs.foldl (fun acc c => acc.push (Hx.hv c)) ds, true)
  | [], _, _ => rfl
  | c :: cs, ds, h => by
    rw [List.foldlM_cons, step_bin (h c List.mem_cons_self)]
    exact fold_bin cs _ fun d hd => h d (List.mem_cons_of_mem _ hd)
theorem digits_bin {cs : List Nat} (h : ∀ c ∈ cs, IsBin c) (hne : cs ≠ []) : digits? 2 cs = some (cs.foldl (fun acc c => acc.push (Hx.hv c)) #[]) := by
  cases cs with
  | nil => exact absurd rfl hne
  | cons c cs =>
    unfold digits?
    rw [List.foldlM_cons, step_bin (h c List.mem_cons_self)]
    show (cs.foldlM (PySem.NumText.step 2) ((#[] : Array Nat).push (Hx.hv c), true)).bind _ = _
    rw [fold_bin cs _ fun d hd => h d (List.mem_cons_of_mem _ hd)]
    rfl
theorem push_bin : ∀ (cs : List Nat) (ds : Array Nat), (cs.foldl (fun acc c => acc.push (Hx.hv c)) ds).foldl (fun acc d => acc * 2 + d) 0 = cs.foldl (fun a c => a * 2 + Hx.hv c) (ds.foldl (fun acc d => acc * 2 + d) 0)
  | [], _ => rfl
  | c :: cs, ds => by
    rw [List.foldl_cons, push_bin cs, List.foldl_cons]
    congr 1
    simp
theorem based_bin : ∀ {cs : List Nat}, (∀ c ∈ cs, IsBin c) → based 2 cs = (2, false, cs)
  | [], _ => rfl
  | [a], h => by rcases h a List.mem_cons_self with rfl | rfl <;> rfl
  | a :: c :: r, h => by
    rcases h a List.mem_cons_self with rfl | rfl <;> rcases h c (List.mem_cons_of_mem _ List.mem_cons_self) with rfl | rfl <;> rfl
theorem read_bin {cs : List Nat} (h : ∀ c ∈ cs, IsBin c) (hne : cs ≠ []) : (int_private% "readNumeral") 0 2 cs = (int_private% "Numeral.value") ((binNum cs : Nat) : Int) := by
  have hx : ∀ c ∈ cs, Hx.IsHex c := fun c hc => (h c hc).hex
  have hr : ∀ c ∈ cs.reverse, Hx.IsHex c := fun c hc => hx c (List.mem_reverse.mp hc)
  refine (readNumeral_eq 0 2 cs).trans ?_
  rw [Hx.dropB hx, Hx.signH hx]
  show judge 0 false (based 2 cs).1 (based 2 cs).2.1 (digits? (based 2 cs).1 (((based 2 cs).2.2.reverse.dropWhile blank).reverse)) = _
  rw [based_bin h]
  show judge 0 false 2 false (digits? 2 ((cs.reverse.dropWhile blank).reverse)) = _
  rw [Hx.dropB hr, List.reverse_reverse, digits_bin h hne]
  show (int_private% "Numeral.value") (((cs.foldl (fun acc c => acc.push (Hx.hv c)) (#[] : Array Nat)).foldl (fun acc d => acc * 2 + d) 0 : Nat) : Int) = _
  have z : (#[] : Array Nat).foldl (fun acc d => acc * 2 + d) 0 = 0 := by first | rfl | simp
  rw [push_bin, z] <;> rfl
theorem gives_bin {x : PySem.Str} {u t : Tok} (hl : x.length ≤ 640) (h : ∀ c ∈ x.cps.toList, IsBin c) (hne : x.cps.toList ≠ []) :
    Gives (Builtin.«int.__new__» ⟨[.type "int", .str x u, .int 2 t], []⟩) (.int ((binNum x.cps.toList : Nat) : Int)) :=
  .of_wp fun M A E s Q hQ => by
    obtain ⟨hp, g, d, tk, os⟩ := s
    have f1 := F.conv_sub_int
    have f2 := F.madeHere_int
    have f6 : typeOf (.str x u) = pure (.type "str") := rfl
    obtain ⟨e1, e2⟩ := Hx.seen_hex fun c hc => (h c hc).hex
    have hs : (numSeenOf x).length ≤ 640 := by
      rw [e2, Array.length_toList]
      exact hl
    have hr : (int_private% "readNumeral") 0 2 (numSeenOf x) = (int_private% "Numeral.value") ((binNum x.cps.toList : Nat) : Int) := by
      rw [e2]
      exact read_bin h hne
    have ha : ((numSeenOf x).length == (numTextOf x).length) = true := by
      rw [e1, e2]
      exact beq_self_eq_true _
    have hk := Hx.Hid.mk (And.intro hs (And.intro hr ha))
    clear hs hr ha e1 e2 hl hne h
    repeat (any_goals (first
      | assumption
      | ((with_reducible show wpAny _ _ ((int_private% "intFromText") _ _ _) _ _ _); refine Hx.wp_textB hk.out.1 hk.out.2.1 hk.out.2.2 ?_)
      | wp_step))
    all_goals first | exact ⟨_, rfl, hQ⟩ | skip
/-- int(t, 2) -/
def rIntBin : List V → Hp → VK → Prop := fun xs H Q => ∃ l : List Nat, xs = [.str (SX.S l), .int 2] ∧ l ≠ [] ∧ l.length ≤ 640 ∧ (∀ c ∈ l, IsBin c) ∧ Q (.int ((binNum l : Nat) : Int)) H
theorem cr_intBin {X : Cx} : CallR X (.type "int") rIntBin := by
  intro pins s σ H xs us Q I r h
  obtain ⟨l, rfl, hne, hl, hx, q⟩ := h
  obtain ⟨u, w', rfl, r1, r2⟩ := vals2 r
  obtain ⟨t1, rfl⟩ := r1
  obtain ⟨t2, rfl⟩ := r2
  exact callType_new F.called_int F.newNe_int (Hx.typeCall_int_2 _ _) (Hx.newCall_int_2 _ _) (fun obj => F.initArgs_range_2 obj _ _) F.entry_int_new (gives_bin (x := SX.S l) (by rw [SX.S_len]; exact hl) hx hne).meets
    (show (Made.int ((binNum l : Nat) : Int)).post _ s from ⟨rfl, ⟨.int ((binNum l : Nat) : Int), H, I.tok _, ⟨_, rfl⟩, q⟩⟩)
end Kn.Bi
/-! ### f'{n:b}' -/
namespace Kn.Bi
open PySem PySem.Spec PyProof.Rows L2 PySem.NumText PySem.Calls PySem.W Builtin.Float
def digB (n : Nat) : List Nat := (Nat.toDigits 2 n).map Char.toNat
def fB : FormatSpec := { align := 62, type := some 98 }
theorem parse_b : parseFormatSpec (Str.ofString "b").cps.toList "int" 62 = .ok fB := by kernel_rfl
theorem digB_ne (n : Nat) : digB n ≠ [] := fun z => by
  have h1 := tDigits_len_ge 2 n
  have h2 : (digB n).length = (Nat.toDigits 2 n).length := List.length_map _
  rw [z, List.length_nil] at h2
  omega
theorem field_eq (ds : List Nat) (h : ds ≠ []) : intField' fB false [] ds [] 4 = SX.S ds := by
  unfold intField' fB
  cases ds with
  | nil => exact absurd rfl h
  | cons c r =>
    simp
    omega
theorem field_b {a : Int} (h0 : 0 ≤ a) : intField' fB (decide (a < 0)) [] (digB a.natAbs) [] 4 = SX.S (digB a.natAbs) := by
  rw [decide_eq_false (by omega)]
  exact field_eq _ (digB_ne _)
theorem meets_b {a : Int} {t u : Tok} (h0 : 0 ≤ a) (hl : (digB a.natAbs).length ≤ 100000) : Meets (Builtin.«int.__format__» ⟨[.int a t, .str "b" u], []⟩) (fun _ R s => ∀ t' k, R (.ok (.ret (.str (SX.S (digB a.natAbs)) t'))) { s with toks := k }) := by
  apply KPc.meets_of
  intro _ _ _ _ _ _ hQ
  unfold Builtin.«int.__format__»
  refine wpAny_bind (wpAny_of_eq (a := (_, _)) rfl ?_)
  refine wpAny_bind (wpAny_of_eq (a := _) rfl ?_)
  kxf_if
  refine wpAny_bind (wpAny_typeNameOf (T := "str") (typeIs_str _ _ _) (by decide) fun _ => ?_)
  refine wpAny_bind (wpAny_of_eq (a := some _) rfl ?_)
  kxf_if
  kxf_if
  refine wpAny_bind (wpAny_typeNameOfCut_int ?_)
  rw [parse_b]
  dsimp only
  rw [if_pos (by decide +kernel)]
  show wpAny _ _ (retStr (intField' fB (decide (a < 0)) [] (digB a.natAbs) [] 4)) _ _ _
  exact KXf.ret_text (field_b h0) (by rw [field_b h0, SX.S_len]; exact Evl.sz_of hl) hQ
/-- {x:b} -/
def tFmtB (te : TE) : TE := fun σ H Q => te σ H fun x H1 => ∃ i : Int, x = .int i ∧ 0 ≤ i ∧ (digB i.natAbs).length ≤ 100000 ∧ Q (.str (SX.S (digB i.natAbs))) H1
theorem pe_fmtB {X : Cx} {e sp : Expr} {te : TE} {pos : Pos} (he : PE X e te) (hs : PE X sp (tC (.str "b"))) : PE X (.FormattedValue e (-1) (some sp) pos) (tFmtB te) := by
  refine ⟨fun pins s σ H Q I h => ?_⟩
  refine wpAny_FormattedValue_spec (thn (he.run pins s σ H _ I h) fun v s1 ⟨x, H1, I1, r1, i, ex, h0, hl, q⟩ => ?_)
  subst ex
  obtain ⟨t, rfl⟩ := r1
  refine thn (hs.run pins s1 σ H1 (fun v H2 => v = .str "b" ∧ H2 = H1) I1 ⟨rfl, rfl⟩) fun r s2 ⟨y, H2, I2, r2, ey, eH⟩ => ?_
  subst ey
  subst eH
  obtain ⟨t2, rfl⟩ := r2
  exact ⟨_, t2, rfl, KXf.field_int rfl (by decide +kernel) (by decide +kernel) (fun u => meets_b h0 hl) fun t' k => ⟨.str (SX.S (digB i.natAbs)), H2, I2.tok _, ⟨_, rfl⟩, q⟩⟩
end Kn.Bi
/-! ### comprehensions over ranges -/
namespace Kn
open PySem PySem.Spec PyProof.Rows L2 Evl SX
section
variable {K : PySem.W.Frag} {σ : L2.St} {H H' : Hp} {ta tb te tc : TE} {t u : TT} {x y z v : V} {D : Ends} {tu tw tz : TS}
theorem range7 (c : Nat) (hc : c ≤ 5000) : RgC 1 (((1 + 7 * c : Nat) : Int)) 7 c := by
  have e : Builtin.Range.rangeSize 1 (((1 + 7 * c : Nat) : Int)) 7 = (c : Int) := by
    unfold Builtin.Range.rangeSize
    rw [if_pos (by decide)]
    split <;> omega
  have fit : ∀ i : Int, 0 ≤ i → i ≤ 100000 → Builtin.Range.rangeFitsLong i = true := fun i h1 h2 => by
    unfold Builtin.Range.rangeFitsLong
    rw [decide_eq_true (by omega), decide_eq_true (by omega)]
    rfl
  refine ⟨by decide, by decide, ?_, e⟩
  unfold Builtin.Range.small
  rw [e, fit 1 (by decide) (by decide), fit _ (by omega) (by omega), fit 7 (by decide) (by decide), fit (c : Int) (by omega) (by omega), if_pos (by decide), fit _ (by omega) (by omega), Bool.or_true]
  rfl
theorem el_lcR7 {ta : TA} {j : Nat} {vs : List Nat} {c : Nat} (v : Nat → V) (h : EvA ta σ H [.int 1, .int (((1 + 7 * c : Nat) : Int)), .int 7]) (hc : c ≤ 5000) (hw : ∀ x, wipe ((wipe σ vs).set j (some x)) vs = wipe σ vs)
    (he : ∀ (i : Nat) H1, Ex H H1 → i < c → Ev te ((wipe σ vs).set j (some (.int (1 + (i : Nat) * 7)))) H1 (v i)) :
    EvL (tLc (iRng3 ta) (gName j) tYes te vs) σ H (given c (fun _ => true) v) := fun H0 e Q q => h H0 e _ fun H1 e1 => ⟨1, _, 7, c, rfl, range7 c hc, fun Dl hD =>
  lc_it walk_rangeC (Cw H1 (fun _ => true) v Dl) ⟨hD, Ex.new hD, upd_same⟩ (fun _ _ _ _ => trivial) (fun i x H2 H3 hi p y => by
    obtain ⟨rfl, rfl⟩ := y
    exact ⟨hw _, cw_turn p (by omega) et_yes (fun hf => he i H1 (e.trans e1) hi)⟩) (fun H' p => q Dl H' (fresh_back e1 p.1) (e1.trans p.2.1) p.2.2)⟩
theorem ev_fmtB {n : Nat} (h : Ev te σ H (.int (n : Int))) (hl : (Bi.digB n).length ≤ 100000) : Ev (Bi.tFmtB te) σ H (.str (S (Bi.digB n))) := fun H1 e Q q =>
  h H1 e _ fun H2 e2 => ⟨(n : Int), rfl, by omega, hl, q H2 e2⟩
end
end Kn

/-! ### f'{n:07b}' -/
namespace Kn.Bi
open PySem PySem.Spec PyProof.Rows L2 PySem.NumText PySem.Calls PySem.W Builtin.Float
def f7 : FormatSpec := { fill := 48, align := 61, width := some 7, type := some 98 }
theorem parse_7 : parseFormatSpec (Str.ofString "07b").cps.toList "int" 62 = .ok f7 := by kernel_rfl
def pad7 (d : Nat) : List Nat := [48 + d / 64 % 2, 48 + d / 32 % 2, 48 + d / 16 % 2, 48 + d / 8 % 2, 48 + d / 4 % 2, 48 + d / 2 % 2, 48 + d % 2]
theorem field_7 : ∀ d : Nat, d < 128 → intField' f7 false [] (digB d) [] 4 = SX.S (pad7 d) := by decide +kernel
theorem meets_7 {d : Nat} {t u : Tok} (hd : d < 128) : Meets (Builtin.«int.__format__» ⟨[.int (d : Int) t, .str "07b" u], []⟩) (fun _ R s => ∀ t' k, R (.ok (.ret (.str (SX.S (pad7 d)) t'))) { s with toks := k }) := by
  apply KPc.meets_of
  intro _ _ _ _ _ _ hQ
  unfold Builtin.«int.__format__»
  refine wpAny_bind (wpAny_of_eq (a := (_, _)) rfl ?_)
  refine wpAny_bind (wpAny_of_eq (a := _) rfl ?_)
  kxf_if
  refine wpAny_bind (wpAny_typeNameOf (T := "str") (typeIs_str _ _ _) (by decide) fun _ => ?_)
  refine wpAny_bind (wpAny_of_eq (a := some _) rfl ?_)
  kxf_if
  kxf_if
  refine wpAny_bind (wpAny_typeNameOfCut_int ?_)
  rw [parse_7]
  dsimp only
  rw [if_pos (by decide +kernel)]
  show wpAny _ _ (retStr (intField' f7 (decide ((d : Int) < 0)) [] (digB (d : Int).natAbs) [] 4)) _ _ _
  have e : intField' f7 (decide ((d : Int) < 0)) [] (digB (d : Int).natAbs) [] 4 = SX.S (pad7 d) := by
    rw [decide_eq_false (by omega), Int.natAbs_natCast]
    exact field_7 d hd
  exact KXf.ret_text e (by rw [e, SX.S_len]; exact Evl.sz_of (by show 7 ≤ 100000; decide)) hQ
/-- {x:07b} of a small number -/
def tFmt7 (te : TE) : TE := fun σ H Q => te σ H fun x H1 => ∃ d : Nat, x = .int (d : Int) ∧ d < 128 ∧ Q (.str (SX.S (pad7 d))) H1
theorem pe_fmt7 {X : Cx} {e sp : Expr} {te : TE} {pos : Pos} (he : PE X e te) (hs : PE X sp (tC (.str "07b"))) : PE X (.FormattedValue e (-1) (some sp) pos) (tFmt7 te) := by
  refine ⟨fun pins s σ H Q I h => ?_⟩
  refine wpAny_FormattedValue_spec (thn (he.run pins s σ H _ I h) fun v s1 ⟨x, H1, I1, r1, d, ex, hd, q⟩ => ?_)
  subst ex
  obtain ⟨t, rfl⟩ := r1
  refine thn (hs.run pins s1 σ H1 (fun v H2 => v = .str "07b" ∧ H2 = H1) I1 ⟨rfl, rfl⟩) fun r s2 ⟨y, H2, I2, r2, ey, eH⟩ => ?_
  subst ey
  subst eH
  obtain ⟨t2, rfl⟩ := r2
  exact ⟨_, t2, rfl, KXf.field_int rfl (by decide +kernel) (by decide +kernel) (fun u => meets_7 hd) fun t' k => ⟨.str (SX.S (pad7 d)), H2, I2.tok _, ⟨_, rfl⟩, q⟩⟩
end Kn.Bi
/-! ### int(t, 2) of long texts -/
namespace Kn.Bi
open PySem PySem.Spec PyProof.Rows L2 PySem.NumText PySem.Calls
theorem wp_textL {M : Model} {A : Around} {E : Value → Shared → Prop} {s : Shared} {Q : Value → Shared → Prop} {v : Value} {text : List Nat} {B : Nat} {n : Int}
    (hK : PySem.W.Looks M s.heap (nsGet cStatics "sys.int_max_str_digits") none) (hs : ¬ (text.takeWhile (· != 0)).length ≤ 640)
    (hr : (int_private% "readNumeral") 4300 B (text.takeWhile (· != 0)) = (int_private% "Numeral.value") n)
    (ha : ((text.takeWhile (· != 0)).length == text.length) = true) (h : Q (.int n s.toks) { s with toks := s.toks + 1 }) :
    wpAny M A ((int_private% "intFromText") v text B) Q E s := by
  obtain ⟨hp, g, d, tk, os⟩ := s
  have hm : ∀ {Q : Nat → Shared → Prop} {E : Value → Shared → Prop}, Q 4300 ⟨hp, g, d, tk, os⟩ → wpAny M A Builtin.intMaxStrDigits Q E ⟨hp, g, d, tk, os⟩ := fun q => by
    unfold Builtin.intMaxStrDigits
    exact wpAny_bind (hK.here (wpAny_pure q))
  repeat (any_goals (first
    | assumption
    | (with_reducible refine wpAny_ite_false (decide_eq_false hs) ?_)
    | (with_reducible refine hm ?_)
    | (with_reducible refine wpAny_ite_true (decide_eq_true ha) ?_)
    | wp_step))
  all_goals (try rw [hr])
  all_goals (try dsimp only)
  repeat (any_goals (first
    | assumption
    | (with_reducible refine wpAny_ite_true (decide_eq_true ha) ?_)
    | wp_step))
theorem read_binL {cs : List Nat} (h : ∀ c ∈ cs, IsBin c) (hne : cs ≠ []) : (int_private% "readNumeral") 4300 2 cs = (int_private% "Numeral.value") ((binNum cs : Nat) : Int) := by
  have hx : ∀ c ∈ cs, Hx.IsHex c := fun c hc => (h c hc).hex
  have hr : ∀ c ∈ cs.reverse, Hx.IsHex c := fun c hc => hx c (List.mem_reverse.mp hc)
  refine (readNumeral_eq 4300 2 cs).trans ?_
  rw [Hx.dropB hx, Hx.signH hx]
  show judge 4300 false (based 2 cs).1 (based 2 cs).2.1 (digits? (based 2 cs).1 (((based 2 cs).2.2.reverse.dropWhile blank).reverse)) = _
  rw [based_bin h]
  show judge 4300 false 2 false (digits? 2 ((cs.reverse.dropWhile blank).reverse)) = _
  rw [Hx.dropB hr, List.reverse_reverse, digits_bin h hne]
  show (int_private% "Numeral.value") (((cs.foldl (fun acc c => acc.push (Hx.hv c)) (#[] : Array Nat)).foldl (fun acc d => acc * 2 + d) 0 : Nat) : Int) = _
  have z : (#[] : Array Nat).foldl (fun acc d => acc * 2 + d) 0 = 0 := by first | rfl | simp
  rw [push_bin, z] <;> rfl
def NoDig (h : Heap) : Prop := ∀ M : Model, PySem.W.Looks M h (nsGet cStatics "sys.int_max_str_digits") none
theorem meets_binL {x : PySem.Str} {u t : Tok} (hl : ¬ x.length ≤ 640) (h : ∀ c ∈ x.cps.toList, IsBin c) (hne : x.cps.toList ≠ []) :
    Meets (Builtin.«int.__new__» ⟨[.type "int", .str x u, .int 2 t], []⟩) (fun _ R s => NoDig s.heap ∧ R (.ok (.ret (.int ((binNum x.cps.toList : Nat) : Int) s.toks))) { s with toks := s.toks + 1 }) :=
  .of_wp fun prog w A R s ⟨hd, hQ⟩ => by
    obtain ⟨hp, g, d, tk, os⟩ := s
    have f1 := F.conv_sub_int
    have f2 := F.madeHere_int
    have f6 : typeOf (.str x u) = pure (.type "str") := rfl
    obtain ⟨e1, e2⟩ := Hx.seen_hex fun c hc => (h c hc).hex
    have hs : ¬ (numSeenOf x).length ≤ 640 := by
      rw [e2, Array.length_toList]
      exact hl
    have hr : (int_private% "readNumeral") 4300 2 (numSeenOf x) = (int_private% "Numeral.value") ((binNum x.cps.toList : Nat) : Int) := by
      rw [e2]
      exact read_binL h hne
    have ha : ((numSeenOf x).length == (numTextOf x).length) = true := by
      rw [e1, e2]
      exact beq_self_eq_true _
    have hk := Hx.Hid.mk (And.intro (hd (model prog w)) (And.intro hs (And.intro hr ha)))
    clear hs hr ha e1 e2 hl hne h
    repeat (any_goals (first
      | assumption
      | ((with_reducible show wpAny _ _ ((int_private% "intFromText") _ _ _) _ _ _); refine wp_textL hk.out.1 hk.out.2.1 hk.out.2.2.1 hk.out.2.2.2 ?_)
      | wp_step))
    all_goals first | exact ⟨_, rfl, hQ⟩ | skip
/-- int(t, 2) of any text -/
def rIntBinL : List V → Hp → VK → Prop := fun xs H Q => ∃ l : List Nat, xs = [.str (SX.S l), .int 2] ∧ l ≠ [] ∧ (∀ c ∈ l, IsBin c) ∧ Q (.int ((binNum l : Nat) : Int)) H
theorem cr_intBinL {X : Cx} (hd : PySem.W.nsIn X.K cStatics "sys.int_max_str_digits" = some none) : CallR X (.type "int") rIntBinL := by
  intro pins s σ H xs us Q I r h
  obtain ⟨l, rfl, hne, hx, q⟩ := h
  by_cases hl : l.length ≤ 640
  · exact cr_intBin pins s σ H _ us Q I r ⟨l, rfl, hne, hl, hx, q⟩
  · obtain ⟨u, w', rfl, r1, r2⟩ := vals2 r
    obtain ⟨t1, rfl⟩ := r1
    obtain ⟨t2, rfl⟩ := r2
    have nd : NoDig s.heap := fun M => PySem.W.looks_nsIn I.kIn hd
    exact callType_new F.called_int F.newNe_int (Hx.typeCall_int_2 _ _) (Hx.newCall_int_2 _ _) (fun obj => F.initArgs_range_2 obj _ _) F.entry_int_new (meets_binL (x := SX.S l) (by rw [SX.S_len]; exact hl) hx hne)
      ⟨nd, rfl, ⟨.int ((binNum l : Nat) : Int), H, I.tok _, ⟨_, rfl⟩, q⟩⟩
end Kn.Bi

/-! ### text * int -/
namespace Kn
open PySem PySem.Spec PyProof.Rows L2 Evl SX
def rMulS : R2 := fun x y H Q => ∃ (z : List Nat) (n : Nat), x = .str (S z) ∧ y = .int (n : Int) ∧ n ≤ 100000 ∧ z.length ≤ 100 ∧ Q (.str (S (List.replicate n z).flatten)) H
theorem rep_arr (z : List Nat) : ∀ (n : Nat) (a : Array Nat), ((List.replicate n z.toArray).foldl (· ++ ·) a).toList = a.toList ++ (List.replicate n z).flatten
  | 0, a => by simp
  | n + 1, a => by
    rw [List.replicate_succ, List.foldl_cons, rep_arr z n, List.replicate_succ, List.flatten_cons]
    simp
theorem op_mulS {X : Cx} : OpR X (binaryOp .Mult) rMulS := by
  intro pins s σ H x y v u Q I rx ry h
  obtain ⟨z, n, rfl, rfl, hn, hz, q⟩ := h
  obtain ⟨t, rfl⟩ := rx
  obtain ⟨t2, rfl⟩ := ry
  have hb : z.length * n ≤ 100 * 100000 := Nat.mul_le_mul hz hn
  have e : ((n : Int)).toNat = n := by omega
  have hl : decide ((S z).length * ((n : Int)).toNat > sizeLine) = false := by
    rw [e, S_len]
    exact decide_eq_false (Nat.not_lt.mpr (Nat.le_trans hb (by decide)))
  have p63 : (2 ^ 63 : Int) = 9223372036854775808 := by decide
  have g1 : decide ((n : Int) < -(2 ^ 63 : Int)) = false := decide_eq_false (by rw [p63]; omega)
  have g2 : decide ((n : Int) ≥ (2 ^ 63 : Int)) = false := decide_eq_false (by rw [p63]; omega)
  refine PySem.P.mul_str (by rw [g1, g2]; rfl) (fun h1 h2 => ?_) (fun _ _ => hl) ?_
  · rw [S_len]
    have h3 : ((z.length * n : Nat) : Int) ≤ ((10000000 : Nat) : Int) := Int.ofNat_le.mpr hb
    rw [Int.natCast_mul] at h3
    have h4 := (Int.le_ediv_iff_mul_le (show (0 : Int) < n by omega)).mpr (show ((z.length : Int)) * (n : Int) ≤ 2 ^ 63 - 1 by rw [p63]; omega)
    omega
  · have key : ∀ y : Str, y = S (List.replicate n z).flatten → ∀ t' k, EP X pins σ Q (.str y t') { s with toks := k } := fun y ey t' k => by
      subst ey
      exact ⟨.str (S (List.replicate n z).flatten), H, I.tok k, ⟨t', rfl⟩, q⟩
    split
    · next h1 =>
      have : n = 0 := by omega
      subst this
      exact ⟨by decide, key _ rfl _ _⟩
    · next h1 =>
      split
      · next h2 =>
        refine key _ ?_ _ s.toks
        rw [Bool.or_eq_true, beq_iff_eq, beq_iff_eq, S_len] at h2
        rcases h2 with h2 | h2
        · have : n = 1 := by omega
          subst this
          simp
        · have : z = [] := List.eq_nil_of_length_eq_zero h2
          subst this
          simp
      · rw [e]
        have ez : (⟨(List.replicate n (S z).cps).foldl (· ++ ·) #[]⟩ : Str) = S (List.replicate n z).flatten := by
          refine TL.ext_tl ?_
          show ((List.replicate n z.toArray).foldl (· ++ ·) #[]).toList = (List.replicate n z).flatten
          rw [rep_arr z n #[]]
          rfl
        refine ⟨?_, key _ ez _ _⟩
        rw [ez, S_len]
        simp
        exact Nat.le_trans (by rw [Nat.mul_comm]; exact hb) (by decide)
end Kn
/-! ### several except clauses, each with the same name -/
namespace Kn
open PySem PySem.Spec PyProof.Rows L2
def wManyAs (K : PySem.W.Frag) (i : Nat) (Wout : WX) (D : Ends) : List (Value × (Addr → Value → Option Addr → TS)) → WX
  | [] => Wout
  | (c, ts) :: r => fun cls d σ H => ∃ b, PySem.W.exmOne K cls c = some b ∧
      (b = true → ∀ a, H a = none → ts a cls d { nx := fun σ' H' => D.nx (σ'.set i none) H', rt := D.rt, bk := fun σ' H' => D.bk (σ'.set i none) H', ct := fun σ' H' => D.ct (σ'.set i none) H' } (σ.set i (some (.ref a))) H) ∧
      (b = false → wManyAs K i Wout D r cls d σ H)
inductive HdsAs (X : Cx) (n : Str) : List ExceptHandler → List (Value × (Addr → Value → Option Addr → TS)) → Prop
  | nil : HdsAs X n [] []
  | cons {x : Str} {c : Value} {ts : Addr → Value → Option Addr → TS} {b₀ : Stmt} {suite : List Stmt} {np pos' : Pos} {hds : List ExceptHandler} {l : List (Value × (Addr → Value → Option Addr → TS))} (hc : Names X x c)
      (hsu : ∀ (a : Addr) (oe : Obj) (cls : Value) (d : Option Addr) (pn : List (Addr × Obj)), Zc cls d oe → (∃ vs, oe.data = .fields vs) → PSs (X.suite a ((a, oe) :: pn)) (b₀ :: suite) (ts a cls d)) (r : HdsAs X n hds l) :
      HdsAs X n (.ExceptHandler (some (.Name x np)) (some n) (b₀ :: suite) pos' :: hds) ((c, ts) :: l)
section
variable {X : Cx} {body : List Stmt} {h₀ : ExceptHandler} {hds : List ExceptHandler} {l : List (Value × (Addr → Value → Option Addr → TS))} {pos : Pos} {tb : WX → TS} {Wout : WX} {n : Str} {i : Nat}
end
/-! ### defs and methods that may raise, called by name; the wish stands at the caller's slots -/
structure ClX (P : Program) (w : World) (K : PySem.W.Frag) (mg : Str → Option Value) (base : Heap) (k : Nat) (x : Str) (sp : Sp) : Prop where
  ex : ∃ (f : Addr) (fd : FuncData) (ps : List Str), FnOk P w K mg base (L2.CX P w) k f fd ps sp ∧ mg x = some (.ref f) ∧ PySem.W.keepIn K (.ref f) = true ∧ Binds K fd ps []
structure MtX (P : Program) (w : World) (K : PySem.W.Frag) (mg : Str → Option Value) (base : Heap) (k : Nat) (C : Addr) (m : Str) (sp : Sp) : Prop where
  ex : ∃ (f : Addr) (fd : FuncData) (ps : List Str), Cls K C ∧ Meth K C m f ∧ FnOk P w K mg base (L2.CX P w) k f fd ps sp ∧ Binds K fd ps []
/-- an own exception class of the program that is made by its own __init__ -/
structure Xk (P : Program) (w : World) (K : PySem.W.Frag) (mg : Str → Option Value) (base : Heap) (k : Nat) (x : Str) (C : Addr) (sp : Sp) : Prop where
  oe : OexC K C
  ex : ∃ (f : Addr) (fd : FuncData) (ps : List Str), PySem.W.findIn K (.ref C) "__init__" = some (some (.ref f)) ∧ PySem.W.typeIn K (.ref f) = some (.type "function") ∧ FnOk P w K mg base CX0 k f fd ps sp ∧ Binds K fd ps [] ∧ mg x = some (.ref C)
section
variable {P : Program} {w : World} {K : PySem.W.Frag} {mg : Str → Option Value} {base : Heap}
theorem clX_of {k : Nat} {x : Str} {sp : Sp} {st : Stmt} {f : Addr} {fd : FuncData} {ps : List Str} (ok : FnOk P w K mg base (L2.CX P w) k f fd ps sp) (F : Fun K x x st f fd) (g : mg x = some (.ref f)) (b : Binds K fd ps []) : ClX P w K mg base k x sp := ⟨f, fd, ps, ok, g, F.kp, b⟩
end
def tMethX (C : Addr) (m : Str) (sp : Sp) (E : L2.St → XK) (ta : TE) (t : TA) : TE := fun σ H Q => ta σ H fun x H1 => ∃ a dx fs, x = .ref a ∧ H1 a = some (.ins C dx fs) ∧ fs.lookup m = none ∧ t σ H1 fun vs H2 => sp (.ref a :: vs) H2 Q (E σ)
section
variable {X : Cx} {W : WX} {k j : Nat} {x m : Str} {sp : Sp} {p pos apos : Pos} {e o : Expr} {es : List Expr} {ta : TE} {t : TA} {C : Addr}
theorem pe_clX (c : ClX X.prog X.w X.K X.mg X.base k x sp) (hr : Room j X.A) (hk : k ≤ j) (hg : Gl X x) (tk : Takes X W) (ha : PA X (e :: es) t)
    (hdb : (x == ("__debug__" : Str)) = false := by decide) (he : starEach (e :: es) X.env = (false, eval e X.env) :: starEach es X.env := by rfl) (hpl : (backTo pos (starEach es X.env)).any (·.1) = false := by rfl) :
    PE X (.Call (.Name x p) (e :: es) [] pos) (tCallS sp (WE W) t) := by
  obtain ⟨f, fd, ps, F, hm, kp, b⟩ := c.ex
  exact pe_callS F (hr.mono hk) hg hm kp b (fun σ => passAt tk σ) ha hdb he hpl
theorem pe_mtX {pl : Sem Bool} (c : MtX X.prog X.w X.K X.mg X.base k C m sp) (hr : Room j X.A) (hk : k ≤ j) (tk : Takes X W) (he : PE X o ta) (ha : PA X (e :: es) t)
    (hst : starEach (e :: es) X.env = (false, eval e X.env) :: starEach es X.env := by rfl) (hpl : (backTo pos (starEach es X.env)).any (·.1) = false := by rfl)
    (ht : eval (.Call (.Attribute o m apos) (e :: es) [] pos) X.env = (do
      let ov ← eval o X.env
      standAt apos.atName
      let (f, first) ← holding [ov] (getMethod ov m pl)
      callWith pos f first (backTo pos (starEach (e :: es) X.env)) (backToKw pos (keywordEach [] X.env))) := by rfl) :
    PE X (.Call (.Attribute o m apos) (e :: es) [] pos) (tMethX C m sp (WE W) ta t) := by
  obtain ⟨f, fd, ps, hc, hm, F, b⟩ := c.ex
  refine ⟨fun pins s σ H Q I h => ?_⟩
  refine PySem.W.methodCall_KW (pl := pl) (thn (he.run pins s σ H _ I h) fun u s1 ⟨x, H1, I1, rx, a, dx, fs, ex, ea, l, q⟩ => ?_) ht
  subst ex
  obtain rfl : u = Value.ref a := rx
  refine getmeth_ok I1 ea hc hm l ?_
  refine PySem.W.callWith_K (first := [.ref a]) (h₀ := X.base) I.ok.mod.kin hm.kp (thn (ha.run pos pins s1 σ H1 _ I1 q) fun us s2 ⟨vs, H2, I2, r, q2⟩ => ⟨I2.kIn, ?_⟩) hst hpl
  exact run_fnS (us := .ref a :: us) (vs := .ref a :: vs) F (hr.mono hk) b (passAt tk σ) I2 (.cons rfl r) q2
/-- raise C(e, ..) -/
theorem ps_xk (c : Xk X.prog X.w X.K X.mg X.base k x C sp) (hr : Room j X.A) (hk : k + 1 ≤ j) (hc : X.calm = true) (tk : Takes X W) (hg : Gl X x) (ha : PA X (e :: es) t)
    (hdb : (x == ("__debug__" : Str)) = false := by decide) (he : starEach (e :: es) X.env = (false, eval e X.env) :: starEach es X.env := by rfl) (hpl : (backTo pos (starEach es X.env)).any (·.1) = false := by rfl) :
    PS X (.Raise (some (.Call (.Name x p) (e :: es) [] pos)) none apos) (fun _ σ H => tMkO C sp [] t σ H (fun cls d H' => W cls d σ H')) := by
  obtain ⟨fI, fd, ps, iC, tI, F, b, gC⟩ := c.ex
  exact ps_raise hc tk (pmk_oex c.oe iC tI F (hr.mono hk) b .nil pass0 hg gC ha hdb he hpl)
end
end Kn
/-! ### own exceptions: facts, f-strings, __init__ with one field and with four, raising -/
namespace Kn
open PySem PySem.Spec PyProof.Rows L2 Evl SX
section
variable {K : PySem.W.Frag}
theorem kit_ref {C B : Addr} {b : Bool} (hd : PySem.W.hasDictIn K B = true) (ht : PySem.W.typeIn K (.ref B) = some (.type "type")) (hs : PySem.W.subIn K (.ref C) (.ref B) = some b) (hcc : PySem.W.subIn K (.ref C) (.ref C) = some true) : PySem.W.kitOne K (.ref C) (.ref B) = some b := by
  unfold PySem.W.kitOne
  by_cases h : C = B
  · subst h
    rw [if_pos (beq_self_eq_true _)]
    exact hcc.symm.trans hs
  · rw [if_neg (fun z => h (Value.ref.inj (beq_iff_eq.mp z)))]
    obtain ⟨cd, hc, _⟩ := PySem.W.any_some hd
    show (if ((PySem.W.clsIn K B).isSome && PySem.W.typeIn K (.ref B) == some (.type "type")) = true then PySem.W.subIn K (.ref C) (.ref B) else none) = some b
    rw [if_pos (by rw [hc, ht]; rfl)]
    exact hs
structure Xc (K : PySem.W.Frag) (C B : Addr) : Prop where
  oe : OexC K C
  xc : ExcC K C
  xf : XfC K C
  me : PySem.W.exmOne K (.ref C) (.ref C) = some true
  kB : PySem.W.kitOne K (.ref C) (.ref B) = some true
end
section
variable {K : PySem.W.Frag} {σ : L2.St} {H H' H1 : Hp} {te t1 t2 t3 t4 : TE}
theorem ev_fmtS {l : List Nat} (h : Ev te σ H (.str (S l))) (hl : l.length ≤ 100000) : Ev (tFmt te) σ H (.str (S l)) := fun H1 e Q q => h H1 e _ fun H2 e2 => .inl ⟨S l, rfl, by rw [S_len]; exact sz_of hl, q H2 e2⟩
theorem ev_fmtI {n : Nat} (h : Ev te σ H (.int (n : Int))) (hn : n < 10 ^ 9) : Ev (tFmt te) σ H (.str (S (TL.numL n))) := fun H1 e Q q => h H1 e _ fun H2 e2 => .inr ⟨(n : Int), rfl, by
  rw [Int.natAbs_natCast]
  have : n.log2 < 100 := by
    by_cases h0 : n = 0
    · subst h0
      decide
    · exact (Nat.log2_lt h0).mpr (Nat.lt_trans hn (by decide))
  omega, by
  have z := num_S n
  rw [← z] at q
  exact q H2 e2⟩
theorem js_run : ∀ {ts : List TE} {ls : List (List Nat)}, Paired (fun t l => Ev t σ H (.str (S l))) ts ls → ∀ (acc : List Nat) (H1 : Hp), Ex H H1 → acc.length + (ls.map (·.length)).sum ≤ 100000 → ∀ Q : Str → Hp → Prop, (∀ H2, Ex H1 H2 → Q (S (acc ++ ls.flatten)) H2) → tJs ts (S acc) σ H1 Q
  | [], [], .nil, acc, H1, e, _, Q, q => by
    rw [List.flatten_nil, List.append_nil] at q
    exact q H1 (Ex.refl H1)
  | t :: ts, l :: ls, .cons h r, acc, H1, e, hz, Q, q => h H1 e _ fun H2 e2 => by
    rw [List.map_cons, List.sum_cons] at hz
    refine ⟨S l, rfl, ?_, ?_⟩
    · rw [S_cat, S_len, List.length_append]
      exact sz_of (by omega)
    · rw [S_cat]
      refine js_run r (acc ++ l) H2 (e.trans e2) (by rw [List.length_append]; omega) Q fun H3 e3 => ?_
      rw [List.append_assoc, ← List.flatten_cons]
      exact q H3 (e2.trans e3)
theorem ev_js {ts : List TE} {ls : List (List Nat)} (h : Paired (fun t l => Ev t σ H (.str (S l))) ts ls) (hz : (ls.map (·.length)).sum ≤ 100000) : Ev (fun σ H Q => tJs ts Str.empty σ H fun out H1 => Q (.str out) H1) σ H (.str (S ls.flatten)) := fun H1 e Q q => by
  have z : Str.empty = S [] := rfl
  show tJs ts Str.empty σ H1 _
  rw [z]
  exact js_run h [] H1 e (by rw [List.length_nil]; omega) _ fun H2 e2 => q H2 e2
/-- Base.__init__(self, text) -/
theorem q_beinit {D : Ends} {tz : TS} {a C : Addr} {ta tb : TE} {l : List Nat} (ha : Ev ta σ H (.ref a)) (hb : Ev tb σ H (.str (S l))) (oe : OexC K C) (ho : H a = some (exo a C none)) (k : ∀ H1, Ex H H1 → tz D σ H1) : tSeq (tDrop (tVeI K (tCons ta (tCons tb tNil)))) tz D σ H :=
  ha H (Ex.refl H) _ fun H1 e1 => hb H1 e1 _ fun H2 e2 => ⟨a, C, [.str (S l)], rfl, (by show 1 ≤ 1000; decide), oe, e2 _ _ (e1 _ _ ho), k H2 (e1.trans e2)⟩
/-- an exception's new dict at dx: the fields -/
def XMade (H H' : Hp) (a C dx : Addr) (fs : List (Str × V)) : Prop := H' a = some (exo a C (some dx)) ∧ H' dx = some (exd dx fs) ∧ ∀ b o, b ≠ a → b ≠ dx → H b = some o → H' b = some o
def sp_I1 (f : Str) (K : PySem.W.Frag) : Sp := fun vs H Q _ => ∃ (a C : Addr) (l : List Nat), vs = [.ref a, .str (S l)] ∧ l.length ≤ 90000 ∧ H a = some (exo a C none) ∧ OexC K C ∧ PySem.W.findIn K (.ref C) f = some none ∧
  ∀ dx H', H dx = none → dx ≠ a → XMade H H' a C dx [(f, .str (S l))] → Q .non H'
theorem xmade_new {a C dx : Addr} {f : Str} {v : V} (e : Ex H H1) (ne : dx ≠ a) : XMade H (upd (upd H1 dx (exd dx [(f, v)])) a (exo a C (some dx))) a C dx [(f, v)] :=
  ⟨upd_same, by rw [upd_ne ne, upd_same], fun b o h1 h2 h => by rw [upd_ne h1, upd_ne h2]; exact e _ _ h⟩
theorem XMade.more {a C dx : Addr} {fs : List (Str × V)} {f : Str} {v : V} (m : XMade H H1 a C dx fs) (ne : dx ≠ a) (e : Ex H1 H') : XMade H (upd H' dx (exd dx ((f, v) :: fs))) a C dx ((f, v) :: fs) :=
  ⟨by rw [upd_ne (Ne.symm ne)]; exact e _ _ m.1, upd_same, fun b o h1 h2 h => by rw [upd_ne h2]; exact e _ _ (m.2.2 b o h1 h2 h)⟩
theorem xm_raise {W : WX} {a C dx : Addr} {fs : List (Str × V)} {H2 : Hp} (e2 : Ex H H2) (na : H2 a = none) (nd : H2 dx = none) (m : XMade (upd H2 a (exo a C none)) H' a C dx fs) (hk : ∀ d H', Ex H H' → H' d = some (.xd fs) → W (.ref C) (some d) σ H') : W (.ref C) (some dx) σ (upd (del H' a) dx (.xd fs)) := by
  refine hk dx _ (fun b o hb => ?_) upd_same
  have hb2 := e2 _ _ hb
  have n1 := ne_of_none hb2 nd
  have n2 := ne_of_none hb2 na
  rw [upd_ne n1, del_ne n2]
  exact m.2.2 b o n2 n1 (by rw [upd_ne n2]; exact hb2)
theorem raise1 {W : WX} {C : Addr} {f : Str} {l : List Nat} (oe : OexC K C) (nf : PySem.W.findIn K (.ref C) f = some none) (hl : l.length ≤ 90000) (hv : Ev te σ H (.str (S l)))
    (hk : ∀ d H', Ex H H' → H' d = some (.xd [(f, .str (S l))]) → W (.ref C) (some d) σ H') : tMkO C (sp_I1 f K) [] (tCons te tNil) σ H (fun cls d H' => W cls d σ H') :=
  hv H (Ex.refl _) _ fun H2 e2 => ⟨(by show 1 ≤ 1000; decide), fun a na => ⟨a, C, l, rfl, hl, upd_same, oe, nf, fun dx H' hdx ne m =>
    ⟨rfl, dx, _, m.1, m.2.1, upd_none hdx, xm_raise e2 na (upd_none hdx) m hk⟩⟩⟩
theorem init1_body {D : Ends} {f : Str} {a C : Addr} {l m : List Nat} {tj : TE} (hj : Ev tj [some (.ref a), some (.str (S l))] H (.str (S m))) (ha : H a = some (exo a C none)) (oe : OexC K C) (nf : PySem.W.findIn K (.ref C) f = some none)
    (q : ∀ dx H', H dx = none → dx ≠ a → XMade H H' a C dx [(f, .str (S l))] → D.nx [some (.ref a), some (.str (S l))] H') : tSeq (tDrop (tVeI K (tCons (tVar 0) (tCons tj tNil)))) (tOst K f (tVar 0) (tVar 1)) D [some (.ref a), some (.str (S l))] H := by
  refine q_beinit (ev_var rfl) hj oe ha fun H1 e1 => ?_
  exact ⟨_, rfl, _, rfl, a, C, rfl, oe, nf, .inl ⟨e1 _ _ ha, fun dx hd ne => q dx _ (fresh_back e1 hd) ne (xmade_new e1 ne)⟩⟩
/-- path, line, column, reason -/
def fs4 (p : List Nat) (n c : Nat) (r : List Nat) : List (Str × V) := [("reason", .str (S r)), ("column", .int (c : Int)), ("line", .int (n : Int)), ("path", .str (S p))]
structure Nf4 (K : PySem.W.Frag) (C : Addr) : Prop where
  p : PySem.W.findIn K (.ref C) "path" = some none
  l : PySem.W.findIn K (.ref C) "line" = some none
  c : PySem.W.findIn K (.ref C) "column" = some none
  r : PySem.W.findIn K (.ref C) "reason" = some none
def Sm4 (p : List Nat) (n c : Nat) (r : List Nat) : Prop := p.length ≤ 9000 ∧ r.length ≤ 9000 ∧ n < 10 ^ 9 ∧ c < 10 ^ 9
def sp_I4 (K : PySem.W.Frag) : Sp := fun vs H Q _ => ∃ (a C : Addr) (p : List Nat) (n c : Nat) (r : List Nat), vs = [.ref a, .str (S p), .int (n : Int), .int (c : Int), .str (S r)] ∧ Sm4 p n c r ∧ H a = some (exo a C none) ∧ OexC K C ∧ Nf4 K C ∧
  ∀ dx H', H dx = none → dx ≠ a → XMade H H' a C dx (fs4 p n c r) → Q .non H'
theorem raise4 {W : WX} {C : Addr} {p r : List Nat} {n c : Nat} (oe : OexC K C) (nf : Nf4 K C) (hl : Sm4 p n c r) (h1 : Ev t1 σ H (.str (S p))) (h2 : Ev t2 σ H (.int (n : Int))) (h3 : Ev t3 σ H (.int (c : Int))) (h4 : Ev t4 σ H (.str (S r)))
    (hk : ∀ d H', Ex H H' → H' d = some (.xd (fs4 p n c r)) → W (.ref C) (some d) σ H') : tMkO C (sp_I4 K) [] (tCons t1 (tCons t2 (tCons t3 (tCons t4 tNil)))) σ H (fun cls d H' => W cls d σ H') :=
  ea_cons h1 (ea_cons h2 (ea_cons h3 (ea_cons h4 ea_nil))) H (Ex.refl _) _ fun H2 e2 => ⟨(by show 4 ≤ 1000; decide), fun a na => ⟨a, C, p, n, c, r, rfl, hl, upd_same, oe, nf, fun dx H' hdx ne m =>
    ⟨rfl, dx, _, m.1, m.2.1, upd_none hdx, xm_raise e2 na (upd_none hdx) m hk⟩⟩⟩
theorem init4_body {D : Ends} {a C : Addr} {p r m : List Nat} {n c : Nat} {tj : TE} {σ0 : L2.St} (hσ : σ0 = [some (.ref a), some (.str (S p)), some (.int (n : Int)), some (.int (c : Int)), some (.str (S r))]) (hj : Ev tj σ0 H (.str (S m))) (ha : H a = some (exo a C none)) (oe : OexC K C) (nf : Nf4 K C)
    (q : ∀ dx H', H dx = none → dx ≠ a → XMade H H' a C dx (fs4 p n c r) → D.nx σ0 H') : tSeq (tDrop (tVeI K (tCons (tVar 0) (tCons tj tNil)))) (tSeq (tOst K "path" (tVar 0) (tVar 1)) (tSeq (tOst K "line" (tVar 0) (tVar 2)) (tSeq (tOst K "column" (tVar 0) (tVar 3)) (tOst K "reason" (tVar 0) (tVar 4))))) D σ0 H := by
  subst hσ
  refine q_beinit (ev_var rfl) hj oe ha fun H1 e1 => ?_
  refine ⟨_, rfl, _, rfl, a, C, rfl, oe, nf.p, .inl ⟨e1 _ _ ha, fun dx hd ne => ?_⟩⟩
  have m1 := xmade_new (C := C) (f := "path") (v := .str (S p)) e1 ne
  refine ⟨_, rfl, _, rfl, a, C, rfl, oe, nf.l, .inr ⟨dx, _, m1.1, m1.2.1, (by show 1 ≤ 900; decide), ?_⟩⟩
  have m2 := m1.more (f := "line") (v := .int (n : Int)) ne (Ex.refl _)
  refine ⟨_, rfl, _, rfl, a, C, rfl, oe, nf.c, .inr ⟨dx, _, m2.1, m2.2.1, (by show 2 ≤ 900; decide), ?_⟩⟩
  have m3 := m2.more (f := "column") (v := .int (c : Int)) ne (Ex.refl _)
  refine ⟨_, rfl, _, rfl, a, C, rfl, oe, nf.r, .inr ⟨dx, _, m3.1, m3.2.1, (by show 3 ≤ 900; decide), ?_⟩⟩
  exact q dx _ (fresh_back e1 hd) ne (m3.more ne (Ex.refl _))
end
end Kn
/-! ### data at any depth, all of it tracked -/
namespace Kn
open PySem PySem.Spec PyProof.Rows L2 Evl SX
mutual
inductive Dt (H : Hp) : V → PyData → Prop
  | non : Dt H .non .none
  | bl (b : Bool) : Dt H (.bl b) (.bool b)
  | int (i : Int) : Dt H (.int i) (.int i)
  | str (x : Str) : Dt H (.str x) (.str x)
  | lst {a : Addr} {xs : List V} {ds : List PyData} : H a = some (.lst xs) → DtA H xs ds → Dt H (.ref a) (.list ds)
  | tup {a : Addr} {xs : List V} {ds : List PyData} : H a = some (.tup xs) → DtA H xs ds → Dt H (.ref a) (.tuple ds)
inductive DtA (H : Hp) : List V → List PyData → Prop
  | nil : DtA H [] []
  | cons {v : V} {vs : List V} {d : PyData} {ds : List PyData} : Dt H v d → DtA H vs ds → DtA H (v :: vs) (d :: ds)
end
mutual
theorem Dt.mono {H H1 : Hp} (e : Ex H H1) : ∀ {v : V} {d : PyData}, Dt H v d → Dt H1 v d
  | _, _, .non => .non
  | _, _, .bl b => .bl b
  | _, _, .int i => .int i
  | _, _, .str x => .str x
  | _, _, .lst h r => .lst (e _ _ h) (DtA.mono e r)
  | _, _, .tup h r => .tup (e _ _ h) (DtA.mono e r)
theorem DtA.mono {H H1 : Hp} (e : Ex H H1) : ∀ {vs : List V} {ds : List PyData}, DtA H vs ds → DtA H1 vs ds
  | _, _, .nil => .nil
  | _, _, .cons h r => .cons (Dt.mono e h) (DtA.mono e r)
end
mutual
theorem Dt.dp {K : PySem.W.Frag} {H : Hp} : ∀ {v : V} {d : PyData}, Dt H v d → Dp K H v d
  | _, _, .non => .non
  | _, _, .bl b => .bl b
  | _, _, .int i => .int i
  | _, _, .str x => .str x
  | _, _, .lst h r => .lst (sq_of h) (DtA.dp r)
  | _, _, .tup h r => .tup (st_of h) (DtA.dp r)
theorem DtA.dp {K : PySem.W.Frag} {H : Hp} : ∀ {vs : List V} {ds : List PyData}, DtA H vs ds → DpAll K H vs ds
  | _, _, .nil => .nil
  | _, _, .cons h r => .cons (Dt.dp h) (DtA.dp r)
end
mutual
/-- no list in it -/
def noL : PyData → Bool
  | .list _ => false
  | .dict _ => false
  | .tuple ds => noLA ds
  | .none => true
  | .bool _ => true
  | .int _ => true
  | .str _ => true
def noLA : List PyData → Bool
  | [] => true
  | d :: ds => noL d && noLA ds
end
mutual
/-- what has no list in it does not see that a list changes -/
theorem Dt.upd {H : Hp} {p : Addr} {o o' : HO} (hp : H p = some o) (ho : ∀ xs, o ≠ .tup xs) : ∀ {v : V} {d : PyData}, Dt H v d → noL d = true → Dt (L2.upd H p o') v d
  | _, _, .non, _ => .non
  | _, _, .bl b, _ => .bl b
  | _, _, .int i, _ => .int i
  | _, _, .str x, _ => .str x
  | _, _, .lst _ _, h => by
    unfold noL at h
    cases h
  | _, _, .tup h r, n => by
    unfold noL at n
    exact .tup (by rw [upd_ne (ne_of h hp fun z => ho _ z.symm)]; exact h) (DtA.upd hp ho r n)
theorem DtA.upd {H : Hp} {p : Addr} {o o' : HO} (hp : H p = some o) (ho : ∀ xs, o ≠ .tup xs) : ∀ {vs : List V} {ds : List PyData}, DtA H vs ds → noLA ds = true → DtA (L2.upd H p o') vs ds
  | _, _, .nil, _ => .nil
  | _, _, .cons h r, n => by
    unfold noLA at n
    rw [Bool.and_eq_true] at n
    exact .cons (Dt.upd hp ho h n.1) (DtA.upd hp ho r n.2)
end
theorem DtA.len {H : Hp} : ∀ {vs : List V} {ds : List PyData}, DtA H vs ds → vs.length = ds.length
  | _, _, .nil => rfl
  | _, _, .cons _ r => by rw [List.length_cons, List.length_cons, DtA.len r]
theorem DtA.snoc {H : Hp} {v : V} {d : PyData} (h : Dt H v d) : ∀ {vs : List V} {ds : List PyData}, DtA H vs ds → DtA H (vs ++ [v]) (ds ++ [d])
  | _, _, .nil => .cons h .nil
  | _, _, .cons a r => .cons a (DtA.snoc h r)
theorem DtA.get {H : Hp} : ∀ {vs : List V} {ds : List PyData}, DtA H vs ds → ∀ (i : Nat) (d : PyData), ds[i]? = some d → ∃ v, vs[i]? = some v ∧ Dt H v d
  | _, _, .cons (v := v) h r, 0, d', e => by
    cases Option.some.inj e
    exact ⟨v, rfl, h⟩
  | _, _, .cons h r, i + 1, d', e => by
    obtain ⟨v, e1, h1⟩ := DtA.get r i d' (by simpa using e)
    exact ⟨v, by simpa using e1, h1⟩
  | _, _, .nil, _, _, e => by simp at e
theorem DtA.drop {H : Hp} : ∀ {vs : List V} {ds : List PyData} (n : Nat), DtA H vs ds → DtA H (vs.drop n) (ds.drop n)
  | _, _, 0, h => h
  | _, _, n + 1, .nil => .nil
  | _, _, n + 1, .cons _ r => DtA.drop n r
theorem Dt.tup_inv {H : Hp} {v : V} {ds : List PyData} (h : Dt H v (.tuple ds)) : ∃ a xs, v = .ref a ∧ H a = some (.tup xs) ∧ DtA H xs ds := by
  cases h with
  | tup h r => exact ⟨_, _, rfl, h, r⟩
theorem Dt.str_inv {H : Hp} {v : V} {x : Str} (h : Dt H v (.str x)) : v = .str x := by cases h; rfl
theorem Dt.int_inv {H : Hp} {v : V} {x : Int} (h : Dt H v (.int x)) : v = .int x := by cases h; rfl
def EvD (te : TE) (σ : L2.St) (H : Hp) (d : PyData) : Prop := ∀ H1, Ex H H1 → ∀ Q : VK, (∀ v H2, Ex H1 H2 → Dt H2 v d → Q v H2) → te σ H1 Q
def EvDA (ta : TA) (σ : L2.St) (H : Hp) (ds : List PyData) : Prop := ∀ H1, Ex H H1 → ∀ Q : List V → Hp → Prop, (∀ vs H2, Ex H1 H2 → DtA H2 vs ds → Q vs H2) → ta σ H1 Q
def RtD (H : Hp) (d : PyData) (Q : VK) : Prop := ∀ v H1, Ex H H1 → Dt H1 v d → Q v H1
theorem RtD.mono {H H1 : Hp} {d : PyData} {Q : VK} (q : RtD H d Q) (e : Ex H H1) : RtD H1 d Q := fun v H2 e2 h => q v H2 (e.trans e2) h
section
variable {K : PySem.W.Frag} {σ : L2.St} {H H' : Hp} {ta tb te : TE} {t u : TT} {x y z v : V} {d e' : PyData} {tas tr : TA} {D : Ends} {tz tu : TS} {ds : List PyData}
theorem evd_of (h : Ev te σ H v) (hd : Dt H v d) : EvD te σ H d := fun H1 e Q q => h H1 e _ fun H2 e2 => q v H2 e2 (hd.mono (e.trans e2))
theorem EvD.mono (e : Ex H H') (h : EvD te σ H d) : EvD te σ H' d := fun H1 a Q q => h H1 (e.trans a) Q q
theorem evd_str {l : List Nat} (h : Ev te σ H (.str (S l))) : EvD te σ H (.str (S l)) := evd_of h (.str _)
theorem evd_int {i : Int} (h : Ev te σ H (.int i)) : EvD te σ H (.int i) := evd_of h (.int _)
theorem eda_nil : EvDA tNil σ H [] := fun H1 _ _ q => q [] H1 (Ex.refl H1) .nil
theorem eda_cons (h : EvD te σ H d) (hr : EvDA tr σ H ds) : EvDA (tCons te tr) σ H (d :: ds) := fun H1 e Q q => h H1 e _ fun v H2 e2 hv => hr H2 (e.trans e2) _ fun vs H3 e3 hvs => q _ H3 (e2.trans e3) (.cons (hv.mono e3) hvs)
theorem evd_tup (h : EvDA tas σ H ds) (hl : ds.length ≤ 100000) : EvD (tTup tas) σ H (.tuple ds) := fun H1 e Q q => h H1 e _ fun vs H2 e2 hvs => ⟨by rw [hvs.len]; exact sz_of hl, fun p hp => q _ _ (e2.trans (Ex.new hp)) (.tup upd_same (hvs.mono (Ex.new hp)))⟩
theorem evd_lst (h : EvDA tas σ H ds) (hl : ds.length ≤ 100000) : EvD (tLst tas) σ H (.list ds) := fun H1 e Q q => h H1 e _ fun vs H2 e2 hvs => ⟨by rw [hvs.len]; exact sz_of hl, fun p hp => q _ _ (e2.trans (Ex.new hp)) (.lst upd_same (hvs.mono (Ex.new hp)))⟩
theorem ev_neD (ha : EvD ta σ H d) (hb : EvD tb σ H e') (s1 : SeqAt.shaped d = true) (s2 : SeqAt.shaped e' = true) : Ev (tOp (rNeD K) ta tb) σ H (.bl (!PyData.eqv d e')) := fun H1 e Q q =>
  ha H1 e _ fun v H2 e2 hv => hb H2 (e.trans e2) _ fun w H3 e3 hw => ⟨d, e', (hv.mono e3).dp, hw.dp, s1, s2, q H3 (e2.trans e3)⟩
theorem s_retD (h : EvD te σ H d) (k : RtD H d D.rt) : tRet te D σ H := h H (Ex.refl H) _ fun v H1 e hv => k v H1 e hv
end
/-- strings as data -/
def okS (l : List Nat) : Bool := l.all fun c => decide (c < 1114112)
theorem canS {l : List Nat} (h : okS l = true) : PyData.canLay0 (.str (S l)) = true := by
  unfold PyData.canLay0 PyData.strOk
  rw [show (S l).cps = l.toArray from rfl]
  simpa [okS] using h
end Kn
/-! ### sorted texts -/
namespace Kn
open PySem PySem.Spec PyProof.Rows L2 Evl SX
def leS (a b : Str) : Prop := a.cps.toList ≤ b.cps.toList
theorem rising_pw : ∀ (r : List Str) (x : Str), risingS x r = true → List.Pairwise leS (x :: r)
  | [], x, _ => by simp
  | y :: r, x, h => by
    unfold risingS at h
    rw [Bool.and_eq_true] at h
    have hxy : leS x y := List.not_lt.mp fun z => by
      have h1 := h.1
      rw [PyProof.Rows.ltCps_eq, decide_eq_true z] at h1
      cases h1
    have ih := rising_pw r y h.2
    refine List.pairwise_cons.mpr ⟨fun z hz => ?_, ih⟩
    rcases List.mem_cons.mp hz with e | e
    · rw [e]
      exact hxy
    · exact List.le_trans hxy ((List.pairwise_cons.mp ih).1 z e)
theorem sorted_pw {l : List Str} (h : sortedS l = true) : List.Pairwise leS l := by
  cases l with
  | nil => exact .nil
  | cons x r => exact rising_pw r x h
theorem sorted_uniq {l m : List Str} (h1 : sortedS l = true) (h2 : sortedS m = true) (p : l.Perm m) : l = m :=
  List.Perm.eq_of_pairwise (le := leS) (fun a b _ _ x y => TL.ext_tl (List.le_antisymm x y)) (sorted_pw h1) (sorted_pw h2) p
end Kn
namespace Kn
open PySem PySem.Spec PyProof.Rows L2 Evl SX
section
variable {K : PySem.W.Frag} {σ : L2.St} {H H' : Hp} {ta tb td ty te : TE} {t u : TT} {x y z v : V} {d p : Addr} {kvs : List (Key × V)} {k : List Nat}
/-- text * int -/
theorem rv_mulS {l : List Nat} {n : Nat} (hn : n ≤ 100000) (hl : l.length ≤ 100) : RV rMulS (.str (S l)) (.int (n : Int)) H (.str (S (List.replicate n l).flatten)) := fun H1 _ _ q => ⟨l, n, rfl, rfl, hn, hl, q H1 (Ex.refl H1)⟩
end
end Kn
namespace Kn
open PySem PySem.Spec PyProof.Rows L2 Evl SX
section
variable {K : PySem.W.Frag} {i : Nat} {Wout : WX} {D : Ends} {c cls : Value} {ts : Addr → Value → Option Addr → TS} {l : List (Value × (Addr → Value → Option Addr → TS))} {d : Option Addr} {σ : L2.St} {H : Hp}
theorem as_hit (h : PySem.W.exmOne K cls c = some true) (k : ∀ a, H a = none → ts a cls d { nx := fun σ' H' => D.nx (σ'.set i none) H', rt := D.rt, bk := fun σ' H' => D.bk (σ'.set i none) H', ct := fun σ' H' => D.ct (σ'.set i none) H' } (σ.set i (some (.ref a))) H) :
    wAs K c i ts Wout D cls d σ H := ⟨true, h, (fun _ a na => k a na), (fun z => nomatch z)⟩
end
end Kn
namespace Kn
open PySem PySem.Spec PyProof.Rows L2 Evl SX
end Kn
namespace Kn
open PySem PySem.Spec PyProof.Rows L2 Evl SX
end Kn
/-! ### sorted(d), text keys, any number -/
namespace Kn
open PySem PySem.Spec PyProof.Rows L2 Evl SX
def rSortDA (K : PySem.W.Frag) : List V → Hp → VK → Prop := fun xs H Q => ∃ (a : Addr) (kvs : List (Key × V)) (ks : List Str), xs = [.ref a] ∧ Rd H a (.dK kvs) ∧ kvs.map (·.1) = ks.map Sum.inr ∧ ks.length ≤ 100000 ∧ ∀ ys p, ys.Perm ks → sortedS ys = true → H p = none → Q (.ref p) (L2.upd H p (.lst (ys.map V.str)))
end Kn
namespace Kn
open PySem PySem.Spec PyProof.Rows L2 Evl SX
def rLenD : List V → Hp → VK → Prop := fun xs H Q => ∃ d kvs, xs = [.ref d] ∧ H d = some (.dK kvs) ∧ Q (.int kvs.length) H
end Kn
namespace Kn
open PySem PySem.Spec PyProof.Rows L2 Evl SX
section
variable {K : PySem.W.Frag} {σ : L2.St} {H : Hp} {te : TE}
end
theorem shaped_tup {ds : List PyData} (h : PyData.canLayAll0 ds = true) (hd : PyData.depth (.tuple ds) ≤ 64) : SeqAt.shaped (.tuple ds) = true := by
  show (PyData.canLayAll0 ds && decide (PyData.depth (.tuple ds) ≤ 64)) = true
  rw [h, decide_eq_true hd]
  rfl
theorem can_cons {d : PyData} {ds : List PyData} (h : PyData.canLay0 d = true) (r : PyData.canLayAll0 ds = true) : PyData.canLayAll0 (d :: ds) = true := by
  show (PyData.canLay0 d && PyData.canLayAll0 ds) = true
  rw [h, r]
  rfl
theorem can_nil : PyData.canLayAll0 [] = true := rfl
end Kn
/-! ### a dict of the module with text keys: what it holds at each key -/
namespace Kn
open PySem PySem.Spec PyProof.Rows L2 Evl SX
/-- the entries as they stand: keys and values -/
def wdLook (es : List (Str × V)) (z : Str) : Option V := (es.find? fun e => decide (e.1 = z)).map (·.2)
structure WD (K : PySem.W.Frag) (w : World) (mg : Str → Option Value) (x : Str) (D : Addr) (f : List (Str × V)) : Prop where
  mg : mg x = some (.ref D)
  ex : ∃ es n, KDict K w D es n
  at_ : ∀ z, ∃ r, PySem.W.nsIn K D z = some r ∧ ((wdLook f z = none ∧ r = none) ∨ ∃ v u, wdLook f z = some v ∧ r = some u ∧ RelV v u)
inductive EntsAre : List DictEntry → List (Str × V) → Prop
  | nil : EntsAre [] []
  | cons {e : DictEntry} {es : List DictEntry} {x : Str} {v : V} {f : List (Str × V)} (hk : ∃ t, e.key = .str x t) (hv : RelV v e.val) (r : EntsAre es f) : EntsAre (e :: es) ((x, v) :: f)
theorem EntsAre.find : ∀ {es : List DictEntry} {f : List (Str × V)}, EntsAre es f → ∀ z : Str, ((es.find? (·.key.isStr z)) = none ∧ wdLook f z = none ∧ es.any (·.refKey) = false) ∨ ∃ e v, es.find? (·.key.isStr z) = some e ∧ wdLook f z = some v ∧ RelV v e.val
  | _, _, .nil, z => .inl ⟨rfl, rfl, rfl⟩
  | _, _, .cons (e := e) (es := es) (x := x) (v := v) (f := f) ⟨t, hk⟩ hv r, z => by
    unfold wdLook
    rw [List.find?_cons, List.find?_cons]
    have h1 : e.key.isStr z = decide (x = z) := by
      rw [hk]
      show (x == z) = decide (x = z)
      by_cases h : x = z
      · rw [h, decide_eq_true rfl]
        exact beq_self_eq_true z
      · rw [decide_eq_false h]
        exact beq_eq_false_iff_ne.mpr h
    rw [h1]
    by_cases h : x = z
    · rw [decide_eq_true h]
      exact .inr ⟨e, v, rfl, rfl, hv⟩
    · rw [decide_eq_false h]
      rcases EntsAre.find r z with ⟨a, b, c⟩ | ⟨e2, v2, a, b, c⟩
      · refine .inl ⟨a, b, ?_⟩
        rw [List.any_cons, c, Bool.or_false]
        unfold DictEntry.refKey
        rw [hk]
      · exact .inr ⟨e2, v2, a, b, c⟩
theorem wd_of {K : PySem.W.Frag} {w : World} {mg : Str → Option Value} {x : Str} {D : Addr} {es : Array DictEntry} {n : Nat} {f : List (Str × V)} (g : mg x = some (.ref D)) (h : K.lookup D = some ⟨.type "dict", none, .dict es n, #[]⟩) (low : (D == sysModules) = false) (lit : PySem.W.KeysLit w.params es.toList) (ea : EntsAre es.toList f) : WD K w mg x D f :=
  ⟨g, ⟨es, n, h, lit, low⟩, fun z => by
    unfold PySem.W.nsIn
    rw [h]
    dsimp only
    rcases ea.find z with ⟨a, b, c⟩ | ⟨e, v, a, b, c⟩
    · rw [a, c]
      exact ⟨none, rfl, .inl ⟨b, rfl⟩⟩
    · rw [a]
      exact ⟨some e.val, rfl, .inr ⟨v, _, b, rfl, c⟩⟩⟩
def rWIn (D : Addr) (f : List (Str × V)) : R2 := fun x y H Q => ∃ z : Str, x = .str z ∧ y = .ref D ∧ Q (.bl (wdLook f z).isSome) H
def rWNin (D : Addr) (f : List (Str × V)) : R2 := fun x y H Q => ∃ z : Str, x = .str z ∧ y = .ref D ∧ Q (.bl (!(wdLook f z).isSome)) H
def rIxW (D : Addr) (f : List (Str × V)) : R2 := fun x y H Q => ∃ (z : Str) (v : V), x = .ref D ∧ y = .str z ∧ wdLook f z = some v ∧ Q v H
def tWGet2 (D : Addr) (f : List (Str × V)) (td ty tx : TE) : TE := fun σ H Q => td σ H fun x H1 => x = .ref D ∧ ty σ H1 fun y H2 => tx σ H2 fun d H3 => ∃ z : Str, y = .str z ∧ Q ((wdLook f z).getD d) H3
section
variable {X : Cx} {x : Str} {D : Addr} {f : List (Str × V)} {pos apos cpos : Pos} {o e e2 : Expr} {td ty tx : TE}
theorem pe_wd (W : WD X.K X.w X.mg x D f) (hg : Gl X x) (hd : (x == ("__debug__" : Str)) = false := by decide) : PE X (.Name x pos) (tC (.ref D)) := pe_glob hg W.mg rfl hd
theorem WD.same {K : PySem.W.Frag} {w : World} {mg : Str → Option Value} (W : WD K w mg x D f) (z : Str) : ∃ r, PySem.W.nsIn K D z = some r ∧ r.isSome = (wdLook f z).isSome := by
  obtain ⟨r, h, h2⟩ := W.at_ z
  refine ⟨r, h, ?_⟩
  rcases h2 with ⟨a, b⟩ | ⟨v, u, a, b, _⟩ <;> rw [a, b] <;> rfl
theorem op_notIn_wd (W : WD X.K X.w X.mg x D f) : OpR X (compareOp .NotIn) (rWNin D f) := by
  intro pins s σ H x y v u Q I rx ry h
  obtain ⟨z, rfl, rfl, q⟩ := h
  obtain ⟨es, n, hD⟩ := W.ex
  obtain ⟨r, h1, h2⟩ := W.same z
  exact op_notIn_kd hD pins s σ H _ _ v u Q I rx ry ⟨z, r, rfl, rfl, h1, by rw [h2]; exact q⟩
theorem pe_wget2 (W : WD X.K X.w X.mg x D f) (ho : PE X o td) (he : PE X e ty) (hf : PE X e2 tx) (m : M2 X o "get" apos e e2 cpos) : PE X (.Call (.Attribute o "get" apos) [e, e2] [] cpos) (tWGet2 D f td ty tx) := by
  refine ⟨fun pins s σ H Q I h => ?_⟩
  obtain ⟨es, n, hD⟩ := W.ex
  refine wpAny_Call_method m.base m.few m.line PySem.F.plainAttrs_dict PySem.F.slot_dict_get PySem.F.type_dict_get (thn (ho.run pins s σ H _ I h) fun u s1 ⟨y1, H1, I1, rx, ex, q1⟩ => ?_)
  subst ex
  obtain rfl : u = Value.ref D := rx
  have hk := fun (h : Heap) (k : X.K.In h) => k _ _ hD.at_
  refine ⟨kd_type hD I1, fun b q => ?_, ?_⟩
  · cases q
    exact ⟨_, hk _ I1.kIn, rfl⟩
  rw [m.trees]
  refine Calls.callWith_builtin rfl (Calls.evalArgs_plain (Calls.spliced_cons (thn (he.run pins s1 σ H1 _ I1 q1) fun iv s2 ⟨y, H2, I2, ry, q2⟩ =>
    Calls.spliced_cons (thn (hf.run pins s2 σ H2 _ I2 q2) fun fv s3 ⟨d, H3, I3, rz, z, ey, q3⟩ => Calls.spliced_nil ?_))))
  subst ey
  obtain ⟨t, rfl⟩ := (show ∃ t, iv = Value.str z t from ry)
  obtain ⟨r, h1, h2⟩ := W.at_ z
  have hm' := PySem.W.mapOf_K (prog := X.prog) (w := X.w) I3.kIn hD.at_ hD.lit
  refine call_meetsIn PySem.F.slot_dict_get hm'.typeIs PySem.F.entry_dict_get (PySem.F.args_dict_get_3 _ _ _) (meets_dict_get_default (strKind X.prog X.w) D (PySem.strKind_is X.prog X.w z t) hD.low fv) ⟨_, hm', ?_⟩
  have hf1 := PySem.W.find_K hD.at_ h1
  rw [hf1]
  refine ⟨(wdLook f z).getD d, H3, I3.tok _, ?_, q3⟩
  rcases h2 with ⟨a, b⟩ | ⟨v1, u1, a, b, c⟩
  · rw [a, b]
    exact rz
  · rw [a, b]
    exact c
end
section
variable {σ : L2.St} {H : Hp} {ta tb tc : TE} {D : Addr} {f : List (Str × V)} {l : List Nat} {v : V}
theorem rv_wnin : RV (rWNin D f) (.str (S l)) (.ref D) H (.bl (!(wdLook f (S l)).isSome)) := fun H1 _ _ q => ⟨S l, rfl, rfl, q H1 (Ex.refl H1)⟩
theorem ev_wget2 (ha : Ev ta σ H (.ref D)) (hb : Ev tb σ H (.str (S l))) (hc : Ev tc σ H v) : Ev (tWGet2 D f ta tb tc) σ H ((wdLook f (S l)).getD v) := fun H1 e Q q =>
  ha H1 e _ fun H2 e2 => ⟨rfl, hb H2 (e.trans e2) _ fun H3 e3 => hc H3 ((e.trans e2).trans e3) _ fun H4 e4 => ⟨S l, rfl, q H4 ((e2.trans e3).trans e4)⟩⟩
end
end Kn
namespace Kn
open PySem PySem.Spec PyProof.Rows L2 Evl SX
theorem num_len {n : Nat} (h : n < 10 ^ 9) : (TL.numL n).length ≤ 9 := by
  unfold TL.numL
  rw [List.length_map]
  exact (Nat.length_toDigits_le_iff (by decide) (by decide)).mpr h
theorem cutS_nat (l : List Nat) (a b : Nat) : cutS (S l) (some (a : Int)) (some (b : Int)) = S ((l.drop a).take (b - a)) := by
  unfold cutS
  rw [HT.sIx_nat, HT.sIx_nat]
  exact congrArg S (cut_nat l a b)
/-! ### lstrip, unpacking, raising passed on -/
def rLstripC : V → List V → Hp → VK → Prop := fun x xs H Q => ∃ a b, x = .str a ∧ xs = [.str b] ∧ a.length ≤ sizeLine ∧ Q (.str (Txt.lstripChars a b)) H
theorem mt_lstripC {X : Cx} : MtR X "str.lstrip" rLstripC := mt_lstripChars
theorem drop_tw (p : Nat → Bool) : ∀ l : List Nat, l.drop (l.takeWhile p).length = l.dropWhile p
  | [] => rfl
  | c :: r => by
    rw [List.takeWhile_cons, List.dropWhile_cons]
    cases h : p c with
    | true =>
      show (c :: r).drop ((r.takeWhile p).length + 1) = r.dropWhile p
      rw [List.drop_succ_cons]
      exact drop_tw p r
    | false => rfl
theorem lstrip_S (l : List Nat) (c : Nat) : Txt.lstripChars (S l) (S [c]) = S (l.dropWhile fun d => decide (d = c)) := by
  unfold Txt.lstripChars
  rw [PySem.W.stripBy_eq]
  refine TL.ext_tl ?_
  have hg : ∀ d, (S [c]).cps.contains d = decide (d = c) := fun d => by
    show (#[c] : Array Nat).contains d = _
    by_cases h : d = c
    · subst h; simp
    · simp [h]
  have e : (fun d => (S [c]).cps.contains d) = fun d => decide (d = c) := funext hg
  show (PySem.W.stripped (fun d => (S [c]).cps.contains d) true false (S l)).cps.toList = _
  rw [e]
  show (PySem.Builtin.Str.strSub (S l) (l.takeWhile fun d => decide (d = c)).length (S l).length).cps.toList = l.dropWhile fun d => decide (d = c)
  rw [S_len]
  have h1 := TL.tl_strSub (x := S l) (i := (l.takeWhile fun d => decide (d = c)).length) (j := l.length)
  refine h1.trans ?_
  show (l.drop _).take (l.length - _) = _
  rw [List.take_of_length_le (by rw [List.length_drop]; exact Nat.le_refl _)]
  exact drop_tw _ l
section
variable {K : PySem.W.Frag} {σ : L2.St} {H H' : Hp} {ta tb te : TE} {v1 v2 v3 : V} {a : Addr} {i j k : Nat} {Q : L2.St → Hp → Prop}
theorem ev_lstrip {l : List Nat} {c : Nat} (ha : Ev ta σ H (.str (S l))) (hb : Ev tb σ H (.str (S [c]))) (hl : l.length ≤ 100000) : Ev (tM1 rLstripC ta tb) σ H (.str (S (l.dropWhile fun d => decide (d = c)))) := fun H1 e Q q =>
  ha H1 e _ fun H2 e2 => ⟨⟨_, rfl⟩, hb H2 (e.trans e2) _ fun H3 e3 => ⟨S l, S [c], rfl, rfl, by rw [S_len]; exact sz_of hl, by rw [lstrip_S]; exact q H3 (e2.trans e3)⟩⟩
theorem unp2 (h : H a = some (.tup [v1, v2])) (q : Q ((σ.set i (some v1)).set j (some v2)) H) : gTup K 2 (gCons (gName i) (gCons (gName j) gNil)) (.ref a) σ H Q :=
  ⟨a, _, rfl, st_of h, rfl, v1, _, rfl, v2, _, rfl, rfl, q⟩
theorem unp3 (h : H a = some (.tup [v1, v2, v3])) (q : Q (((σ.set i (some v1)).set j (some v2)).set k (some v3)) H) : gTup K 3 (gCons (gName i) (gCons (gName j) (gCons (gName k) gNil))) (.ref a) σ H Q :=
  ⟨a, _, rfl, st_of h, rfl, v1, _, rfl, v2, _, rfl, v3, _, rfl, rfl, q⟩
/-- what is raised: an error of the class at C with these four fields -/
def Rz4 (H : Hp) (E : XK) (C : Addr) (p : List Nat) (n c : Nat) (r : List Nat) : Prop := ∀ d H', Ex H H' → H' d = some (.xd (fs4 p n c r)) → E (.ref C) (some d) H'
theorem Rz4.mono {E : XK} {C : Addr} {p r : List Nat} {n c : Nat} (h : Rz4 H E C p n c r) (e : Ex H H') : Rz4 H' E C p n c r := fun d H2 e2 hd => h d H2 (e.trans e2) hd
end
end Kn
namespace Kn
open PySem PySem.Spec PyProof.Rows L2 Evl SX
section
variable {σ : L2.St} {H H' : Hp} {W : WX} {sp : Sp} {tA : TA} {g : TG} {D : Ends} {tz : TS} {vs : List V}
/-- a call that may raise, its answer stored, returned, thrown away -/
theorem s_asgS (hA : EvA tA σ H vs) (k : ∀ H1, Ex H H1 → sp vs H1 (fun v H2 => g v σ H2 D.nx) (WE W σ)) : tAsg (tCallS sp (WE W) tA) g D σ H := hA H (Ex.refl _) _ fun H1 e1 => k H1 e1
theorem q_asgS (hA : EvA tA σ H vs) (k : ∀ H1, Ex H H1 → sp vs H1 (fun v H2 => g v σ H2 (tz D)) (WE W σ)) : tSeq (tAsg (tCallS sp (WE W) tA) g) tz D σ H := s_asgS (D := { D with nx := tz D }) hA k
end
end Kn
namespace Kn
open PySem PySem.Spec PyProof.Rows L2 Evl SX
section
variable {K : PySem.W.Frag} {σ : L2.St} {H H' : Hp} {ta te : TE} {D : Ends} {tz : TS} {l : Addr} {xs : List V} {d : PyData}
theorem s_appD (hl : H l = some (.lst xs)) (ha : Ev ta σ H (.ref l)) (h : EvD te σ H d) (hz : xs.length < 100000) (k : ∀ v H1, Ex H H1 → Dt H1 v d → D.nx σ (L2.upd H1 l (.lst (xs ++ [v])))) :
    tDrop (tBM K "list" rAppend ta (tCons te tNil)) D σ H := ha H (Ex.refl H) _ fun H1 e1 =>
  ⟨Or.inl ⟨rfl, xs, sq_of (e1 l _ hl)⟩, h H1 e1 _ fun v H2 e2 hv => ⟨l, xs, v, rfl, rfl, e2 l _ (e1 l _ hl), sz_lt hz, k v H2 (e1.trans e2) hv⟩⟩
theorem q_appD (hl : H l = some (.lst xs)) (ha : Ev ta σ H (.ref l)) (h : EvD te σ H d) (hz : xs.length < 100000) (k : ∀ v H1, Ex H H1 → Dt H1 v d → tz D σ (L2.upd H1 l (.lst (xs ++ [v])))) :
    tSeq (tDrop (tBM K "list" rAppend ta (tCons te tNil))) tz D σ H := s_appD (D := { D with nx := tz D }) hl ha h hz k
theorem dta_app {v : V} {ds : List PyData} (hl : H l = some (.lst xs)) (hD : DtA H xs ds) (hv : Dt H v d) (h1 : noLA ds = true) (h2 : noL d = true) : DtA (L2.upd H l (.lst (xs ++ [v]))) (xs ++ [v]) (ds ++ [d]) :=
  DtA.snoc (hv.upd hl (fun _ z => nomatch z) h2) (hD.upd hl (fun _ z => nomatch z) h1)
theorem noLA_map {α : Type} {f : α → PyData} (h : ∀ x, noL (f x) = true) : ∀ l : List α, noLA (l.map f) = true
  | [] => by unfold noLA; rfl
  | x :: r => by
    rw [List.map_cons]
    unfold noLA
    rw [h x, noLA_map h r]
    rfl
end
end Kn
namespace Kn
open PySem PySem.Spec PyProof.Rows L2 Evl SX
/-! ### a token is out -/
section
variable {X : Cx} {a b c e o : Expr} {rest : List Expr} {ta tb te to : TE} {tc tA tB' : TT} {t u : TS} {sa sb : List Stmt} {pos apos : Pos}
def PTT (X : Cx) (c : Expr) (tc : TT) : Prop := ∀ (pins : List (Addr × Obj)) (s : Shared) (σ : L2.St) (H : Hp) (Q : Bool → Hp → Prop), 1 ≤ s.toks → Inv X pins σ H s → tc σ H Q → wpAny (model X.prog X.w) X.A (isTrue c X.env (eval c X.env)) (TP X pins σ Q) X.xe s
def PWT (X : Cx) (c : Expr) (tc : TT) : Prop := ∀ (whole : Sem Value) (pins : List (Addr × Obj)) (s : Shared) (σ : L2.St) (H : Hp) (Q : Bool → Hp → Prop), 1 ≤ s.toks → Inv X pins σ H s → tc σ H Q → wpAny (model X.prog X.w) X.A (isTrue c X.env whole) (TP X pins σ Q) X.xe s
theorem PWT.pt (h : PWT X c tc) : PTT X c tc := h _
theorem psst_nox (h : L2.PSsT X.nox sa t) : L2.PSsT X sa t := fun pins s σ H D h0 I hw =>
  wpAny_mono (h pins s σ H D h0 (I.wish _) hw) (fun _ _ q => q.unwish) fun _ _ z => False.elim z
end
section
variable {P : Program} {w : World} {K : PySem.W.Frag} {mg : Str → Option Value} {base : Heap}
theorem okT {x qual : Str} {st : Stmt} {f : Addr} {fd : FuncData} {N ps : List Str} {k : Nat} {sp : Sp} (F : Fun K x qual st f fd) (S : FnScope N ps (defScope st)) (hnc : ∀ y ∈ (defScope st).names, y.2 ≠ .cell) (hps : 1 ≤ ps.length) (len : ∀ vs H Q E, sp vs H Q E → vs.length = ps.length)
    (hbody : ∀ (cdv : Value) (A : Around) (outer : List Env) (s : Shared) (H : Hp) (vs : List V) (Q : VK) (E : XK), Room k (A.deeper (envOfC qual (defScope st) s.heap.objs.size f cdv)) → sp vs H Q E →
      ∃ t, L2.PSsT (cxOf CX0 P w K mg base N qual (defScope st) f cdv A outer s H E).nox (defBody st) t ∧ t { nx := fun _ H' => Q .non H', rt := Q } (start N vs) H) : FnOk P w K mg base CX0 (k + 1) f fd ps sp := by
  obtain ⟨oc, od, kV, doc, pm, an, cdv, ct, osl, rfl, lk, hcd⟩ := F.ex
  refine fn_ofT lk hcd S hnc hps len fun A outer s H vs Q E hr hsp => ?_
  obtain ⟨t, h, q⟩ := hbody cdv A outer s H vs Q E hr hsp
  exact ⟨t, psst_nox h, q⟩
end
section
/-- a sign of a text put for others -/
def sub1 (c : Nat) (z l : List Nat) : List Nat := l.flatMap fun e => if e = c then z else [e]
theorem repl_any {c : Nat} {z : List Nat} : ∀ l : List Nat, StrLaws.replL [c] z l = sub1 c z l
  | [] => StrLaws.replL_nil
  | e :: r => by
    by_cases h : e = c
    · subst h
      rw [StrLaws.replL_hit (List.cons_ne_nil _ _) rfl, show (e :: r).drop [e].length = r from rfl, repl_any r]
      unfold sub1
      rw [List.flatMap_cons, if_pos rfl]
    · rw [StrLaws.replL_miss (y := [c]) (show ¬ (e :: r).take [c].length = [c] from fun z => h (List.cons.inj (show e :: r.take 0 = [c] from z)).1), repl_any r]
      unfold sub1
      rw [List.flatMap_cons, if_neg h]
      rfl
theorem replace_A {l z : List Nat} {c : Nat} : Txt.replace (S l) (S [c]) (S z) = S (sub1 c z l) := by
  refine TL.ext_tl ?_
  show (Txt.replace (S l) (S [c]) (S z)).cps.toList = _
  exact (StrLaws.replace_list (show 1 ≤ (S [c]).length from Nat.le_refl 1)).trans (repl_any l)
theorem ev_replA {σ : L2.St} {H : Hp} {ta : TE} {l z : List Nat} {s1 s2 : Str} {c : Nat} (ha : Ev ta σ H (.str (S l))) (h1 : s1 = S [c]) (h2 : s2 = S z) (hl : l.length ≤ 100000) (hz : z.length ≤ 8) : Ev (CwR.tReplC ta s1 s2) σ H (.str (S (sub1 c z l))) := fun H1 e Q q => by
  subst h1 h2
  refine ha H1 e _ fun H2 e2 => ⟨S l, rfl, ?_, ?_⟩
  · rw [S_len, S_len]
    have : (l.length + 1) * z.length ≤ 100001 * 8 := Nat.mul_le_mul (by omega) hz
    omega
  · rw [replace_A]
    exact q H2 e2
end
end Kn
namespace Kn
open PySem PySem.Spec PyProof.Rows L2 Evl SX
section
variable {X : Cx} {e : Expr} {te : TE} {pos : Pos}
/-- name = value, where the value wants a token -/
theorem pst_set {i : Nat} {x : Str} {pos' : Pos} (hN : X.N.Nodup) (hi : X.N[i]? = some x) (hx : Loc X.env.scope x) (he : L2.PET X e te) (hs : swapsWith e (some (.Name x pos')) pos.line X.env = pure false := by rfl) (hf : X.fn x = true ∨ X.env.scope.names.lookup x = some .local := by first | exact .inl rfl | exact .inr rfl | assumption) :
    L2.PST X (.Assign [.Name x pos'] e pos) (tAsg te (gName i)) := by
  intro pins s σ H D h0 I h
  refine wpAny_Assign_Name (thn (he pins s σ H _ h0 I h) fun v s1 ⟨y, H1, I1, r1, q1⟩ => ?_) hs
  exact store_ok I1 hN hi hx r1 (fun s2 I2 => ⟨_, H1, I2, q1⟩) hf
end
section
variable {σ : L2.St} {H : Hp} {W : WX} {sp : Sp} {tA : TA} {vs : List V} {d : PyData}
/-- a call that may raise and does not -/
theorem evd_callS (hA : EvA tA σ H vs) (k : ∀ H1, Ex H H1 → ∀ Q : VK, RtD H1 d Q → sp vs H1 Q (WE W σ)) : EvD (tCallS sp (WE W) tA) σ H d := fun H1 e Q q =>
  hA H1 e _ fun H2 e2 => k H2 (e.trans e2) _ fun v H3 e3 hv => q v H3 (e2.trans e3) hv
end
end Kn
namespace Kn
open PySem PySem.Spec PyProof.Rows L2 Evl SX
section
variable {K : PySem.W.Frag} {σ : L2.St} {H H' H1 : Hp} {te t1 t2 : TE}
/-- column, reason -/
def fs2 (c : Nat) (r : List Nat) : List (Str × V) := [("reason", .str (S r)), ("column", .int (c : Int))]
structure Nf2 (K : PySem.W.Frag) (C : Addr) : Prop where
  c : PySem.W.findIn K (.ref C) "column" = some none
  r : PySem.W.findIn K (.ref C) "reason" = some none
def Sm2 (c : Nat) (r : List Nat) : Prop := r.length ≤ 9000 ∧ c < 10 ^ 9
def sp_I2 (K : PySem.W.Frag) : Sp := fun vs H Q _ => ∃ (a C : Addr) (c : Nat) (r : List Nat), vs = [.ref a, .int (c : Int), .str (S r)] ∧ Sm2 c r ∧ H a = some (exo a C none) ∧ OexC K C ∧ Nf2 K C ∧
  ∀ dx H', H dx = none → dx ≠ a → XMade H H' a C dx (fs2 c r) → Q .non H'
def Rz2 (H : Hp) (E : XK) (C : Addr) (c : Nat) (r : List Nat) : Prop := ∀ d H', Ex H H' → H' d = some (.xd (fs2 c r)) → E (.ref C) (some d) H'
theorem Rz2.mono {E : XK} {C : Addr} {r : List Nat} {c : Nat} (h : Rz2 H E C c r) (e : Ex H H') : Rz2 H' E C c r := fun d H2 e2 hd => h d H2 (e.trans e2) hd
end
end Kn
/-! ### dead statements, defs with defaults, errors with one field of any kind, dicts with int keys -/
namespace Kn
open PySem PySem.Spec PyProof.Rows L2 Evl SX
def rSortDI (K : PySem.W.Frag) : List V → Hp → VK → Prop := fun xs H Q => ∃ (a : Addr) (kvs : List (Key × V)) (ks : List Int), xs = [.ref a] ∧ Rd H a (.dK kvs) ∧ kvs.map (·.1) = ks.map Sum.inl ∧ ks.length < 64 ∧ ∀ (ys : List Int) (p : Addr), ys.Perm ks → ys.Pairwise (· ≤ ·) → H p = none → Q (.ref p) (upd H p (.lst (ys.map V.int)))
theorem cr_sortDI {X : Cx} (h : X.calm = true) : CallR X (.builtin "sorted") (rSortDI X.K) := call_sortedDI h
theorem cr_max2 {X : Cx} (h : X.calm = true) : CallR X (.builtin "max") Evl.rMax2 := call_max2 h
def rMn2 : List V → Hp → VK → Prop := fun xs H Q => ∃ i j : Int, xs = [.int i, .int j] ∧ Q (.int (if j < i then j else i)) H
/-- a class made by its name with its defaults -/
structure MkrD (P : Program) (w : World) (K : PySem.W.Frag) (mg : Str → Option Value) (base : Heap) (k : Nat) (x : Str) (C : Addr) (sp : Sp) (dvs : List V) : Prop where
  ex : ∃ (f : Addr) (fd : FuncData) (ps : List Str) (ds : List Value), Mk K C f ∧ FnOk P w K mg base CX0 k f fd ps sp ∧ mg x = some (.ref C) ∧ Binds K fd ps ds ∧ Vals dvs ds
theorem pe_mkrD0 {X : Cx} {k j : Nat} {C : Addr} {x : Str} {sp : Sp} {dvs : List V} {p pos : Pos} (c : MkrD X.prog X.w X.K X.mg X.base k x C sp dvs) (hr : Room j X.A) (hk : k + 1 ≤ j) (hg : Gl X x) (hdb : (x == ("__debug__" : Str)) = false := by decide) :
    PE X (.Call (.Name x p) [] [] pos) (tMake C sp dvs E0 tNil) := by
  obtain ⟨f, fd, ps, ds, M, F, hm, b, d⟩ := c.ex
  exact pe_make0 M F (hr.mono hk) hg hm b d pass0 hdb
theorem dfl_one {K : PySem.W.Frag} {T : Addr} {c : Value} {od : Option Addr} {n : Nat} {sl : Array (Option Value)} {u : Value} {v : V} (h : K.lookup T = some ⟨c, od, .seq #[u] n, sl⟩) (r : RelV v u) : DflV K (.ref T) [v] :=
  .inr ⟨by simp, T, _, [u], n, rfl, h, rfl, .cons r .nil⟩
section
variable {K : PySem.W.Frag} {σ : L2.St} {H H1 H' : Hp} {ta tb td ty te tv : TE} {D : Ends} {tz : TS} {a d C : Addr} {kvs : List (Key × V)} {k : Int} {v : V} {f : Str}
def sp_I1v (f : Str) (K : PySem.W.Frag) : Sp := fun vs H Q _ => ∃ (a C : Addr) (v : V), vs = [.ref a, v] ∧ H a = some (exo a C none) ∧ OexC K C ∧ PySem.W.findIn K (.ref C) f = some none ∧
  ∀ dx H', H dx = none → dx ≠ a → XMade H H' a C dx [(f, v)] → Q .non H'
theorem init1v_body {m : List Nat} {tj : TE} (hj : Ev tj [some (.ref a), some v] H (.str (S m))) (ha : H a = some (exo a C none)) (oe : OexC K C) (nf : PySem.W.findIn K (.ref C) f = some none)
    (q : ∀ dx H', H dx = none → dx ≠ a → XMade H H' a C dx [(f, v)] → D.nx [some (.ref a), some v] H') : tSeq (tDrop (tVeI K (tCons (tVar 0) (tCons tj tNil)))) (tOst K f (tVar 0) (tVar 1)) D [some (.ref a), some v] H := by
  refine q_beinit (ev_var rfl) hj oe ha fun H1 e1 => ?_
  exact ⟨_, rfl, _, rfl, a, C, rfl, oe, nf, .inl ⟨e1 _ _ ha, fun dx hd ne => q dx _ (fresh_back e1 hd) ne (xmade_new e1 ne)⟩⟩
/-- raised: a new error with one field -/
def Rzv (H : Hp) (E : XK) (C : Addr) (f : Str) (v : V) : Prop := ∀ d H', Ex H H' → H' d = some (.xd [(f, v)]) → E (.ref C) (some d) H'
theorem Rzv.mono {E : XK} (h : Rzv H E C f v) (e : Ex H H') : Rzv H' E C f v := fun d H2 e2 hd => h d H2 (e.trans e2) hd
theorem ev_dgetI (h1 : Ev td σ H (.ref d)) (h2 : Ev ty σ H (.int k)) (hd : H d = some (.dK kvs)) (hv : valV kvs (Sum.inl k) = some v) : Ev (tDGet td ty) σ H v := fun H1 e Q q =>
  h1 H1 e _ fun H2 e2 => h2 H2 (e.trans e2) _ fun H3 e3 => ⟨d, v, rfl, by
    have g := DGet.k (k := (Sum.inl k : Key)) (((e.trans e2).trans e3) _ _ hd)
    rw [hv] at g
    exact g, q H3 (e2.trans e3)⟩
theorem s_dputI (hv : Ev tv σ H v) (h1 : ∀ H1, Ex H H1 → Ev td σ H1 (.ref d)) (h2 : ∀ H1, Ex H H1 → Ev ty σ H1 (.int k)) (hd : H d = some (.dK kvs)) (hl : kvs.length < 100000) (q : ∀ H1, Ex H H1 → D.nx σ (L2.upd H1 d (.dK (putK kvs (Sum.inl k) v)))) : sDPut td ty tv D σ H :=
  hv H (Ex.refl H) _ fun H1 e1 => h1 H1 e1 H1 (Ex.refl H1) _ fun H2 e2 => h2 H2 (e1.trans e2) H2 (Ex.refl H2) _ fun H3 e3 => ⟨d, _, rfl, DPut.k (k := (Sum.inl k : Key)) (((e1.trans e2).trans e3) _ _ hd) (sz_lt hl), q H3 ((e1.trans e2).trans e3)⟩
theorem q_dputI (hv : Ev tv σ H v) (h1 : ∀ H1, Ex H H1 → Ev td σ H1 (.ref d)) (h2 : ∀ H1, Ex H H1 → Ev ty σ H1 (.int k)) (hd : H d = some (.dK kvs)) (hl : kvs.length < 100000) (q : ∀ H1, Ex H H1 → tz D σ (L2.upd H1 d (.dK (putK kvs (Sum.inl k) v)))) : tSeq (sDPut td ty tv) tz D σ H :=
  s_dputI (D := { D with nx := tz D }) hv h1 h2 hd hl q
end
theorem ints_uniq {l m : List Int} (h1 : l.Pairwise (· ≤ ·)) (h2 : m.Pairwise (· ≤ ·)) (p : l.Perm m) : l = m :=
  List.Perm.eq_of_pairwise (fun _ _ _ _ a b => Int.le_antisymm a b) h1 h2 p
section
variable {K : PySem.W.Frag} {σ : L2.St} {H H1 H' : Hp} {ta tb td ty te tv : TE} {a d C B dd : Addr} {kvs : List (Key × V)} {k : Int} {v : V} {f : Str} {fs : List (Str × V)} {i : Nat}
end
section
variable {K : PySem.W.Frag} {σ : L2.St} {H : Hp} {ta tb : TE}
theorem ev_ixLit {xs : List V} {v : V} {i : Nat} {j : Int} (ha : EvL ta σ H xs) (hb : Ev tb σ H (.int j)) (hj : j = (i : Int)) (h : xs[i]? = some v) : Ev (tOp (rIxL K) ta tb) σ H v := fun H1 e Q q =>
  ha H1 e _ fun p H2 np e2 hp => hb H2 (e.trans e2) _ fun H3 e3 => ⟨p, xs, j, v, rfl, rfl, sq_of (e3 _ _ hp), atI_nat' hj h, q H3 (e2.trans e3)⟩
end
section
variable {σ : L2.St} {H : Hp} {tA : TA} {sp : Sp} {E : XK} {vs : List V} {D : Ends} {tz tu tw : TS} {g : TG} {tc : TT} {b0 : Bool}
end
end Kn

/-! ### set(xs) and len(set(xs)) of different texts -/
namespace Kn.Sets
open PySem PySem.Spec PyProof.Rows
section
variable {prog : Program} {w : World} {A : Around}
/-- the texts that are in, behind i turns -/
def seen (xs : List Str) (i : Nat) : Str → Bool := fun z => (xs.take i).any (· == z)
theorem seen_next {xs : List Str} {i : Nat} {x : Str} (h : xs[i]? = some x) (z : Str) : (seen xs i z || decide (z = x)) = seen xs (i + 1) z := by
  unfold seen
  rw [List.take_add_one, h, List.any_append]
  congr 1
  show _ = ((x == z) || false)
  rw [Bool.or_false]
  by_cases e : z = x
  · rw [decide_eq_true e, e, beq_self_eq_true]
  · rw [decide_eq_false e]
    exact (beq_eq_false_iff_ne.mpr fun y => e y.symm).symm
theorem seen_not {xs : List Str} {i : Nat} {x : Str} (nd : xs.Nodup) (h : xs[i]? = some x) : seen xs i x = false := by
  unfold seen
  rw [List.any_eq_false]
  intro y hy
  obtain ⟨j, hj⟩ := List.mem_iff_getElem?.mp hy
  rw [List.getElem?_take] at hj
  split at hj
  · next hji =>
    intro e
    have e2 : y = x := by simpa using e
    have h1 := (List.getElem?_eq_some_iff.mp h).1
    have h2 := (List.getElem?_eq_some_iff.mp hj).1
    have := (List.getElem?_inj (j := j) h1 nd).mp (h.trans (by rw [hj, e2]))
    omega
  · cases hj
/-- one turn after another -/
theorem turns {I S : Addr} {fp wr : List Addr} {G : Array GenState → Array GenState → Prop} {n : Nat} {Pi : Nat → Value → Prop} {St : Nat → Shared → Prop} {R : Result → Shared → Prop} (W : WalksS prog w A.in1 I fp wr G n Pi St) (hS : S ∉ fp)
    {xs : List Str} (hn : xs.length = n) (few : n + 1 < scanBound) (nd : xs.Nodup) (at' : ∀ i v, Pi i v → ∃ x t, xs[i]? = some x ∧ v = .str x t) (d : Nat) :
    ∀ (i : Nat) (s : Shared), i + d = n → St i s → s.heap.SetOf (PySem.strKind prog w) S (seen xs i) i →
      (∀ s', Moved (S :: wr) G s s' → s'.heap.SetOf (PySem.strKind prog w) S (seen xs n) n → R (.ok (.ret .none)) s') → codeAny (model prog w) A (.builtin "set.update.loop" ⟨[.ref S, .ref I], []⟩) R s := by
  have out : S ∉ wr := fun z => hS (W.sub _ z)
  have more : ∀ b ∈ wr, b ∈ S :: wr := fun b z => List.mem_cons_of_mem _ z
  have kept : ∀ {s s' : Shared} {f : Str → Bool} {m : Nat}, Moved wr G s s' → s.heap.SetOf (PySem.strKind prog w) S f m → s'.heap.SetOf (PySem.strKind prog w) S f m := fun hm ⟨o, es, ep, tb, ho, r⟩ => ⟨o, es, ep, tb, hm.heap S _ out ho, r⟩
  induction d with
  | zero =>
    intro i s e st so k
    obtain rfl : i = n := e
    refine codeAny_builtin F.entry_set_update_loop ?_
    rw [Around.under_plainId F.plain_set_update_loop _]
    exact wpAny_bind (W.done s _ _ st fun s' hm => wpAny_pure (k s' (hm.mono more) (kept hm so)))
  | succ d ih =>
    intro i s e st so k
    have lt : i < n := by omega
    refine codeAny_builtin F.entry_set_update_loop ?_
    rw [Around.under_plainId F.plain_set_update_loop _]
    refine wpAny_bind (W.item i s _ _ lt st fun v s' hP st' hm => ?_)
    obtain ⟨x, t, hx, rfl⟩ := at' i v hP
    have so1 := kept hm so
    refine wpAny_bind (m := holding [Value.str x t] (setAdd S (.str x t))) (wpAny_holding ?_)
    unfold setAdd
    refine wpAny_holding (wpAny_bind ((PySem.strKind prog w).pyHash (k := x) (strKind_is _ _ _ _) ?_))
    refine wpAny_setAddHashed_of (knd := PySem.strKind prog w) (s := { s' with toks := s'.toks + 1 }) (strKind_is _ _ _ _) rfl so1 (by omega) fun h' same so2 => ?_
    rw [if_neg (by rw [seen_not nd hx]; decide)] at so2
    have so3 := SetOf_congr so2 (seen_next hx) rfl
    refine wpAny_pure ⟨plainId_quiet F.plain_set_update_loop _, ih (i + 1) _ (by omega) (W.frame _ s' _ _ st' (Nat.le_succ _) fun b hb o e => ?_) so3 fun s2 hm2 so4 => ?_⟩
    · rw [same.2 b fun z => hS (z ▸ hb)]
      exact e
    · refine k s2 (Moved.trans W.gtrans ((hm.mono more).then_heap (Nat.le_succ _) fun b o hb e => ?_) hm2) so4
      rw [same.2 b fun z => hb (z ▸ List.mem_cons_self)]
      exact e
end
/-- a new set, empty -/
def newS (led : Bool) : Obj := { cls := .type "set", dict := none, data := .set #[] 0 (.fresh 0 0 led) }
/-- a walk's iterator over the list at l -/
def itS (l : Addr) : Obj := { cls := .type "list_iterator", data := .fields #[.ref l, .int 0 0] }
/-- the texts are in the set at the end of h; h' keeps what was in h -/
def Full (prog : Program) (w : World) (h : Heap) (xs : List Str) (h' : Heap) : Prop := h'.SetOf (PySem.strKind prog w) h.objs.size (seen xs xs.length) xs.length ∧ ∀ b o, b < h.objs.size → h.get? b = some o → h'.get? b = some o
section
variable {prog : Program} {w : World} {A : Around} {E : Value → Shared → Prop} {s : Shared}
end
end Kn.Sets
namespace Kn
open PySem PySem.Spec PyProof.Rows L2
section
variable {X : Cx}
/-- len(set(xs)), xs a list of different texts -/
def tLenSetN (K : PySem.W.Frag) (ta : TE) : TE := fun σ H Q => ta σ H fun x H1 => ∃ (l : Addr) (xs : List Str), x = .ref l ∧ SqL K H1 l (xs.map V.str) ∧ xs.Nodup ∧ xs.length ≤ 4000 ∧ Q (.int xs.length) H1
end
end Kn

/-! ### rules: is True, classes made with arguments, texts of digits, enumerate, comprehensions of new tuples -/
namespace Kn
open PySem PySem.Spec PyProof.Rows L2 Evl SX
def snV : V → Bool
  | .non => true
  | .bl _ => true
  | .int _ => true
  | _ => false
def rIsB : R2 := fun x y H Q => ∃ b, y = .bl b ∧ snV x = true ∧ Q (.bl (decide (x = .bl b))) H
section
variable {X : Cx} {k j : Nat} {C : Addr} {x m : Str} {sp : Sp} {p pos apos : Pos} {e o : Expr} {es : List Expr} {ta : TE} {t : TA}
end
def rAsc : V → List V → Hp → VK → Prop := fun x xs H Q => ∃ a, x = .str a ∧ xs = [] ∧ True ∧ Q (.bl (Txt.isascii a)) H
theorem mt_asc {X : Cx} : MtR X "str.isascii" rAsc := L2.mt_isascii
def rDig : V → List V → Hp → VK → Prop := fun x xs H Q => ∃ a, x = .str a ∧ xs = [] ∧ True ∧ Q (.bl (Txt.isdigit a)) H
theorem mt_dig {X : Cx} : MtR X "str.isdigit" rDig := L2.mt_isdigit
def rPart : V → List V → Hp → VK → Prop := fun x xs H Q => ∃ a b, x = .str a ∧ xs = [.str b] ∧ (b.length == 0) = false ∧ a.length ≤ sizeLine ∧ ∀ p, H p = none → Q (.ref p) (upd H p (.tup [.str (Txt.partition a b).1, .str (Txt.partition a b).2.1, .str (Txt.partition a b).2.2]))
def rIntS : List V → Hp → VK → Prop := fun xs H Q => ∃ a n, xs = [.str a] ∧ PySem.intText? a = some n ∧ a.length ≤ 640 ∧ Q (.int n) H
theorem cr_intS {X : Cx} : CallR X (.type "int") rIntS := call_int_str
def rTupS (K : PySem.W.Frag) : List V → Hp → VK → Prop := fun xs H Q => ∃ p ys, xs = [.ref p] ∧ ((SqL K H p ys ∧ ∀ l, H l = none → Q (.ref l) (upd H l (.tup ys))) ∨ (SqT K H p ys ∧ Q (.ref p) H))
theorem cr_listS {X : Cx} : CallR X (.type "list") (rListS X.K) := call_list_of
section
variable {K : PySem.W.Frag} {σ : L2.St} {H H1 H' : Hp} {ta tb tc te tl tas : TE} {tA : TA} {a d C p : Addr} {v x : V} {D : Ends} {tu tw tz : TS} {xs ys : List V}
theorem EvU.mono (e : Ex H H') (h : EvU te σ H xs) : EvU te σ H' xs := fun H1 a Q q => h H1 (e.trans a) Q q
theorem ev_asc {l : List Nat} (h : Ev ta σ H (.str (S l))) : Ev (tM0 rAsc ta) σ H (.bl (Txt.isascii (S l))) := fun H1 e Q q => h H1 e _ fun H2 e2 => ⟨⟨S l, rfl⟩, S l, rfl, rfl, trivial, q H2 e2⟩
theorem ev_dig {l : List Nat} (h : Ev ta σ H (.str (S l))) : Ev (tM0 rDig ta) σ H (.bl (Txt.isdigit (S l))) := fun H1 e Q q => h H1 e _ fun H2 e2 => ⟨⟨S l, rfl⟩, S l, rfl, rfl, trivial, q H2 e2⟩
theorem ev_intS {l : List Nat} {n : Int} (h : Ev ta σ H (.str (S l))) (hn : PySem.intText? (S l) = some n) (hl : l.length ≤ 640) : Ev (tCB rIntS (tCons ta tNil)) σ H (.int n) := fun H1 e Q q => h H1 e _ fun H2 e2 => ⟨S l, n, rfl, hn, by rw [S_len]; exact hl, q H2 e2⟩
theorem el_cat (h1 : EvL ta σ H xs) (h2 : EvL tb σ H ys) (hz : xs.length + ys.length ≤ 100000) : EvL (tOp rCat ta tb) σ H (xs ++ ys) := fun H1 e Q q =>
  h1 H1 e _ fun p H2 np e2 hp => h2 H2 (e.trans e2) _ fun b H3 nb e3 hb => ⟨p, b, xs, ys, rfl, rfl, e3 _ _ hp, hb, sz_of hz, fun l hl => q _ _ (fresh_back (e2.trans e3) hl) ((e2.trans e3).trans (Ex.new hl)) upd_same⟩
/-- part of a tuple, not all of it -/
theorem eu_sl {tl th : TO} {lo hi : Option Int} (h : Ev te σ H (.ref p)) (h1 : EvO tl σ H lo) (h2 : EvO th σ H hi) (hp : H p = some (.tup xs)) (hne : ¬ (HT.sIx xs.length 0 lo = 0 ∧ HT.sIx xs.length xs.length hi = xs.length)) : EvU (tSl (rSlT K) te tl th) σ H (cutV xs lo hi) := fun H0 e Q q =>
  h H0 e _ fun H2 e2 => h1 H2 (e.trans e2) _ fun H3 e3 => h2 H3 ((e.trans e2).trans e3) _ fun H4 e4 => ⟨p, xs, rfl, st_of ((((e.trans e2).trans e3).trans e4) _ _ hp), hne, fun l hl => q _ _ (fresh_back ((e2.trans e3).trans e4) hl) (((e2.trans e3).trans e4).trans (Ex.new hl)) upd_same⟩
end
end Kn
namespace Kn
open PySem PySem.Spec PyProof.Rows L2 Evl SX
section
variable {K : PySem.W.Frag} {σ : L2.St} {H H1 H' : Hp} {ta tb tc te tl tas : TE} {t : TT} {tA : TA} {a d C p : Addr} {v x : V} {D : Ends} {tu tw tz : TS} {xs ys : List V}
theorem ev_fmtZ {i : Int} (h : Ev te σ H (.int i)) (hn : i.natAbs.log2 < 1920) : Ev (tFmt te) σ H (.str (S (toString i : Str).cps.toList)) := fun H1 e Q q => h H1 e _ fun H2 e2 => .inr ⟨i, rfl, hn, q H2 e2⟩
/-- a new list of new tuples -/
def EvNs (te : TE) (σ : L2.St) (H : Hp) (ys : List (List V)) : Prop := ∀ H1, Ex H H1 → ∀ Q : VK, (∀ p (as : List Addr) H2, H1 p = none → Ex H1 H2 → H2 p = some (.lst (as.map V.ref)) → Paired (fun a y => H2 a = some (.tup y)) as ys → Q (.ref p) H2) → te σ H1 Q
def Cn (H : Hp) (g : Nat → List V) (Dl : Addr) (i : Nat) (H' : Hp) : Prop := H Dl = none ∧ Ex H H' ∧ ∃ as : List Addr, H' Dl = some (.lst (as.map V.ref)) ∧ Paired (fun a y => H' a = some (.tup y)) as ((List.range i).map g)
/-- tuple(..) of such a list -/
def EvNt (te : TE) (σ : L2.St) (H : Hp) (ys : List (List V)) : Prop := ∀ H1, Ex H H1 → ∀ Q : VK, (∀ p (as : List Addr) H2, H1 p = none → Ex H1 H2 → H2 p = some (.tup (as.map V.ref)) → Paired (fun a y => H2 a = some (.tup y)) as ys → Q (.ref p) H2) → te σ H1 Q
/-- for i, x in enumerate(xs) -/
theorem q_forEn {a : Addr} {xs : List V} {tl : TE} {i j : Nat} (h : Ev tl σ H (.ref a)) (hx : SqL K H a xs) (Pv : Nat → L2.St → Hp → Prop) (h0 : ∀ H1, Ex H H1 → Pv 0 σ H1) (hl : ∀ n σ' H', n ≤ xs.length → Pv n σ' H' → SqL K H' a xs)
    (hs : ∀ n x σ' H' H2, xs[n]? = some x → Pv n σ' H' → Ex H' H2 → tu { D with nx := Pv (n + 1), ct := Pv (n + 1), bk := tz D } ((σ'.set i (some (.int (n : Int)))).set j (some x)) H2) (hd : ∀ σ' H', Pv xs.length σ' H' → tz D σ' H') :
    tSeq (tFor (iEnum K (tCons tl tNil)) (gTup K 2 (gCons (gName i) (gCons (gName j) gNil))) tu) tz D σ H :=
  h H (Ex.refl H) _ fun H1 e => ⟨a, xs, rfl, ex_l e hx, for_it (D := { D with nx := tz D }) walk_enum Pv (h0 H1 e) hl (fun n v σ' H2 H3 hn p y => by
    obtain ⟨T, u, w, rfl, nT, rfl, hu, hw⟩ := y
    cases hu
    exact unp2 upd_same (hs n w σ' H2 _ hw p (Ex.new nT))) hd⟩
end
end Kn
/-! ### errors with a number -/
namespace Kn
open PySem PySem.Spec PyProof.Rows L2 Evl SX
section
variable {K : PySem.W.Frag} {σ : L2.St} {H H1 H' : Hp} {te : TE} {C a : Addr} {f : Str} {i : Int}
def SmI (i : Int) : Prop := i.natAbs.log2 < 1920 ∧ (toString i : Str).cps.toList.length ≤ 1000
theorem small_I : ∀ i : Nat, i < 1100 → SmI ((i : Int) - 50) := by unfold SmI; decide +kernel
theorem sm_I {i : Int} (h : -50 ≤ i) (h2 : i < 1050) : SmI i := by
  have z := small_I (i + 50).toNat (by omega)
  rw [show (((i + 50).toNat : Nat) : Int) - 50 = i by omega] at z
  exact z
def sp_I1z (f : Str) (K : PySem.W.Frag) : Sp := fun vs H Q _ => ∃ (a C : Addr) (i : Int), vs = [.ref a, .int i] ∧ SmI i ∧ H a = some (exo a C none) ∧ OexC K C ∧ PySem.W.findIn K (.ref C) f = some none ∧
  ∀ dx H', H dx = none → dx ≠ a → XMade H H' a C dx [(f, .int i)] → Q .non H'
theorem raise1z {W : WX} (oe : OexC K C) (nf : PySem.W.findIn K (.ref C) f = some none) (hi : SmI i) (hv : Ev te σ H (.int i))
    (hk : ∀ d H', Ex H H' → H' d = some (.xd [(f, .int i)]) → W (.ref C) (some d) σ H') : tMkO C (sp_I1z f K) [] (tCons te tNil) σ H (fun cls d H' => W cls d σ H') :=
  hv H (Ex.refl H) _ fun H2 e2 => ⟨(by show 1 ≤ 1000; decide), fun a na => ⟨a, C, i, rfl, hi, upd_same, oe, nf, fun dx H' hdx ne m =>
    ⟨rfl, dx, _, m.1, m.2.1, upd_none hdx, xm_raise e2 na (upd_none hdx) m hk⟩⟩⟩
end
end Kn

/-! ### keys of texts -/
namespace Kn.Rp
open PySem PySem.Spec PyProof.Rows L2 Evl SX Kn
def key (l : List Nat) : Nat := l.foldl (fun a c => a * 128 + c) 1
theorem key_snoc (l : List Nat) (c : Nat) : key (l ++ [c]) = key l * 128 + c := by
  unfold key
  rw [List.foldl_append]
  rfl
theorem key_pos (l : List Nat) : 1 ≤ key l := by
  have h : ∀ (l : List Nat) (a : Nat), 1 ≤ a → 1 ≤ l.foldl (fun a c => a * 128 + c) a := fun l => by
    induction l with
    | nil => exact fun a h => h
    | cons c r ih => exact fun a h => ih (a * 128 + c) (by omega)
  exact h l 1 (Nat.le_refl 1)
theorem hv_bit : ∀ d, d < 2 → L2.Hx.hv (48 + d) = d := by decide
theorem fold_pad (a d : Nat) (h : d < 128) : (Bi.pad7 d).foldl (fun a c => a * 2 + L2.Hx.hv c) a = a * 128 + d := by
  unfold Bi.pad7
  simp only [List.foldl_cons, List.foldl_nil]
  rw [hv_bit _ (Nat.mod_lt _ (by decide)), hv_bit _ (Nat.mod_lt _ (by decide)), hv_bit _ (Nat.mod_lt _ (by decide)), hv_bit _ (Nat.mod_lt _ (by decide)), hv_bit _ (Nat.mod_lt _ (by decide)), hv_bit _ (Nat.mod_lt _ (by decide)), hv_bit _ (Nat.mod_lt _ (by decide))]
  omega
theorem fold_pads : ∀ (l : List Nat) (a : Nat), (∀ c ∈ l, c < 128) → ((l.map Bi.pad7).flatten).foldl (fun a c => a * 2 + L2.Hx.hv c) a = l.foldl (fun a c => a * 128 + c) a
  | [], a, _ => rfl
  | c :: l, a, h => by
    rw [List.map_cons, List.flatten_cons, List.foldl_append, fold_pad a c (h c List.mem_cons_self), fold_pads l _ fun d hd => h d (List.mem_cons_of_mem _ hd)]
    rfl
theorem bin_key {l : List Nat} (h : ∀ c ∈ l, c < 128) : Bi.binNum ([49] ++ (l.map Bi.pad7).flatten) = key l := by
  unfold Bi.binNum key
  rw [List.foldl_append, ← fold_pads l 1 h]
  rfl
theorem isbin_pad (d : Nat) : ∀ c ∈ Bi.pad7 d, Bi.IsBin c := fun c hc => by
  unfold Bi.pad7 at hc
  simp only [List.mem_cons, List.not_mem_nil, or_false] at hc
  unfold Bi.IsBin
  omega
theorem bin_all (l : List Nat) : ∀ c ∈ [49] ++ (l.map Bi.pad7).flatten, Bi.IsBin c := fun c hc => by
  rcases List.mem_append.mp hc with h | h
  · rw [List.mem_singleton.mp h]
    exact .inr rfl
  · obtain ⟨x, hx, hc2⟩ := List.mem_flatten.mp h
    obtain ⟨d, _, rfl⟩ := List.mem_map.mp hx
    exact isbin_pad d c hc2
theorem flat_len : ∀ r : List Nat, ((r.map Bi.pad7).flatten).length = 7 * r.length
  | [] => rfl
  | d :: r => by
    rw [List.map_cons, List.flatten_cons, List.length_append, flat_len r, List.length_cons]
    show 7 + _ = _
    omega
theorem ev_fmt7 {σ : L2.St} {H : Hp} {te : TE} {d : Nat} (h : Ev te σ H (.int (d : Int))) (hd : d < 128) : Ev (Bi.tFmt7 te) σ H (.str (S (Bi.pad7 d))) := fun H1 e Q q =>
  h H1 e _ fun H2 e2 => ⟨d, rfl, hd, q H2 e2⟩
theorem ev_intBinL {σ : L2.St} {H : Hp} {ta tb : TE} {l : List Nat} (h : EvA (tCons ta (tCons tb tNil)) σ H [.str (S l), .int 2]) (hne : l ≠ []) (hb : ∀ c ∈ l, Bi.IsBin c) : Ev (tCB Bi.rIntBinL (tCons ta (tCons tb tNil))) σ H (.int ((Bi.binNum l : Nat) : Int)) := fun H1 e Q q =>
  h H1 e _ fun H2 e2 => ⟨l, rfl, hne, hb, q H2 e2⟩
end Kn.Rp
/-! ### records: what is written, and what is read -/
namespace Kn.Rp
open PySem PySem.Spec PyProof.Rows L2 Evl SX Kn
inductive Sn where
  | no
  | b (x : Bool)
  | k (n : Nat)
structure Nd where
  ws : List (List Nat)
  sn : Sn
structure Rc where
  outs : List (List Nat)
  key : Nat
  needs : List Nd
  res : List Nat
def snD : Sn → V
  | .no => .non
  | .b x => .bl x
  | .k n => .int (n : Int)
def strsV (ls : List (List Nat)) : List V := ls.map fun l => V.str (S l)
def ndD (d : Nd) : List V := strsV d.ws ++ [snD d.sn]
def yesL : List Nat := [121, 101, 115]
def nooL : List Nat := [110, 111]
def fmtSn : Sn → List Nat
  | .no => [45]
  | .b x => if x = true then yesL else nooL
  | .k n => TL.numL n
def fmtNd (d : Nd) : List Nat := TL.joinL [58] (d.ws ++ [fmtSn d.sn])
def fmtNds (l : List Nd) : List Nat := if l.length = 0 then [45] else TL.joinL [59] (l.map fmtNd)
def words (r : Rc) : List (List Nat) := [TL.joinL [44] r.outs, TL.numL r.key, fmtNds r.needs, TL.joinL [44] (r.res.map TL.numL)]
def fmtRc (r : Rc) : List Nat := TL.joinL [32] (words r)
/-- a record that lies in the heap -/
def fldR (o : Addr) (k : Nat) (t q : Addr) : List (Str × V) := putF "results" (.ref q) (putF "needs" (.ref t) (putF "rule_key" (.int (k : Int)) (putF "outputs" (.ref o) [])))
structure RcO (C : Addr) (H : Hp) (p : Addr) (r : Rc) : Prop where
  ex : ∃ (dx o t q : Addr) (as : List Addr), H p = some (.ins C dx (fldR o r.key t q)) ∧ H o = some (.tup (strsV r.outs)) ∧ H t = some (.tup (as.map V.ref)) ∧ Paired (fun a y => H a = some (.tup y)) as (r.needs.map ndD) ∧ H q = some (.tup (r.res.map fun n : Nat => V.int (n : Int)))
theorem RcO.mono {C : Addr} {H H1 : Hp} {p : Addr} {r : Rc} (h : RcO C H p r) (e : Ex H H1) : RcO C H1 p r := by
  obtain ⟨dx, o, t, q, as, h1, h2, h3, h4, h5⟩ := h.ex
  exact ⟨dx, o, t, q, as, e _ _ h1, e _ _ h2, e _ _ h3, Paired.mapP h4 fun _ _ z => e _ _ z, e _ _ h5⟩
/-- what reading a line comes to -/
def isNum (l : List Nat) : Bool := decide ((l.length : Int) ≤ 4000) && (Txt.isascii (S l) && (Txt.isdigit (S l) && !decide (l[0]? = some 48)))
def numOrNot (l : List Nat) : Bool := decide (l = [45]) || isNum l
def NS : List Nat := (Str.ofString "abcdefghijklmnopqrstuvwxyz0123456789_.").cps.toList
def IS : List Nat := (Str.ofString "abcdefghijklmnopqrstuvwxyz0123456789_").cps.toList
def LS : List Nat := (Str.ofString "abcdefghijklmnopqrstuvwxyz").cps.toList
def nameOk (G n : List Nat) : Bool := !(!(decide (1 ≤ (n.length : Int)) && decide ((n.length : Int) ≤ 12)) || decide (n[0]? = some 46)) && n.all fun c => decide (c ∈ G)
def pathOk (l : List Nat) : Bool := decide (((cut1 47 l).length : Int) ≤ 4) && (cut1 47 l).all (nameOk NS)
def patOk (l : List Nat) : Bool := decide (cnt 42 l = 1) && pathOk (l.map fun e => if e = 42 then 97 else e)
def npOk (l : List Nat) : Bool := !decide (47 ∈ l) && patOk l
def idOk (l : List Nat) : Bool := !(!(decide (1 ≤ (l.length : Int)) && decide ((l.length : Int) ≤ 12)) || !decide (l.getD 0 0 ∈ LS)) && l.all fun c => decide (c ∈ IS)
def folderOk (l : List Nat) : Bool := decide (l = []) || pathOk l
def fileL : List Nat := (Str.ofString "file").cps.toList
def hasL : List Nat := (Str.ofString "has").cps.toList
def lstL : List Nat := (Str.ofString "listing").cps.toList
def setL : List Nat := (Str.ofString "setting").cps.toList
def lnkL : List Nat := (Str.ofString "link").cps.toList
def needK (kind x y seen : List Nat) (n : Nat) : Bool :=
  if kind = lstL then decide (n = 4) && (folderOk x && (npOk y && isNum seen))
  else if n ≠ 3 then false
  else if kind = setL then idOk x && numOrNot seen
  else if kind = hasL then pathOk x && (decide (seen = yesL) || decide (seen = nooL))
  else (decide (kind = fileL) || decide (kind = lnkL)) && (pathOk x && numOrNot seen)
def needI (it : List (List Nat)) : Bool := needK (it.getD 0 []) (it.getD 1 []) (it.getD 2 []) (it.getD (it.length - 1) []) it.length
def needOk (w : List Nat) : Bool := needI (cut1 58 w)
def quest (w : List Nat) : Str := (Txt.rpartition (S w) (S [58])).1
def outsOk (ws : List (List Nat)) : Bool := decide (ws.length ≤ 3) && ws.all pathOk
def needsOk (ws : List (List Nat)) : Bool := decide (ws.length ≤ 60) && ws.all needOk
def readSn (w : List Nat) : Sn := if w = [45] then .no else if w = yesL then .b true else if w = nooL then .b false else .k (NumText.digitsVal w)
def readNd (w : List Nat) : Nd := ⟨(cut1 58 w).dropLast, readSn ((cut1 58 w).getLastD [])⟩
end Kn.Rp
/-! ### what is written is read back -/
namespace Kn.Rp
open PySem PySem.Spec PyProof.Rows L2 Evl SX Kn
theorem cut_join {c : Nat} {ps : List (List Nat)} (h : ps ≠ []) (h2 : ∀ p ∈ ps, c ∉ p) : cut1 c (TL.joinL [c] ps) = ps := TL.spl_join h h2
theorem dig_small : ∀ c, c < 128 → (Unicode.isDigit c = true ↔ (48 ≤ c ∧ c ≤ 57)) := by decide +kernel
theorem num_digits {l : List Nat} (h : NumText.AllDigits l) (hne : l ≠ []) : Txt.isascii (S l) = true ∧ Txt.isdigit (S l) = true := by
  have e1 : Txt.isascii (S l) = l.all (fun c => decide (c < 128)) := by
    unfold Txt.isascii
    show (l.toArray).all _ = _
    simp
  have e2 : Txt.isdigit (S l) = (decide (l.length > 0) && l.all Unicode.isDigit) := by
    unfold Txt.isdigit
    rw [S_len]
    show (decide (l.length > 0) && (l.toArray).all _) = _
    simp
  refine ⟨?_, ?_⟩
  · rw [e1, List.all_eq_true]
    intro c hc
    have := h c hc
    exact decide_eq_true (by omega)
  · rw [e2, Bool.and_eq_true, decide_eq_true_eq, List.all_eq_true]
    refine ⟨List.length_pos_iff.mpr hne, fun c hc => ?_⟩
    have := h c hc
    exact (dig_small c (by omega)).mpr this
theorem num_head : ∀ (k n : Nat), n < 10 ^ k → 0 < n → ∃ c r, TL.numL n = c :: r ∧ c ≠ 48
  | 0, n, h, h0 => absurd h (by rw [Nat.pow_zero]; omega)
  | k + 1, n, h, h0 => by
    by_cases h10 : n < 10
    · exact ⟨_, _, TL.numL_lt h10, by omega⟩
    · obtain ⟨c, r, e, hc⟩ := num_head k (n / 10) (by rw [Nat.pow_succ] at h; omega) (by omega)
      exact ⟨c, r ++ [48 + n % 10], by rw [TL.numL_step (by omega), e]; rfl, hc⟩
def GK (n : Nat) : Prop := 0 < n ∧ n < 2 ^ 1900
theorem GK.ten {n : Nat} (h : GK n) : n < 10 ^ 600 := Nat.lt_trans h.2 (by decide +kernel)
theorem GK.len {n : Nat} (h : GK n) : (TL.numL n).length ≤ 600 := TL.numL_len (by decide) h.ten
theorem GK.num {n : Nat} (h : GK n) : isNum (TL.numL n) = true := by
  obtain ⟨c, r, e, hc⟩ := num_head 600 n h.ten h.1
  have hd := num_digits (TL.numL_digits n) (TL.numL_ne n)
  have hl := h.len
  unfold isNum
  rw [hd.1, hd.2, decide_eq_true (by omega), e]
  simp [hc]
theorem intS {l : List Nat} (h : NumText.AllDigits l) (hne : l ≠ []) (hl : l.length ≤ 640) : PySem.intText? (S l) = some ((NumText.digitsVal l : Nat) : Int) :=
  PySem.intText_digits (x := S l) h hne (by rw [S_len]; omega)
def GSn : Sn → Prop
  | .no => True
  | .b _ => True
  | .k n => GK n
theorem sn_free {s : Sn} (h : GSn s) {c : Nat} (hc : c = 58 ∨ c = 59 ∨ c = 32 ∨ c = 44) : c ∉ fmtSn s := by
  cases s with
  | no => rcases hc with rfl | rfl | rfl | rfl <;> decide
  | b x => cases x <;> rcases hc with rfl | rfl | rfl | rfl <;> decide
  | k n => exact TL.numL_free (by omega)
theorem num_not {n : Nat} {l : List Nat} (h : ∃ c ∈ l, c < 48 ∨ 57 < c) : TL.numL n ≠ l := fun e => by
  obtain ⟨c, hc, hh⟩ := h
  rw [← e] at hc
  exact TL.numL_free hh hc
theorem sn_read {s : Sn} (h : GSn s) : readSn (fmtSn s) = s := by
  cases s with
  | no => rfl
  | b x => cases x <;> rfl
  | k n =>
    show readSn (TL.numL n) = _
    unfold readSn
    rw [if_neg (num_not ⟨45, by decide, by decide⟩), if_neg (num_not ⟨121, by decide, by decide⟩), if_neg (num_not ⟨110, by decide, by decide⟩), TL.numL_val]
theorem sn_kn {s : Sn} (h : GSn s) (hb : ∀ b, s ≠ .b b) : numOrNot (fmtSn s) = true := by
  unfold numOrNot
  cases s with
  | no => rfl
  | b x => exact absurd rfl (hb x)
  | k n =>
    show (_ || isNum (TL.numL n)) = true
    rw [GK.num h, Bool.or_true]
/-- a word of a need: without the signs that part needs -/
def WOk (w : List Nat) : Prop := 58 ∉ w ∧ 59 ∉ w ∧ 32 ∉ w ∧ 44 ∉ w
inductive GNd : Nd → Prop
  | file {p : List Nat} {s : Sn} : pathOk p = true → WOk p → GSn s → (∀ b, s ≠ .b b) → GNd ⟨[fileL, p], s⟩
  | has {p : List Nat} {b : Bool} : pathOk p = true → WOk p → GNd ⟨[hasL, p], .b b⟩
  | lst {f p : List Nat} {n : Nat} : folderOk f = true → npOk p = true → WOk f → WOk p → GK n → GNd ⟨[lstL, f, p], .k n⟩
  | set {p : List Nat} {s : Sn} : idOk p = true → WOk p → GSn s → (∀ b, s ≠ .b b) → GNd ⟨[setL, p], s⟩
  | lnk {p : List Nat} {s : Sn} : pathOk p = true → WOk p → GSn s → (∀ b, s ≠ .b b) → GNd ⟨[lnkL, p], s⟩
theorem kinds_ok : WOk fileL ∧ WOk hasL ∧ WOk lstL ∧ WOk setL ∧ WOk lnkL := by unfold WOk; decide +kernel
theorem GNd.sn {d : Nd} (h : GNd d) : GSn d.sn := by
  cases h <;> first | assumption | exact trivial
theorem GNd.ws {d : Nd} (h : GNd d) : d.ws ≠ [] ∧ ∀ w ∈ d.ws, WOk w := by
  obtain ⟨k1, k2, k3, k4, k5⟩ := kinds_ok
  cases h with
  | file h1 h2 h3 h4 => exact ⟨by simp, fun w hw => by rcases List.mem_cons.mp hw with rfl | hw; exact k1; rcases List.mem_cons.mp hw with rfl | hw; exact h2; cases hw⟩
  | has h1 h2 => exact ⟨by simp, fun w hw => by rcases List.mem_cons.mp hw with rfl | hw; exact k2; rcases List.mem_cons.mp hw with rfl | hw; exact h2; cases hw⟩
  | lst h1 h2 h3 h4 h5 => exact ⟨by simp, fun w hw => by rcases List.mem_cons.mp hw with rfl | hw; exact k3; rcases List.mem_cons.mp hw with rfl | hw; exact h3; rcases List.mem_cons.mp hw with rfl | hw; exact h4; cases hw⟩
  | set h1 h2 h3 h4 => exact ⟨by simp, fun w hw => by rcases List.mem_cons.mp hw with rfl | hw; exact k4; rcases List.mem_cons.mp hw with rfl | hw; exact h2; cases hw⟩
  | lnk h1 h2 h3 h4 => exact ⟨by simp, fun w hw => by rcases List.mem_cons.mp hw with rfl | hw; exact k5; rcases List.mem_cons.mp hw with rfl | hw; exact h2; cases hw⟩
theorem GNd.items {d : Nd} (h : GNd d) {w : List Nat} (hw : w ∈ d.ws ++ [fmtSn d.sn]) {c : Nat} (hc : c = 58 ∨ c = 59 ∨ c = 32 ∨ c = 44) : c ∉ w := by
  rcases List.mem_append.mp hw with z | z
  · obtain ⟨h1, h2, h3, h4⟩ := h.ws.2 w z
    rcases hc with rfl | rfl | rfl | rfl
    · exact h1
    · exact h2
    · exact h3
    · exact h4
  · rw [List.mem_singleton.mp z]
    exact sn_free h.sn hc
theorem join_free {s c : Nat} (hs : s ≠ c) : ∀ {ps : List (List Nat)}, (∀ p ∈ ps, c ∉ p) → c ∉ TL.joinL [s] ps
  | [], _ => by simp [TL.joinL]
  | [p], h => by
    show c ∉ p
    exact h p List.mem_cons_self
  | p :: q :: r, h => by
    show c ∉ p ++ ([s] ++ TL.joinL [s] (q :: r))
    simp only [List.mem_append, List.mem_singleton, not_or]
    exact ⟨h p List.mem_cons_self, fun z => hs z.symm, join_free hs fun x hx => h x (List.mem_cons_of_mem _ hx)⟩
theorem GNd.free {d : Nd} (h : GNd d) {c : Nat} (hc : c = 59 ∨ c = 32 ∨ c = 44) : c ∉ fmtNd d := join_free (by omega) fun p hp => h.items hp (by omega)
theorem GNd.cut {d : Nd} (h : GNd d) : cut1 58 (fmtNd d) = d.ws ++ [fmtSn d.sn] := cut_join (by simp) fun p hp => h.items hp (.inl rfl)
theorem GNd.read {d : Nd} (h : GNd d) : readNd (fmtNd d) = d := by
  unfold readNd
  rw [h.cut, List.dropLast_concat]
  have e : (d.ws ++ [fmtSn d.sn]).getLastD [] = fmtSn d.sn := by simp
  rw [e, sn_read h.sn]
theorem GNd.need {d : Nd} (h : GNd d) : needOk (fmtNd d) = true := by
  unfold needOk
  rw [h.cut]
  cases h with
  | @file p s h1 h2 h3 h4 =>
    show needK fileL p (fmtSn s) (fmtSn s) 3 = true
    unfold needK
    rw [if_neg (by decide +kernel), if_neg (by simp), if_neg (by decide +kernel), if_neg (by decide +kernel)]
    show ((decide (fileL = fileL) || _) && (pathOk p && numOrNot (fmtSn s))) = true
    rw [decide_eq_true rfl, h1, sn_kn h3 h4]
    rfl
  | @has p b h1 h2 =>
    show needK hasL p (fmtSn (.b b)) (fmtSn (.b b)) 3 = true
    unfold needK
    rw [if_neg (by decide +kernel), if_neg (by simp), if_neg (by decide +kernel), if_pos rfl]
    show (pathOk p && (decide (fmtSn (.b b) = yesL) || decide (fmtSn (.b b) = nooL))) = true
    rw [h1]
    cases b <;> rfl
  | @lst f p n h1 h2 h3 h4 h5 =>
    show needK lstL f p (TL.numL n) 4 = true
    unfold needK
    rw [if_pos rfl]
    show (decide (4 = 4) && (folderOk f && (npOk p && isNum (TL.numL n)))) = true
    rw [h1, h2, GK.num h5]
    rfl
  | @set p s h1 h2 h3 h4 =>
    show needK setL p (fmtSn s) (fmtSn s) 3 = true
    unfold needK
    rw [if_neg (by decide +kernel), if_neg (by simp), if_pos rfl]
    show (idOk p && numOrNot (fmtSn s)) = true
    rw [h1, sn_kn h3 h4]
    rfl
  | @lnk p s h1 h2 h3 h4 =>
    show needK lnkL p (fmtSn s) (fmtSn s) 3 = true
    unfold needK
    rw [if_neg (by decide +kernel), if_neg (by simp), if_neg (by decide +kernel), if_neg (by decide +kernel)]
    show ((decide (lnkL = fileL) || decide (lnkL = lnkL)) && (pathOk p && numOrNot (fmtSn s))) = true
    rw [decide_eq_true (rfl : lnkL = lnkL), h1, sn_kn h3 h4, Bool.or_true]
    rfl
def questL (w : List Nat) : List Nat := TL.tl (Txt.rpartition (S w) (S [58])).1
theorem GNd.quest {d : Nd} (h : GNd d) : questL (fmtNd d) = TL.joinL [58] d.ws := by
  have e : fmtNd d = TL.joinL [58] d.ws ++ 58 :: fmtSn d.sn := by
    unfold fmtNd
    rw [joinL_snoc _ _ h.ws.1]
    rfl
  unfold questL
  rw [e, rpart_some (sn_free h.sn (.inl rfl))]
structure GRc (r : Rc) : Prop where
  o1 : r.outs ≠ []
  o3 : r.outs.length ≤ 3
  on : r.outs.Nodup
  op : ∀ o ∈ r.outs, pathOk o = true ∧ 44 ∉ o ∧ 32 ∉ o
  kk : GK r.key
  n60 : r.needs.length ≤ 60
  nn : (r.needs.map fun d => TL.joinL [58] d.ws).Nodup
  nd : ∀ d ∈ r.needs, GNd d
  rl : r.res.length = r.outs.length
  rk : ∀ n ∈ r.res, GK n
theorem GRc.words {r : Rc} (g : GRc r) : cut1 32 (fmtRc r) = Kn.Rp.words r := by
  refine cut_join (by simp [Kn.Rp.words]) fun p hp => ?_
  have hn : ∀ n, 32 ∉ TL.numL n := fun n => TL.numL_free (by omega)
  simp only [Kn.Rp.words, List.mem_cons, List.not_mem_nil, or_false] at hp
  rcases hp with rfl | rfl | rfl | rfl
  · exact join_free (by decide) fun o ho => (g.op o ho).2.2
  · exact hn _
  · unfold fmtNds
    split
    · decide
    · refine join_free (by decide) fun p hp => ?_
      obtain ⟨d, hd, rfl⟩ := List.mem_map.mp hp
      exact (g.nd d hd).free (.inr (.inl rfl))
  · refine join_free (by decide) fun p hp => ?_
    obtain ⟨n, _, rfl⟩ := List.mem_map.mp hp
    exact hn n
theorem GRc.outs {r : Rc} (g : GRc r) : cut1 44 (TL.joinL [44] r.outs) = r.outs := cut_join g.o1 fun o ho => (g.op o ho).2.1
theorem GRc.res {r : Rc} (g : GRc r) : cut1 44 (TL.joinL [44] (r.res.map TL.numL)) = r.res.map TL.numL := by
  refine cut_join ?_ fun p hp => ?_
  · intro z
    have h1 := congrArg List.length z
    rw [List.length_map, g.rl] at h1
    exact g.o1 (List.length_eq_zero_iff.mp h1)
  · obtain ⟨n, _, rfl⟩ := List.mem_map.mp hp
    exact TL.numL_free (by omega)
/-- the words of the needs -/
def needW (w : List Nat) : List (List Nat) := if w = [45] then [] else cut1 59 w
theorem nd_not {d : Nd} (h : GNd d) : fmtNd d ≠ [45] := fun e => by
  have h1 := h.cut
  rw [e] at h1
  have h2 : cut1 58 [45] = [[45]] := by decide +kernel
  rw [h2] at h1
  have hl := congrArg List.length h1
  rw [List.length_append] at hl
  have h3 := List.length_pos_iff.mpr h.ws.1
  have hl2 : 1 = d.ws.length + 1 := hl
  omega
theorem GRc.needs {r : Rc} (g : GRc r) : needW (fmtNds r.needs) = r.needs.map fmtNd := by
  unfold needW fmtNds
  by_cases h0 : r.needs.length = 0
  · rw [if_pos h0, if_pos rfl, List.length_eq_zero_iff.mp h0]
    rfl
  · rw [if_neg h0]
    have hne : r.needs.map fmtNd ≠ [] := fun z => h0 (by have := congrArg List.length z; simpa using this)
    have hc : cut1 59 (TL.joinL [59] (r.needs.map fmtNd)) = r.needs.map fmtNd := cut_join hne fun p hp => by
      obtain ⟨d, hd, rfl⟩ := List.mem_map.mp hp
      exact (g.nd d hd).free (.inl rfl)
    rw [if_neg, hc]
    intro e
    rw [e] at hc
    have h2 : cut1 59 [45] = [[45]] := by decide +kernel
    rw [h2] at hc
    have hm : [45] ∈ r.needs.map fmtNd := by rw [← hc]; exact List.mem_singleton.mpr rfl
    obtain ⟨d, hd, z⟩ := List.mem_map.mp hm
    exact nd_not (g.nd d hd) z
end Kn.Rp

/-! ### the records that the laws draw -/
namespace Kn.Rp
open PySem PySem.Spec PyProof.Rows L2 Evl SX Kn
def L37 : List Nat := (Str.ofString "abcdefghijklmnopqrstuvwxyz0123456789_").cps.toList
def nameN (n k : Nat) : List Nat := [L37.getD ((n + 7 * k) % 26) 0] ++ [L37.getD ((n / 3 + k) % 37) 0] ++ TL.numL (n % 97)
def pathN (n : Nat) : List Nat := TL.joinL [47] ((List.range (1 + n % 3)).map (nameN n))
def partsL : List (List Nat) := [[], [97], [10], [120, 32, 121], [126], [48], [114, 117, 108, 101, 115], [92], [92, 110]]
def textN (n : Nat) : List Nat := partsL.getD (n % 9) [] ++ TL.numL (n / 9 % 50)
def snN (n k : Nat) : Sn := if n % 5 = 0 then .no else .k (key (textN (n + k)))
def needN (n k : Nat) : Nd :=
  if n / 5 % 5 = 0 then ⟨[fileL, pathN n ++ TL.numL k], snN n k⟩
  else if n / 5 % 5 = 1 then ⟨[hasL, pathN n ++ TL.numL k], .b (decide (n % 2 = 0))⟩
  else if n / 5 % 5 = 2 then ⟨[lstL, [[], pathN n].getD (n % 2) [], [97, 42] ++ TL.numL k], .k (key (textN n))⟩
  else if n / 5 % 5 = 3 then ⟨[setL, [115] ++ TL.numL k], snN n k⟩
  else ⟨[lnkL, pathN n ++ TL.numL k], snN n k⟩
def outN (j k : Nat) : List Nat := [111, 117, 116] ++ TL.numL j ++ [120] ++ TL.numL k
def ruleN (m : Nat) : List Nat := [114, 117, 108, 101, 32] ++ TL.numL (m % 2)
def recN (ns : List Nat) (j : Nat) : Rc :=
  ⟨(List.range (1 + j % 3)).map (outN j), key (ruleN (ns.getD 11 0)), (List.range (ns.getD 0 0 % 5)).map fun k => needN (ns.getD (1 + k) 0) k, (List.range (1 + j % 3)).map fun k => key (textN (ns.getD (7 + k) 0))⟩
def wokB (w : List Nat) : Bool := w.all fun c => decide (c < 128) && !(decide (c = 58) || decide (c = 59) || decide (c = 32) || decide (c = 44))
theorem text_ok : ∀ n < 1005, (decide (key (textN n) < 10 ^ 17) && (textN n).all fun c => decide (c < 128)) = true := by decide +kernel
end Kn.Rp

/-! ### len(set(xs)) of any texts -/
namespace Kn.Sets
open PySem PySem.Spec PyProof.Rows
/-- how many are in behind i turns -/
def Cnt (xs : List Str) (i m : Nat) : Prop := m ≤ i ∧ (m = i ↔ (xs.take i).Nodup)
section
variable {prog : Program} {w : World} {A : Around}
end

/-- the texts are in the set at the end of h; h' keeps what was in h -/
def FullG (prog : Program) (w : World) (h : Heap) (xs : List Str) (m : Nat) (h' : Heap) : Prop := h'.SetOf (PySem.strKind prog w) h.objs.size (seen xs xs.length) m ∧ Cnt xs xs.length m ∧ ∀ b o, b < h.objs.size → h.get? b = some o → h'.get? b = some o
section
variable {prog : Program} {w : World} {A : Around} {E : Value → Shared → Prop} {s : Shared}
end
end Kn.Sets
namespace Kn
open PySem PySem.Spec PyProof.Rows L2 Evl SX
section
variable {X : Cx}
/-- len(set(xs)), xs a list of texts -/
def tLenSetG (K : PySem.W.Frag) (ta : TE) : TE := fun σ H Q => ta σ H fun x H1 => ∃ (l : Addr) (xs : List Str), x = .ref l ∧ SqL K H1 l (xs.map V.str) ∧ xs.length ≤ 4000 ∧ ∀ m, Sets.Cnt xs xs.length m → Q (.int m) H1
end
end Kn

/-! Kq: sorted(set(xs)) of texts. -/
namespace Kn.SetsT
open PySem PySem.Spec PyProof.Rows L2 PySem.Froz
section
variable {P : Program} {w : World} {A : Around} {E : Value → Shared → Prop} {s : Shared}
/-- a set of the texts l, each once, with what its walk wants -/
structure TxR (P : Program) (w : World) (h : Heap) (a : Addr) (l : List Str) : Prop where
  ex : ∃ (es : Array (Int × Value)) (ep : Nat) (t : SetTable), h.get? a = some (sObj "set" (es, ep, t)) ∧ TxOk P w (es, ep, t) l ∧ Ris t.place.toList ∧ (w.params.followText "set-order" = true ∨ t.led = true) ∧ (es.toList.map fun e => PyProof.Rows.strOf e.2).Perm l
theorem TxR.at {h h' : Heap} {a : Addr} {l : List Str} (R : TxR P w h a l) (k : ∀ o, h.get? a = some o → h'.get? a = some o) : TxR P w h' a l := by
  obtain ⟨es, ep, t, h1, h2⟩ := R.ex
  exact ⟨es, ep, t, k _ h1, h2⟩
/-- what the set has behind i turns -/
def Got (xs : List Str) (i : Nat) (l : List Str) : Prop := l.Nodup ∧ (∀ z, z ∈ l ↔ z ∈ xs.take i) ∧ l.length ≤ i
end
section
variable {prog : Program} {w : World} {A : Around}
end
section
variable {P : Program} {prog : Program} {w : World} {A : Around} {E : Value → Shared → Prop} {s : Shared}
def FullT (prog : Program) (w : World) (h : Heap) (xs : List Str) (l : List Str) (h' : Heap) : Prop := TxR prog w h' h.objs.size l ∧ Got xs xs.length l ∧ ∀ b o, b < h.objs.size → h.get? b = some o → h'.get? b = some o
end
end Kn.SetsT
namespace Kn
open PySem PySem.Spec PyProof.Rows L2 Evl SX
section
variable {X : Cx}
/-- sorted(set(xs)), xs a list of fewer than 64 texts -/
def tSortSetT (K : PySem.W.Frag) (ta : TE) : TE := fun σ H Q => ta σ H fun x H1 => ∃ (l : Addr) (xs : List Str), x = .ref l ∧ SqL K H1 l (xs.map V.str) ∧ xs.length < 64 ∧
  ∀ (ys : List Str) (p : Addr), ys.Nodup → (∀ z, z ∈ ys ↔ z ∈ xs) → ys.length ≤ xs.length → sortedS ys = true → H1 p = none → Q (.ref p) (L2.upd H1 p (.lst (ys.map V.str)))
end
end Kn

/-! Kg: dicts with text keys that may be locked, sorted texts, pop, dict comprehensions, graphs. -/
namespace Kn
open PySem PySem.Spec PyProof.Rows L2 Evl SX
/-! ### sorted texts -/
theorem pw_rising : ∀ (r : List Str) (x : Str), List.Pairwise leS (x :: r) → risingS x r = true
  | [], _, _ => rfl
  | y :: r, x, h => by
    obtain ⟨h1, h2⟩ := List.pairwise_cons.mp h
    show (!ltCps y.cps.toList x.cps.toList && risingS y r) = true
    rw [pw_rising r y h2, Bool.and_true, PyProof.Rows.ltCps_eq]
    have hle : x.cps.toList ≤ y.cps.toList := h1 y List.mem_cons_self
    rw [Bool.not_eq_true', decide_eq_false_iff_not]
    exact fun z => hle z
theorem pw_sorted {l : List Str} (h : List.Pairwise leS l) : sortedS l = true := by
  cases l with
  | nil => rfl
  | cons x r => exact pw_rising r x h
/-- a rising list without repetitions of just these texts -/
structure Srt (ys : List Str) (p : Str → Prop) : Prop where
  s : sortedS ys = true
  n : ys.Nodup
  m : ∀ x, x ∈ ys ↔ p x
theorem Srt.filter {ys : List Str} {p : Str → Prop} (a : Srt ys p) (f : Str → Bool) : Srt (ys.filter f) (fun x => p x ∧ f x = true) :=
  ⟨pw_sorted ((sorted_pw a.s).sublist List.filter_sublist), a.n.sublist List.filter_sublist, fun x => by rw [List.mem_filter, a.m x]⟩
theorem Srt.of {ks ys : List Str} {p : Str → Prop} (hn : ks.Nodup) (hm : ∀ x, x ∈ ks ↔ p x) (h : ys.Perm ks) (hs : sortedS ys = true) : Srt ys p :=
  ⟨hs, h.nodup_iff.mpr hn, fun x => h.mem_iff.trans (hm x)⟩
theorem leS_total (a b : Str) : leS a b ∨ leS b a := List.le_total _ _
theorem srt_ex (ks : List Str) : ∃ ys : List Str, ys.Perm ks ∧ sortedS ys = true := by
  have hp := List.pairwise_mergeSort (le := fun a b : Str => decide (a.cps.toList ≤ b.cps.toList)) (fun a b c h1 h2 => decide_eq_true (List.le_trans (of_decide_eq_true h1) (of_decide_eq_true h2))) (fun a b => by
      rcases leS_total a b with h | h
      · have h' : a.cps.toList ≤ b.cps.toList := h
        rw [Bool.or_eq_true]
        exact .inl (decide_eq_true h')
      · have h' : b.cps.toList ≤ a.cps.toList := h
        rw [Bool.or_eq_true]
        exact .inr (decide_eq_true h')) ks
  exact ⟨_, List.mergeSort_perm _ _, pw_sorted (hp.imp fun {a b} h => of_decide_eq_true (p := a.cps.toList ≤ b.cps.toList) h)⟩
noncomputable def srtS (ks : List Str) : List Str := Classical.choose (srt_ex ks)
theorem srt_perm (ks : List Str) : (srtS ks).Perm ks := (Classical.choose_spec (srt_ex ks)).1
theorem srt_s (ks : List Str) : sortedS (srtS ks) = true := (Classical.choose_spec (srt_ex ks)).2
theorem Srt.srt {ks : List Str} {p : Str → Prop} (hn : ks.Nodup) (hm : ∀ x, x ∈ ks ↔ p x) : Srt (srtS ks) p := Srt.of hn hm (srt_perm ks) (srt_s ks)
/-! ### dicts, locked or not -/
section
variable {K : PySem.W.Frag} {σ : L2.St} {H H' : Hp} {ta tb td ty te tc tv tx tf : TE} {t u : TT} {x y z v : V} {D : Ends} {tu tw tz : TS} {d p : Addr} {kvs : List (Key × V)} {k : Str}
theorem s_dputS (hv : Ev tv σ H v) (h1 : ∀ H1, Ex H H1 → Ev td σ H1 (.ref d)) (h2 : ∀ H1, Ex H H1 → Ev ty σ H1 (.str k)) (hd : H d = some (.dK kvs)) (hl : kvs.length < 100000) (q : ∀ H1, Ex H H1 → D.nx σ (upd H1 d (.dK (putK kvs (Sum.inr k) v)))) : sDPut td ty tv D σ H :=
  hv H (Ex.refl H) _ fun H1 e1 => h1 H1 e1 H1 (Ex.refl H1) _ fun H2 e2 => h2 H2 (e1.trans e2) H2 (Ex.refl H2) _ fun H3 e3 => ⟨d, _, rfl, DPut.k (k := (Sum.inr k : Key)) (((e1.trans e2).trans e3) _ _ hd) (sz_lt hl), q H3 ((e1.trans e2).trans e3)⟩
theorem q_dputS (hv : Ev tv σ H v) (h1 : ∀ H1, Ex H H1 → Ev td σ H1 (.ref d)) (h2 : ∀ H1, Ex H H1 → Ev ty σ H1 (.str k)) (hd : H d = some (.dK kvs)) (hl : kvs.length < 100000) (q : ∀ H1, Ex H H1 → tz D σ (upd H1 d (.dK (putK kvs (Sum.inr k) v)))) : tSeq (sDPut td ty tv) tz D σ H :=
  s_dputS (D := { D with nx := tz D }) hv h1 h2 hd hl q
def rSortL (K : PySem.W.Frag) : List V → Hp → VK → Prop := fun vs H Q => ∃ (a : Addr) (xs : List Str), vs = [V.ref a] ∧ SqL K H a (xs.map V.str) ∧ xs.length < 64 ∧ ∀ (ys : List Str) (p : Addr), ys.Perm xs → sortedS ys = true → H p = none → Q (.ref p) (upd H p (.lst (ys.map V.str)))
end
/-! ### comprehensions whose elements are new objects -/
/-- H5 has what H4 has of the base H, and what is new behind H1 -/
def Sub5 (H H1 H4 H5 : Hp) : Prop := ∀ a o, H4 a = some o → (H a = some o ∨ H1 a = none) → H5 a = some o
def EvF (te : TE) (σ : L2.St) (B H : Hp) (P : V → Hp → Prop) : Prop := ∀ H1, Ex H H1 → ∀ Q : VK, (∀ v H4, Ex H1 H4 → (∀ H5, Sub5 B H1 H4 H5 → P v H5) → Q v H4) → te σ H1 Q
/-- the heap without d -/
def less (H : Hp) (d : Addr) : Hp := fun a => if a = d then none else H a
def Mo (P : Nat → V → Hp → Prop) : Prop := ∀ i v H1 H2, Ex H1 H2 → P i v H1 → P i v H2
section
variable {K : PySem.W.Frag} {σ : L2.St} {H H' : Hp} {ta tb td ty te tc tv tx tf tk tl : TE} {D : Ends} {d p : Addr} {kvs : List (Key × V)} {P : Nat → V → Hp → Prop}
end
/-- what stands at t is the pair (key, w) -/
def PairAt (key : Nat → Key) (R : Nat → V → Hp → Prop) (i : Nat) (v : V) (H : Hp) : Prop := ∃ t w, v = .ref t ∧ H t = some (.tup [kV (key i), w]) ∧ R i w H
end Kn
/-! ### sorted(d, reverse=True), keys all texts -/
namespace SrtO
open PySem PyProof.Rows Srt
section
variable {prog : Program} {w : World} {A : Around} {E : Value → Shared → Prop} {s : Shared}
def svS : Value → PySem.Str
  | .str x _ => x
  | _ => PySem.Str.empty
def ltSvS (v u : Value) : Bool := decide ((svS v).cps.toList < (svS u).cps.toList)
end
end SrtO
namespace Kn
open PySem PySem.Spec PyProof.Rows L2 Evl SX
def rSortRevD (K : PySem.W.Frag) : List V → List V → Hp → VK → Prop := fun xs zs H Q => ∃ (a : Addr) (kvs : List (Key × V)) (ks : List Str), xs = [.ref a] ∧ zs = [.bl true] ∧ Rd H a (.dK kvs) ∧ kvs.map (·.1) = ks.map Sum.inr ∧ ks.length ≤ 100000 ∧ ∀ (ys : List Str) (p : Addr), ys.Perm ks → H p = none → Q (.ref p) (L2.upd H p (.lst (ys.map V.str)))
end Kn
/-! ### comprehensions over texts, with a test -/
namespace Kn
open PySem PySem.Spec PyProof.Rows L2 Evl SX
section
variable {K : PySem.W.Frag} {σ : L2.St} {H H' : Hp} {te tl : TE} {t : TT} {a : Addr} {j : Nat} {vs : List Nat}
end
end Kn
namespace Kn
open PySem PySem.Spec PyProof.Rows L2 Evl SX
def rLenDR : List V → Hp → VK → Prop := fun xs H Q => ∃ d kvs, xs = [.ref d] ∧ Rd H d (.dK kvs) ∧ Q (.int kvs.length) H
end Kn
namespace Kn
open PySem PySem.Spec PyProof.Rows L2 Evl SX
end Kn
namespace Kn
open PySem PySem.Spec PyProof.Rows L2 Evl SX
section
variable {K : PySem.W.Frag} {σ : L2.St} {H H' : Hp} {td te tl : TE} {D : Ends} {tz tu : TS} {d p : Addr} {kvs : List (Key × V)}
/-- the source of a comprehension first -/
theorem lc_first {g : TG} {tt : TT} {vs : List Nat} {Q : VK} (h : tl σ H fun v H1 => tLc (iList K (tC v)) g tt te vs σ H1 Q) : tLc (iList K tl) g tt te vs σ H Q := h
end
end Kn
namespace Kn
open PySem PySem.Spec PyProof.Rows L2 Evl SX
end Kn
namespace Kn
open PySem PySem.Spec PyProof.Rows L2 Evl SX
end Kn
namespace Kn
open PySem PySem.Spec PyProof.Rows L2 Evl SX
end Kn

/-! Kh: == of tuples that hold lists and dicts, list.remove of texts, max with a default. -/
namespace PySem.SeqAt
open PySem PySem.Builtin
section
variable {prog : Program} {w : World}
/-- two tuples of the same length whose items are equal, pair by pair -/
theorem kh_tupEq (p q : Addr) (xs ys : Array Value) (m m2 : Nat) (dp dq : Option Addr) (sp sq : Array (Option Value)) (hlen : xs.size = ys.size) :
    MeetsIn prog w (Builtin.«tuple.__eq__» ⟨[.ref p, .ref q], []⟩) (fun A R s => s.heap.get? p = some { cls := .type "tuple", dict := dp, data := .seq xs m, slots := sp } ∧
      s.heap.get? q = some { cls := .type "tuple", dict := dq, data := .seq ys m2, slots := sq } ∧ (∀ (j : Nat) (hx : j < xs.size) (hy : j < ys.size), EqP prog w A.in1 s xs[j] ys[j] true) ∧ R (.ok (.ret (.bool true))) s) := by
  intro A R s h
  obtain ⟨hp, g, d, tk, os⟩ := s
  obtain ⟨h1, h2, he, hR⟩ := h
  have f2 := AutoSeq1.sub_tuple_tuple
  have hz : (xs.toList.zip ys.toList).length = xs.size := by simp [hlen]
  wp_walk using wpAny_loadPart' h1, wpAny_loadPart' h2, wpAny_forIn_list _ (fun rest b s' => b.1 = none ∧ s' = ⟨hp, g, d, tk, os⟩ ∧ ∃ i, rest = (xs.toList.zip ys.toList).drop i) _
  case turn =>
    rintro ⟨v, u⟩ rest b s' ⟨hb', rfl, i, hd⟩
    have hi : i < (xs.toList.zip ys.toList).length := by
      rcases Nat.lt_or_ge i (xs.toList.zip ys.toList).length with c | c
      · exact c
      · rw [List.drop_of_length_le c] at hd
        cases hd
    have hx : i < xs.size := hz ▸ hi
    have hy : i < ys.size := hlen ▸ hx
    rw [List.drop_eq_getElem_cons hi] at hd
    injection hd with e1 e2
    have ev : v = xs[i] := by
      have := congrArg Prod.fst e1
      simpa using this
    have eu : u = ys[i] := by
      have := congrArg Prod.snd e1
      simpa using this
    subst ev eu
    refine wpAny_bind (he i hx hy _ _ ?_)
    wp_walk
    exact ⟨rfl, rfl, i + 1, e2⟩
  case fin =>
    rintro ⟨b1, b2⟩ s' ⟨hb', rfl, i, hd⟩
    simp only at hb'
    subst hb'
    wp_walk
    simpa [Builtin.Tuple.tupleCompareSizes, hlen] using hR
  case h => exact ⟨rfl, rfl, 0, rfl⟩
end
end PySem.SeqAt
namespace Kn
open PySem PySem.Spec PyProof.Rows L2 Evl SX
/-- equal, of nesting below n, with tuples -/
def EqW (K : PySem.W.Frag) (H : Hp) : Nat → V → V → Prop
  | 0 => fun _ _ => False
  | n + 1 => fun x y => (x = y ∧ flatB x = true) ∨ (∃ a, x = .ref a ∧ y = .ref a) ∨ EqR K H (EqW K H n) x y ∨ ∃ a b xs ys, x = .ref a ∧ y = .ref b ∧ SqT K H a xs ∧ SqT K H b ys ∧ Paired (EqW K H n) xs ys
section
variable {X : Cx} {pins : List (Addr × Obj)} {σ : L2.St} {H : Hp} {s : Shared}
theorem tupW_run (I : Inv X pins σ H s) {A : Around} {F : V → V → Prop} (hu : A.units < cLine) (ih : ∀ x y v u, F x y → RelV x v → RelV y u → SeqAt.EqP X.prog X.w A.in1 s v u true) {a b : Addr} {xs ys : List V} (ha : SqT X.K H a xs) (hb : SqT X.K H b ys) (hp : Paired F xs ys)
    (E Q : Value → Shared → Prop) (q : Q (.bool true) s) : wpAny (model X.prog X.w) A (richCompare .Eq (.ref a) (.ref b)) Q E s := by
  obtain ⟨us, r1, p1, _⟩ := I.tuple ha
  obtain ⟨ws, r2, p2, _⟩ := I.tuple hb
  obtain ⟨⟨cls, dd, data, sl⟩, ho, hc, n, hd⟩ := p1
  obtain ⟨⟨cls2, dd2, data2, sl2⟩, ho2, hc2, n2, hd2⟩ := p2
  simp only at hc hd hc2 hd2
  subst hc hd hc2 hd2
  have hlen : us.toArray.size = ws.toArray.size := by
    rw [List.size_toArray, List.size_toArray, ← r1.length, ← r2.length]
    exact Paired.length hp
  have ta : s.TypeIs (.ref a) "tuple" := ⟨_, ho, rfl⟩
  have tb : s.TypeIs (.ref b) "tuple" := ⟨_, ho2, rfl⟩
  refine wpAny_richCompare_same_room (op := .Eq) ta tb PySem.F.slot_tuple_eq (call_meetsIn PySem.F.slot_tuple_eq ta PySem.F.entry_tuple_eq (PySem.F.args_tuple_eq_2 _ _) (SeqAt.kh_tupEq a b us.toArray ws.toArray n n2 dd dd2 sl sl2 hlen) ⟨ho, ho2, fun j h1 h2 => ?_, ?_⟩) hu
  · have k := items_run ih hp r1 r2 j (by simpa using h1) (by simpa using h2)
    simpa using k
  · exact ⟨(fun x => nomatch x), q⟩
theorem eqW_run (I : Inv X pins σ H s) : ∀ (n : Nat) (A : Around), A.units + n < cLine → ∀ (x y : V) (v u : Value), EqW X.K H n x y → RelV x v → RelV y u → SeqAt.EqP X.prog X.w A s v u true
  | 0, _, _, _, _, _, _, h, _, _ => (show False from h).elim
  | n + 1, A, hu, x, y, v, u, h, rx, ry => by
    have ih := eqW_run I n A.in1 (by show A.units + 1 + n < cLine; omega)
    rcases h with ⟨rfl, f⟩ | ⟨a, rfl, rfl⟩ | h | ⟨a, b, xs, ys, rfl, rfl, ha, hb, hp⟩
    · exact (eqAt_same rx ry f).eqP
    · cases (show v = Value.ref a from rx)
      cases (show u = Value.ref a from ry)
      exact (SeqAt.EqAt.same _).eqP
    · have step := eqR_run I (A := A) (by omega) ih h rx ry
      obtain ⟨a, b, rfl, rfl⟩ : ∃ a b, x = .ref a ∧ y = .ref b := by
        rcases h with ⟨a, b, _, _, e1, e2, _⟩ | ⟨a, b, _, _, e1, e2, _⟩
        · exact ⟨a, b, e1, e2⟩
        · exact ⟨a, b, e1, e2⟩
      cases (show v = Value.ref a from rx)
      cases (show u = Value.ref b from ry)
      by_cases e : a = b
      · subst e
        exact (SeqAt.EqAt.same _).eqP
      · exact SeqAt.eqP_refs e step
    · cases (show v = Value.ref a from rx)
      cases (show u = Value.ref b from ry)
      by_cases e : a = b
      · subst e
        exact (SeqAt.EqAt.same _).eqP
      · exact SeqAt.eqP_refs e (tupW_run I (by omega) ih ha hb hp)
end
/-- a == b of tuples that hold lists, dicts, tuples: equal -/
def rEqW (K : PySem.W.Frag) : R2 := fun x y H Q => ∃ n a b xs ys, n ≤ 60 ∧ x = .ref a ∧ y = .ref b ∧ SqT K H a xs ∧ SqT K H b ys ∧ Paired (EqW K H n) xs ys ∧ Q (.bl true) H
end Kn
namespace Kn
open PySem PySem.Spec PyProof.Rows L2 Evl SX
def rRemS : V → List V → Hp → VK → Prop := fun x xs H Q => ∃ (l : Addr) (ns : List Str) (k : Str) (j : Nat), x = .ref l ∧ xs = [.str k] ∧ H l = some (.lst (ns.map V.str)) ∧ ns[j]? = some k ∧ (∀ m : Nat, m < j → ns[m]? ≠ some k) ∧ Q .non (L2.upd H l (.lst ((ns.eraseIdx j).map V.str)))
end Kn
namespace Kn
open PySem PySem.Spec PyProof.Rows L2 Evl SX
def maxF (i : Int) : List Int → Int
  | [] => i
  | y :: r => r.foldl max y
def rMaxDf (K : PySem.W.Frag) : List V → List V → Hp → VK → Prop := fun vs zs H Q => ∃ (a : Addr) (ns : List Int) (i : Int), vs = [V.ref a] ∧ zs = [.int i] ∧ SqL K H a (ns.map V.int) ∧ Q (.int (maxF i ns)) H
end Kn
namespace Kn
open PySem PySem.Spec PyProof.Rows L2 Evl SX
/-! ### an own error with a list for a field: self.f = list(xs) -/
section
variable {K : PySem.W.Frag} {σ : L2.St} {H H1 H' : Hp} {te : TE} {D : Ends} {a C p : Addr} {xs : List V} {f : Str}
def sp_I1L (f : Str) (K : PySem.W.Frag) : Sp := fun vs H Q _ => ∃ (a C p : Addr) (xs : List V), vs = [.ref a, .ref p] ∧ SqL K H p xs ∧ H a = some (exo a C none) ∧ OexC K C ∧ PySem.W.findIn K (.ref C) f = some none ∧
  ∀ r dx H', H r = none → H dx = none → dx ≠ a → r ≠ a → r ≠ dx → H' r = some (.lst xs) → XMade H H' a C dx [(f, .ref r)] → Q .non H'
end
/-- raised: a new error with a new list in its field -/
def RzL (H : Hp) (E : XK) (C : Addr) (f : Str) (xs : List V) : Prop := ∀ d r H', Ex H H' → H' d = some (.xd [(f, .ref r)]) → H' r = some (.lst xs) → E (.ref C) (some d) H'
end Kn
namespace Kn
open PySem PySem.Spec PyProof.Rows L2 Evl SX
end Kn
namespace Kn
open PySem PySem.Spec PyProof.Rows L2 Evl SX
section
variable {K : PySem.W.Frag} {σ : L2.St} {H : Hp} {ta te : TE} {D : Ends} {tz : TS} {l : Addr} {ns : List Str} {k : Str}
end
end Kn
namespace Kn
open PySem PySem.Spec PyProof.Rows L2 Evl SX
section
variable {K : PySem.W.Frag} {σ : L2.St} {H : Hp} {ta te tl : TE} {D : Ends} {tz tu : TS} {g : TG}
end
end Kn

/-! Kc: except (A, B) without a name; != of equal tuples that hold lists and dicts. -/
namespace Kn
open PySem PySem.Spec PyProof.Rows L2 Evl SX
/-- what the clause 'except (c1, c2)' wishes of an exception of the body -/
def wOnly2 (K : PySem.W.Frag) (c1 c2 : Value) (ts : Addr → Value → Option Addr → TS) (Wout : WX) (D : Ends) : WX := fun cls d σ H =>
  ∃ b, PySem.W.exmAny K cls [c1, c2] = some b ∧ (b = true → ∀ a, H a = none → ts a cls d D σ H) ∧ (b = false → Wout cls d σ H)
/-! the pieces of a try: what runs through, what the suite leaves, the test of a pair of classes, what goes on -/
section
variable {X : Cx} {pins : List (Addr × Obj)} {D : Ends}
end
section
variable {X : Cx} {x1 x2 : Str} {c1 c2 : Value} {body suite : List Stmt} {b₀ : Stmt} {np1 np2 tpos pos pos' : Pos} {kk : Nat} {tb : WX → TS} {ts : Addr → Value → Option Addr → TS} {Wout : WX}
end
end Kn
namespace PySem.SeqAt
open PySem PySem.Builtin
section
variable {prog : Program} {w : World}
end
end PySem.SeqAt
namespace Kn
open PySem PySem.Spec PyProof.Rows L2 Evl SX
section
variable {X : Cx} {pins : List (Addr × Obj)} {σ : L2.St} {H : Hp} {s : Shared}
end
/-- a != b of tuples that hold lists, dicts, tuples: equal -/
def rNeW (K : PySem.W.Frag) : R2 := fun x y H Q => ∃ n a b xs ys, n ≤ 60 ∧ x = .ref a ∧ y = .ref b ∧ SqT K H a xs ∧ SqT K H b ys ∧ Paired (EqW K H n) xs ys ∧ Q (.bl false) H
end Kn

/-! Kj: a comprehension whose element wants a token; sep.join of such a one. -/
namespace Kn
open PySem PySem.Spec PyProof.Rows L2 Evl SX
section
variable {X : Cx}
/-- what stands between the turns of a block: the iterator's objects untracked, the wish for the turn, a token out -/
def Blk1 (Y : Cx) (σ : L2.St) (fp : List Addr) (tn : Nat → Heap → Prop) (W : Nat → Nat → Hp → Prop) (n : Nat) (t : Shared) : Prop :=
  1 ≤ t.toks ∧ ∃ i H, Inv Y [] σ H t ∧ tn i t.heap ∧ (∀ b ∈ fp, H b = none) ∧ W i n H
end
section
variable {X : Cx} {e o : Expr} {to te : TE} {pos apos : Pos}
end
section
variable {σ : L2.St} {H : Hp} {ta : TE}
theorem el_lcNM {K : PySem.W.Frag} {te tl : TE} {τ : Type} {ns : List τ} {g f : τ → V} {j : Nat} {vs : List Nat} (h : EvL tl σ H (ns.map g)) (hz : ns.length ≤ 40000) (hw : ∀ x, wipe ((wipe σ vs).set j (some x)) vs = wipe σ vs)
    (he : ∀ n ∈ ns, ∀ H1, Ex H H1 → Ev te ((wipe σ vs).set j (some (g n))) H1 (f n)) : EvL (tLc (iList K tl) (gName j) tYes te vs) σ H (ns.map f) := fun H1 e Q q =>
  lc_first (h H1 e _ fun p H2 np e2 hp => el_lcM (K := K) (a := p) (ev_c (v := .ref p)) (sq_of hp) hz hw (fun n hn H3 e3 => he n hn H3 ((e.trans e2).trans e3)) H2 (Ex.refl _) Q fun p' H3 np' e3 hp' => q p' H3 (fresh_back e2 np') (e2.trans e3) hp')
end
/-! ### == of two lists or of two dicts that hold tuples: equal -/
def rEqL (K : PySem.W.Frag) : R2 := fun x y H Q => ∃ n, n ≤ 60 ∧ EqR K H (EqW K H n) x y ∧ Q (.bl true) H
end Kn

/-! Kw: what is never reached; enumerate(list, start=1); != of equal dicts that hold tuples. -/
namespace Kw
open PySem PySem.Spec PyProof.Rows L2 Evl SX Kn
/-! ### never reached -/
def tNo : TS := fun _ _ _ => False
theorem ps_never {X : Cx} {st : Stmt} : PS X st tNo := ⟨fun _ _ _ _ _ _ h => h.elim⟩
/-! ### != of two dicts, equal -/
section
variable {X : Cx} {pins : List (Addr × Obj)} {σ : L2.St} {H : Hp} {s : Shared}
theorem neD_run {a b : Addr} {A : Around} {E Q : Value → Shared → Prop} {ks ls : List (Key × V)} {F : V → V → Prop} (I : Inv X pins σ H s) (hu : A.units < cLine) (ih : ∀ x y v u, F x y → RelV x v → RelV y u → SeqAt.EqP X.prog X.w A.in1 s v u true)
    (h1 : H a = some (.dK ks)) (h2 : H b = some (.dK ls)) (hl : ks.length = ls.length) (hp : ∀ p ∈ ks, ∃ u, valV ls p.1 = some u ∧ F p.2 u) (q : Q (.bool false) s) : wpAny (model X.prog X.w) A (richCompare .NotEq (.ref a) (.ref b)) Q E s := by
  obtain ⟨_, ya, va, ra, da⟩ := I.hok a _ h1
  obtain ⟨_, yb, vb, rb, db⟩ := I.hok b _ h2
  have hv : va.length = vb.length := by rw [← ra.length, hl, rb.length]
  have hh : PySem.W.KeqHitsP X.prog X.w A.in1 s vb va true := hits_run ih rb ra hp
  refine wpAny_richCompare_same_room (op := .NotEq) da.typeIs db.typeIs PySem.F.slot_dict_ne (wpAny_call_entry PySem.F.slot_dict_ne da.typeIs PySem.F.entry_dict_ne (b := Builtin.«dict.__ne__») ?_ (PySem.F.args_dict_ne_2 _ _)) hu
  show wpAny _ _ (Builtin.Dict.dictSlotArgs "__ne__" ⟨[Value.ref a, Value.ref b], []⟩ >>= _) _ _ s
  refine wpAny_bind ?_
  unfold Builtin.Dict.dictSlotArgs
  refine wpAny_bind (wpAny_notOrdered_dict da.typeIs ?_)
  show wpAny _ _ (pure (Value.ref a, Value.ref b)) _ _ s
  refine wpAny_pure (wpAny_bind (wpAny_isInstance (T := "dict") db.typeIs PySem.F.sub_dict_dict ?_))
  rw [show (!true) = false from rfl]
  simp only [Bool.false_eq_true, if_false]
  refine wpAny_bind (wpAny_pure (wpAny_bind (wpAny_pure (wpAny_bind (PySem.W.samePairsP ya yb da db (fun _ => hh) ?_)))))
  refine wpAny_pure ⟨_, rfl, (fun x => nomatch x), ?_⟩
  simpa [hv] using q
end
def rNeL (K : PySem.W.Frag) : R2 := fun x y H Q => ∃ n a b ks ls, n ≤ 60 ∧ x = .ref a ∧ y = .ref b ∧ H a = some (.dK ks) ∧ H b = some (.dK ls) ∧ ks.length = ls.length ∧ (∀ p ∈ ks, ∃ u, valV ls p.1 = some u ∧ EqW K H n p.2 u) ∧ Q (.bl false) H
end Kw
/-! ### enumerate(list, start=1) -/
namespace Kw
open PySem PySem.Spec PyProof.Rows L2 Evl SX Kn
def Ite1 (K : PySem.W.Frag) (a : Addr) : It where
  go := fun i H => ∃ xs x, SqL K H a xs ∧ xs[i]? = some x
  yld := fun i H v H' => ∃ T x, v = .ref T ∧ H T = none ∧ H' = upd H T (.tup [.int ((i : Int) + 1), x]) ∧ ∀ xs, SqL K H a xs → xs[i]? = some x
  stop := fun i H => ∃ xs : List V, SqL K H a xs ∧ xs.length ≤ i
theorem ne_obj {h : Heap} {a b : Addr} {o u : Obj} (h1 : h.get? a = some o) (h2 : h.get? b = some u) (d : o.cls ≠ u.cls) : a ≠ b := fun e => by
  rw [e, h2] at h1
  exact d (by rw [Option.some.inj h1])
theorem turn_enum1 {P : Program} {w : World} {K : PySem.W.Frag} {elts : List Expr} {kk : Nat} {tpos : Pos} (a e it : Addr) : Turn P w K (.Tuple elts kk tpos) (Ite1 K a) [e, it] e (fun i h => (∃ old, IsEnum h e it ((i : Int) + 1) old) ∧ h.IsListIter it a i ∧ e ≠ it) := by
  refine ⟨by simp, fun i h st b hb => ?_, fun i h h' st k => ?_, ?_, ?_, fun A i s Q E st h => ?_⟩
  · obtain ⟨⟨old, he⟩, ⟨o, ho, _, hd⟩, _⟩ := st
    rcases List.mem_cons.1 hb with rfl | hb
    · exact ⟨_, he, fun v q => by cases q⟩
    · rw [List.mem_singleton.1 hb]
      exact ⟨o, ho, fun v q => by rw [hd] at q; cases q⟩
  · obtain ⟨⟨old, he⟩, hi, hne⟩ := st
    exact ⟨⟨old, k e (by simp) _ he⟩, hi.at (fun o q => k it (by simp) o q), hne⟩
  · intro X hP hw hK hc i pins s σ H E I hf st hg
    subst hP hw hK
    obtain ⟨⟨old, he⟩, hit, hne⟩ := st
    obtain ⟨xs, x, hq, hx⟩ := hg
    obtain ⟨its, rv, p, _⟩ := I.list hq
    obtain ⟨u, hu, ru⟩ := rv.get hx
    have hlt : i < its.toArray.size := by
      rw [List.size_toArray]
      exact (List.getElem?_eq_some_iff.1 hu).1
    have hea : e ≠ a := by
      obtain ⟨o, ho, h1, _⟩ := p.isList
      exact ne_obj he ho (by rw [h1]; intro z; injection z with z; exact absurd z (by decide))
    have hia : a ≠ it := by
      obtain ⟨o, ho, h1, _⟩ := p.isList
      obtain ⟨o2, ho2, h2, _⟩ := hit
      exact ne_obj ho ho2 (by rw [h1, h2]; intro z; injection z with z; exact absurd z (by decide))
    have el := Heap.lt_size he
    have il : it < s.heap.objs.size := by
      obtain ⟨o2, ho2, _⟩ := hit
      exact Heap.lt_size ho2
    refine wpAny_pyNext_enum_itemC (A := X.A) (Draws.list (A := X.A.in1) (show X.A.in1.handled = none from I.ok.hd hc) it a hia its.toArray) he ⟨hit, p.isList⟩ hlt hne (by simp [hne, hea]) fun x' h' tk hx' ho hst' hT hsz hk => ?_
    have ex : x' = u := by
      rw [List.getElem?_toArray, hu] at hx'
      exact (Option.some.inj hx').symm
    subst ex
    refine ⟨_, rfl, wpAny_letOwnedTupleGo_enum (s := ⟨h', s.gens, s.drawn, tk + 1, s.os⟩) ho fun h2 he2 sb => ?_⟩
    have T2 := (sb.2 s.heap.objs.size (Nat.ne_of_gt el)).trans hT
    have nw : ObjOk X.prog X.w (upd H s.heap.objs.size (.tup [.int ((i : Int) + 1), x])) h2 s.heap.objs.size (.tup [.int ((i : Int) + 1), x]) :=
      ⟨by show 2 ≤ sizeLine; decide, [.int ((i : Int) + 1) tk, x'], .cons ⟨_, rfl⟩ (.cons ru .nil), _, T2, rfl, _, rfl⟩
    have I1 : Inv X pins σ (upd H s.heap.objs.size (.tup [.int ((i : Int) + 1), x])) ⟨h2, s.gens, s.drawn, tk + 1, s.os⟩ := by
      refine I.turnedNew (ch := [e, it]) (fun b ob hb q => ?_) hf (Nat.le_refl _) nw
      have b1 : b ≠ e := fun z => hb (by simp [z])
      have b2 : b ≠ it := fun z => hb (by simp [z])
      rw [sb.2 b b1]
      exact hk b ob b1 b2 q
    refine ⟨.ref s.heap.objs.size, _, I1, rfl, ⟨_, x, rfl, I.hok.fresh (Nat.le_refl _), rfl, fun ys hy => by rw [I.list_inj hy hq]; exact hx⟩, ⟨⟨x', ?_⟩, hst'.1.at (fun o q => (sb.2 it (Ne.symm hne)).trans q), hne⟩, fun b hb => ?_⟩
    · rw [show (((i + 1 : Nat) : Int) + 1) = (i : Int) + 1 + 1 by omega]
      exact he2
    · have bl : b < s.heap.objs.size := by
        rcases List.mem_cons.1 hb with z | z
        · rw [z]; exact el
        · rw [List.mem_singleton.1 z]; exact il
      rw [upd_ne (Nat.ne_of_lt bl)]
      exact (hf b hb).1
  · intro X hP hw hK hc i pins s σ H E I hf st hg
    subst hP hw hK
    obtain ⟨⟨old, he⟩, hit, hne⟩ := st
    obtain ⟨xs, hq, hx⟩ := hg
    obtain ⟨its, rv, p, _⟩ := I.list hq
    obtain ⟨f0, f1, f2, f3, f4, f5⟩ := hf it (by simp)
    have hia : a ≠ it := by
      obtain ⟨o, ho, h1, _⟩ := p.isList
      obtain ⟨o2, ho2, h2, _⟩ := hit
      exact ne_obj ho ho2 (by rw [h1, h2]; intro z; injection z with z; exact absurd z (by decide))
    have hend : its.toArray[i]? = none := by
      rw [List.getElem?_toArray]
      exact List.getElem?_eq_none (by rw [← rv.length]; exact hx)
    have D : Draws X.prog X.w X.A.in1 it [it, a] i (fun _ _ => False) (fun j h => j = i ∧ h.IsListIter it a i ∧ h.IsList a its.toArray) :=
      ⟨fun _ _ ⟨_, ⟨o, ho, _⟩, _⟩ => ⟨o, ho⟩, fun _ _ _ ⟨e1, e2, e3⟩ hk => ⟨e1, e2.at (fun o q => hk it (by simp) o q), e3.at (fun o q => hk a (by simp) o q)⟩, fun j s Q E hj st => absurd st.1 (Nat.ne_of_lt hj),
        fun s Q E st hE => wpAny_nextOf_list_end (show X.A.in1.handled = none from I.ok.hd hc) st.2.1 st.2.2 hend hE⟩
    exact wpAny_pyNext_enum_endD D he ⟨rfl, hit, p.isList⟩ fun h' eb => ⟨rfl, I.turned (t' := s.toks) (fun b o hb q => eb b o hb q) f0 f1 f3 f4 f5⟩
  · obtain ⟨⟨_, he⟩, _⟩ := st
    exact wpAny_pyIter_enum he h
theorem cw_typeK {M : Model} {A : Around} {E : Value → Shared → Prop} {s : Shared} {pos : Pos} {T : String} {first : List Value} {args : List (Bool × Sem Value)} {kw : List (Option Str × Sem Value)} {Q : Value → Shared → Prop} (ha : args.any (·.1) = false) (hk : kw.any (·.1.isNone) = false)
    (h : wpAny M A (evalArgs (.type T) true args kw) (fun a s1 => wpAny M A (call (.type T) (first ++ a.pos) a.kw) Q E s1) E s) : wpAny M A (callWith pos (.type T) first args kw) Q E s := by
  unfold callWith
  refine wpAny_bind (wpAny_holding (wpAny_mono h (fun a s1 h1 => wpAny_bind (wpAny_standAt ?_)) fun _ _ z => z))
  simp only [ha, hk, Bool.or_false]
  refine wpAny_bind (wpAny_pure (wpAny_bind (wpAny_mono h1 (fun r s2 hr => wpAny_bind (wpAny_holding (wpAny_point (wpAny_pure hr)))) fun _ _ z => z)))
def iEnum1 (K : PySem.W.Frag) (ta tk : TA) : TI := fun σ H R => ta σ H fun vs H1 => tk σ H1 fun zs H2 => ∃ a xs, vs = [.ref a] ∧ zs = [.int 1] ∧ SqL K H2 a xs ∧ R (Ite1 K a) H2
theorem pi_enum1 {X : Cx} {e : Expr} {ta tk : TA} {kws : List Keyword} {p pos tpos : Pos} {elts : List Expr} {kk : Nat} (hg : Gl X "enumerate") (hm : X.mg "enumerate" = none) (ha : PA X [e] ta) (hk : PK X kws tk)
    (he : backTo pos (starEach [e] X.env) = (false, eval e X.env) :: backTo pos (starEach [] X.env) := by rfl) (hpl : (backTo pos (starEach [e] X.env)).any (·.1) = false := by rfl)
    (hall : (backToKw pos (keywordEach kws X.env)).all (·.1.isSome) = true := by rfl) (hnone : (backToKw pos (keywordEach kws X.env)).any (·.1.isNone) = false := by rfl) (hks : (backToKw pos (keywordEach kws X.env)).filterMap (·.1) = [Str.ofString "start"] := by rfl) :
    PI X (.Tuple elts kk tpos) (.Call (.Name "enumerate" p) [e] kws pos) (iEnum1 X.K ta tk) := by
  refine ⟨fun pins s σ H R I h => ?_⟩
  refine wpAny_Call_Name_kw (ld_blt I hg hm boot_enumerate (cw_typeK hpl hnone ?_))
  have h2 := ha.run pos pins s σ H _ I h
  rw [he] at h2 ⊢
  refine evalArgs_kwB hall (thn h2 fun us s1 ⟨vs, H1, I1, r1, q1⟩ => thn (hk.run pos pins s1 σ H1 _ I1 q1) fun ws s2 ⟨zs, H2, I2, r2, a, xs, ev, ez, hq, q⟩ => ?_)
  subst ev ez
  rw [hks]
  obtain rfl := Vals.ref1 r1
  obtain ⟨w1, rfl, e1⟩ := vals1 r2
  obtain ⟨t, rfl⟩ := e1
  obtain ⟨its, rv, p', hz⟩ := I2.list hq
  refine enum_begins_start (begins_list a its.toArray) p'.isList (by decide) (by decide) fun h' he hit hsz hk => wpAny_pyIter_enum he ?_
  have I3 : Inv X pins σ H2 ⟨h', s2.gens, s2.drawn, s2.toks, s2.os⟩ := I2.kept (t' := s2.toks) hk
  refine ⟨s2.heap.objs.size + 1, [s2.heap.objs.size + 1, s2.heap.objs.size], _, _, H2, rfl, I3, turn_enum1 a _ s2.heap.objs.size, ⟨⟨.none, he⟩, ⟨_, hit, rfl, rfl⟩, Nat.succ_ne_self _⟩, fun b hb => ?_, q⟩
  have hle : s2.heap.objs.size ≤ b := by
    rcases List.mem_cons.1 hb with z | z
    · rw [z]; exact Nat.le_succ _
    · rw [List.mem_singleton.1 z]; exact Nat.le_refl _
  exact I2.fpOk hle (I2.hok.fresh hle)
theorem walk_enum1 {K : PySem.W.Frag} {a : Addr} {xs : List V} : Walk (Ite1 K a) xs.length (fun H => SqL K H a xs) (YPair (fun i => some (.int ((i : Int) + 1))) (fun i => xs[i]?)) := by
  refine ⟨fun i _ hi q => ⟨xs, xs[i], q, by simp [hi]⟩, fun _ q => ⟨xs, q, Nat.le_refl _⟩, fun i H v H' _ q ⟨T, x, y1, y2, y3, y4⟩ => ?_⟩
  exact ⟨T, .int ((i : Int) + 1), x, y1, y2, y3, rfl, y4 xs q⟩
theorem q_forEn1 {K : PySem.W.Frag} {σ : L2.St} {H : Hp} {D : Ends} {tu tz : TS} {tk : TA} {xs : List V} {tl : TE} {i j : Nat} (h : EvL tl σ H xs) (hk : ∀ H1, EvA tk σ H1 [.int 1]) (Pv : Addr → Nat → L2.St → Hp → Prop) (h0 : ∀ a H1, H a = none → Ex H H1 → H1 a = some (.lst xs) → Pv a 0 σ H1) (hl : ∀ a n σ' H', n ≤ xs.length → Pv a n σ' H' → SqL K H' a xs)
    (hs : ∀ a n x σ' H' H2, xs[n]? = some x → Pv a n σ' H' → Ex H' H2 → tu { D with nx := Pv a (n + 1), ct := Pv a (n + 1), bk := tz D } ((σ'.set i (some (.int ((n : Int) + 1)))).set j (some x)) H2) (hd : ∀ a σ' H', Pv a xs.length σ' H' → tz D σ' H') :
    tSeq (tFor (iEnum1 K (tCons tl tNil) tk) (gTup K 2 (gCons (gName i) (gCons (gName j) gNil))) tu) tz D σ H :=
  h H (Ex.refl H) _ fun a H1 na e ha => hk H1 H1 (Ex.refl H1) _ fun H2 e2 => ⟨a, xs, rfl, rfl, sq_of (e2 _ _ ha), for_it (D := { D with nx := tz D }) walk_enum1 (Pv a) (h0 a H2 na (e.trans e2) (e2 _ _ ha)) (hl a) (fun n v σ' H2 H3 hn p y => by
    obtain ⟨T, u, w, rfl, nT, rfl, hu, hw⟩ := y
    cases hu
    exact unp2 upd_same (hs a n w σ' H2 _ hw p (Ex.new nT))) (hd a)⟩
end Kw

namespace My
open PySem PySem.Spec PyProof.Rows L2 Evl SX Kn Kn.Rp Kw
def topS (i : Nat) : Stmt := PySem.Challenge.pw_kilnyard_k39_what_is_not_a_saved_form.main.body.getD i (.Pass ⟨0, 0, 0, 0⟩)
abbrev s__wall : Stmt := topS 0
abbrev N__wall : List Str := ["k"]
abbrev s_is_text : Stmt := topS 17
abbrev N_is_text : List Str := ["value", "sign"]
theorem sc_is_text : FnScope N_is_text ["value"] (defScope s_is_text) := ⟨rfl, rfl, rfl, by decide +kernel, rfl, by decide +kernel, by decide +kernel⟩
abbrev s_is_content : Stmt := topS 18
abbrev N_is_content : List Str := ["value"]
theorem sc_is_content : FnScope N_is_content ["value"] (defScope s_is_content) := ⟨rfl, rfl, rfl, by decide +kernel, rfl, by decide +kernel, by decide +kernel⟩
abbrev s_content_key : Stmt := topS 19
abbrev N_content_key : List Str := ["text", "sign"]
theorem sc_content_key : FnScope N_content_key ["text"] (defScope s_content_key) := ⟨rfl, rfl, rfl, by decide +kernel, rfl, by decide +kernel, by decide +kernel⟩
abbrev s_key_text : Stmt := topS 20
abbrev N_key_text : List Str := ["key", "codes", "code"]
theorem sc_key_text : FnScope N_key_text ["key"] (defScope s_key_text) := ⟨rfl, rfl, rfl, by decide +kernel, rfl, by decide +kernel, by decide +kernel⟩
abbrev s__is_code : Stmt := topS 21
abbrev N__is_code : List Str := ["code"]
theorem sc__is_code : FnScope N__is_code ["code"] (defScope s__is_code) := ⟨rfl, rfl, rfl, by decide +kernel, rfl, by decide +kernel, by decide +kernel⟩
abbrev s__codes : Stmt := topS 22
abbrev N__codes : List Str := ["key", "bits", "at"]
theorem sc__codes : FnScope N__codes ["key"] (defScope s__codes) := ⟨rfl, rfl, rfl, by decide +kernel, rfl, by decide +kernel, by decide +kernel⟩
abbrev s__sign : Stmt := topS 23
abbrev N__sign : List Str := ["code"]
theorem sc__sign : FnScope N__sign ["code"] (defScope s__sign) := ⟨rfl, rfl, rfl, by decide +kernel, rfl, by decide +kernel, by decide +kernel⟩
abbrev s_format_string : Stmt := topS 25
abbrev N_format_string : List Str := ["text", "escaped"]
theorem sc_format_string : FnScope N_format_string ["text"] (defScope s_format_string) := ⟨rfl, rfl, rfl, by decide +kernel, rfl, by decide +kernel, by decide +kernel⟩
abbrev s_scan_line : Stmt := topS 35
abbrev N_scan_line : List Str := ["path", "number", "line", "tokens", "at", "kind", "text", "behind"]
theorem sc_scan_line : FnScope N_scan_line ["path", "number", "line"] (defScope s_scan_line) := ⟨rfl, rfl, rfl, by decide +kernel, rfl, by decide +kernel, by decide +kernel⟩
abbrev s_is_identifier : Stmt := topS 36
abbrev N_is_identifier : List Str := ["value", "sign"]
theorem sc_is_identifier : FnScope N_is_identifier ["value"] (defScope s_is_identifier) := ⟨rfl, rfl, rfl, by decide +kernel, rfl, by decide +kernel, by decide +kernel⟩
abbrev s__skip_spaces : Stmt := topS 37
abbrev N__skip_spaces : List Str := ["line", "start", "at"]
theorem sc__skip_spaces : FnScope N__skip_spaces ["line", "start"] (defScope s__skip_spaces) := ⟨rfl, rfl, rfl, by decide +kernel, rfl, by decide +kernel, by decide +kernel⟩
abbrev s__token : Stmt := topS 38
abbrev N__token : List Str := ["path", "number", "line", "start", "text", "behind"]
theorem sc__token : FnScope N__token ["path", "number", "line", "start"] (defScope s__token) := ⟨rfl, rfl, rfl, by decide +kernel, rfl, by decide +kernel, by decide +kernel⟩
abbrev s__string : Stmt := topS 39
abbrev N__string : List Str := ["path", "number", "line", "start", "parts", "at", "part"]
theorem sc__string : FnScope N__string ["path", "number", "line", "start"] (defScope s__string) := ⟨rfl, rfl, rfl, by decide +kernel, rfl, by decide +kernel, by decide +kernel⟩
abbrev s__string_part : Stmt := topS 40
abbrev N__string_part : List Str := ["path", "number", "line", "at", "sign"]
theorem sc__string_part : FnScope N__string_part ["path", "number", "line", "at"] (defScope s__string_part) := ⟨rfl, rfl, rfl, by decide +kernel, rfl, by decide +kernel, by decide +kernel⟩
abbrev s_is_path : Stmt := topS 45
abbrev N_is_path : List Str := ["value", "names", "name"]
theorem sc_is_path : FnScope N_is_path ["value"] (defScope s_is_path) := ⟨rfl, rfl, rfl, by decide +kernel, rfl, by decide +kernel, by decide +kernel⟩
abbrev s_is_pattern : Stmt := topS 46
abbrev N_is_pattern : List Str := ["value"]
abbrev s_is_name_pattern : Stmt := topS 47
abbrev N_is_name_pattern : List Str := ["value"]
abbrev s__is_name : Stmt := topS 48
abbrev N__is_name : List Str := ["name", "sign"]
theorem sc__is_name : FnScope N__is_name ["name"] (defScope s__is_name) := ⟨rfl, rfl, rfl, by decide +kernel, rfl, by decide +kernel, by decide +kernel⟩
abbrev s_parse_record : Stmt := topS 62
abbrev N_parse_record : List Str := ["line", "words", "outputs", "needs", "results", "word"]
abbrev s__parse_need : Stmt := topS 63
abbrev N__parse_need : List Str := ["word", "items"]
abbrev s__parse_seen : Stmt := topS 64
abbrev N__parse_seen : List Str := ["word"]
abbrev s__are_outputs : Stmt := topS 65
abbrev N__are_outputs : List Str := ["words", "word"]
abbrev s__are_needs : Stmt := topS 66
abbrev N__are_needs : List Str := ["words", "questions", "word"]
abbrev s__is_need : Stmt := topS 67
abbrev N__is_need : List Str := ["word", "items", "kind", "seen"]
abbrev s__is_folder : Stmt := topS 68
abbrev N__is_folder : List Str := ["word"]
abbrev s__is_number_or_nothing : Stmt := topS 69
abbrev N__is_number_or_nothing : List Str := ["word"]
abbrev s__is_number : Stmt := topS 101
abbrev N__is_number : List Str := ["word"]
theorem sc__is_number : FnScope N__is_number ["word"] (defScope s__is_number) := ⟨rfl, rfl, rfl, by decide +kernel, rfl, by decide +kernel, by decide +kernel⟩
abbrev s__read_row : Stmt := topS 74
abbrev N__read_row : List Str := ["row", "key", "line"]
abbrev s_lines_of : Stmt := topS 76
abbrev N_lines_of : List Str := ["text"]
theorem sc_lines_of : FnScope N_lines_of ["text"] (defScope s_lines_of) := ⟨rfl, rfl, rfl, by decide +kernel, rfl, by decide +kernel, by decide +kernel⟩
abbrev s__is_persons : Stmt := topS 80
abbrev N__is_persons : List Str := ["entry"]
theorem sc__is_persons : FnScope N__is_persons ["entry"] (defScope s__is_persons) := ⟨rfl, rfl, rfl, by decide +kernel, rfl, by decide +kernel, by decide +kernel⟩
abbrev s_save_tree : Stmt := topS 85
abbrev N_save_tree : List Str := ["tree", "path"]
theorem sc_save_tree : FnScope N_save_tree ["tree"] (defScope s_save_tree) := ⟨rfl, rfl, rfl, by decide +kernel, rfl, by decide +kernel, by decide +kernel⟩
abbrev s_load_tree : Stmt := topS 86
abbrev N_load_tree : List Str := ["text"]
theorem sc_load_tree : FnScope N_load_tree ["text"] (defScope s_load_tree) := ⟨rfl, rfl, rfl, by decide +kernel, rfl, by decide +kernel, by decide +kernel⟩
abbrev s_save_settings : Stmt := topS 87
abbrev N_save_settings : List Str := ["settings", "name"]
theorem sc_save_settings : FnScope N_save_settings ["settings"] (defScope s_save_settings) := ⟨rfl, rfl, rfl, by decide +kernel, rfl, by decide +kernel, by decide +kernel⟩
abbrev s_load_settings : Stmt := topS 88
abbrev N_load_settings : List Str := ["text"]
theorem sc_load_settings : FnScope N_load_settings ["text"] (defScope s_load_settings) := ⟨rfl, rfl, rfl, by decide +kernel, rfl, by decide +kernel, by decide +kernel⟩
abbrev s_save_store : Stmt := topS 89
abbrev N_save_store : List Str := ["store", "texts", "lines", "index", "row", "key"]
theorem sc_save_store : FnScope N_save_store ["store"] (defScope s_save_store) := ⟨rfl, rfl, rfl, by decide +kernel, rfl, by decide +kernel, by decide +kernel⟩
abbrev s_load_store : Stmt := topS 90
abbrev N_load_store : List Str := ["text", "reader", "lines", "number", "line", "store", "index"]
theorem sc_load_store : FnScope N_load_store ["text"] (defScope s_load_store) := ⟨rfl, rfl, rfl, by decide +kernel, rfl, by decide +kernel, by decide +kernel⟩
abbrev s__entry_line : Stmt := topS 92
abbrev N__entry_line : List Str := ["tree", "path"]
theorem sc__entry_line : FnScope N__entry_line ["tree", "path"] (defScope s__entry_line) := ⟨rfl, rfl, rfl, by decide +kernel, rfl, by decide +kernel, by decide +kernel⟩
abbrev s__setting_line : Stmt := topS 93
abbrev N__setting_line : List Str := ["name", "text"]
theorem sc__setting_line : FnScope N__setting_line ["name", "text"] (defScope s__setting_line) := ⟨rfl, rfl, rfl, by decide +kernel, rfl, by decide +kernel, by decide +kernel⟩
abbrev s__content_line : Stmt := topS 94
abbrev N__content_line : List Str := ["right", "kept"]
theorem sc__content_line : FnScope N__content_line ["right", "kept"] (defScope s__content_line) := ⟨rfl, rfl, rfl, by decide +kernel, rfl, by decide +kernel, by decide +kernel⟩
abbrev s__row_line : Stmt := topS 95
abbrev N__row_line : List Str := ["index", "right", "kept"]
theorem sc__row_line : FnScope N__row_line ["index", "right", "kept"] (defScope s__row_line) := ⟨rfl, rfl, rfl, by decide +kernel, rfl, by decide +kernel, by decide +kernel⟩
abbrev s__count_line : Stmt := topS 96
abbrev N__count_line : List Str := ["count"]
theorem sc__count_line : FnScope N__count_line ["count"] (defScope s__count_line) := ⟨rfl, rfl, rfl, by decide +kernel, rfl, by decide +kernel, by decide +kernel⟩
abbrev s__read_lines : Stmt := topS 97
abbrev N__read_lines : List Str := ["text", "read_line", "found", "last", "number", "line", "name"]
theorem sc__read_lines : FnScope N__read_lines ["text", "read_line", "found"] (defScope s__read_lines) := ⟨rfl, rfl, rfl, by decide +kernel, rfl, by decide +kernel, by decide +kernel⟩
abbrev s__read_entry : Stmt := topS 98
abbrev N__read_entry : List Str := ["tree", "line", "parts"]
theorem sc__read_entry : FnScope N__read_entry ["tree", "line"] (defScope s__read_entry) := ⟨rfl, rfl, rfl, by decide +kernel, rfl, by decide +kernel, by decide +kernel⟩
abbrev s__read_setting : Stmt := topS 99
abbrev N__read_setting : List Str := ["settings", "line", "parts"]
theorem sc__read_setting : FnScope N__read_setting ["settings", "line"] (defScope s__read_setting) := ⟨rfl, rfl, rfl, by decide +kernel, rfl, by decide +kernel, by decide +kernel⟩
abbrev s__parts : Stmt := topS 100
abbrev N__parts : List Str := ["line", "_", "text"]
theorem sc__parts : FnScope N__parts ["line"] (defScope s__parts) := ⟨rfl, rfl, rfl, by decide +kernel, rfl, by decide +kernel, by decide +kernel⟩
abbrev s__law_cell : Stmt := topS 104
abbrev N__law_cell : List Str := ["script", "k"]
theorem sc__law_cell : FnScope N__law_cell ["script", "k"] (defScope s__law_cell) := ⟨rfl, rfl, rfl, by decide +kernel, rfl, by decide +kernel, by decide +kernel⟩
abbrev s__law_lines : Stmt := topS 105
abbrev N__law_lines : List Str := ["kind", "cell", "lines", "count", "k", "name", "word"]
theorem sc__law_lines : FnScope N__law_lines ["kind", "cell"] (defScope s__law_lines) := ⟨rfl, rfl, rfl, by decide +kernel, rfl, by decide +kernel, by decide +kernel⟩
abbrev s__law_spoilt : Stmt := topS 106
abbrev N__law_spoilt : List Str := ["lines", "way", "at", "cell", "line", "place"]
theorem sc__law_spoilt : FnScope N__law_spoilt ["lines", "way", "at", "cell"] (defScope s__law_spoilt) := ⟨rfl, rfl, rfl, by decide +kernel, rfl, by decide +kernel, by decide +kernel⟩
abbrev s__law_loaded : Stmt := topS 107
abbrev N__law_loaded : List Str := ["kind", "text", "e"]
theorem sc__law_loaded : FnScope N__law_loaded ["kind", "text"] (defScope s__law_loaded) := ⟨rfl, rfl, rfl, by decide +kernel, rfl, by decide +kernel, by decide +kernel⟩
abbrev s_law : Stmt := topS 108
abbrev N_law : List Str := ["script", "first", "kind", "lines", "cell", "at", "way", "spoilt", "text", "actual"]
theorem sc_law : FnScope N_law ["script"] (defScope s_law) := ⟨rfl, rfl, rfl, by decide +kernel, rfl, by decide +kernel, by decide +kernel⟩
abbrev s_InvalidKey___init__ : Stmt := inClass (topS 3) 0
abbrev N_InvalidKey___init__ : List Str := ["self", "key"]
abbrev s_InvalidPath___init__ : Stmt := inClass (topS 4) 0
abbrev N_InvalidPath___init__ : List Str := ["self", "path"]
theorem sc_InvalidPath___init__ : FnScope N_InvalidPath___init__ ["self", "path"] (defScope s_InvalidPath___init__) := ⟨rfl, rfl, rfl, by decide +kernel, rfl, by decide +kernel, by decide +kernel⟩
abbrev s_InvalidContent___init__ : Stmt := inClass (topS 5) 0
abbrev N_InvalidContent___init__ : List Str := ["self", "path"]
theorem sc_InvalidContent___init__ : FnScope N_InvalidContent___init__ ["self", "path"] (defScope s_InvalidContent___init__) := ⟨rfl, rfl, rfl, by decide +kernel, rfl, by decide +kernel, by decide +kernel⟩
abbrev s_TreeFull___init__ : Stmt := inClass (topS 6) 0
abbrev N_TreeFull___init__ : List Str := ["self", "path"]
theorem sc_TreeFull___init__ : FnScope N_TreeFull___init__ ["self", "path"] (defScope s_TreeFull___init__) := ⟨rfl, rfl, rfl, by decide +kernel, rfl, by decide +kernel, by decide +kernel⟩
abbrev s_InvalidRecipe___init__ : Stmt := inClass (topS 7) 0
abbrev N_InvalidRecipe___init__ : List Str := ["self", "path", "line", "column", "reason"]
theorem sc_InvalidRecipe___init__ : FnScope N_InvalidRecipe___init__ ["self", "path", "line", "column", "reason"] (defScope s_InvalidRecipe___init__) := ⟨rfl, rfl, rfl, by decide +kernel, rfl, by decide +kernel, by decide +kernel⟩
abbrev s_InvalidRecord___init__ : Stmt := inClass (topS 50) 0
abbrev N_InvalidRecord___init__ : List Str := ["self", "line"]
abbrev s_MissingContent___init__ : Stmt := inClass (topS 51) 0
abbrev N_MissingContent___init__ : List Str := ["self", "key"]
abbrev s_NoSuchRecord___init__ : Stmt := inClass (topS 52) 0
abbrev N_NoSuchRecord___init__ : List Str := ["self", "index"]
abbrev s_DamagedRecord___init__ : Stmt := inClass (topS 53) 0
abbrev N_DamagedRecord___init__ : List Str := ["self", "index"]
abbrev s_Record___init__ : Stmt := inClass (topS 61) 0
abbrev N_Record___init__ : List Str := ["self", "outputs", "rule_key", "needs", "results"]
abbrev s_Record___eq__ : Stmt := inClass (topS 61) 1
abbrev N_Record___eq__ : List Str := ["self", "other"]
abbrev s_Store___init__ : Stmt := inClass (topS 73) 0
abbrev N_Store___init__ : List Str := ["self", "journal"]
theorem sc_Store___init__ : FnScope N_Store___init__ ["self", "journal"] (defScope s_Store___init__) := ⟨rfl, rfl, rfl, by decide +kernel, rfl, by decide +kernel, by decide +kernel⟩
abbrev s_Store_put_content : Stmt := inClass (topS 73) 1
abbrev N_Store_put_content : List Str := ["self", "text"]
abbrev s_Store_content : Stmt := inClass (topS 73) 2
abbrev N_Store_content : List Str := ["self", "key"]
abbrev s_Store_has_content : Stmt := inClass (topS 73) 3
abbrev N_Store_has_content : List Str := ["self", "key"]
abbrev s_Store_add_record : Stmt := inClass (topS 73) 4
abbrev N_Store_add_record : List Str := ["self", "record"]
abbrev s_Store_record : Stmt := inClass (topS 73) 5
abbrev N_Store_record : List Str := ["self", "index", "found"]
abbrev s_Store_find_records : Stmt := inClass (topS 73) 6
abbrev N_Store_find_records : List Str := ["self", "outputs", "rule_key"]
abbrev s_Store_lose_content : Stmt := inClass (topS 73) 7
abbrev N_Store_lose_content : List Str := ["self", "key"]
abbrev s_Store_damage_content : Stmt := inClass (topS 73) 8
abbrev N_Store_damage_content : List Str := ["self", "key", "text"]
abbrev s_Store_lose_record : Stmt := inClass (topS 73) 9
abbrev N_Store_lose_record : List Str := ["self", "index"]
abbrev s_Store_damage_record : Stmt := inClass (topS 73) 10
abbrev N_Store_damage_record : List Str := ["self", "index", "line"]
abbrev s_Store_content_keys : Stmt := inClass (topS 73) 11
abbrev N_Store_content_keys : List Str := ["self"]
theorem sc_Store_content_keys : FnScope N_Store_content_keys ["self"] (defScope s_Store_content_keys) := ⟨rfl, rfl, rfl, by decide +kernel, rfl, by decide +kernel, by decide +kernel⟩
abbrev s_Store_record_count : Stmt := inClass (topS 73) 12
abbrev N_Store_record_count : List Str := ["self"]
theorem sc_Store_record_count : FnScope N_Store_record_count ["self"] (defScope s_Store_record_count) := ⟨rfl, rfl, rfl, by decide +kernel, rfl, by decide +kernel, by decide +kernel⟩
abbrev s_Store_twin : Stmt := inClass (topS 73) 13
abbrev N_Store_twin : List Str := ["self"]
abbrev s_Store_kept_texts : Stmt := inClass (topS 73) 14
abbrev N_Store_kept_texts : List Str := ["self"]
theorem sc_Store_kept_texts : FnScope N_Store_kept_texts ["self"] (defScope s_Store_kept_texts) := ⟨rfl, rfl, rfl, by decide +kernel, rfl, by decide +kernel, by decide +kernel⟩
abbrev s_Store_kept_records : Stmt := inClass (topS 73) 15
abbrev N_Store_kept_records : List Str := ["self"]
theorem sc_Store_kept_records : FnScope N_Store_kept_records ["self"] (defScope s_Store_kept_records) := ⟨rfl, rfl, rfl, by decide +kernel, rfl, by decide +kernel, by decide +kernel⟩
abbrev s_Store_fill_from : Stmt := inClass (topS 73) 16
abbrev N_Store_fill_from : List Str := ["self", "texts", "rows"]
theorem sc_Store_fill_from : FnScope N_Store_fill_from ["self", "texts", "rows"] (defScope s_Store_fill_from) := ⟨rfl, rfl, rfl, by decide +kernel, rfl, by decide +kernel, by decide +kernel⟩
abbrev s_Store__check_content : Stmt := inClass (topS 73) 17
abbrev N_Store__check_content : List Str := ["self", "key"]
abbrev s_Store__check_kept : Stmt := inClass (topS 73) 18
abbrev N_Store__check_kept : List Str := ["self", "index"]
abbrev s_Tree___init__ : Stmt := inClass (topS 79) 0
abbrev N_Tree___init__ : List Str := ["self"]
theorem sc_Tree___init__ : FnScope N_Tree___init__ ["self"] (defScope s_Tree___init__) := ⟨rfl, rfl, rfl, by decide +kernel, rfl, by decide +kernel, by decide +kernel⟩
abbrev s_Tree_write : Stmt := inClass (topS 79) 1
abbrev N_Tree_write : List Str := ["self", "path", "text", "by"]
theorem sc_Tree_write : FnScope N_Tree_write ["self", "path", "text", "by"] (defScope s_Tree_write) := ⟨rfl, rfl, rfl, by decide +kernel, rfl, by decide +kernel, by decide +kernel⟩
abbrev s_Tree_link : Stmt := inClass (topS 79) 2
abbrev N_Tree_link : List Str := ["self", "path", "target"]
theorem sc_Tree_link : FnScope N_Tree_link ["self", "path", "target"] (defScope s_Tree_link) := ⟨rfl, rfl, rfl, by decide +kernel, rfl, by decide +kernel, by decide +kernel⟩
abbrev s_Tree_erase : Stmt := inClass (topS 79) 3
abbrev N_Tree_erase : List Str := ["self", "path"]
abbrev s_Tree_kind : Stmt := inClass (topS 79) 4
abbrev N_Tree_kind : List Str := ["self", "path", "entry"]
theorem sc_Tree_kind : FnScope N_Tree_kind ["self", "path"] (defScope s_Tree_kind) := ⟨rfl, rfl, rfl, by decide +kernel, rfl, by decide +kernel, by decide +kernel⟩
abbrev s_Tree_read : Stmt := inClass (topS 79) 5
abbrev N_Tree_read : List Str := ["self", "path"]
theorem sc_Tree_read : FnScope N_Tree_read ["self", "path"] (defScope s_Tree_read) := ⟨rfl, rfl, rfl, by decide +kernel, rfl, by decide +kernel, by decide +kernel⟩
abbrev s_Tree_writer : Stmt := inClass (topS 79) 6
abbrev N_Tree_writer : List Str := ["self", "path"]
theorem sc_Tree_writer : FnScope N_Tree_writer ["self", "path"] (defScope s_Tree_writer) := ⟨rfl, rfl, rfl, by decide +kernel, rfl, by decide +kernel, by decide +kernel⟩
abbrev s_Tree_target : Stmt := inClass (topS 79) 7
abbrev N_Tree_target : List Str := ["self", "path"]
theorem sc_Tree_target : FnScope N_Tree_target ["self", "path"] (defScope s_Tree_target) := ⟨rfl, rfl, rfl, by decide +kernel, rfl, by decide +kernel, by decide +kernel⟩
abbrev s_Tree_resolve : Stmt := inClass (topS 79) 8
abbrev N_Tree_resolve : List Str := ["self", "path"]
abbrev s_Tree_paths : Stmt := inClass (topS 79) 9
abbrev N_Tree_paths : List Str := ["self"]
theorem sc_Tree_paths : FnScope N_Tree_paths ["self"] (defScope s_Tree_paths) := ⟨rfl, rfl, rfl, by decide +kernel, rfl, by decide +kernel, by decide +kernel⟩
abbrev s_Tree_twin : Stmt := inClass (topS 79) 10
abbrev N_Tree_twin : List Str := ["self"]
abbrev s_Tree__has_room : Stmt := inClass (topS 79) 11
abbrev N_Tree__has_room : List Str := ["self", "path", "persons", "entry"]
theorem sc_Tree__has_room : FnScope N_Tree__has_room ["self", "path"] (defScope s_Tree__has_room) := ⟨rfl, rfl, rfl, by decide +kernel, rfl, by decide +kernel, by decide +kernel⟩
abbrev s_InvalidSave___init__ : Stmt := inClass (topS 84) 0
abbrev N_InvalidSave___init__ : List Str := ["self", "line"]
theorem sc_InvalidSave___init__ : FnScope N_InvalidSave___init__ ["self", "line"] (defScope s_InvalidSave___init__) := ⟨rfl, rfl, rfl, by decide +kernel, rfl, by decide +kernel, by decide +kernel⟩
abbrev s_StoreReader___init__ : Stmt := inClass (topS 91) 0
abbrev N_StoreReader___init__ : List Str := ["self"]
theorem sc_StoreReader___init__ : FnScope N_StoreReader___init__ ["self"] (defScope s_StoreReader___init__) := ⟨rfl, rfl, rfl, by decide +kernel, rfl, by decide +kernel, by decide +kernel⟩
abbrev s_StoreReader_read : Stmt := inClass (topS 91) 1
abbrev N_StoreReader_read : List Str := ["self", "line", "parts", "number"]
theorem sc_StoreReader_read : FnScope N_StoreReader_read ["self", "line"] (defScope s_StoreReader_read) := ⟨rfl, rfl, rfl, by decide +kernel, rfl, by decide +kernel, by decide +kernel⟩
abbrev s_StoreReader__read_content : Stmt := inClass (topS 91) 2
abbrev N_StoreReader__read_content : List Str := ["self", "right", "kept", "key"]
theorem sc_StoreReader__read_content : FnScope N_StoreReader__read_content ["self", "right", "kept"] (defScope s_StoreReader__read_content) := ⟨rfl, rfl, rfl, by decide +kernel, rfl, by decide +kernel, by decide +kernel⟩
abbrev s_StoreReader__read_record : Stmt := inClass (topS 91) 3
abbrev N_StoreReader__read_record : List Str := ["self", "index", "right", "kept"]
theorem sc_StoreReader__read_record : FnScope N_StoreReader__read_record ["self", "index", "right", "kept"] (defScope s_StoreReader__read_record) := ⟨rfl, rfl, rfl, by decide +kernel, rfl, by decide +kernel, by decide +kernel⟩
abbrev s_StoreReader__read_count : Stmt := inClass (topS 91) 4
abbrev N_StoreReader__read_count : List Str := ["self", "count"]
theorem sc_StoreReader__read_count : FnScope N_StoreReader__read_count ["self", "count"] (defScope s_StoreReader__read_count) := ⟨rfl, rfl, rfl, by decide +kernel, rfl, by decide +kernel, by decide +kernel⟩
structure Tx (mg : Str → Option Value) : Prop where
  b_abs : mg "abs" = none
  b_all : mg "all" = none
  b_bool : mg "bool" = none
  b_dict : mg "dict" = none
  b_enumerate : mg "enumerate" = none
  b_int : mg "int" = none
  b_isinstance : mg "isinstance" = none
  b_len : mg "len" = none
  b_list : mg "list" = none
  b_max : mg "max" = none
  b_ord : mg "ord" = none
  b_range : mg "range" = none
  b_sorted : mg "sorted" = none
  b_str : mg "str" = none
  c_CONTENT_LENGTH : ∃ u, mg "CONTENT_LENGTH" = some u ∧ RelV (.int 400) u
  c_NEWLINE : ∃ u, mg "NEWLINE" = some u ∧ RelV (.int 10) u
  c_SPACE : ∃ u, mg "SPACE" = some u ∧ RelV (.int 32) u
  c_PERCENT : ∃ u, mg "PERCENT" = some u ∧ RelV (.int 37) u
  c_TILDE : ∃ u, mg "TILDE" = some u ∧ RelV (.int 126) u
  c_SIGNS_BEFORE : ∃ u, mg "SIGNS_BEFORE" = some u ∧ RelV (.str (Str.ofString " !\"#$")) u
  c_SIGNS_BEHIND : ∃ u, mg "SIGNS_BEHIND" = some u ∧ RelV (.str (Str.ofString "&'()*+,-./0123456789:;<=>?@ABCDEFGHIJKLMNOPQRSTUVWXYZ[\\]^_`abcdefghijklmnopqrstuvwxyz{|}~")) u
  c_DIGIT_BITS : ∃ u, mg "DIGIT_BITS" = some u ∧ RelV (.int 7) u
  c_IDENTIFIER_LENGTH : ∃ u, mg "IDENTIFIER_LENGTH" = some u ∧ RelV (.int 12) u
  c_LETTERS : ∃ u, mg "LETTERS" = some u ∧ RelV (.str (Str.ofString "abcdefghijklmnopqrstuvwxyz")) u
  c_IDENTIFIER_SIGNS : ∃ u, mg "IDENTIFIER_SIGNS" = some u ∧ RelV (.str (Str.ofString "abcdefghijklmnopqrstuvwxyz0123456789_")) u
  c_SIGNS : ∃ u, mg "SIGNS" = some u ∧ RelV (.str (Str.ofString "(),+")) u
  c_QUOTE : ∃ u, mg "QUOTE" = some u ∧ RelV (.str (Str.ofString "\"")) u
  c_BACKSLASH : ∃ u, mg "BACKSLASH" = some u ∧ RelV (.str (Str.ofString "\\")) u
  c_WORD_ENDS : ∃ u, mg "WORD_ENDS" = some u ∧ RelV (.str (Str.ofString " \"(),+")) u
  c_MOST_NAMES : ∃ u, mg "MOST_NAMES" = some u ∧ RelV (.int 4) u
  c_NAME_LENGTH : ∃ u, mg "NAME_LENGTH" = some u ∧ RelV (.int 12) u
  c_NAME_SIGNS : ∃ u, mg "NAME_SIGNS" = some u ∧ RelV (.str (Str.ofString "abcdefghijklmnopqrstuvwxyz0123456789_.")) u
  c_MOST_PERSONS_ENTRIES : ∃ u, mg "MOST_PERSONS_ENTRIES" = some u ∧ RelV (.int 60) u
  c_MOST_DIGITS_saving : ∃ u, mg "MOST_DIGITS_saving" = some u ∧ RelV (.int 4) u
structure Tc_Tree (K : PySem.W.Frag) (C : Addr) : Prop where
  cl : Cls K C
  na_entries : NoAttr K C "entries"
structure Tc_Store (K : PySem.W.Frag) (C : Addr) : Prop where
  cl : Cls K C
  na_journal : NoAttr K C "journal"
  na__texts : NoAttr K C "_texts"
  na__rows : NoAttr K C "_rows"
structure Tc_StoreReader (K : PySem.W.Frag) (C : Addr) : Prop where
  cl : Cls K C
  na_texts : NoAttr K C "texts"
  na_rows : NoAttr K C "rows"
  na_last_key : NoAttr K C "last_key"
  na_last_index : NoAttr K C "last_index"
  na_count : NoAttr K C "count"
structure Gx (K : PySem.W.Frag) (mg : Str → Option Value) where
  c_BuildError : Addr
  g_BuildError : mg "BuildError" = some (.ref c_BuildError)
  b_BuildError : Kn.BaseC K c_BuildError
  c_InvalidPath : Addr
  g_InvalidPath : mg "InvalidPath" = some (.ref c_InvalidPath)
  x_InvalidPath : Kn.Xc K c_InvalidPath c_BuildError
  n_InvalidPath_path : PySem.W.findIn K (.ref c_InvalidPath) "path" = some none
  c_InvalidContent : Addr
  g_InvalidContent : mg "InvalidContent" = some (.ref c_InvalidContent)
  x_InvalidContent : Kn.Xc K c_InvalidContent c_BuildError
  n_InvalidContent_path : PySem.W.findIn K (.ref c_InvalidContent) "path" = some none
  c_TreeFull : Addr
  g_TreeFull : mg "TreeFull" = some (.ref c_TreeFull)
  x_TreeFull : Kn.Xc K c_TreeFull c_BuildError
  n_TreeFull_path : PySem.W.findIn K (.ref c_TreeFull) "path" = some none
  c_InvalidRecipe : Addr
  g_InvalidRecipe : mg "InvalidRecipe" = some (.ref c_InvalidRecipe)
  x_InvalidRecipe : Kn.Xc K c_InvalidRecipe c_BuildError
  n_InvalidRecipe_path : PySem.W.findIn K (.ref c_InvalidRecipe) "path" = some none
  n_InvalidRecipe_line : PySem.W.findIn K (.ref c_InvalidRecipe) "line" = some none
  n_InvalidRecipe_column : PySem.W.findIn K (.ref c_InvalidRecipe) "column" = some none
  n_InvalidRecipe_reason : PySem.W.findIn K (.ref c_InvalidRecipe) "reason" = some none
  c_InvalidSave : Addr
  g_InvalidSave : mg "InvalidSave" = some (.ref c_InvalidSave)
  x_InvalidSave : Kn.Xc K c_InvalidSave c_BuildError
  n_InvalidSave_line : PySem.W.findIn K (.ref c_InvalidSave) "line" = some none
  k_InvalidSave_InvalidRecipe : PySem.W.kitOne K (.ref c_InvalidSave) (.ref c_InvalidRecipe) = some false
local macro_rules | `(tactic| walk_at "ev") => `(tactic| first
  | exact ev_c
  | exact ev_var rfl
  | exact ea_nil
  | exact eo_none
  | (apply eo_some; walk_at "ev")
  | (apply ea_cons <;> walk_at "ev")
  | (apply ev_op <;> first | walk_at "rv" | walk_at "ev")
  | (apply ev_un <;> first | exact ru_neg | walk_at "ev")
  | (apply ev_chain <;> first | walk_at "rv" | walk_at "ev")
  | (apply et_test; walk_at "ev")
  | (apply et_B; walk_at "ev")
  | (apply et_not; walk_at "ev")
  | (apply et_and; walk_at "ev"; intro _; walk_at "ev")
  | (apply et_or; walk_at "ev"; intro _; walk_at "ev")
  | (apply ev_andV; walk_at "ev"; intro _; walk_at "ev")
  | (apply ev_orV; walk_at "ev"; intro _; walk_at "ev")
  | (apply ev_notV; walk_at "ev")
  | (apply ev_cb <;> first | walk_at "rc" | walk_at "ev"))
local macro_rules | `(tactic| walk_at "rv") => `(tactic| first
  | exact rv_eqI | exact rv_neI | exact rv_eqS | exact rv_neS | exact rv_le | exact rv_lt | exact rv_ge | exact rv_gt | exact rv_inS | exact rv_ninS
  | exact rv_I0
  | exact rv_pow ⟨by decide, by decide, by decide⟩
  | exact rv_mod (by first | decide | omega)
  | exact rv_fdiv ⟨by decide, by decide⟩
  | exact rv_fdiv ⟨by omega, by omega⟩
  | exact rv_addS (by first | assumption | omega)
  | exact rv_mul (.inr ⟨by decide, by decide⟩) | exact rv_mul (.inl ⟨by decide, by decide⟩)
  | exact rv_mul (by first | exact .inl ⟨by omega, by omega⟩ | exact .inr ⟨by omega, by omega⟩)
  | exact rv_eq rfl | exact rv_ne rfl)
local macro_rules | `(tactic| walk_at "rc") => `(tactic| first
  | exact rc_abs | exact rc_int | exact rc_intB | exact rc_ord
  | exact rc_lenS (by first | assumption | omega))

section
variable {P : Program} {w : World} {K : PySem.W.Frag} {mg : Str → Option Value} {base : Heap}
theorem ok_InvalidPath___init__ {f : Addr} {C_Tree C_Store C_StoreReader : Addr} {fd : FuncData} (F : Fun K "__init__" "InvalidPath.__init__" s_InvalidPath___init__ f fd) (T : Tx mg) (G : Gx K mg) (TC_Tree : Tc_Tree K C_Tree) (TC_Store : Tc_Store K C_Store) (TC_StoreReader : Tc_StoreReader K C_StoreReader)  : FnOk P w K mg base CX0 1 f fd ["self", "path"] (sp_I1 "path" K) := by
  refine F.ok sc_InvalidPath___init__ (fun vs H Q E h => ?_) (fun cdv A outer s H vs Q E hr h => ?_)
  · obtain ⟨a, C, l, rfl, _⟩ := h
    rfl
  · obtain ⟨a, C, l, rfl, hl, ha, oe, nf, q⟩ := h
    refine ⟨_, (pss_cons (ps_expr (Kn.pe_beinit G.b_BuildError (by rfl) G.g_BuildError (pa_cons (pv 0) (pa_cons (pe_joined (.cons pe_str (.cons (pe_fmt (pv 1)) .nil))) pa_nil))))
      (pss_one (ps_ost (pv 0) (pv 1)))), ?_⟩
    exact init1_body (l := l) (ev_js (.cons (ev_cS (l := (Str.ofString "not a path: ").cps.toList) rfl) (.cons (ev_fmtS (ev_var rfl) (by omega)) .nil)) (by show (12 + (l.length + 0)) ≤ 100000; omega)) ha oe nf fun dx H' h1 h2 m => q dx H' h1 h2 m

theorem ok_InvalidContent___init__ {f : Addr} {C_Tree C_Store C_StoreReader : Addr} {fd : FuncData} (F : Fun K "__init__" "InvalidContent.__init__" s_InvalidContent___init__ f fd) (T : Tx mg) (G : Gx K mg) (TC_Tree : Tc_Tree K C_Tree) (TC_Store : Tc_Store K C_Store) (TC_StoreReader : Tc_StoreReader K C_StoreReader)  : FnOk P w K mg base CX0 1 f fd ["self", "path"] (sp_I1 "path" K) := by
  refine F.ok sc_InvalidContent___init__ (fun vs H Q E h => ?_) (fun cdv A outer s H vs Q E hr h => ?_)
  · obtain ⟨a, C, l, rfl, _⟩ := h
    rfl
  · obtain ⟨a, C, l, rfl, hl, ha, oe, nf, q⟩ := h
    refine ⟨_, (pss_cons (ps_expr (Kn.pe_beinit G.b_BuildError (by rfl) G.g_BuildError (pa_cons (pv 0) (pa_cons (pe_joined (.cons pe_str (.cons (pe_fmt (pv 1)) .nil))) pa_nil))))
      (pss_one (ps_ost (pv 0) (pv 1)))), ?_⟩
    exact init1_body (l := l) (ev_js (.cons (ev_cS (l := (Str.ofString "not a content, at ").cps.toList) rfl) (.cons (ev_fmtS (ev_var rfl) (by omega)) .nil)) (by show (18 + (l.length + 0)) ≤ 100000; omega)) ha oe nf fun dx H' h1 h2 m => q dx H' h1 h2 m

theorem ok_TreeFull___init__ {f : Addr} {C_Tree C_Store C_StoreReader : Addr} {fd : FuncData} (F : Fun K "__init__" "TreeFull.__init__" s_TreeFull___init__ f fd) (T : Tx mg) (G : Gx K mg) (TC_Tree : Tc_Tree K C_Tree) (TC_Store : Tc_Store K C_Store) (TC_StoreReader : Tc_StoreReader K C_StoreReader)  : FnOk P w K mg base CX0 1 f fd ["self", "path"] (sp_I1 "path" K) := by
  refine F.ok sc_TreeFull___init__ (fun vs H Q E h => ?_) (fun cdv A outer s H vs Q E hr h => ?_)
  · obtain ⟨a, C, l, rfl, _⟩ := h
    rfl
  · obtain ⟨a, C, l, rfl, hl, ha, oe, nf, q⟩ := h
    refine ⟨_, (pss_cons (ps_expr (Kn.pe_beinit G.b_BuildError (by rfl) G.g_BuildError (pa_cons (pv 0) (pa_cons (pe_joined (.cons pe_str (.cons (pe_fmt (pv 1)) .nil))) pa_nil))))
      (pss_one (ps_ost (pv 0) (pv 1)))), ?_⟩
    exact init1_body (l := l) (ev_js (.cons (ev_cS (l := (Str.ofString "no room for a person's entry at ").cps.toList) rfl) (.cons (ev_fmtS (ev_var rfl) (by omega)) .nil)) (by show (32 + (l.length + 0)) ≤ 100000; omega)) ha oe nf fun dx H' h1 h2 m => q dx H' h1 h2 m

theorem ok_InvalidRecipe___init__ {f : Addr} {C_Tree C_Store C_StoreReader : Addr} {fd : FuncData} (F : Fun K "__init__" "InvalidRecipe.__init__" s_InvalidRecipe___init__ f fd) (T : Tx mg) (G : Gx K mg) (TC_Tree : Tc_Tree K C_Tree) (TC_Store : Tc_Store K C_Store) (TC_StoreReader : Tc_StoreReader K C_StoreReader)  : FnOk P w K mg base CX0 1 f fd ["self", "path", "line", "column", "reason"] (sp_I4 K) := by
  refine F.ok sc_InvalidRecipe___init__ (fun vs H Q E h => ?_) (fun cdv A outer s H vs Q E hr h => ?_)
  · obtain ⟨a, C, p, n, c, r, rfl, _⟩ := h
    rfl
  · obtain ⟨a, C, p, n, c, r, rfl, ⟨hp, hr1, hn, hc⟩, ha, oe, nf, q⟩ := h
    refine ⟨_, (pss_cons (ps_expr (Kn.pe_beinit G.b_BuildError (by rfl) G.g_BuildError (pa_cons (pv 0) (pa_cons (pe_joined (.cons (pe_fmt (pv 1)) (.cons pe_str (.cons (pe_fmt (pv 2)) (.cons pe_str (.cons (pe_fmt (pv 3)) (.cons pe_str (.cons (pe_fmt (pv 4)) .nil)))))))) pa_nil))))
      (pss_cons (ps_ost (pv 0) (pv 1))
      (pss_cons (ps_ost (pv 0) (pv 2))
      (pss_cons (ps_ost (pv 0) (pv 3))
      (pss_one (ps_ost (pv 0) (pv 4))))))), ?_⟩
    have l1 := num_len hn
    have l2 := num_len hc
    exact init4_body (p := p) (n := n) (c := c) (r := r) rfl (ev_js (.cons (ev_fmtS (ev_var rfl) (by omega)) (.cons (ev_cS (l := (Str.ofString ", line ").cps.toList) rfl) (.cons (ev_fmtI (ev_var rfl) hn) (.cons (ev_cS (l := (Str.ofString ", column ").cps.toList) rfl) (.cons (ev_fmtI (ev_var rfl) hc) (.cons (ev_cS (l := (Str.ofString ": ").cps.toList) rfl) (.cons (ev_fmtS (ev_var rfl) (by omega)) .nil))))))) (by show p.length + (7 + ((TL.numL n).length + (9 + ((TL.numL c).length + (2 + (r.length + 0)))))) ≤ 100000; omega)) ha oe nf fun dx H' h1 h2 m => q dx H' h1 h2 m

theorem ok_InvalidSave___init__ {f : Addr} {C_Tree C_Store C_StoreReader : Addr} {fd : FuncData} (F : Fun K "__init__" "InvalidSave.__init__" s_InvalidSave___init__ f fd) (T : Tx mg) (G : Gx K mg) (TC_Tree : Tc_Tree K C_Tree) (TC_Store : Tc_Store K C_Store) (TC_StoreReader : Tc_StoreReader K C_StoreReader)  : FnOk P w K mg base CX0 1 f fd ["self", "line"] (sp_I1z "line" K) := by
  refine F.ok sc_InvalidSave___init__ (fun vs H Q E h => ?_) (fun cdv A outer s H vs Q E hr h => ?_)
  · obtain ⟨a, C, i, rfl, _⟩ := h
    rfl
  · obtain ⟨a, C, i, rfl, ⟨hi, hz⟩, ha, oe, nf, q⟩ := h
    refine ⟨_, (pss_cons (ps_expr (Kn.pe_beinit G.b_BuildError (by rfl) G.g_BuildError (pa_cons (pv 0) (pa_cons (pe_joined (.cons pe_str (.cons (pe_fmt (pv 1)) (.cons pe_str .nil)))) pa_nil))))
      (pss_one (ps_ost (pv 0) (pv 1)))), ?_⟩
    exact init1v_body (v := .int i) (ev_js (.cons (ev_cS (l := (Str.ofString "line ").cps.toList) rfl) (.cons (ev_fmtZ (ev_var rfl) hi) (.cons (ev_cS (l := (Str.ofString " of the saved form has an error").cps.toList) rfl) .nil))) (by show (5 + ((toString i : Str).cps.toList.length + (31 + 0))) ≤ 100000; omega)) ha oe nf fun dx H' h1 h2 m => q dx H' h1 h2 m

end
/-! ### texts -/
def isCode (n : Int) : Bool := decide (n = 10) || ((decide (32 ≤ n) && decide (n ≤ 126)) && !decide (n = 37))
def okText (l : List Nat) : Bool := l.all fun c => isCode (c : Int)
section
variable {P : Program} {w : World} {K : PySem.W.Frag} {mg : Str → Option Value} {base : Heap}
def sp__is_code (_ : PySem.W.Frag) : Sp := sp1 (fun n : Int => [.int n]) (fun _ _ => True) (fun n => .bl (isCode n))
theorem ok__is_code {f : Addr} {C_Tree C_Store C_StoreReader : Addr} {fd : FuncData} (F : Fun K "_is_code" "_is_code" s__is_code f fd) (T : Tx mg) (G : Gx K mg) (TC_Tree : Tc_Tree K C_Tree) (TC_Store : Tc_Store K C_Store) (TC_StoreReader : Tc_StoreReader K C_StoreReader)  : FnOk P w K mg base CX0 1 f fd ["code"] (sp__is_code K) := by
  refine F.ok sc__is_code (fun vs H Q E h => ?_) (fun cdv A outer s H vs Q E hr h => ?_)
  · obtain ⟨n, rfl, _⟩ := h
    rfl
  · obtain ⟨n, rfl, -, q⟩ := h
    refine ⟨_, (pss_one (ps_ret (pe_or (pe_cmpR op_eq (pv 0) (C8.pe_gc (by rfl) T.c_NEWLINE) (nomark _)) (pe_one (pe_and (pe_chain op_le op_le (C8.pe_gc (by rfl) T.c_SPACE) (pv 0) (C8.pe_gc (by rfl) T.c_TILDE)) (pe_one (pe_cmpR op_ne (pv 0) (C8.pe_gc (by rfl) T.c_PERCENT) (nomark _)))))))), ?_⟩
    apply s_ret
    · walk_at "ev"
    · exact q
def sp_is_text (_ : PySem.W.Frag) : Sp := sp1 (fun l : List Nat => [.str (S l)]) (fun l _ => l.length ≤ 40000) (fun l => .bl (okText l))
theorem ok_is_text {f : Addr} {C_Tree C_Store C_StoreReader : Addr} {fd : FuncData} (F : Fun K "is_text" "is_text" s_is_text f fd) (T : Tx mg) (G : Gx K mg) (TC_Tree : Tc_Tree K C_Tree) (TC_Store : Tc_Store K C_Store) (TC_StoreReader : Tc_StoreReader K C_StoreReader) (C__is_code : Kn.Cl P w K mg base 1 "_is_code" (sp__is_code K)) : FnOk P w K mg base CX0 2 f fd ["value"] (sp_is_text K) := by
  refine F.ok sc_is_text (fun vs H Q E h => ?_) (fun cdv A outer s H vs Q E hr h => ?_)
  · obtain ⟨l, rfl, _⟩ := h
    rfl
  · obtain ⟨l, rfl, hl, q⟩ := h
    refine ⟨_, (pss_one (ps_ret (pe_callB (cr_all rfl) (by rfl) T.b_all (by decide +kernel) (pa_cons (pe_lc (own := [("sign", 1)]) rfl sc_is_text.nd (pi_str (pv 0)) (blkOk_by (own := [("sign", 1)]) (N := N_is_text) (sc := defScope s_is_text) (by decide +kernel)) (fun _ _ _ _ _ => pg_name (i := 1) sc_is_text.nd rfl (Or.inl rfl)) (fun _ _ _ _ _ => pts_nil) (fun _ _ _ _ _ => (Kn.pe_cl C__is_code hr (by decide) (by rfl) (pa_cons (pe_callB Kn.cr_ord (by rfl) T.b_ord (by decide +kernel) (pa_cons (pv 1) pa_nil)) pa_nil)))) pa_nil)))), ?_⟩
    refine s_ret (v := .bl (okText l)) (ev_all (p := fun c : Nat => isCode (c : Int)) (el_lcS (ev_var rfl) hl (fun _ => rfl) fun c hc H1 e1 => ?_)) q
    exact ev_c1 (a := (c : Int)) (by walk_at "ev") (fun _ _ => trivial)
def sp_is_content (_ : PySem.W.Frag) : Sp := sp1 (fun l : List Nat => [.str (S l)]) (fun l _ => l.length ≤ 40000) (fun l => .bl (decide ((l.length : Int) ≤ 400) && okText l))
theorem ok_is_content {f : Addr} {C_Tree C_Store C_StoreReader : Addr} {fd : FuncData} (F : Fun K "is_content" "is_content" s_is_content f fd) (T : Tx mg) (G : Gx K mg) (TC_Tree : Tc_Tree K C_Tree) (TC_Store : Tc_Store K C_Store) (TC_StoreReader : Tc_StoreReader K C_StoreReader) (C_is_text : Kn.Cl P w K mg base 2 "is_text" (sp_is_text K)) : FnOk P w K mg base CX0 3 f fd ["value"] (sp_is_content K) := by
  refine F.ok sc_is_content (fun vs H Q E h => ?_) (fun cdv A outer s H vs Q E hr h => ?_)
  · obtain ⟨l, rfl, _⟩ := h
    rfl
  · obtain ⟨l, rfl, hl, q⟩ := h
    refine ⟨_, (pss_one (ps_ret (pe_and (pe_cmpR op_le (pe_callB Kn.cr_lenStr (by rfl) T.b_len PySem.boot_len (pa_cons (pv 0) pa_nil)) (C8.pe_gc (by rfl) T.c_CONTENT_LENGTH) (nomark _)) (pe_one (Kn.pe_cl C_is_text hr (by decide) (by rfl) (pa_cons (pv 0) pa_nil)))))), ?_⟩
    refine s_ret (ev_andV (by walk_at "ev") fun _ => ev_c1 (a := l) (by walk_at "ev") (fun _ _ => hl)) q
end

/-! ### names and paths -/
def NS : List Nat := (Str.ofString "abcdefghijklmnopqrstuvwxyz0123456789_.").cps.toList
def nameOk (G n : List Nat) : Bool := !(!(decide (1 ≤ (n.length : Int)) && decide ((n.length : Int) ≤ 12)) || decide (n[0]? = some 46)) && n.all fun c => decide (c ∈ G)
def pathOk (l : List Nat) : Bool := decide (((cut1 47 l).length : Int) ≤ 4) && (cut1 47 l).all (nameOk NS)
section
variable {P : Program} {w : World} {K : PySem.W.Frag} {mg : Str → Option Value} {base : Heap}
def sp__is_name (_ : PySem.W.Frag) : Sp := sp1 (fun l : List Nat => [.str (S l)]) (fun l _ => l.length ≤ 40000) (fun l => .bl (nameOk NS l))
theorem ok__is_name {f : Addr} {C_Tree C_Store C_StoreReader : Addr} {fd : FuncData} (F : Fun K "_is_name" "_is_name" s__is_name f fd) (T : Tx mg) (G : Gx K mg) (TC_Tree : Tc_Tree K C_Tree) (TC_Store : Tc_Store K C_Store) (TC_StoreReader : Tc_StoreReader K C_StoreReader)  : FnOk P w K mg base CX0 1 f fd ["name"] (sp__is_name K) := by
  refine F.ok sc__is_name (fun vs H Q E h => ?_) (fun cdv A outer s H vs Q E hr h => ?_)
  · obtain ⟨l, rfl, _⟩ := h
    rfl
  · obtain ⟨l, rfl, hl, q⟩ := h
    refine ⟨_, (pss_cons (ps_if (PW.pt (pw_or (pt_not (pt_chain op_le op_le pe_int (pe_callB Kn.cr_lenStr (by rfl) T.b_len PySem.boot_len (pa_cons (pv 0) pa_nil)) (C8.pe_gc (by rfl) T.c_NAME_LENGTH))) (pw_or1 (pt_val (pe_m1 PySem.F.slot_str_startswith PySem.F.type_str_startswith Kn.mt_startswith (pv 0) pe_str))))) (pss_one (ps_ret pe_bl)) pss_nil)
      (pss_one (ps_ret (pe_callB (cr_all rfl) (by rfl) T.b_all (by decide +kernel) (pa_cons (pe_lc (own := [("sign", 1)]) rfl sc__is_name.nd (pi_str (pv 0)) (blkOk_by (own := [("sign", 1)]) (N := N__is_name) (sc := defScope s__is_name) (by decide +kernel)) (fun _ _ _ _ _ => pg_name (i := 1) sc__is_name.nd rfl (Or.inl rfl)) (fun _ _ _ _ _ => pts_nil) (fun _ _ _ _ _ => (pe_cmpR op_inS (pv 1) (C8.pe_gc (by rfl) T.c_NAME_SIGNS) rfl))) pa_nil))))), ?_⟩
    refine q_when (b := !(decide (1 ≤ (l.length : Int)) && decide ((l.length : Int) ≤ 12)) || decide (l[0]? = some 46)) (et_or (et_not (et_test (ev_chain ev_c (ev_cb (ea_cons (ev_var rfl) ea_nil) (rc_lenS (by omega))) rv_le ev_c rv_le))) fun _ => et_B (ev_starts (c := 46) (ev_var rfl) (ev_cS rfl))) (fun hb H1 e1 => ?_) (fun hb H1 e1 => ?_)
    · refine s_ret ev_c fun H2 e2 => ?_
      have z : Q (.bl (nameOk NS l)) H2 := q H2 (e1.trans e2)
      unfold nameOk at z
      rw [hb] at z
      exact z
    · refine s_ret (v := .bl (l.all fun c => decide (c ∈ NS))) (ev_all (p := fun c : Nat => decide (c ∈ NS)) (el_lcS (ev_var rfl) hl (fun _ => rfl) fun c hc H2 e2 => ?_)) fun H2 e2 => ?_
      · exact ev_op (ev_var rfl) (ev_cS (l := NS) rfl) rv_inS
      · have z : Q (.bl (nameOk NS l)) H2 := q H2 (e1.trans e2)
        unfold nameOk at z
        rw [hb] at z
        exact z
def sp_is_path (_ : PySem.W.Frag) : Sp := sp1 (fun l : List Nat => [.str (S l)]) (fun l _ => l.length ≤ 30000) (fun l => .bl (pathOk l))
theorem ok_is_path {f : Addr} {C_Tree C_Store C_StoreReader : Addr} {fd : FuncData} (F : Fun K "is_path" "is_path" s_is_path f fd) (T : Tx mg) (G : Gx K mg) (TC_Tree : Tc_Tree K C_Tree) (TC_Store : Tc_Store K C_Store) (TC_StoreReader : Tc_StoreReader K C_StoreReader) (C__is_name : Kn.Cl P w K mg base 1 "_is_name" (sp__is_name K)) : FnOk P w K mg base CX0 2 f fd ["value"] (sp_is_path K) := by
  refine F.ok sc_is_path (fun vs H Q E h => ?_) (fun cdv A outer s H vs Q E hr h => ?_)
  · obtain ⟨l, rfl, _⟩ := h
    rfl
  · obtain ⟨l, rfl, hl, q⟩ := h
    refine ⟨_, (pss_cons (ps_set (i := 1) sc_is_path.nd rfl (Or.inl rfl) (pe_m1 PySem.F.slot_str_split PySem.F.type_str_split Kn.mt_split (pv 0) pe_str))
      (pss_one (ps_ret (pe_and (pe_cmpR op_le (pe_callB Kn.cr_lenSeq (by rfl) T.b_len PySem.boot_len (pa_cons (pv 1) pa_nil)) (C8.pe_gc (by rfl) T.c_MOST_NAMES) (nomark _)) (pe_one (pe_callB (cr_all rfl) (by rfl) T.b_all (by decide +kernel) (pa_cons (pe_lc (own := [("name", 2)]) rfl sc_is_path.nd (pi_list (pv 1)) (blkOk_by (own := [("name", 2)]) (N := N_is_path) (sc := defScope s_is_path) (by decide +kernel)) (fun _ _ _ _ _ => pg_name (i := 2) sc_is_path.nd rfl (Or.inl rfl)) (fun _ _ _ _ _ => pts_nil) (fun _ _ _ _ _ => (Kn.pe_cl C__is_name hr (by decide) (by rfl) (pa_cons (pv 2) pa_nil)))) pa_nil))))))), ?_⟩
    have hc := cut1_len 47 l
    refine q_asgL (el_split (c := 47) (ev_var rfl) (ev_cS rfl) (by decide) (by omega)) fun p H1 np e1 hp => ?_
    refine s_ret (v := .bl (pathOk l)) (ev_andV (a := decide (((cut1 47 l).length : Int) ≤ 4)) (ev_is (ev_op (ev_len (ev_var rfl) (sq_of hp)) ev_c rv_le) (by rw [List.length_map])) fun _ => ev_all (p := nameOk NS) (el_lcM (g := fun p => V.str (S p)) (ev_var rfl) (sq_of hp) (by omega) (fun _ => rfl) fun n hn H2 e2 => ?_)) fun H2 e2 => q H2 (e1.trans e2)
    have := cut1_part hn
    exact ev_c1 (a := n) (by walk_at "ev") fun _ _ => (by omega)
end

/-! ### trees -/
def eFile : List Nat := (Str.ofString "file").cps.toList
def eLink : List Nat := (Str.ofString "link").cps.toList
def eNone : List Nat := (Str.ofString "none").cps.toList
def ePerson : List Nat := (Str.ofString "person").cps.toList
theorem file_ne : ¬ eFile = eLink := by decide +kernel
theorem none_ne : ¬ eNone = eLink := by decide +kernel
inductive Ent where
  | file (t b : List Nat) | link (t : List Nat)
def entV : Ent → List V
  | .file t b => [.str (S eFile), .str (S t), .str (S b)]
  | .link t => [.str (S eLink), .str (S t)]
def kindL : Option Ent → List Nat
  | none => eNone
  | some (.file _ _) => eFile
  | some (.link _) => eLink
def isPers : Ent → Bool
  | .link _ => true
  | .file _ b => decide (b = ePerson)
def step (es : List (List Nat × Ent)) (k : List Nat) : Option (List Nat) := match look es k with
  | some (.link t) => some t
  | _ => none
theorem kind_link {es : List (List Nat × Ent)} {k : List Nat} : kindL (look es k) = eLink ↔ ∃ t, look es k = some (.link t) := by
  cases h : look es k with
  | none => exact ⟨fun z => absurd z none_ne, fun ⟨t, z⟩ => nomatch z⟩
  | some e =>
    cases e with
    | file t b => exact ⟨fun z => absurd z file_ne, fun ⟨t, z⟩ => nomatch z⟩
    | link t => exact ⟨fun _ => ⟨t, rfl⟩, fun _ => rfl⟩
/-- the end of the links, one step at a time -/
def endV (g : List Nat → Option (List Nat)) : Nat → List Nat → V
  | 0, _ => .non
  | n + 1, k => match g k with
    | none => .str (S k)
    | some t => endV g n t
def flds (d : Addr) : List (Str × V) := putF "entries" (.ref d) []
theorem flds_get (d : Addr) : (flds d).lookup ("entries" : Str) = some (.ref d) := by
  unfold flds
  rw [lookup_putF, if_pos rfl]
theorem flds_no (d : Addr) {m : Str} (h : ¬ m = "entries") : (flds d).lookup m = none := by
  unfold flds
  rw [lookup_putF, if_neg h]
  rfl
structure Tc (K : PySem.W.Frag) (C : Addr) : Prop where
  cl : Cls K C
  na : NoAttr K C "entries"
def EntAt (H : Hp) (e : Ent) (v : V) : Prop := ∃ q, v = .ref q ∧ H q = some (.tup (entV e))
structure Tr (C : Addr) (H : Hp) (p d : Addr) (es : List (List Nat × Ent)) : Prop where
  ob : ∃ dx, H p = some (.ins C dx (flds d))
  dc : ∃ kvs, H d = some (.dK kvs) ∧ Lies (EntAt H) es kvs
theorem Tr.mono {C : Addr} {H H1 : Hp} {p d : Addr} {es : List (List Nat × Ent)} (T : Tr C H p d es) (e : Ex H H1) : Tr C H1 p d es := by
  obtain ⟨⟨dx, h1⟩, kvs, h2, h3⟩ := T
  exact ⟨⟨dx, e _ _ h1⟩, kvs, e _ _ h2, h3.mono fun a v ⟨q, z1, z2⟩ => ⟨q, z1, e _ _ z2⟩⟩
theorem Tr.put {C : Addr} {H : Hp} {p d r : Addr} {es : List (List Nat × Ent)} {kvs : List (Key × V)} {k : List Nat} {e : Ent} (T : Tr C H p d es) (hd : H d = some (.dK kvs)) (hr : H r = some (.tup (entV e))) :
    Tr C (upd H d (.dK (putK kvs (Sum.inr (S k)) (.ref r)))) p d (put es k e) := by
  obtain ⟨⟨dx, h1⟩, kvs', h2, h3⟩ := T
  cases Option.some.inj (hd.symm.trans h2)
  have nd : ∀ q w, H q = some (.tup w) → q ≠ d := fun q w h => ne_of h hd (by intro z; cases z)
  refine ⟨⟨dx, ?_⟩, _, upd_same, (h3.mono fun a v ⟨q, z1, z2⟩ => ⟨q, z1, ?_⟩).put ⟨r, rfl, ?_⟩⟩
  · rw [upd_ne (ne_of h1 hd (by intro z; cases z))]
    exact h1
  · rw [upd_ne (nd _ _ hr)]
    exact hr
  · rw [upd_ne (nd _ _ z2)]
    exact z2
/-- how many entries of persons there are -/
def persons (es : List (List Nat × Ent)) : Nat := ((List.range es.length).filter fun i => (es[i]?.map fun x => isPers x.2).getD false).length
def hasRoom (es : List (List Nat × Ent)) (k : List Nat) : Bool := (look es k).isSome && ((look es k).map isPers).getD false || decide ((persons es : Int) < 60)
theorem persons_le (es : List (List Nat × Ent)) : persons es ≤ es.length := by
  unfold persons
  have h := List.length_filter_le (fun i => (es[i]?.map fun x => isPers x.2).getD false) (List.range es.length)
  rw [List.length_range] at h
  exact h
theorem room_of {es : List (List Nat × Ent)} (h : es.length < 60) (k : List Nat) : hasRoom es k = true := by
  have := persons_le es
  unfold hasRoom
  rw [decide_eq_true (show (persons es : Int) < 60 by omega), Bool.or_true]
section
variable {P : Program} {w : World} {K : PySem.W.Frag} {mg : Str → Option Value} {base : Heap}
def sp_Tree___init__ (C : Addr) (_ : PySem.W.Frag) : Sp := fun vs H Q _ => ∃ (p dx : Addr), vs = [.ref p] ∧ H p = some (.ins C dx []) ∧ ∀ (d : Addr) (H' : Hp), H d = none → Tr C H' p d [] → (∀ b o, H b = some o → b ≠ p → H' b = some o) → Q .non H'
theorem ok_Tree___init__ {f : Addr} {C_Tree C_Store C_StoreReader : Addr} {fd : FuncData} (F : Fun K "__init__" "Tree.__init__" s_Tree___init__ f fd) (T : Tx mg) (G : Gx K mg) (TC_Tree : Tc_Tree K C_Tree) (TC_Store : Tc_Store K C_Store) (TC_StoreReader : Tc_StoreReader K C_StoreReader)  : FnOk P w K mg base CX0 1 f fd ["self"] (sp_Tree___init__ C_Tree K) := by
  refine F.ok sc_Tree___init__ (fun vs H Q E h => ?_) (fun cdv A outer s H vs Q E hr h => ?_)
  · obtain ⟨p, dx, rfl, _⟩ := h
    rfl
  · obtain ⟨p, dx, rfl, hp, k⟩ := h
    refine ⟨_, (pss_one (ps_fld (pv 0) pe_dnewK rfl)), ?_⟩
    intro d hd
    have npd : p ≠ d := ne_of_none hp hd
    refine ⟨_, rfl, p, C_Tree, dx, [], rfl, (by rw [upd_ne npd]; exact hp), TC_Tree.cl, TC_Tree.na_entries, (by show 0 < 1000; decide), ?_⟩
    refine k d _ hd ⟨⟨dx, upd_same⟩, [], by rw [upd_ne npd.symm, upd_same], .nil⟩ fun b o e hb => ?_
    rw [upd_ne hb, upd_ne (ne_of_none e hd)]
    exact e
def sp__is_persons (K : PySem.W.Frag) : Sp := sp2 (fun (q : Addr) (_ : Ent) => [.ref q]) (fun q e H => SqT K H q (entV e)) (fun _ e => .bl (isPers e))
theorem ok__is_persons {f : Addr} {C_Tree C_Store C_StoreReader : Addr} {fd : FuncData} (F : Fun K "_is_persons" "_is_persons" s__is_persons f fd) (T : Tx mg) (G : Gx K mg) (TC_Tree : Tc_Tree K C_Tree) (TC_Store : Tc_Store K C_Store) (TC_StoreReader : Tc_StoreReader K C_StoreReader)  : FnOk P w K mg base CX0 1 f fd ["entry"] (sp__is_persons K) := by
  refine F.ok sc__is_persons (fun vs H Q E h => ?_) (fun cdv A outer s H vs Q E hr h => ?_)
  · obtain ⟨a, e, rfl, _⟩ := h
    rfl
  · obtain ⟨a, e, rfl, hS, q⟩ := h
    refine ⟨_, (pss_one (ps_ret (pe_or (pe_cmpR op_eq (pe_ix ix_tup (pv 0) pe_int (fun _ _ => rfl)) pe_str (nomark _)) (pe_one (pe_cmpR op_eq (pe_ix ix_tup (pv 0) pe_int (fun _ _ => rfl)) pe_str (nomark _)))))), ?_⟩
    cases e with
    | file t b =>
      refine s_ret (v := .bl (decide (b = ePerson))) (ev_is (ev_orV (a := false) (b := decide (b = ePerson)) (ev_is (ev_op (ev_op (ev_var rfl) ev_c (rv_ix0 (i := 0) (v := .str (S eFile)) hS rfl)) (ev_cS (l := eLink) rfl) rv_eqS) (by rw [decide_eq_false file_ne])) fun _ => ev_op (ev_op (ev_var rfl) ev_c (rv_ix0 (i := 2) (v := .str (S b)) hS rfl)) (ev_cS (l := ePerson) rfl) rv_eqS) (by rw [Bool.false_or])) q
    | link t =>
      refine s_ret (v := .bl true) (ev_is (ev_orV (a := true) (b := true) (ev_is (ev_op (ev_op (ev_var rfl) ev_c (rv_ix0 (i := 0) (v := .str (S eLink)) hS rfl)) (ev_cS (l := eLink) rfl) rv_eqS) (by rw [decide_eq_true rfl])) fun z => nomatch z) rfl) q
def sp_Tree_kind (C : Addr) (_ : PySem.W.Frag) : Sp := fun vs H Q _ => ∃ (p d : Addr) (es : List (List Nat × Ent)) (k : List Nat), vs = [.ref p, .str (S k)] ∧ Tr C H p d es ∧ Rt H (.str (S (kindL (look es k)))) Q
theorem ok_Tree_kind {f : Addr} {C_Tree C_Store C_StoreReader : Addr} {fd : FuncData} (F : Fun K "kind" "Tree.kind" s_Tree_kind f fd) (T : Tx mg) (G : Gx K mg) (TC_Tree : Tc_Tree K C_Tree) (TC_Store : Tc_Store K C_Store) (TC_StoreReader : Tc_StoreReader K C_StoreReader)  : FnOk P w K mg base CX0 1 f fd ["self", "path"] (sp_Tree_kind C_Tree K) := by
  refine F.ok sc_Tree_kind (fun vs H Q E h => ?_) (fun cdv A outer s H vs Q E hr h => ?_)
  · obtain ⟨p, d, es, k, rfl, _⟩ := h
    rfl
  · obtain ⟨p, d, es, k, rfl, ⟨⟨dx, hp⟩, kvs, hd, hL⟩, q⟩ := h
    refine ⟨_, (pss_cons (ps_set (i := 2) sc_Tree_kind.nd rfl (Or.inl rfl) (pe_dget1 (hu_of hr) (pe_fld (pv 0) rfl) (pv 1) ⟨rfl, rfl, rfl, rfl⟩))
      (pss_one (ps_ret (pe_ifExp (pt_cmpR op_isN1 (pv 2) pe_non (nomark _)) pe_str (pe_ix ix_tup (pv 2) pe_int (fun _ _ => rfl)))))), ?_⟩
    refine q_asg (ev_dget1 (k := k) (ev_fld (ev_var rfl) hp TC_Tree.cl TC_Tree.na_entries (flds_get d)) (ev_var rfl) hd) fun H1 e1 => ?_
    rcases hL.look k with ⟨h1, h2⟩ | ⟨e, v, h1, h2, r, rfl, hr2⟩
    · rw [h2]
      rw [h1] at q
      refine s_ret (v := .str (S eNone)) (ev_if (et_isN (ev_var rfl)) (fun _ => ev_cS rfl) fun z => ?_) fun H2 e2 => q H2 (e1.trans e2)
      exact absurd z (by decide)
    · rw [h2]
      rw [h1] at q
      refine s_ret (v := .str (S (kindL (some e)))) (ev_if (et_isN (ev_var rfl)) (fun z => ?_) fun _ => ?_) fun H2 e2 => q H2 (e1.trans e2)
      · exact absurd z (by simp)
      · refine ev_op (ev_var rfl) ev_c (rv_ix0 (i := 0) (st_of (e1 _ _ hr2)) ?_)
        cases e <;> rfl
theorem kind_sp {C p d : Addr} {H : Hp} {es : List (List Nat × Ent)} {k : List Nat} (T : Tr C H p d es) : SpV (sp_Tree_kind C K) [.ref p, .str (S k)] H (.str (S (kindL (look es k)))) := fun H1 e Q q E => ⟨p, d, es, k, rfl, T.mono e, fun H2 e2 => q H2 e2⟩
def tgtV (o : Option (List Nat)) : V := match o with | none => .non | some t => .str (S t)
def sp_Tree_target (C : Addr) (_ : PySem.W.Frag) : Sp := fun vs H Q _ => ∃ (p d : Addr) (es : List (List Nat × Ent)) (k : List Nat), vs = [.ref p, .str (S k)] ∧ Tr C H p d es ∧ Rt H (tgtV (step es k)) Q
theorem ok_Tree_target {f : Addr} {C_Tree C_Store C_StoreReader : Addr} {fd : FuncData} (F : Fun K "target" "Tree.target" s_Tree_target f fd) (T : Tx mg) (G : Gx K mg) (TC_Tree : Tc_Tree K C_Tree) (TC_Store : Tc_Store K C_Store) (TC_StoreReader : Tc_StoreReader K C_StoreReader) (M_Tree_kind : Kn.Mt P w K mg base 1 C_Tree "kind" (sp_Tree_kind C_Tree K)) : FnOk P w K mg base CX0 2 f fd ["self", "path"] (sp_Tree_target C_Tree K) := by
  refine F.ok sc_Tree_target (fun vs H Q E h => ?_) (fun cdv A outer s H vs Q E hr h => ?_)
  · obtain ⟨p, d, es, k, rfl, _⟩ := h
    rfl
  · obtain ⟨p, d, es, k, rfl, TR, q⟩ := h
    refine ⟨_, (pss_one (ps_ret (pe_ifExp (pt_cmpR op_eq (Kn.pe_mt M_Tree_kind hr (by decide) (pv 0) (pa_cons (pv 1) pa_nil)) pe_str (nomark _)) (pe_ix ix_tup (pe_dget (hu_of hr) (pe_fld (pv 0) rfl) (pv 1) (fun _ _ => rfl)) pe_int (fun _ _ => rfl)) pe_non))), ?_⟩
    obtain ⟨⟨dx, hp⟩, kvs, hd, hL⟩ := id TR
    refine s_ret (v := tgtV (step es k)) (ev_if (b := decide (kindL (look es k) = eLink)) (et_test (ev_op (ev_meth (ev_var rfl) hp (flds_no d (by decide +kernel)) (ea_cons (ev_var rfl) ea_nil) (kind_sp TR)) (ev_cS (l := eLink) rfl) rv_eqS)) (fun hb => ?_) (fun hb => ?_)) q
    · obtain ⟨t, ht⟩ := kind_link.mp (of_decide_eq_true hb)
      rcases hL.look k with ⟨h1, h2⟩ | ⟨e, v, h1, h2, r, rfl, hr2⟩
      · rw [ht] at h1
        cases h1
      · rw [ht] at h1
        cases Option.some.inj h1
        have e : tgtV (step es k) = .str (S t) := by
          unfold step
          rw [ht]
          rfl
        rw [e]
        exact ev_op (ev_dget (ev_fld (ev_var rfl) hp TC_Tree.cl TC_Tree.na_entries (flds_get d)) (ev_var rfl) hd h2) ev_c (rv_ix0 (i := 1) (st_of hr2) rfl)
    · have e : step es k = none := by
        unfold step
        cases h : look es k with
        | none => rfl
        | some e =>
          cases e with
          | file t b => rfl
          | link t => exact absurd (kind_link.mpr ⟨t, h⟩) (of_decide_eq_false hb)
      rw [e]
      exact ev_c
theorem target_sp {C p d : Addr} {H : Hp} {es : List (List Nat × Ent)} {k : List Nat} (T : Tr C H p d es) : SpV (sp_Tree_target C K) [.ref p, .str (S k)] H (tgtV (step es k)) := fun H1 e Q q E => ⟨p, d, es, k, rfl, T.mono e, fun H2 e2 => q H2 e2⟩
def sp_Tree__has_room (C : Addr) (_ : PySem.W.Frag) : Sp := fun vs H Q _ => ∃ (p d : Addr) (es : List (List Nat × Ent)) (k : List Nat), vs = [.ref p, .str (S k)] ∧ Tr C H p d es ∧ es.length ≤ 30000 ∧ Rt H (.bl (hasRoom es k)) Q
theorem ok_Tree__has_room {f : Addr} {C_Tree C_Store C_StoreReader : Addr} {fd : FuncData} (F : Fun K "_has_room" "Tree._has_room" s_Tree__has_room f fd) (T : Tx mg) (G : Gx K mg) (TC_Tree : Tc_Tree K C_Tree) (TC_Store : Tc_Store K C_Store) (TC_StoreReader : Tc_StoreReader K C_StoreReader) (C__is_persons : Kn.Cl P w K mg base 1 "_is_persons" (sp__is_persons K)) : FnOk P w K mg base CX0 2 f fd ["self", "path"] (sp_Tree__has_room C_Tree K) := by
  refine F.ok sc_Tree__has_room (fun vs H Q E h => ?_) (fun cdv A outer s H vs Q E hr h => ?_)
  · obtain ⟨p, d, es, k, rfl, _⟩ := h
    rfl
  · obtain ⟨p, d, es, k, rfl, TR, hlen, q⟩ := h
    refine ⟨_, (pss_cons (ps_if (PW.pt (pw_and (pt_cmp (pc_din (hu_of hr) (pv 1) (pe_fld (pv 0) rfl))) (pw_and1 (pt_val (Kn.pe_cl C__is_persons hr (by decide) (by rfl) (pa_cons (pe_dget (hu_of hr) (pe_fld (pv 0) rfl) (pv 1) (fun _ _ => rfl)) pa_nil)))))) (pss_one (ps_ret pe_bl)) pss_nil)
      (pss_cons (ps_lock (ps_setLc (i := 2) (own := [("entry", 3)]) rfl sc_Tree__has_room.nd rfl rfl (sw_true rfl rfl rfl (by decide +kernel)) (pi_values (pe_fld (pv 0) rfl)) (blkOk_by (own := [("entry", 3)]) (N := N_Tree__has_room) (sc := defScope s_Tree__has_room) (by decide +kernel)) (fun _ _ _ _ _ => pg_name (i := 3) sc_Tree__has_room.nd rfl (Or.inl rfl)) (fun _ _ _ _ _ => (pts_one (pt_val (Kn.pe_cl C__is_persons hr (by decide) (by rfl) (pa_cons (pv 3) pa_nil))))) (fun _ _ _ _ _ => (pv 3))))
      (pss_one (ps_ret (pe_cmpR op_lt (pe_callB Kn.cr_lenSeq (by rfl) T.b_len PySem.boot_len (pa_cons (pv 2) pa_nil)) (C8.pe_gc (by rfl) T.c_MOST_PERSONS_ENTRIES) (nomark _)))))), ?_⟩
    obtain ⟨⟨dx, hp⟩, kvs, hd, hL⟩ := id TR
    have hkl := hL.len
    have fe : Ev (tFld K (tVar 0) "entries") [some (.ref p), some (.str (S k)), none, none] H (.ref d) := ev_fld (ev_var rfl) hp TC_Tree.cl TC_Tree.na_entries (flds_get d)
    refine q_when (b := (look es k).isSome && ((look es k).map isPers).getD false) (et_and (a := (look es k).isSome) (et_is (et_din (k := k) (ev_var rfl) fe hd) ?_) fun hs => et_B ?_) (fun hb H1 e1 => ?_) (fun hb H1 e1 => ?_)
    · rcases hL.look k with ⟨h1, h2⟩ | ⟨e, v, h1, h2, _⟩
      · rw [h1, h2]
        rfl
      · rw [h1, h2]
        rfl
    · rcases hL.look k with ⟨h1, h2⟩ | ⟨e, v, h1, h2, r, rfl, hr2⟩
      · rw [h1] at hs
        cases hs
      · rw [h1]
        exact ev_c2 (a := r) (b := e) (ea_cons (ev_dget fe (ev_var rfl) hd h2) ea_nil) fun H2 e2 => st_of (e2 _ _ hr2)
    · refine s_ret ev_c fun H2 e2 => ?_
      have z := q H2 (e1.trans e2)
      unfold hasRoom at z
      rw [hb] at z
      exact z
    · replace q : ∀ H2, Ex H1 H2 → Q (.bl (decide ((persons es : Int) < 60))) H2 := fun H2 e => by
        have z := q H2 (e1.trans e)
        unfold hasRoom at z
        rw [hb, Bool.false_or] at z
        exact z
      have hd1 := e1 _ _ hd
      show tLock _ _ _ _
      refine s_lcVals (D := { nx := _, rt := Q }) (fun i => (es[i]?.map fun x => isPers x.2).getD false) (fun H2 hn => ?_) hd1 (by omega) (fun _ => rfl) (fun i kv H2 hk hi => ?_) (fun x H2 => ev_var rfl) fun r H2 nr e2 hr2 => ?_
      · exact ev_fld (ev_var rfl) (hn _ _ (ne_of hp hd (by intro z; cases z)) (e1 _ _ hp)) TC_Tree.cl TC_Tree.na_entries (flds_get d)
      · obtain ⟨x, hx, _, q2, hq2, hq3⟩ := hL.get i kv hi
        rw [hx]
        refine et_B (ev_c2 (a := q2) (b := x.2) (ea_cons (ev_var (by rw [hq2]; rfl)) ea_nil) fun H3 e3 => st_of (e3 _ _ (hk _ _ (ne_of hq3 hd (by intro z; cases z)) (e1 _ _ hq3))))
      · refine s_ret (v := .bl (decide ((persons es : Int) < 60))) (ev_is (ev_op (ev_len (ev_var rfl) (sq_of hr2)) ev_c rv_lt) ?_) fun H3 e3 => q H3 (e2.trans e3)
        have e : (given kvs.length (fun i => (es[i]?.map fun x => isPers x.2).getD false) fun i => (kvs[i]?.map (·.2)).getD .non).length = persons es := by
          unfold given persons
          rw [List.length_map, hkl]
        rw [e]
theorem room_sp {C p d : Addr} {H : Hp} {es : List (List Nat × Ent)} {k : List Nat} (T : Tr C H p d es) (hl : es.length ≤ 30000) : SpV (sp_Tree__has_room C K) [.ref p, .str (S k)] H (.bl (hasRoom es k)) := fun H1 e Q q E => ⟨p, d, es, k, rfl, T.mono e, hl, fun H2 e2 => q H2 e2⟩
/-- behind a change of the tree's entries -/
def Keeps (H H' : Hp) (d : Addr) : Prop := ∀ b o, H b = some o → b ≠ d → H' b = some o
def Rz (H : Hp) (E : XK) (C : Addr) (f : Str) (l : List Nat) : Prop := ∀ d H', Ex H H' → H' d = some (.xd [(f, .str (S l))]) → E (.ref C) (some d) H'
def contOk (t : List Nat) : Bool := decide ((t.length : Int) ≤ 400) && okText t
theorem nb {b : Bool} (h : (!b) = true) : b = false := by cases b <;> simp_all
theorem nf {b : Bool} (h : (!b) = false) : b = true := by cases b <;> simp_all
def sp_Tree_link (C : Addr) (G : Gx K mg) : Sp := fun vs H Q E => ∃ (p d : Addr) (es : List (List Nat × Ent)) (k t : List Nat), vs = [.ref p, .str (S k), .str (S t)] ∧ Tr C H p d es ∧ es.length ≤ 30000 ∧ (k.length ≤ 30000 ∧ t.length ≤ 30000) ∧
  (pathOk k = false → Rz H E G.c_InvalidPath "path" k) ∧ (pathOk k = true → pathOk t = false → Rz H E G.c_InvalidPath "path" t) ∧ (pathOk k = true → pathOk t = true → hasRoom es k = false → Rz H E G.c_TreeFull "path" k) ∧
  (pathOk k = true → pathOk t = true → hasRoom es k = true → ∀ H', Tr C H' p d (put es k (.link t)) → Keeps H H' d → Q .non H')
theorem ok_Tree_link {f : Addr} {C_Tree C_Store C_StoreReader : Addr} {fd : FuncData} (F : Fun K "link" "Tree.link" s_Tree_link f fd) (T : Tx mg) (G : Gx K mg) (TC_Tree : Tc_Tree K C_Tree) (TC_Store : Tc_Store K C_Store) (TC_StoreReader : Tc_StoreReader K C_StoreReader) (C_is_path : Kn.Cl P w K mg base 2 "is_path" (sp_is_path K)) (M_Tree__has_room : Kn.Mt P w K mg base 2 C_Tree "_has_room" (sp_Tree__has_room C_Tree K)) (Z_InvalidPath : Kn.Xk P w K mg base 1 "InvalidPath" G.c_InvalidPath (sp_I1 "path" K)) (Z_TreeFull : Kn.Xk P w K mg base 1 "TreeFull" G.c_TreeFull (sp_I1 "path" K)) : FnOk P w K mg base (L2.CX P w) 3 f fd ["self", "path", "target"] (sp_Tree_link C_Tree G) := by
  refine F.okX sc_Tree_link (fun vs H Q E h => ?_) (fun cdv A outer s H vs Q E hr h => ?_)
  · obtain ⟨p, d, es, k, t, rfl, _⟩ := h
    rfl
  · obtain ⟨p, d, es, k, t, rfl, TR, hlen, ⟨hk, ht⟩, z1, z2, z3, q⟩ := h
    refine ⟨_, (pss_cons (ps_if (pt_not (pt_val (Kn.pe_cl C_is_path hr (by decide) (by rfl) (pa_cons (pv 1) pa_nil)))) (pss_one (Kn.ps_xk Z_InvalidPath hr (by decide) rfl (takes_of rfl rfl rfl rfl) (by rfl) (pa_cons (pv 1) pa_nil))) pss_nil)
      (pss_cons (ps_if (pt_not (pt_val (Kn.pe_cl C_is_path hr (by decide) (by rfl) (pa_cons (pv 2) pa_nil)))) (pss_one (Kn.ps_xk Z_InvalidPath hr (by decide) rfl (takes_of rfl rfl rfl rfl) (by rfl) (pa_cons (pv 2) pa_nil))) pss_nil)
      (pss_cons (ps_if (pt_not (pt_val (Kn.pe_mt M_Tree__has_room hr (by decide) (pv 0) (pa_cons (pv 1) pa_nil)))) (pss_one (Kn.ps_xk Z_TreeFull hr (by decide) rfl (takes_of rfl rfl rfl rfl) (by rfl) (pa_cons (pv 1) pa_nil))) pss_nil)
      (pss_one (ps_dput (hu_of hr) (pe_fld (pv 0) rfl) (pv 1) (pe_tup (pa_cons pe_str (pa_cons (pv 2) pa_nil))) rfl))))), ?_⟩
    refine q_when (b := !pathOk k) (et_not (et_B (ev_c1 (a := k) (by walk_at "ev") fun _ _ => hk))) (fun hb H1 e1 => ?_) fun hb H1 e1 => ?_
    · exact raise1 (W := fun cls d _ H => E cls d H) G.x_InvalidPath.oe G.n_InvalidPath_path (by omega) (ev_var rfl) fun d H' e hd => z1 (nb hb) d H' (e1.trans e) hd
    have pk := nf hb
    refine q_when (b := !pathOk t) (et_not (et_B (ev_c1 (a := t) (by walk_at "ev") fun _ _ => ht))) (fun hb H2 e2 => ?_) fun hb H2 e2 => ?_
    · exact raise1 (W := fun cls d _ H => E cls d H) G.x_InvalidPath.oe G.n_InvalidPath_path (by omega) (ev_var rfl) fun d H' e hd => z2 pk (nb hb) d H' ((e1.trans e2).trans e) hd
    have pt := nf hb
    have T2 := TR.mono (e1.trans e2)
    obtain ⟨⟨dx, hp⟩, kvs, hd, hL⟩ := id T2
    refine q_when (b := !hasRoom es k) (et_not (et_B (ev_meth (ev_var rfl) hp (flds_no d (by decide +kernel)) (ea_cons (ev_var rfl) ea_nil) (room_sp T2 hlen)))) (fun hb H3 e3 => ?_) fun hb H3 e3 => ?_
    · exact raise1 (W := fun cls d _ H => E cls d H) G.x_TreeFull.oe G.n_TreeFull_path (by omega) (ev_var rfl) fun d H' e hd => z3 pk pt (nb hb) d H' (((e1.trans e2).trans e3).trans e) hd
    have T3 := T2.mono e3
    refine s_dputU (xs := entV (.link t)) (k := k) (eu_tup (ea_cons (ev_cS (l := eLink) rfl) (ea_cons (ev_var rfl) ea_nil)) (by show 2 ≤ 100000; decide)) (fun H4 e4 => ev_fld (ev_var rfl) (e4 _ _ (e3 _ _ hp)) TC_Tree.cl TC_Tree.na_entries (flds_get d)) (fun H4 e4 => ev_var rfl) (e3 _ _ hd) (by have := hL.len; omega) fun r H4 nr e4 hr4 => ?_
    refine q pk pt (nf hb) _ ((T3.mono e4).put (e4 _ _ (e3 _ _ hd)) hr4) fun b o hb hne => ?_
    rw [upd_ne hne]
    exact e4 _ _ (e3 _ _ (e2 _ _ (e1 _ _ hb)))
def sp_Tree_write (C : Addr) (G : Gx K mg) : Sp := fun vs H Q E => ∃ (p d : Addr) (es : List (List Nat × Ent)) (k t b : List Nat), vs = [.ref p, .str (S k), .str (S t), .str (S b)] ∧ Tr C H p d es ∧ es.length ≤ 30000 ∧ (k.length ≤ 30000 ∧ t.length ≤ 30000) ∧
  (pathOk k = false → Rz H E G.c_InvalidPath "path" k) ∧ (pathOk k = true → contOk t = false → Rz H E G.c_InvalidContent "path" k) ∧ (pathOk k = true → contOk t = true → (decide (b = ePerson) && !hasRoom es k) = true → Rz H E G.c_TreeFull "path" k) ∧
  (pathOk k = true → contOk t = true → (decide (b = ePerson) && !hasRoom es k) = false → ∀ H', Tr C H' p d (put es k (.file t b)) → Keeps H H' d → Q .non H')
theorem ok_Tree_write {f : Addr} {C_Tree C_Store C_StoreReader : Addr} {fd : FuncData} (F : Fun K "write" "Tree.write" s_Tree_write f fd) (T : Tx mg) (G : Gx K mg) (TC_Tree : Tc_Tree K C_Tree) (TC_Store : Tc_Store K C_Store) (TC_StoreReader : Tc_StoreReader K C_StoreReader) (C_is_path : Kn.Cl P w K mg base 2 "is_path" (sp_is_path K)) (C_is_content : Kn.Cl P w K mg base 3 "is_content" (sp_is_content K)) (M_Tree__has_room : Kn.Mt P w K mg base 2 C_Tree "_has_room" (sp_Tree__has_room C_Tree K)) (Z_InvalidPath : Kn.Xk P w K mg base 1 "InvalidPath" G.c_InvalidPath (sp_I1 "path" K)) (Z_InvalidContent : Kn.Xk P w K mg base 1 "InvalidContent" G.c_InvalidContent (sp_I1 "path" K)) (Z_TreeFull : Kn.Xk P w K mg base 1 "TreeFull" G.c_TreeFull (sp_I1 "path" K)) : FnOk P w K mg base (L2.CX P w) 4 f fd ["self", "path", "text", "by"] (sp_Tree_write C_Tree G) := by
  refine F.okX sc_Tree_write (fun vs H Q E h => ?_) (fun cdv A outer s H vs Q E hr h => ?_)
  · obtain ⟨p, d, es, k, t, b, rfl, _⟩ := h
    rfl
  · obtain ⟨p, d, es, k, t, b, rfl, TR, hlen, ⟨hk, ht⟩, z1, z2, z3, q⟩ := h
    refine ⟨_, (pss_cons (ps_if (pt_not (pt_val (Kn.pe_cl C_is_path hr (by decide) (by rfl) (pa_cons (pv 1) pa_nil)))) (pss_one (Kn.ps_xk Z_InvalidPath hr (by decide) rfl (takes_of rfl rfl rfl rfl) (by rfl) (pa_cons (pv 1) pa_nil))) pss_nil)
      (pss_cons (ps_if (pt_not (pt_val (Kn.pe_cl C_is_content hr (by decide) (by rfl) (pa_cons (pv 2) pa_nil)))) (pss_one (Kn.ps_xk Z_InvalidContent hr (by decide) rfl (takes_of rfl rfl rfl rfl) (by rfl) (pa_cons (pv 1) pa_nil))) pss_nil)
      (pss_cons (ps_if (PW.pt (pw_and (pt_cmpR op_eq (pv 3) pe_str (nomark _)) (pw_and1 (pt_not (pt_val (Kn.pe_mt M_Tree__has_room hr (by decide) (pv 0) (pa_cons (pv 1) pa_nil))))))) (pss_one (Kn.ps_xk Z_TreeFull hr (by decide) rfl (takes_of rfl rfl rfl rfl) (by rfl) (pa_cons (pv 1) pa_nil))) pss_nil)
      (pss_one (ps_dput (hu_of hr) (pe_fld (pv 0) rfl) (pv 1) (pe_tup (pa_cons pe_str (pa_cons (pv 2) (pa_cons (pv 3) pa_nil)))) rfl))))), ?_⟩
    refine q_when (b := !pathOk k) (et_not (et_B (ev_c1 (a := k) (by walk_at "ev") fun _ _ => hk))) (fun hb H1 e1 => ?_) fun hb H1 e1 => ?_
    · exact raise1 (W := fun cls d _ H => E cls d H) G.x_InvalidPath.oe G.n_InvalidPath_path (by omega) (ev_var rfl) fun d H' e hd => z1 (nb hb) d H' (e1.trans e) hd
    have pk := nf hb
    refine q_when (b := !contOk t) (et_not (et_B (ev_c1 (a := t) (by walk_at "ev") fun _ _ => (by omega)))) (fun hb H2 e2 => ?_) fun hb H2 e2 => ?_
    · exact raise1 (W := fun cls d _ H => E cls d H) G.x_InvalidContent.oe G.n_InvalidContent_path (by omega) (ev_var rfl) fun d H' e hd => z2 pk (nb hb) d H' ((e1.trans e2).trans e) hd
    have pt := nf hb
    have T2 := TR.mono (e1.trans e2)
    obtain ⟨⟨dx, hp⟩, kvs, hd, hL⟩ := id T2
    refine q_when (b := decide (b = ePerson) && !hasRoom es k) (et_and (a := decide (b = ePerson)) (b := !hasRoom es k) (et_test (ev_op (ev_var rfl) (ev_cS (l := ePerson) rfl) rv_eqS)) fun _ => et_not (et_B (ev_meth (ev_var rfl) hp (flds_no d (by decide +kernel)) (ea_cons (ev_var rfl) ea_nil) (room_sp T2 hlen)))) (fun hb H3 e3 => ?_) fun hb H3 e3 => ?_
    · exact raise1 (W := fun cls d _ H => E cls d H) G.x_TreeFull.oe G.n_TreeFull_path (by omega) (ev_var rfl) fun d H' e hd => z3 pk pt hb d H' (((e1.trans e2).trans e3).trans e) hd
    have T3 := T2.mono e3
    refine s_dputU (xs := entV (.file t b)) (k := k) (eu_tup (ea_cons (ev_cS (l := eFile) rfl) (ea_cons (ev_var rfl) (ea_cons (ev_var rfl) ea_nil))) (by show 3 ≤ 100000; decide)) (fun H4 e4 => ev_fld (ev_var rfl) (e4 _ _ (e3 _ _ hp)) TC_Tree.cl TC_Tree.na_entries (flds_get d)) (fun H4 e4 => ev_var rfl) (e3 _ _ hd) (by have := hL.len; omega) fun r H4 nr e4 hr4 => ?_
    refine q pk pt hb _ ((T3.mono e4).put (e4 _ _ (e3 _ _ hd)) hr4) fun b o hb hne => ?_
    rw [upd_ne hne]
    exact e4 _ _ (e3 _ _ (e2 _ _ (e1 _ _ hb)))
/-- without the entry at a key -/
def dropE (es : List (List Nat × Ent)) (k : List Nat) : List (List Nat × Ent) := es.filter fun x => !decide (x.1 = k)
theorem Lies.drop {R : Ent → V → Prop} {k : List Nat} : ∀ {es : List (List Nat × Ent)} {kvs : List (Key × V)}, Kn.Lies R es kvs → Kn.Lies R (dropE es k) (dropK kvs (Sum.inr (S k)))
  | [], _, .nil => .nil
  | x :: r, kv :: kvs, .cons h t => by
    unfold dropE dropK
    rw [List.filter_cons, List.filter_cons]
    by_cases hk : x.1 = k
    · rw [if_neg (by rw [decide_eq_true hk]; decide), if_neg (by simp [h.1, hk])]
      exact Lies.drop t
    · have hne : ¬ kv.1 = (Sum.inr (S k) : Key) := fun z => hk (key_eq.mp (h.1.symm.trans z))
      rw [if_pos (by rw [decide_eq_false hk]; rfl), if_pos (by simp [hne])]
      exact .cons h (Lies.drop t)
theorem Tr.upd {C : Addr} {H : Hp} {p d : Addr} {es es' : List (List Nat × Ent)} {kvs kvs' : List (Key × V)} (T : Tr C H p d es) (hd : H d = some (.dK kvs)) (hL : Kn.Lies (EntAt H) es' kvs') : Tr C (L2.upd H d (.dK kvs')) p d es' := by
  obtain ⟨⟨dx, h1⟩, kvs0, h2, h3⟩ := T
  refine ⟨⟨dx, ?_⟩, _, upd_same, hL.mono fun a v ⟨q, z1, z2⟩ => ⟨q, z1, ?_⟩⟩
  · rw [upd_ne (ne_of h1 hd (by intro z; cases z))]
    exact h1
  · rw [upd_ne (ne_of z2 hd (by intro z; cases z))]
    exact z2
def readV : Option Ent → V
  | some (.file t _) => .str (S t)
  | _ => .non
def writerV : Option Ent → V
  | some (.file _ b) => .str (S b)
  | _ => .non
theorem kind_file {es : List (List Nat × Ent)} {k : List Nat} : kindL (look es k) = eFile ↔ ∃ t b, look es k = some (.file t b) := by
  cases h : look es k with
  | none => exact ⟨fun z => absurd z (by decide +kernel), fun ⟨t, b, z⟩ => nomatch z⟩
  | some e =>
    cases e with
    | file t b => exact ⟨fun _ => ⟨t, b, rfl⟩, fun _ => rfl⟩
    | link t => exact ⟨fun z => absurd z.symm file_ne, fun ⟨t, b, z⟩ => nomatch z⟩
def sp_Tree_read (C : Addr) (_ : PySem.W.Frag) : Sp := fun vs H Q _ => ∃ (p d : Addr) (es : List (List Nat × Ent)) (k : List Nat), vs = [.ref p, .str (S k)] ∧ Tr C H p d es ∧ Rt H (readV (look es k)) Q
theorem ok_Tree_read {f : Addr} {C_Tree C_Store C_StoreReader : Addr} {fd : FuncData} (F : Fun K "read" "Tree.read" s_Tree_read f fd) (T : Tx mg) (G : Gx K mg) (TC_Tree : Tc_Tree K C_Tree) (TC_Store : Tc_Store K C_Store) (TC_StoreReader : Tc_StoreReader K C_StoreReader) (M_Tree_kind : Kn.Mt P w K mg base 1 C_Tree "kind" (sp_Tree_kind C_Tree K)) : FnOk P w K mg base CX0 2 f fd ["self", "path"] (sp_Tree_read C_Tree K) := by
  refine F.ok sc_Tree_read (fun vs H Q E h => ?_) (fun cdv A outer s H vs Q E hr h => ?_)
  · obtain ⟨p, d, es, k, rfl, _⟩ := h
    rfl
  · obtain ⟨p, d, es, k, rfl, TR, q⟩ := h
    refine ⟨_, (pss_one (ps_ret (pe_ifExp (pt_cmpR op_eq (Kn.pe_mt M_Tree_kind hr (by decide) (pv 0) (pa_cons (pv 1) pa_nil)) pe_str (nomark _)) (pe_ix ix_tup (pe_dget (hu_of hr) (pe_fld (pv 0) rfl) (pv 1) (fun _ _ => rfl)) pe_int (fun _ _ => rfl)) pe_non))), ?_⟩
    obtain ⟨⟨dx, hp⟩, kvs, hd, hL⟩ := id TR
    refine s_ret (v := readV (look es k)) (ev_if (b := decide (kindL (look es k) = eFile)) (et_test (ev_op (ev_meth (ev_var rfl) hp (flds_no d (by decide +kernel)) (ea_cons (ev_var rfl) ea_nil) (kind_sp TR)) (ev_cS (l := eFile) rfl) rv_eqS)) (fun hb => ?_) (fun hb => ?_)) q
    · obtain ⟨t, b, ht⟩ := kind_file.mp (of_decide_eq_true hb)
      rcases hL.look k with ⟨h1, h2⟩ | ⟨e, v, h1, h2, r, rfl, hr2⟩
      · rw [ht] at h1
        cases h1
      · rw [ht] at h1
        cases Option.some.inj h1
        rw [ht]
        exact ev_op (ev_dget (ev_fld (ev_var rfl) hp TC_Tree.cl TC_Tree.na_entries (flds_get d)) (ev_var rfl) hd h2) ev_c (rv_ix0 (i := 1) (st_of hr2) rfl)
    · have e : readV (look es k) = .non := by
        cases h : look es k with
        | none => rfl
        | some e =>
          cases e with
          | file t b => exact absurd (kind_file.mpr ⟨t, b, h⟩) (of_decide_eq_false hb)
          | link t => rfl
      rw [e]
      exact ev_c
theorem read_sp {C p d : Addr} {H : Hp} {es : List (List Nat × Ent)} {k : List Nat} (T : Tr C H p d es) : SpV (sp_Tree_read C K) [.ref p, .str (S k)] H (readV (look es k)) := fun H1 e Q q E => ⟨p, d, es, k, rfl, T.mono e, fun H2 e2 => q H2 e2⟩
def sp_Tree_writer (C : Addr) (_ : PySem.W.Frag) : Sp := fun vs H Q _ => ∃ (p d : Addr) (es : List (List Nat × Ent)) (k : List Nat), vs = [.ref p, .str (S k)] ∧ Tr C H p d es ∧ Rt H (writerV (look es k)) Q
theorem ok_Tree_writer {f : Addr} {C_Tree C_Store C_StoreReader : Addr} {fd : FuncData} (F : Fun K "writer" "Tree.writer" s_Tree_writer f fd) (T : Tx mg) (G : Gx K mg) (TC_Tree : Tc_Tree K C_Tree) (TC_Store : Tc_Store K C_Store) (TC_StoreReader : Tc_StoreReader K C_StoreReader) (M_Tree_kind : Kn.Mt P w K mg base 1 C_Tree "kind" (sp_Tree_kind C_Tree K)) : FnOk P w K mg base CX0 2 f fd ["self", "path"] (sp_Tree_writer C_Tree K) := by
  refine F.ok sc_Tree_writer (fun vs H Q E h => ?_) (fun cdv A outer s H vs Q E hr h => ?_)
  · obtain ⟨p, d, es, k, rfl, _⟩ := h
    rfl
  · obtain ⟨p, d, es, k, rfl, TR, q⟩ := h
    refine ⟨_, (pss_one (ps_ret (pe_ifExp (pt_cmpR op_eq (Kn.pe_mt M_Tree_kind hr (by decide) (pv 0) (pa_cons (pv 1) pa_nil)) pe_str (nomark _)) (pe_ix ix_tup (pe_dget (hu_of hr) (pe_fld (pv 0) rfl) (pv 1) (fun _ _ => rfl)) pe_int (fun _ _ => rfl)) pe_non))), ?_⟩
    obtain ⟨⟨dx, hp⟩, kvs, hd, hL⟩ := id TR
    refine s_ret (v := writerV (look es k)) (ev_if (b := decide (kindL (look es k) = eFile)) (et_test (ev_op (ev_meth (ev_var rfl) hp (flds_no d (by decide +kernel)) (ea_cons (ev_var rfl) ea_nil) (kind_sp TR)) (ev_cS (l := eFile) rfl) rv_eqS)) (fun hb => ?_) (fun hb => ?_)) q
    · obtain ⟨t, b, ht⟩ := kind_file.mp (of_decide_eq_true hb)
      rcases hL.look k with ⟨h1, h2⟩ | ⟨e, v, h1, h2, r, rfl, hr2⟩
      · rw [ht] at h1
        cases h1
      · rw [ht] at h1
        cases Option.some.inj h1
        rw [ht]
        exact ev_op (ev_dget (ev_fld (ev_var rfl) hp TC_Tree.cl TC_Tree.na_entries (flds_get d)) (ev_var rfl) hd h2) ev_c (rv_ix0 (i := 2) (st_of hr2) rfl)
    · have e : writerV (look es k) = .non := by
        cases h : look es k with
        | none => rfl
        | some e =>
          cases e with
          | file t b => exact absurd (kind_file.mpr ⟨t, b, h⟩) (of_decide_eq_false hb)
          | link t => rfl
      rw [e]
      exact ev_c
theorem writer_sp {C p d : Addr} {H : Hp} {es : List (List Nat × Ent)} {k : List Nat} (T : Tr C H p d es) : SpV (sp_Tree_writer C K) [.ref p, .str (S k)] H (writerV (look es k)) := fun H1 e Q q E => ⟨p, d, es, k, rfl, T.mono e, fun H2 e2 => q H2 e2⟩
end

--SPLIT
/-! ### scanning -/
def unt : List Nat := (Str.ofString "unterminated string").cps.toList
def escR : List Nat := (Str.ofString "invalid escape").cps.toList
def SGN : List Nat := (Str.ofString "(),+").cps.toList
def WEN : List Nat := (Str.ofString " \"(),+").cps.toList
def kStr : List Nat := (Str.ofString "string").cps.toList
def kSig : List Nat := (Str.ofString "sign").cps.toList
def kWrd : List Nat := (Str.ofString "word").cps.toList
def escF : List (Str × V) := [("n", .str (Str.ofString "\n")), (Str.ofString "\"", .str (Str.ofString "\"")), (Str.ofString "\\", .str (Str.ofString "\\"))]
def escOf (c : Nat) : Option Nat := if c = 110 then some 10 else if c = 34 then some 34 else if c = 92 then some 92 else none
theorem esc_look (c : Nat) : wdLook escF (S [c]) = (escOf c).map fun d => V.str (S [d]) := by
  have e1 : ("n" : Str) = S [110] := S1 _ (by decide +kernel)
  have e2 : Str.ofString "\"" = S [34] := S1 _ (by decide +kernel)
  have e3 : Str.ofString "\\" = S [92] := S1 _ (by decide +kernel)
  have e4 : Str.ofString "\n" = S [10] := S1 _ (by decide +kernel)
  have inj : ∀ {a b : Nat}, (S [a] = S [b]) ↔ a = b := fun {a b} => ⟨fun h => (List.cons.inj (S_inj h)).1, fun h => by rw [h]⟩
  unfold wdLook escF escOf
  rw [e1, e2, e3, e4]
  by_cases h1 : c = 110
  · subst h1
    rw [List.find?_cons]
    simp
  · rw [if_neg h1, List.find?_cons, decide_eq_false (fun z => h1 (inj.mp z).symm)]
    by_cases h2 : c = 34
    · subst h2
      rw [List.find?_cons]
      simp
    · rw [if_neg h2]
      dsimp only
      rw [List.find?_cons, decide_eq_false (fun z => h2 (inj.mp z).symm)]
      by_cases h3 : c = 92
      · subst h3
        rw [List.find?_cons]
        simp
      · rw [if_neg h3]
        dsimp only
        rw [List.find?_cons, decide_eq_false (fun z => h3 (inj.mp z).symm)]
        rfl
theorem esc_look0 : wdLook escF (S []) = none := by
  have ne : ∀ {a : Nat}, ¬ S [a] = S [] := fun {a} h => List.cons_ne_nil _ _ (S_inj h)
  have e1 : ("n" : Str) = S [110] := S1 _ (by decide +kernel)
  have e2 : Str.ofString "\"" = S [34] := S1 _ (by decide +kernel)
  have e3 : Str.ofString "\\" = S [92] := S1 _ (by decide +kernel)
  unfold wdLook escF
  rw [e1, e2, e3, List.find?_cons, decide_eq_false ne]
  dsimp only
  rw [List.find?_cons, decide_eq_false ne]
  dsimp only
  rw [List.find?_cons, decide_eq_false ne]
  rfl
/-- what reading gives: or the column and the reason of the first error -/
abbrev Rs (α : Type) := α ⊕ (Nat × List Nat)
/-- the part of a string at an index: its text and the index behind it -/
def partG (l : List Nat) (at_ : Nat) : Rs (List Nat × Nat) := match l.drop at_ with
  | [] => .inl ([], at_)
  | c :: r => if c = 92 then (match r with
      | [] => .inl ([], at_ + 2)
      | d :: _ => match escOf d with
        | some e => .inl ([e], at_ + 2)
        | none => .inr (at_ + 1, escR)) else .inl ([c], at_ + 1)
/-- the string whose first quote is at q -/
def strG : List Nat → Nat → Nat → List Nat → Rs (List Nat × Nat)
  | [], _, q, _ => .inr (q + 1, unt)
  | c :: r, at_, q, acc => if c = 34 then .inl (acc, at_ + 1) else if c = 92 then (match r with
      | [] => .inr (q + 1, unt)
      | d :: r' => match escOf d with
        | some e => strG r' (at_ + 2) q (acc ++ [e])
        | none => .inr (at_ + 1, escR)) else strG r (at_ + 1) q (acc ++ [c])
def skip (l : List Nat) (at_ : Nat) : Nat := at_ + ((l.drop at_).takeWhile fun c => decide (c = 32)).length
abbrev Tok3 := List Nat × List Nat × Nat
def wordG (l : List Nat) (at_ : Nat) : List Nat := (l.drop at_).takeWhile fun c => !decide (c ∈ WEN)
/-- the kind and the text of the token at an index, and the index behind it -/
def tokG (l : List Nat) (at_ : Nat) : Rs Tok3 := match l.drop at_ with
  | [] => .inl (kWrd, [], at_)
  | c :: r => if c = 34 then (match strG r (at_ + 1) at_ [] with
      | .inl (t, b) => .inl (kStr, t, b)
      | .inr e => .inr e) else if c ∈ SGN then .inl (kSig, [c], at_ + 1) else .inl (kWrd, wordG l at_, at_ + (wordG l at_).length)
def scanG (l : List Nat) : Nat → Nat → List Tok3 → Rs (List Tok3)
  | 0, _, acc => .inl acc
  | n + 1, at_, acc => if at_ < l.length then (match tokG l at_ with
      | .inl (k, t, b) => scanG l n (skip l b) (acc ++ [(k, t, at_ + 1)])
      | .inr e => .inr e) else .inl acc
def isRem (l : List Nat) : Bool := decide ((l.dropWhile fun d => decide (d = 32))[0]? = some 35)
def scan (l : List Nat) : Rs (List Tok3) := if isRem l = true then .inl [] else scanG l l.length (skip l 0) []
def pairD (x : List Nat × Nat) : PyData := .tuple [.str (S x.1), .int (x.2 : Int)]
def tokD (x : Tok3) : PyData := .tuple [.str (S x.1), .str (S x.2.1), .int (x.2.2 : Int)]
/-- what a reading def promises -/
def Rd_ {α : Type} (D : α → PyData) (H : Hp) (Q : VK) (E : XK) (C : Addr) (path : List Nat) (num : Nat) (r : Rs α) : Prop :=
  (∀ x, r = .inl x → RtD H (D x) Q) ∧ ∀ c why, r = .inr (c, why) → Rz4 H E C path num c why
theorem drop_get {l : List Nat} {i c : Nat} (h : l[i]? = some c) : l.drop i = c :: l.drop (i + 1) := by
  obtain ⟨hi, e⟩ := List.getElem?_eq_some_iff.mp h
  rw [List.drop_eq_getElem_cons hi, e]
theorem tw_mem {p : Nat → Bool} {l : List Nat} {a : Nat} (h : l.length ≤ a) : l.drop a = [] := List.drop_of_length_le h
theorem skip_ge (l : List Nat) (a : Nat) : a ≤ skip l a := Nat.le_add_right _ _
theorem skip_end {l : List Nat} {a : Nat} (h : ¬ (a < l.length ∧ l[a]? = some 32)) : skip l a = a := by
  unfold skip
  by_cases ha : a < l.length
  · have e : l[a]? = some l[a] := List.getElem?_eq_getElem ha
    rw [drop_get e, List.takeWhile_cons, decide_eq_false (fun z => h ⟨ha, by rw [e, z]⟩)]
    rfl
  · rw [tw_mem (p := fun _ => true) (by omega)]
    rfl
theorem skip_step {l : List Nat} {a : Nat} (h : l[a]? = some 32) : skip l a = skip l (a + 1) := by
  unfold skip
  rw [drop_get h, List.takeWhile_cons, decide_eq_true rfl]
  show a + ((l.drop (a + 1)).takeWhile fun c => decide (c = 32)).length.succ = _
  omega
section
variable {P : Program} {w : World} {K : PySem.W.Frag} {mg : Str → Option Value} {base : Heap}
def sp__skip_spaces (_ : PySem.W.Frag) : Sp := sp2 (fun (l : List Nat) (a : Nat) => [.str (S l), .int (a : Int)]) (fun l a _ => l.length ≤ 30000) (fun l a => .int (skip l a : Nat))
theorem ok__skip_spaces {f : Addr} {C_Tree C_Store C_StoreReader : Addr} {fd : FuncData} (F : Fun K "_skip_spaces" "_skip_spaces" s__skip_spaces f fd) (T : Tx mg) (G : Gx K mg) (TC_Tree : Tc_Tree K C_Tree) (TC_Store : Tc_Store K C_Store) (TC_StoreReader : Tc_StoreReader K C_StoreReader)  : FnOk P w K mg base CX0 1 f fd ["line", "start"] (sp__skip_spaces K) := by
  refine F.ok sc__skip_spaces (fun vs H Q E h => ?_) (fun cdv A outer s H vs Q E hr h => ?_)
  · obtain ⟨l, a, rfl, _⟩ := h
    rfl
  · obtain ⟨l, a, rfl, hl, q⟩ := h
    refine ⟨_, (pss_cons (ps_set (i := 2) sc__skip_spaces.nd rfl (Or.inl rfl) (pv 1))
      (pss_cons (ps_while PassesOwn.never (PW.pt (pw_and (pt_cmpR op_lt (pv 2) (pe_callB Kn.cr_lenStr (by rfl) T.b_len PySem.boot_len (pa_cons (pv 0) pa_nil)) (nomark _)) (pw_and1 (pt_cmpR op_eq (pe_ix ix_str (pv 0) (pv 2) (fun _ _ => rfl)) pe_str (nomark _))))) (pss_one (ps_aug (i := 2) sc__skip_spaces.nd rfl (Or.inl rfl) pe_int ip_add)))
      (pss_one (ps_ret (pv 2))))), ?_⟩
    refine q_asg (ev_var rfl) fun H1 e1 => ?_
    refine q_while (fun m σ' H' => ∃ b, m = l.length - b ∧ σ' = [some (.str (S l)), some (.int (a : Int)), some (.int (b : Int))] ∧ Ex H H' ∧ skip l b = skip l a) (l.length - a) ⟨a, rfl, rfl, e1, rfl⟩ ?_
    rintro m σ' H2 ⟨b, rfl, rfl, e2, hb⟩
    refine ⟨decide ((b : Int) < (l.length : Int)) && decide (l[b]? = some 32), et_and (et_test (ev_op (ev_var rfl) (ev_cb (ea_cons (ev_var rfl) ea_nil) (rc_lenS (by omega))) rv_lt)) fun h => ?_, fun h H3 e3 => ?_, fun h H3 e3 => ?_⟩
    · have hlt : b < l.length := by
        have := of_decide_eq_true h
        omega
      have e := List.getElem?_eq_getElem hlt
      rw [e]
      exact et_is (et_test (ev_op (ev_idxS (ev_var rfl) (ev_var rfl) (by omega) (atI_nat e)) (ev_cS (l := [32]) rfl) rv_eqS)) (by simp)
    · rw [Bool.and_eq_true, decide_eq_true_eq, decide_eq_true_eq] at h
      refine ⟨fun σ' H' => σ' = [some (.str (S l)), some (.int (a : Int)), some (.int ((b : Int) + 1))] ∧ Ex H H', fun σ2 H4 ⟨z1, z2⟩ => ⟨l.length - (b + 1), by omega, b + 1, rfl, by rw [z1, Int.natCast_add]; rfl, z2, by rw [← skip_step h.2, hb]⟩, ?_⟩
      exact s_aug (a := (b : Int)) (b := 1) rfl ev_c fun H4 e4 => ⟨rfl, (e2.trans e3).trans e4⟩
    · refine s_ret (v := .int ((skip l a : Nat) : Int)) (ev_is (ev_var rfl) ?_) fun H4 e4 => q H4 ((e2.trans e3).trans e4)
      rw [← hb, skip_end fun z => ?_]
      rw [decide_eq_true (show (b : Int) < (l.length : Int) by omega), decide_eq_true z.2] at h
      cases h
/-- reading a line: the arguments -/
def ScA (path l : List Nat) (num a : Nat) : Prop := path.length ≤ 9000 ∧ l.length ≤ 30000 ∧ num < 10 ^ 9 ∧ a ≤ 40000
def sp__string_part (G : Gx K mg) : Sp := fun vs H Q E => ∃ (path l : List Nat) (num a : Nat), vs = [.str (S path), .int (num : Int), .str (S l), .int (a : Int)] ∧ ScA path l num a ∧ a < l.length ∧ Rd_ pairD H Q E G.c_InvalidRecipe path num (partG l a)
theorem nf4 (G : Gx K mg) : Nf4 K G.c_InvalidRecipe := ⟨G.n_InvalidRecipe_path, G.n_InvalidRecipe_line, G.n_InvalidRecipe_column, G.n_InvalidRecipe_reason⟩
theorem evd_pair {σ : L2.St} {H : Hp} {t1 t2 : TE} {t : List Nat} {b : Nat} (h1 : Ev t1 σ H (.str (S t))) (h2 : Ev t2 σ H (.int (b : Int))) : EvD (tTup (tCons t1 (tCons t2 tNil))) σ H (pairD (t, b)) :=
  evd_tup (eda_cons (evd_str h1) (eda_cons (evd_int h2) eda_nil)) (by show 2 ≤ 100000; decide)
theorem ev_addN {σ : L2.St} {H : Hp} {te : TE} {n m : Nat} {k : Int} (h : Ev te σ H (.int (n : Int))) (hk : k = (m : Int)) : Ev (tOp (rI0 fun i j => .int (i + j)) te (tC (.int k))) σ H (.int ((n + m : Nat) : Int)) := by
  subst hk
  exact ev_is (ev_op h ev_c rv_I0) (by rw [Int.natCast_add])
theorem ok__string_part {f : Addr} {C_Tree C_Store C_StoreReader : Addr} {fd : FuncData} (F : Fun K "_string_part" "_string_part" s__string_part f fd) (T : Tx mg) (G : Gx K mg) (TC_Tree : Tc_Tree K C_Tree) (TC_Store : Tc_Store K C_Store) (TC_StoreReader : Tc_StoreReader K C_StoreReader) (Z_InvalidRecipe : Kn.Xk P w K mg base 1 "InvalidRecipe" G.c_InvalidRecipe (sp_I4 K)) {D_ESCAPES : Addr} (W_ESCAPES : Kn.WD K w mg "ESCAPES" D_ESCAPES escF) : FnOk P w K mg base (L2.CX P w) 3 f fd ["path", "number", "line", "at"] (sp__string_part G) := by
  refine F.okX sc__string_part (fun vs H Q E h => ?_) (fun cdv A outer s H vs Q E hr h => ?_)
  · obtain ⟨path, l, num, a, rfl, _⟩ := h
    rfl
  · obtain ⟨path, l, num, a, rfl, ⟨hp, hl, hn, ha⟩, hal, q, qe⟩ := h
    refine ⟨_, (pss_cons (ps_if (pt_cmpR op_ne (pe_ix ix_str (pv 2) (pv 3) (fun _ _ => rfl)) (C8.pe_gc (by rfl) T.c_BACKSLASH) (nomark _)) (pss_one (ps_ret (pe_tup (pa_cons (pe_ix ix_str (pv 2) (pv 3) (fun _ _ => rfl)) (pa_cons (pe_op op_add (pv 3) pe_int) pa_nil))))) pss_nil)
      (pss_cons (ps_set (i := 4) sc__string_part.nd rfl (Or.inl rfl) (pe_slice sl_str (pv 2) (po_some (pe_op op_add (pv 3) pe_int)) (po_some (pe_op op_add (pv 3) pe_int))))
      (pss_cons (ps_if (PW.pt (pw_and (pt_cmpR op_ne (pv 4) pe_str (nomark _)) (pw_and1 (pt_cmpR (Kn.op_notIn_wd W_ESCAPES) (pv 4) (Kn.pe_wd W_ESCAPES (by rfl)) rfl)))) (pss_one (Kn.ps_xk Z_InvalidRecipe hr (by decide) rfl (takes_of rfl rfl rfl rfl) (by rfl) (pa_cons (pv 0) (pa_cons (pv 1) (pa_cons (pe_op op_add (pv 3) pe_int) (pa_cons pe_str pa_nil)))))) pss_nil)
      (pss_one (ps_ret (pe_tup (pa_cons (Kn.pe_wget2 W_ESCAPES (Kn.pe_wd W_ESCAPES (by rfl)) (pv 4) pe_str ⟨rfl, rfl, rfl, rfl⟩) (pa_cons (pe_op op_add (pv 3) pe_int) pa_nil)))))))), ?_⟩
    have eg := List.getElem?_eq_getElem hal
    generalize l[a] = c at eg
    have hd := drop_get eg
    refine q_when (b := !decide (c = 92)) (et_is (et_test (ev_op (ev_idxS (ev_var rfl) (ev_var rfl) (by omega) (atI_nat eg)) (ev_cS (l := [92]) rfl) rv_neS)) (by simp)) (fun hb H1 e1 => ?_) fun hb H1 e1 => ?_
    · have hc : ¬ c = 92 := fun z => by rw [decide_eq_true z] at hb; cases hb
      have hr2 : partG l a = .inl ([c], a + 1) := by unfold partG; rw [hd]; dsimp only; rw [if_neg hc]
      exact s_retD (evd_pair (ev_idxS (ev_var rfl) (ev_var rfl) (by omega) (atI_nat eg)) (ev_addN (m := 1) (ev_var rfl) rfl)) (((q _ hr2).mono e1))
    have hc : c = 92 := by
      by_cases z : c = 92
      · exact z
      · rw [decide_eq_false z] at hb; cases hb
    refine q_asg (v := .str (S ((l.drop (a + 1)).take 1))) (ev_is (ev_slS (ev_var rfl) (eo_some (ev_addN (m := 1) (ev_var rfl) rfl)) (eo_some (ev_addN (m := 2) (ev_var rfl) rfl)) (by omega)) (by rw [cutS_nat]; congr 3; omega)) fun H2 e2 => ?_
    cases hrest : l.drop (a + 1) with
    | nil =>
      have hr2 : partG l a = .inl ([], a + 2) := by unfold partG; rw [hd, hrest]; dsimp only; rw [if_pos hc]
      refine q_when (b := false) (et_is (et_and (a := false) (b := false) (et_is (et_test (ev_op (ev_var rfl) (ev_cS (l := []) rfl) rv_neS)) (by simp)) fun z => nomatch z) rfl) (fun z => nomatch z) fun _ H3 e3 => ?_
      refine s_retD (evd_pair (ev_is (ev_wget2 (l := []) ev_c (ev_var rfl) (ev_cS (l := []) rfl)) (by rw [esc_look0]; rfl)) (ev_addN (m := 2) (ev_var rfl) rfl)) ((q _ hr2).mono ((e1.trans e2).trans e3))
    | cons d r =>
      have hlk := esc_look d
      cases he : escOf d with
      | none =>
        rw [he] at hlk
        have hr2 : partG l a = .inr (a + 1, escR) := by unfold partG; rw [hd, hrest]; dsimp only; rw [if_pos hc, he]
        refine q_when (b := true) (et_is (et_and (a := true) (b := true) (et_is (et_test (ev_op (ev_var rfl) (ev_cS (l := []) rfl) rv_neS)) (by simp)) fun _ => et_is (et_test (ev_op (ev_var rfl) ev_c (rv_wnin (l := [d])))) (by rw [hlk]; rfl)) rfl) (fun _ H3 e3 => ?_) (fun z => nomatch z)
        exact raise4 (W := fun cls d _ H => E cls d H) (n := num) (c := a + 1) G.x_InvalidRecipe.oe (nf4 G) ⟨hp, by decide +kernel, hn, by omega⟩ (ev_var rfl) (ev_var rfl) (ev_addN (m := 1) (ev_var rfl) rfl) (ev_cS (l := escR) rfl) fun d2 H' e hd2 => qe _ _ hr2 d2 H' (((e1.trans e2).trans e3).trans e) hd2
      | some e0 =>
        rw [he] at hlk
        have hr2 : partG l a = .inl ([e0], a + 2) := by unfold partG; rw [hd, hrest]; dsimp only; rw [if_pos hc, he]
        refine q_when (b := false) (et_is (et_and (a := true) (b := false) (et_is (et_test (ev_op (ev_var rfl) (ev_cS (l := []) rfl) rv_neS)) (by simp)) fun _ => et_is (et_test (ev_op (ev_var rfl) ev_c (rv_wnin (l := [d])))) (by rw [hlk]; rfl)) rfl) (fun z => nomatch z) fun _ H3 e3 => ?_
        refine s_retD (evd_pair (ev_is (ev_wget2 (l := [d]) ev_c (ev_var rfl) (ev_cS (l := []) rfl)) (by rw [hlk]; rfl)) (ev_addN (m := 2) (ev_var rfl) rfl)) ((q _ hr2).mono ((e1.trans e2).trans e3))
end

section
variable {P : Program} {w : World} {K : PySem.W.Frag} {mg : Str → Option Value} {base : Heap}
def sp__string (G : Gx K mg) : Sp := fun vs H Q E => ∃ (path l : List Nat) (num a : Nat), vs = [.str (S path), .int (num : Int), .str (S l), .int (a : Int)] ∧ ScA path l num a ∧ a < l.length ∧ Rd_ pairD H Q E G.c_InvalidRecipe path num (strG (l.drop (a + 1)) (a + 1) a [])
theorem strG_cons {c : Nat} {r : List Nat} {b q : Nat} {acc : List Nat} : strG (c :: r) b q acc = if c = 34 then .inl (acc, b + 1) else if c = 92 then (match r with
      | [] => .inr (q + 1, unt)
      | d :: r' => match escOf d with
        | some e => strG r' (b + 2) q (acc ++ [e])
        | none => .inr (b + 1, escR)) else strG r (b + 1) q (acc ++ [c]) := by
  conv => lhs; unfold strG
theorem strG_nil {b q : Nat} {acc : List Nat} : strG [] b q acc = .inr (q + 1, unt) := by unfold strG; rfl
theorem str_part {l : List Nat} {b q : Nat} {acc t : List Nat} {b2 : Nat} (hb : b < l.length) (hc : l[b]? ≠ some 34) (h : partG l b = .inl (t, b2)) : strG (l.drop b) b q acc = strG (l.drop b2) b2 q (acc ++ t) ∧ b < b2 ∧ b2 ≤ b + 2 := by
  have eg := List.getElem?_eq_getElem hb
  generalize l[b] = c at eg
  have hd := drop_get eg
  have hc34 : ¬ c = 34 := fun z => hc (by rw [eg, z])
  unfold partG at h
  rw [hd] at h ⊢
  dsimp only at h
  rw [strG_cons, if_neg hc34]
  by_cases h92 : c = 92
  · rw [if_pos h92] at h ⊢
    cases hr : l.drop (b + 1) with
    | nil =>
      rw [hr] at h
      cases h
      have e2 : l.drop (b + 2) = [] := by
        have : l.length ≤ b + 1 := List.drop_eq_nil_iff.mp hr
        exact List.drop_of_length_le (by omega)
      rw [e2]
      exact ⟨strG_nil.symm, by omega, by omega⟩
    | cons d r =>
      rw [hr] at h
      dsimp only at h ⊢
      have e2 : l.drop (b + 2) = r := by
        have : l.drop (b + 1 + 1) = (l.drop (b + 1)).drop 1 := by rw [List.drop_drop]
        rw [this, hr]
        rfl
      cases he : escOf d with
      | none => rw [he] at h; cases h
      | some e =>
        rw [he] at h
        cases h
        rw [e2]
        exact ⟨rfl, by omega, by omega⟩
  · rw [if_neg h92] at h ⊢
    cases h
    exact ⟨rfl, by omega, by omega⟩
theorem str_err {l : List Nat} {b q : Nat} {acc : List Nat} {e : Nat × List Nat} (hb : b < l.length) (hc : l[b]? ≠ some 34) (h : partG l b = .inr e) : strG (l.drop b) b q acc = .inr e := by
  have eg := List.getElem?_eq_getElem hb
  generalize l[b] = c at eg
  have hd := drop_get eg
  have hc34 : ¬ c = 34 := fun z => hc (by rw [eg, z])
  unfold partG at h
  rw [hd] at h ⊢
  dsimp only at h
  rw [strG_cons, if_neg hc34]
  by_cases h92 : c = 92
  · rw [if_pos h92] at h ⊢
    cases hr : l.drop (b + 1) with
    | nil => rw [hr] at h; cases h
    | cons d r =>
      rw [hr] at h
      dsimp only at h ⊢
      cases he : escOf d with
      | none => rw [he] at h; cases h; rfl
      | some e => rw [he] at h; cases h
  · rw [if_neg h92] at h
    cases h
theorem sum_app (ps : List (List Nat)) (t : List Nat) : ((ps ++ [t]).map (·.length)).sum = (ps.map (·.length)).sum + t.length := by
  rw [List.map_append, List.sum_append]
  simp
theorem part_len {l : List Nat} {b b2 : Nat} {t : List Nat} (h : partG l b = .inl (t, b2)) : t.length ≤ 1 := by
  unfold partG at h
  split at h
  · cases h; simp
  · split at h
    · split at h
      · cases h; simp
      · split at h
        · cases h; simp
        · cases h
    · cases h; simp
theorem pairD_inv {H : Hp} {v : V} {x : List Nat × Nat} (h : Dt H v (pairD x)) : ∃ a, v = .ref a ∧ H a = some (.tup [.str (S x.1), .int (x.2 : Int)]) := by
  obtain ⟨a, xs, rfl, ha, hx⟩ := Dt.tup_inv h
  cases hx with
  | cons h1 r1 =>
    cases r1 with
    | cons h2 r2 =>
      cases r2
      rw [h1.str_inv, h2.int_inv] at ha
      exact ⟨a, rfl, ha⟩
theorem tokD_inv {H : Hp} {v : V} {x : Tok3} (h : Dt H v (tokD x)) : ∃ a, v = .ref a ∧ H a = some (.tup [.str (S x.1), .str (S x.2.1), .int (x.2.2 : Int)]) := by
  obtain ⟨a, xs, rfl, ha, hx⟩ := Dt.tup_inv h
  cases hx with
  | cons h1 r1 =>
    cases r1 with
    | cons h2 r2 =>
      cases r2 with
      | cons h3 r3 =>
        cases r3
        rw [h1.str_inv, h2.str_inv, h3.int_inv] at ha
        exact ⟨a, rfl, ha⟩
theorem evd_tok {σ : L2.St} {H : Hp} {t1 t2 t3 : TE} {x : Tok3} (h1 : Ev t1 σ H (.str (S x.1))) (h2 : Ev t2 σ H (.str (S x.2.1))) (h3 : Ev t3 σ H (.int (x.2.2 : Int))) : EvD (tTup (tCons t1 (tCons t2 (tCons t3 tNil)))) σ H (tokD x) :=
  evd_tup (eda_cons (evd_str h1) (eda_cons (evd_str h2) (eda_cons (evd_int h3) eda_nil))) (by show 3 ≤ 100000; decide)
theorem ok__string {f : Addr} {C_Tree C_Store C_StoreReader : Addr} {fd : FuncData} (F : Fun K "_string" "_string" s__string f fd) (T : Tx mg) (G : Gx K mg) (TC_Tree : Tc_Tree K C_Tree) (TC_Store : Tc_Store K C_Store) (TC_StoreReader : Tc_StoreReader K C_StoreReader) (C__string_part : Kn.ClX P w K mg base 3 "_string_part" (sp__string_part G)) (Z_InvalidRecipe : Kn.Xk P w K mg base 1 "InvalidRecipe" G.c_InvalidRecipe (sp_I4 K)) : FnOk P w K mg base (L2.CX P w) 4 f fd ["path", "number", "line", "start"] (sp__string G) := by
  refine F.okX sc__string (fun vs H Q E h => ?_) (fun cdv A outer s H vs Q E hr h => ?_)
  · obtain ⟨path, l, num, a, rfl, _⟩ := h
    rfl
  · obtain ⟨path, l, num, a, rfl, ⟨hp, hl, hn, ha⟩, hal, q, qe⟩ := h
    refine ⟨_, (pss_cons (ps_set (i := 4) sc__string.nd rfl (Or.inl rfl) (pe_lst pa_nil))
      (pss_cons (ps_set (i := 5) sc__string.nd rfl (Or.inl rfl) (pe_op op_add (pv 3) pe_int))
      (pss_cons (ps_while (passes_of rfl) (PW.pt (pw_and (pt_cmpR op_lt (pv 5) (pe_callB Kn.cr_lenStr (by rfl) T.b_len PySem.boot_len (pa_cons (pv 2) pa_nil)) (nomark _)) (pw_and1 (pt_cmpR op_ne (pe_ix ix_str (pv 2) (pv 5) (fun _ _ => rfl)) (C8.pe_gc (by rfl) T.c_QUOTE) (nomark _))))) (pss_cons (ps_asg (Kn.pe_clX C__string_part hr (by decide) (by rfl) (takes_of rfl rfl rfl rfl) (pa_cons (pv 0) (pa_cons (pv 1) (pa_cons (pv 2) (pa_cons (pv 5) pa_nil))))) (pg_tup rfl (pgs_cons (pg_name (i := 6) sc__string.nd rfl (Or.inl rfl)) (pgs_cons (pg_name (i := 5) sc__string.nd rfl (Or.inl rfl)) pgs_nil))))
      (pss_one (ps_expr (pe_bm PySem.F.plainAttrs_list PySem.F.slot_list_append PySem.F.type_list_append mt_append (pv 4) (pa_cons (pv 6) pa_nil))))))
      (pss_cons (ps_if (pt_cmpR op_ge (pv 5) (pe_callB Kn.cr_lenStr (by rfl) T.b_len PySem.boot_len (pa_cons (pv 2) pa_nil)) (nomark _)) (pss_one (Kn.ps_xk Z_InvalidRecipe hr (by decide) rfl (takes_of rfl rfl rfl rfl) (by rfl) (pa_cons (pv 0) (pa_cons (pv 1) (pa_cons (pe_op op_add (pv 3) pe_int) (pa_cons pe_str pa_nil)))))) pss_nil)
      (pss_one (ps_ret (pe_tup (pa_cons (Kn.pe_joinN (pe_join pe_str (pv 4))) (pa_cons (pe_op op_add (pv 5) pe_int) pa_nil))))))))), ?_⟩
    refine q_asgL (el_lst ea_nil (by decide)) fun p H1 np e1 hp1 => ?_
    refine q_asg (v := .int ((a + 1 : Nat) : Int)) (ev_addN (m := 1) (ev_var rfl) rfl) fun H2 e2 => ?_
    generalize hR : strG (l.drop (a + 1)) (a + 1) a [] = R at q qe
    refine q_while (fun m σ' H' => ∃ (b : Nat) (ps : List (List Nat)) (y : Option V), m = l.length + 2 - b ∧ σ' = [some (.str (S path)), some (.int (num : Int)), some (.str (S l)), some (.int (a : Int)), some (.ref p), some (.int (b : Int)), y] ∧ Ex H H' ∧ H' p = some (.lst (ps.map fun t => V.str (S t))) ∧ b ≤ l.length + 1 ∧ ps.length ≤ b ∧ (ps.map (·.length)).sum ≤ b ∧ strG (l.drop b) b a ps.flatten = R) (l.length + 2 - (a + 1)) ⟨a + 1, [], _, rfl, rfl, e1.trans e2, e2 _ _ hp1, by omega, by show 0 ≤ _; omega, by show 0 ≤ _; omega, hR⟩ ?_
    rintro m σ' H3 ⟨b, ps, y, rfl, rfl, e3, hp3, hb1, hps, hsum, hR3⟩
    refine ⟨decide ((b : Int) < (l.length : Int)) && !decide (l[b]? = some 34), et_and (et_test (ev_op (ev_var rfl) (ev_cb (ea_cons (ev_var rfl) ea_nil) (rc_lenS (by omega))) rv_lt)) fun h => ?_, fun h H4 e4 => ?_, fun h H4 e4 => ?_⟩
    · have hlt : b < l.length := by
        have := of_decide_eq_true h
        omega
      have e := List.getElem?_eq_getElem hlt
      rw [e]
      exact et_is (et_test (ev_op (ev_idxS (ev_var rfl) (ev_var rfl) (by omega) (atI_nat e)) (ev_cS (l := [34]) rfl) rv_neS)) (by simp)
    · rw [Bool.and_eq_true, decide_eq_true_eq, Bool.not_eq_true', decide_eq_false_iff_not] at h
      obtain ⟨hlt, hq⟩ := h
      have hlt : b < l.length := by omega
      refine ⟨fun σ' H' => ∃ (b2 : Nat) (t : List Nat), b < b2 ∧ b2 ≤ b + 2 ∧ t.length ≤ 1 ∧ σ' = [some (.str (S path)), some (.int (num : Int)), some (.str (S l)), some (.int (a : Int)), some (.ref p), some (.int (b2 : Int)), some (.str (S t))] ∧ Ex H H' ∧ H' p = some (.lst ((ps ++ [t]).map fun t => V.str (S t))) ∧ strG (l.drop b2) b2 a (ps ++ [t]).flatten = R, ?_, ?_⟩
      · rintro σ2 H5 ⟨b2, t, z1, z2, z3, z4, z5, z6, z7⟩
        refine ⟨l.length + 2 - b2, by omega, b2, ps ++ [t], _, rfl, z4, z5, z6, by omega, ?_, ?_, z7⟩
        · rw [List.length_append, List.length_singleton]
          omega
        · rw [sum_app]
          omega
      · refine q_asgS (ea_cons (ev_var rfl) (ea_cons (ev_var rfl) (ea_cons (ev_var rfl) (ea_cons (ev_var rfl) ea_nil)))) fun H5 e5 => ?_
        have e35 := (e3.trans e4).trans e5
        refine ⟨path, l, num, b, rfl, ⟨hp, hl, hn, by omega⟩, hlt, fun x hx v H6 e6 hv => ?_, fun c why hx d H' e hd => qe c why ?_ d H' (e35.trans e) hd⟩
        · obtain ⟨t, b2⟩ := x
          obtain ⟨h1, h2, h3⟩ := str_part (q := a) (acc := ps.flatten) hlt hq hx
          obtain ⟨ar, rfl, har⟩ := pairD_inv hv
          refine unp2 har ?_
          refine s_app (xs := ps.map fun t => V.str (S t)) (e6 _ _ (e5 _ _ (e4 _ _ hp3))) (ev_var rfl) (ev_var rfl) (by rw [List.length_map]; omega) fun H7 e7 => ⟨b2, t, h2, h3, part_len hx, rfl, Ex.mut ((e35.trans e6).trans e7) np, ?_, ?_⟩
          · rw [List.map_append]
            exact upd_same
          · rw [← hR3, h1, List.flatten_append]
            simp
        · rw [← hR3]
          exact str_err hlt hq hx
    · refine q_when (b := decide ((l.length : Int) ≤ (b : Int))) (et_test (ev_op (ev_var rfl) (ev_cb (ea_cons (ev_var rfl) ea_nil) (rc_lenS (by omega))) rv_ge)) (fun hb H5 e5 => ?_) fun hb H5 e5 => ?_
      · have hge : l.length ≤ b := by
          have := of_decide_eq_true hb
          omega
        have hR4 : R = .inr (a + 1, unt) := by
          rw [← hR3, List.drop_of_length_le hge, strG_nil]
        exact raise4 (W := fun cls d _ H => E cls d H) (n := num) (c := a + 1) G.x_InvalidRecipe.oe (nf4 G) ⟨hp, by decide +kernel, hn, by omega⟩ (ev_var rfl) (ev_var rfl) (ev_addN (m := 1) (ev_var rfl) rfl) (ev_cS (l := unt) rfl) fun d2 H' e hd2 => qe _ _ hR4 d2 H' (((e3.trans e4).trans e5).trans e) hd2
      · have hlt : b < l.length := by
          have := of_decide_eq_false hb
          omega
        have h34 : l[b]? = some 34 := by
          rw [decide_eq_true (show (b : Int) < (l.length : Int) by omega), Bool.true_and, Bool.not_eq_false', decide_eq_true_eq] at h
          exact h
        have hR4 : R = .inl (ps.flatten, b + 1) := by
          rw [← hR3, drop_get h34, strG_cons, if_pos rfl]
        refine s_retD (evd_pair (ev_is (ev_joinV (s := []) (ys := ps) (ev_cS (l := []) rfl) (ev_var rfl) (sq_of (e5 _ _ (e4 _ _ hp3))) (by rw [List.length_nil, Nat.mul_zero]; omega)) (by rw [Kn.join_nil])) (ev_addN (m := 1) (ev_var rfl) rfl)) ((q _ hR4).mono ((e3.trans e4).trans e5))
def tokD3 (x : Tok3) : PyData := tokD x
def sp__token (G : Gx K mg) : Sp := fun vs H Q E => ∃ (path l : List Nat) (num a : Nat), vs = [.str (S path), .int (num : Int), .str (S l), .int (a : Int)] ∧ ScA path l num a ∧ a < l.length ∧ Rd_ tokD H Q E G.c_InvalidRecipe path num (tokG l a)
theorem tw_step {p : Nat → Bool} {l : List Nat} {a b c : Nat} (h : l[b]? = some c) (hp : p c = true) (hab : a ≤ b) (hw : (l.drop a).takeWhile p = (l.drop a).take (b - a) ++ (l.drop b).takeWhile p) : (l.drop a).takeWhile p = (l.drop a).take (b + 1 - a) ++ (l.drop (b + 1)).takeWhile p := by
  rw [hw, drop_get h, List.takeWhile_cons, hp]
  have e : (l.drop a).take (b + 1 - a) = (l.drop a).take (b - a) ++ [c] := by
    rw [show b + 1 - a = (b - a) + 1 by omega, List.take_add_one, List.getElem?_drop, show a + (b - a) = b by omega, h]
    rfl
  rw [e]
  simp
theorem ok__token {f : Addr} {C_Tree C_Store C_StoreReader : Addr} {fd : FuncData} (F : Fun K "_token" "_token" s__token f fd) (T : Tx mg) (G : Gx K mg) (TC_Tree : Tc_Tree K C_Tree) (TC_Store : Tc_Store K C_Store) (TC_StoreReader : Tc_StoreReader K C_StoreReader) (C__string : Kn.ClX P w K mg base 4 "_string" (sp__string G)) : FnOk P w K mg base (L2.CX P w) 5 f fd ["path", "number", "line", "start"] (sp__token G) := by
  refine F.okX sc__token (fun vs H Q E h => ?_) (fun cdv A outer s H vs Q E hr h => ?_)
  · obtain ⟨path, l, num, a, rfl, _⟩ := h
    rfl
  · obtain ⟨path, l, num, a, rfl, ⟨hp, hl, hn, ha⟩, hal, q, qe⟩ := h
    refine ⟨_, (pss_cons (ps_if (pt_cmpR op_eq (pe_ix ix_str (pv 2) (pv 3) (fun _ _ => rfl)) (C8.pe_gc (by rfl) T.c_QUOTE) (nomark _)) (pss_cons (ps_asg (Kn.pe_clX C__string hr (by decide) (by rfl) (takes_of rfl rfl rfl rfl) (pa_cons (pv 0) (pa_cons (pv 1) (pa_cons (pv 2) (pa_cons (pv 3) pa_nil))))) (pg_tup rfl (pgs_cons (pg_name (i := 4) sc__token.nd rfl (Or.inl rfl)) (pgs_cons (pg_name (i := 5) sc__token.nd rfl (Or.inl rfl)) pgs_nil))))
      (pss_one (ps_ret (pe_tup (pa_cons pe_str (pa_cons (pv 4) (pa_cons (pv 5) pa_nil))))))) pss_nil)
      (pss_cons (ps_if (pt_cmpR op_inS (pe_ix ix_str (pv 2) (pv 3) (fun _ _ => rfl)) (C8.pe_gc (by rfl) T.c_SIGNS) rfl) (pss_one (ps_ret (pe_tup (pa_cons pe_str (pa_cons (pe_ix ix_str (pv 2) (pv 3) (fun _ _ => rfl)) (pa_cons (pe_op op_add (pv 3) pe_int) pa_nil)))))) pss_nil)
      (pss_cons (ps_set (i := 5) sc__token.nd rfl (Or.inl rfl) (pv 3))
      (pss_cons (ps_while (passes_of rfl) (PW.pt (pw_and (pt_cmpR op_lt (pv 5) (pe_callB Kn.cr_lenStr (by rfl) T.b_len PySem.boot_len (pa_cons (pv 2) pa_nil)) (nomark _)) (pw_and1 (pt_cmpR op_notInS (pe_ix ix_str (pv 2) (pv 5) (fun _ _ => rfl)) (C8.pe_gc (by rfl) T.c_WORD_ENDS) rfl)))) (pss_one (ps_aug (i := 5) sc__token.nd rfl (Or.inl rfl) pe_int ip_add)))
      (pss_one (ps_ret (pe_tup (pa_cons pe_str (pa_cons (pe_slice sl_str (pv 2) (po_some (pv 3)) (po_some (pv 5))) (pa_cons (pv 5) pa_nil)))))))))), ?_⟩
    have eg := List.getElem?_eq_getElem hal
    generalize l[a] = c at eg
    have hd := drop_get eg
    refine q_when (b := decide (c = 34)) (et_test (ev_is (ev_op (ev_idxS (ev_var rfl) (ev_var rfl) (by omega) (atI_nat eg)) (ev_cS (l := [34]) rfl) rv_eqS) (by simp))) (fun hb H1 e1 => ?_) fun hb H1 e1 => ?_
    · have hc := of_decide_eq_true hb
      refine q_asgS (ea_cons (ev_var rfl) (ea_cons (ev_var rfl) (ea_cons (ev_var rfl) (ea_cons (ev_var rfl) ea_nil)))) fun H2 e2 => ?_
      refine ⟨path, l, num, a, rfl, ⟨hp, hl, hn, ha⟩, hal, fun x hx v H3 e3 hv => ?_, fun c2 why hx d H' e hd2 => qe c2 why ?_ d H' ((e1.trans e2).trans e) hd2⟩
      · obtain ⟨t, b2⟩ := x
        obtain ⟨ar, rfl, har⟩ := pairD_inv hv
        refine unp2 har ?_
        have hr2 : tokG l a = .inl (kStr, t, b2) := by unfold tokG; rw [hd]; dsimp only; rw [if_pos hc, hx]
        exact s_retD (evd_tok (x := (kStr, t, b2)) (ev_cS rfl) (ev_var rfl) (ev_var rfl)) ((q _ hr2).mono ((e1.trans e2).trans e3))
      · unfold tokG
        rw [hd]
        dsimp only
        rw [if_pos hc, hx]
    have hc := of_decide_eq_false hb
    refine q_when (b := decide (c ∈ SGN)) (et_test (ev_op (ev_idxS (ev_var rfl) (ev_var rfl) (by omega) (atI_nat eg)) (ev_cS (l := SGN) rfl) rv_inS)) (fun hb2 H2 e2 => ?_) fun hb2 H2 e2 => ?_
    · have hr2 : tokG l a = .inl (kSig, [c], a + 1) := by unfold tokG; rw [hd]; dsimp only; rw [if_neg hc, if_pos (of_decide_eq_true hb2)]
      exact s_retD (evd_tok (x := (kSig, [c], a + 1)) (ev_cS rfl) (ev_idxS (ev_var rfl) (ev_var rfl) (by omega) (atI_nat eg)) (ev_addN (m := 1) (ev_var rfl) rfl)) ((q _ hr2).mono (e1.trans e2))
    have hc2 := of_decide_eq_false hb2
    have hr2 : tokG l a = .inl (kWrd, wordG l a, a + (wordG l a).length) := by unfold tokG; rw [hd]; dsimp only; rw [if_neg hc, if_neg hc2]
    replace q := q _ hr2
    refine q_asg (ev_var rfl) fun H3 e3 => ?_
    refine q_while (fun m σ' H' => ∃ (b : Nat), m = l.length - b ∧ σ' = [some (.str (S path)), some (.int (num : Int)), some (.str (S l)), some (.int (a : Int)), none, some (.int (b : Int))] ∧ Ex H H' ∧ a ≤ b ∧ b ≤ l.length ∧ wordG l a = (l.drop a).take (b - a) ++ (l.drop b).takeWhile fun c => !decide (c ∈ WEN)) (l.length - a) ⟨a, rfl, rfl, (e1.trans e2).trans e3, Nat.le_refl _, by omega, by rw [Nat.sub_self, List.take_zero]; rfl⟩ ?_
    rintro m σ' H4 ⟨b, rfl, rfl, e4, hab, hbl, hw⟩
    refine ⟨decide ((b : Int) < (l.length : Int)) && !decide ((l[b]?.getD 0) ∈ WEN), et_and (et_test (ev_op (ev_var rfl) (ev_cb (ea_cons (ev_var rfl) ea_nil) (rc_lenS (by omega))) rv_lt)) fun h => ?_, fun h H5 e5 => ?_, fun h H5 e5 => ?_⟩
    · have hlt : b < l.length := by
        have := of_decide_eq_true h
        omega
      have e := List.getElem?_eq_getElem hlt
      rw [e]
      exact et_test (ev_op (ev_idxS (ev_var rfl) (ev_var rfl) (by omega) (atI_nat e)) (ev_cS (l := WEN) rfl) rv_ninS)
    · rw [Bool.and_eq_true, decide_eq_true_eq] at h
      have hlt : b < l.length := by omega
      have e := List.getElem?_eq_getElem hlt
      rw [e] at h
      refine ⟨fun σ' H' => σ' = [some (.str (S path)), some (.int (num : Int)), some (.str (S l)), some (.int (a : Int)), none, some (.int ((b : Int) + 1))] ∧ Ex H H', fun σ2 H6 ⟨z1, z2⟩ => ⟨l.length - (b + 1), by omega, b + 1, rfl, by rw [z1, Int.natCast_add]; rfl, z2, by omega, by omega, tw_step e h.2 hab hw⟩, ?_⟩
      exact s_aug (a := (b : Int)) (b := 1) rfl ev_c fun H6 e6 => ⟨rfl, (e4.trans e5).trans e6⟩
    · have hw2 : wordG l a = (l.drop a).take (b - a) := by
        rw [hw]
        by_cases hlt : b < l.length
        · have e := List.getElem?_eq_getElem hlt
          rw [decide_eq_true (show (b : Int) < (l.length : Int) by omega), e] at h
          rw [drop_get e, List.takeWhile_cons, show (!decide (l[b] ∈ WEN)) = false from h]
          simp
        · rw [List.drop_of_length_le (show l.length ≤ b by omega)]
          simp
      have hlen : a + (wordG l a).length = b := by
        rw [hw2, List.length_take, List.length_drop]
        omega
      refine s_retD (evd_tok (x := (kWrd, wordG l a, a + (wordG l a).length)) (ev_cS rfl) (ev_is (ev_slS (ev_var rfl) (eo_some (ev_var rfl)) (eo_some (ev_var rfl)) (by omega)) (by rw [cutS_nat, hw2])) (ev_is (ev_var rfl) (by rw [hlen]))) (q.mono (e4.trans e5))
end

section
variable {P : Program} {w : World} {K : PySem.W.Frag} {mg : Str → Option Value} {base : Heap}
def toksD (x : List Tok3) : PyData := .list (x.map tokD)
def sp_scan_line (G : Gx K mg) : Sp := fun vs H Q E => ∃ (path l : List Nat) (num : Nat), vs = [.str (S path), .int (num : Int), .str (S l)] ∧ ScA path l num 0 ∧ Rd_ toksD H Q E G.c_InvalidRecipe path num (scan l)
theorem strG_ge : ∀ (n : Nat) (r : List Nat) (b q : Nat) (acc : List Nat) (t : List Nat) (e : Nat), r.length ≤ n → strG r b q acc = .inl (t, e) → b < e ∧ e ≤ b + r.length
  | 0, [], _, _, _, _, _, _, h => by rw [strG_nil] at h; cases h
  | n + 1, [], _, _, _, _, _, _, h => by rw [strG_nil] at h; cases h
  | n + 1, c :: r, b, q, acc, t, e, hn, h => by
    rw [List.length_cons] at hn ⊢
    rw [strG_cons] at h
    split at h
    · cases h
      omega
    · split at h
      · cases r with
        | nil => cases h
        | cons d r' =>
          dsimp only at h
          cases he : escOf d with
          | none => rw [he] at h; cases h
          | some x =>
            rw [he] at h
            rw [List.length_cons] at hn ⊢
            have := strG_ge n r' (b + 2) q _ t e (by omega) h
            omega
      · have := strG_ge n r (b + 1) q _ t e (by omega) h
        omega
theorem tok_ge {l : List Nat} {a : Nat} (ha : a < l.length) (hs : l[a]? ≠ some 32) {x : Tok3} (h : tokG l a = .inl x) : a < x.2.2 ∧ x.2.2 ≤ l.length := by
  have eg := List.getElem?_eq_getElem ha
  generalize l[a] = c at eg
  have hd := drop_get eg
  have hdl : (l.drop (a + 1)).length = l.length - (a + 1) := List.length_drop
  unfold tokG at h
  rw [hd] at h
  dsimp only at h
  split at h
  · split at h
    · next t b hr =>
      cases h
      have := strG_ge _ _ _ _ _ _ _ (Nat.le_refl _) hr
      rw [hdl] at this
      show a < b ∧ b ≤ l.length
      omega
    · cases h
  · next hc =>
    split at h
    · cases h
      show a < a + 1 ∧ a + 1 ≤ l.length
      omega
    · next hc2 =>
      cases h
      have h1 : (wordG l a).length ≤ l.length - a := by
        have := (List.takeWhile_sublist (fun c => !decide (c ∈ WEN)) (l := l.drop a)).length_le
        rw [List.length_drop] at this
        exact this
      have h2 : 0 < (wordG l a).length := by
        unfold wordG
        rw [hd, List.takeWhile_cons]
        have hw : c ∉ WEN := fun z => by
          have hcase : ∀ c ∈ WEN, c = 32 ∨ c = 34 ∨ c ∈ SGN := by decide +kernel
          rcases hcase c z with y | y | y
          · exact hs (by rw [eg, y])
          · exact hc y
          · exact hc2 y
        rw [decide_eq_false hw]
        simp
      show a < a + (wordG l a).length ∧ _
      constructor
      · omega
      · show a + (wordG l a).length ≤ l.length
        omega
theorem skip_le (l : List Nat) {a : Nat} (h : a ≤ l.length) : skip l a ≤ l.length := by
  unfold skip
  have := (List.takeWhile_sublist (fun c => decide (c = 32)) (l := l.drop a)).length_le
  rw [List.length_drop] at this
  omega
theorem skip_ns (l : List Nat) (a : Nat) : l[skip l a]? ≠ some 32 := by
  unfold skip
  intro h
  have e : l[a + ((l.drop a).takeWhile fun c => decide (c = 32)).length]? = (l.drop a)[((l.drop a).takeWhile fun c => decide (c = 32)).length]? := by rw [List.getElem?_drop]
  rw [e] at h
  generalize l.drop a = r at h
  induction r with
  | nil => simp at h
  | cons c r ih =>
    rw [List.takeWhile_cons] at h
    by_cases hc : c = 32
    · rw [decide_eq_true hc] at h
      exact ih (by simpa using h)
    · rw [decide_eq_false hc] at h
      simp at h
      exact hc h
theorem scan_enough {l : List Nat} : ∀ (n m a : Nat) (acc : List Tok3), l[a]? ≠ some 32 → l.length - a ≤ n → l.length - a ≤ m → scanG l n a acc = scanG l m a acc
  | 0, 0, _, _, _, _, _ => rfl
  | 0, m + 1, a, acc, _, h1, _ => by
    unfold scanG
    rw [if_neg (by omega)]
  | n + 1, 0, a, acc, _, _, h2 => by
    conv => lhs; unfold scanG
    conv => rhs; unfold scanG
    rw [if_neg (by omega)]
  | n + 1, m + 1, a, acc, hs, h1, h2 => by
    conv => lhs; unfold scanG
    conv => rhs; unfold scanG
    by_cases ha : a < l.length
    · rw [if_pos ha, if_pos ha]
      cases ht : tokG l a with
      | inr e => rfl
      | inl x =>
        obtain ⟨k, t, b⟩ := x
        have := tok_ge ha hs ht
        have hg := skip_ge l b
        exact scan_enough n m (skip l b) _ (skip_ns l b) (by dsimp only at this; omega) (by dsimp only at this; omega)
    · rw [if_neg ha, if_neg ha]
theorem ok_scan_line {f : Addr} {C_Tree C_Store C_StoreReader : Addr} {fd : FuncData} (F : Fun K "scan_line" "scan_line" s_scan_line f fd) (T : Tx mg) (G : Gx K mg) (TC_Tree : Tc_Tree K C_Tree) (TC_Store : Tc_Store K C_Store) (TC_StoreReader : Tc_StoreReader K C_StoreReader) (C__skip_spaces : Kn.Cl P w K mg base 1 "_skip_spaces" (sp__skip_spaces K)) (C__token : Kn.ClX P w K mg base 5 "_token" (sp__token G)) : FnOk P w K mg base (L2.CX P w) 6 f fd ["path", "number", "line"] (sp_scan_line G) := by
  refine F.okX sc_scan_line (fun vs H Q E h => ?_) (fun cdv A outer s H vs Q E hr h => ?_)
  · obtain ⟨path, l, num, rfl, _⟩ := h
    rfl
  · obtain ⟨path, l, num, rfl, ⟨hp, hl, hn, _⟩, q, qe⟩ := h
    refine ⟨_, (pss_cons (ps_if (pt_val (pe_m1 PySem.F.slot_str_startswith PySem.F.type_str_startswith Kn.mt_startswith (pe_m1 PySem.F.slot_str_lstrip PySem.F.type_str_lstrip Kn.mt_lstripC (pv 2) pe_str) pe_str)) (pss_one (ps_ret (pe_lst pa_nil))) pss_nil)
      (pss_cons (ps_set (i := 3) sc_scan_line.nd rfl (Or.inl rfl) (pe_lst pa_nil))
      (pss_cons (ps_set (i := 4) sc_scan_line.nd rfl (Or.inl rfl) (Kn.pe_cl C__skip_spaces hr (by decide) (by rfl) (pa_cons (pv 2) (pa_cons pe_int pa_nil))))
      (pss_cons (ps_while (passes_of rfl) (pt_cmpR op_lt (pv 4) (pe_callB Kn.cr_lenStr (by rfl) T.b_len PySem.boot_len (pa_cons (pv 2) pa_nil)) (nomark _)) (pss_cons (ps_asg (Kn.pe_clX C__token hr (by decide) (by rfl) (takes_of rfl rfl rfl rfl) (pa_cons (pv 0) (pa_cons (pv 1) (pa_cons (pv 2) (pa_cons (pv 4) pa_nil))))) (pg_tup rfl (pgs_cons (pg_name (i := 5) sc_scan_line.nd rfl (Or.inl rfl)) (pgs_cons (pg_name (i := 6) sc_scan_line.nd rfl (Or.inl rfl)) (pgs_cons (pg_name (i := 7) sc_scan_line.nd rfl (Or.inl rfl)) pgs_nil)))))
      (pss_cons (ps_expr (pe_bm PySem.F.plainAttrs_list PySem.F.slot_list_append PySem.F.type_list_append mt_append (pv 3) (pa_cons (pe_tup (pa_cons (pv 5) (pa_cons (pv 6) (pa_cons (pe_op op_add (pv 4) pe_int) pa_nil)))) pa_nil)))
      (pss_one (ps_set (i := 4) sc_scan_line.nd rfl (Or.inl rfl) (Kn.pe_cl C__skip_spaces hr (by decide) (by rfl) (pa_cons (pv 2) (pa_cons (pv 7) pa_nil))))))))
      (pss_one (ps_ret (pv 3))))))), ?_⟩
    refine q_when (b := isRem l) (et_B (ev_starts (c := 35) (ev_lstrip (ev_var rfl) (ev_cS (l := [32]) rfl) (by omega)) (ev_cS (l := [35]) rfl))) (fun hb H1 e1 => ?_) fun hb H1 e1 => ?_
    · have hr2 : scan l = .inl [] := by unfold scan; rw [if_pos hb]
      exact s_retD (evd_lst eda_nil (by decide)) ((q _ hr2).mono e1)
    have hsc : scan l = scanG l l.length (skip l 0) [] := by unfold scan; rw [if_neg (by rw [hb]; decide)]
    rw [hsc] at q qe
    refine q_asgL (el_lst ea_nil (by decide)) fun p H2 np e2 hp2 => ?_
    refine q_asg (v := .int ((skip l 0 : Nat) : Int)) (ev_c2 (a := l) (b := 0) (ea_cons (ev_var rfl) (ea_cons ev_c ea_nil)) fun _ _ => hl) fun H3 e3 => ?_
    generalize hR : scanG l l.length (skip l 0) [] = R at q qe
    have e13 := (e1.trans e2).trans e3
    refine q_while (fun m σ' H' => ∃ (b : Nat) (ts : List Tok3) (vs : List V) (y5 y6 y7 : Option V), m = l.length - b ∧ σ' = [some (.str (S path)), some (.int (num : Int)), some (.str (S l)), some (.ref p), some (.int (b : Int)), y5, y6, y7] ∧ Ex H H' ∧ H' p = some (.lst vs) ∧ DtA H' vs (ts.map tokD) ∧ l[b]? ≠ some 32 ∧ b ≤ l.length ∧ ts.length ≤ b ∧ scanG l (l.length - b) b ts = R) (l.length - skip l 0) ⟨skip l 0, [], [], _, _, _, rfl, rfl, e13, e3 _ _ hp2, .nil, skip_ns l 0, skip_le l (Nat.zero_le _), Nat.zero_le _, by rw [← hR]; exact scan_enough _ _ _ _ (skip_ns l 0) (Nat.le_refl _) (by omega)⟩ ?_
    rintro m σ' H4 ⟨b, ts, vs, y5, y6, y7, rfl, rfl, e4, hp4, hD, hns, hb1, hts, hR4⟩
    refine ⟨decide ((b : Int) < (l.length : Int)), et_test (ev_op (ev_var rfl) (ev_cb (ea_cons (ev_var rfl) ea_nil) (rc_lenS (by omega))) rv_lt), fun h H5 e5 => ?_, fun h H5 e5 => ?_⟩
    · have hlt : b < l.length := by
        have := of_decide_eq_true h
        omega
      have hstep : scanG l (l.length - b) b ts = (match tokG l b with
          | .inl (k, t, b2) => scanG l (l.length - b - 1) (skip l b2) (ts ++ [(k, t, b + 1)])
          | .inr e => .inr e) := by
        rw [show l.length - b = (l.length - b - 1) + 1 by omega]
        conv => lhs; unfold scanG
        rw [if_pos hlt]
        rfl
      refine ⟨fun σ' H' => ∃ (b2 : Nat) (x : Tok3) (vs : List V) (y5 y6 y7 : Option V), b < b2 ∧ σ' = [some (.str (S path)), some (.int (num : Int)), some (.str (S l)), some (.ref p), some (.int (b2 : Int)), y5, y6, y7] ∧ Ex H H' ∧ H' p = some (.lst vs) ∧ DtA H' vs ((ts ++ [x]).map tokD) ∧ l[b2]? ≠ some 32 ∧ b2 ≤ l.length ∧ scanG l (l.length - b2) b2 (ts ++ [x]) = R, ?_, ?_⟩
      · rintro σ2 H6 ⟨b2, x, vs2, z5, z6, z7, g1, g2, g3, g4, g5, g6, g7, g8⟩
        exact ⟨l.length - b2, by omega, b2, ts ++ [x], vs2, z5, z6, z7, rfl, g2, g3, g4, g5, g6, g7, by rw [List.length_append, List.length_singleton]; omega, g8⟩
      · refine q_asgS (ea_cons (ev_var rfl) (ea_cons (ev_var rfl) (ea_cons (ev_var rfl) (ea_cons (ev_var rfl) ea_nil)))) fun H6 e6 => ?_
        have e46 := (e4.trans e5).trans e6
        refine ⟨path, l, num, b, rfl, ⟨hp, hl, hn, by omega⟩, hlt, fun x hx v H7 e7 hv => ?_, fun c why hx d H' e hd => qe c why ?_ d H' (e46.trans e) hd⟩
        · obtain ⟨k, t, b2⟩ := x
          obtain ⟨ar, rfl, har⟩ := tokD_inv hv
          have hge := tok_ge hlt hns hx
          dsimp only at hge
          refine unp3 har ?_
          have hp7 := e7 _ _ (e6 _ _ (e5 _ _ hp4))
          have hD7 := ((hD.mono e5).mono e6).mono e7
          have hvl : vs.length = ts.length := by
            have := hD.len
            rw [List.length_map] at this
            exact this
          refine q_appD (d := tokD (k, t, b + 1)) hp7 (ev_var rfl) (evd_tok (x := (k, t, b + 1)) (ev_var rfl) (ev_var rfl) (ev_addN (m := 1) (ev_var rfl) rfl)) (by omega) fun v8 H8 e8 hv8 => ?_
          have eF := Ex.mut (o := .lst (vs ++ [v8])) ((e46.trans e7).trans e8) (fresh_back e1 np)
          have hD9 := dta_app (e8 _ _ hp7) (hD7.mono e8) hv8 (noLA_map (fun _ => rfl) ts) rfl
          refine s_asg (v := .int ((skip l b2 : Nat) : Int)) (ev_c2 (a := l) (b := b2) (ea_cons (ev_var rfl) (ea_cons (ev_var rfl) ea_nil)) fun _ _ => hl) fun H9 e9 => ⟨skip l b2, (k, t, b + 1), vs ++ [v8], _, _, _, ?_, rfl, eF.trans e9, e9 _ _ upd_same, ?_, skip_ns l b2, skip_le l hge.2, ?_⟩
          · have := skip_ge l b2
            omega
          · rw [List.map_append]
            exact hD9.mono e9
          · rw [← hR4, hstep, hx]
            dsimp only
            exact scan_enough _ _ _ _ (skip_ns l b2) (Nat.le_refl _) (by have := skip_ge l b2; omega)
        · rw [← hR4, hstep, hx]
    · have hge : ¬ b < l.length := by
        have := of_decide_eq_false h
        omega
      have hR5 : R = .inl ts := by
        rw [← hR4, show l.length - b = 0 by omega]
        rfl
      exact s_retD (evd_of (ev_var rfl) (.lst (e5 _ _ hp4) (hD.mono e5))) ((q _ hR5).mono (e4.trans e5))
end

--SPLIT
open Kn.Rp
section
variable {P : Program} {w : World} {K : PySem.W.Frag} {mg : Str → Option Value} {base : Heap}
def lit (x : Str) : List Nat := x.cps.toList
theorem el_call' {σ : L2.St} {H : Hp} {ta : TA} {sp : Sp} {E : XK} {vs xs : List V} (h : EvA ta σ H vs) (hs : ∀ H1, Ex H H1 → ∀ Q : VK, Rl H1 xs Q → ∀ E, sp vs H1 Q E) : EvL (tCall sp [] E ta) σ H xs := fun H1 e Q q => h H1 e _ fun H2 e2 => by
  rw [List.append_nil]
  exact hs H2 (e.trans e2) Q (fun p H3 np e3 hp => q p H3 (fresh_back e2 np) (e2.trans e3) hp) E
theorem ev_call' {σ : L2.St} {H : Hp} {ta : TA} {sp : Sp} {E : XK} {vs : List V} {z : V} (h : EvA ta σ H vs) (hs : ∀ H1, Ex H H1 → ∀ Q : VK, Rt H1 z Q → ∀ E, sp vs H1 Q E) : Ev (tCall sp [] E ta) σ H z := fun H1 e Q q => h H1 e _ fun H2 e2 => by
  rw [List.append_nil]
  exact hs H2 (e.trans e2) Q (fun H3 e3 => q H3 (e2.trans e3)) E
end
section
variable {P : Program} {w : World} {K : PySem.W.Frag} {mg : Str → Option Value} {base : Heap}
def Txl (l : List Nat) : Prop := l.length ≤ 2000 ∧ ∀ c ∈ l, c < 128
def sp_content_key (_ : PySem.W.Frag) : Sp := sp1 (fun l : List Nat => [.str (S l)]) (fun l _ => Txl l) (fun l => .int ((key l : Nat) : Int))
theorem ok_content_key {f : Addr} {C_Tree C_Store C_StoreReader : Addr} {fd : FuncData} (F : Fun K "content_key" "content_key" s_content_key f fd) (T : Tx mg) (G : Gx K mg) (TC_Tree : Tc_Tree K C_Tree) (TC_Store : Tc_Store K C_Store) (TC_StoreReader : Tc_StoreReader K C_StoreReader)  (hdig : PySem.W.nsIn K cStatics "sys.int_max_str_digits" = some none) : FnOk P w K mg base CX0 1 f fd ["text"] (sp_content_key K) := by
  refine F.ok sc_content_key (fun vs H Q E h => ?_) (fun cdv A outer s H vs Q E hr h => ?_)
  · obtain ⟨n, rfl, _⟩ := h
    rfl
  · obtain ⟨l, rfl, ⟨hl, hlt⟩, q⟩ := h
    refine ⟨_, (pss_one (ps_ret (pe_callTy (Kn.Bi.cr_intBinL hdig) (by rfl) T.b_int (by decide +kernel) (pa_cons (pe_op Kn.op_addS pe_str (Kn.pe_joinN (pe_join pe_str (pe_lc (own := [("sign", 1)]) rfl sc_content_key.nd (pi_str (pv 0)) (blkOk_by (own := [("sign", 1)]) (N := N_content_key) (sc := defScope s_content_key) (by decide +kernel)) (fun _ _ _ _ _ => pg_name (i := 1) sc_content_key.nd rfl (Or.inl rfl)) (fun _ _ _ _ _ => pts_nil) (fun _ _ _ _ _ => (pe_joined1 (Kn.Bi.pe_fmt7 (pe_callB Kn.cr_ord (by rfl) T.b_ord (by decide +kernel) (pa_cons (pv 1) pa_nil)) (pe_joined1 pe_str)))))))) (pa_cons pe_int pa_nil))))), ?_⟩
    have hfl := flat_len l
    refine s_ret (ev_is (ev_intBinL (l := [49] ++ (l.map Bi.pad7).flatten) (ea_cons (ev_op (ev_cS (l := [49]) rfl) (ev_is (ev_join (s := []) (ys := l.map Bi.pad7) (ev_cS (l := []) rfl) ?_ ?_) (by rw [Kn.join_nil])) (rv_addS (by rw [hfl]; show 1 + _ ≤ 100000; omega))) (ea_cons ev_c ea_nil)) (by simp) (bin_all l)) (by rw [bin_key hlt])) q
    · rw [List.map_map]
      exact el_lcS (ev_var rfl) (by omega) (fun _ => rfl) fun c hc H2 e2 => ev_fmt7 (ev_cb (ea_cons (ev_var rfl) ea_nil) rc_ord) (hlt c hc)
    · rw [← List.length_flatten, hfl, List.length_nil, Nat.mul_zero]
      omega
end
section
open Kn.Bi
theorem digB_step {n : Nat} (h : 2 ≤ n) : digB n = digB (n / 2) ++ [48 + n % 2] := by
  have e : Nat.toDigits 2 n = Nat.toDigits 2 (n / 2) ++ [Nat.digitChar (n % 2)] := Nat.toDigits_of_base_le (by decide) h
  unfold digB
  rw [e, List.map_append]
  congr 1
  have : n % 2 < 2 := Nat.mod_lt _ (by decide)
  match n % 2, this with
  | 0, _ => rfl
  | 1, _ => rfl
theorem digB_seven {n : Nat} (h : 128 ≤ n) : digB n = digB (n / 128) ++ pad7 (n % 128) := by
  rw [digB_step (show 2 ≤ n by omega), digB_step (show 2 ≤ n / 2 by omega), digB_step (show 2 ≤ n / 2 / 2 by omega), digB_step (show 2 ≤ n / 2 / 2 / 2 by omega), digB_step (show 2 ≤ n / 2 / 2 / 2 / 2 by omega), digB_step (show 2 ≤ n / 2 / 2 / 2 / 2 / 2 by omega), digB_step (show 2 ≤ n / 2 / 2 / 2 / 2 / 2 / 2 by omega)]
  have e : n / 2 / 2 / 2 / 2 / 2 / 2 / 2 = n / 128 := by omega
  rw [e]
  simp only [List.append_assoc, List.cons_append, List.nil_append]
  unfold pad7
  have e0 : 48 + n / 2 / 2 / 2 / 2 / 2 / 2 % 2 = 48 + n % 128 / 64 % 2 := by omega
  have e1 : 48 + n / 2 / 2 / 2 / 2 / 2 % 2 = 48 + n % 128 / 32 % 2 := by omega
  have e2 : 48 + n / 2 / 2 / 2 / 2 % 2 = 48 + n % 128 / 16 % 2 := by omega
  have e3 : 48 + n / 2 / 2 / 2 % 2 = 48 + n % 128 / 8 % 2 := by omega
  have e4 : 48 + n / 2 / 2 % 2 = 48 + n % 128 / 4 % 2 := by omega
  have e5 : 48 + n / 2 % 2 = 48 + n % 128 / 2 % 2 := by omega
  have e6 : 48 + n % 2 = 48 + n % 128 % 2 := by omega
  rw [e0, e1, e2, e3, e4, e5, e6]
/-- digits to the base 128, the last first; f the most turns -/
def lowF : Nat → Nat → List Nat
  | 0, _ => []
  | f + 1, n => if n = 0 then [] else n % 128 :: lowF f (n / 128)
/-- the digits, the highest first -/
def digs (n : Nat) : List Nat := (lowF 700 n).reverse
/-- what the turns leave of the highest -/
theorem low_top : ∀ (f n : Nat), n ≠ 0 → n < 128 ^ f → ∃ t r, (lowF f n).reverse = t :: r ∧ (1 ≤ t ∧ t < 128) ∧ (∀ d ∈ r, d < 128) ∧ digB n = digB t ++ (r.map pad7).flatten
  | 0, n, h0, h => absurd (by rw [Nat.pow_zero] at h; omega) h0
  | f + 1, n, h0, h => by
    have e2 : lowF (f + 1) n = n % 128 :: lowF f (n / 128) := if_neg h0
    rw [e2, List.reverse_cons]
    by_cases hs : n < 128
    · have e : n / 128 = 0 := by omega
      have e3 : lowF f 0 = [] := by
        cases f with
        | zero => rfl
        | succ f => rfl
      rw [e, e3]
      refine ⟨n, [], ?_, ⟨by omega, hs⟩, (fun d hd => nomatch hd), ?_⟩
      · rw [Nat.mod_eq_of_lt hs]
        rfl
      · rw [List.map_nil, List.flatten_nil, List.append_nil]
    · obtain ⟨t, r, e1, ht, hr, hd⟩ := low_top f (n / 128) (by omega) (by rw [Nat.pow_succ] at h; omega)
      refine ⟨t, r ++ [n % 128], by rw [e1, List.cons_append], ht, fun d hd => ?_, ?_⟩
      · rcases List.mem_append.mp hd with z | z
        · exact hr d z
        · rw [List.mem_singleton.mp z]
          exact Nat.mod_lt _ (by decide)
      · rw [digB_seven (by omega), hd, List.map_append, List.flatten_append, List.append_assoc]
        simp
theorem pad7_len (d : Nat) : (pad7 d).length = 7 := rfl
theorem flat_len : ∀ r : List Nat, ((r.map pad7).flatten).length = 7 * r.length
  | [] => rfl
  | d :: r => by
    rw [List.map_cons, List.flatten_cons, List.length_append, flat_len r, pad7_len, List.length_cons]
    omega
theorem top_bits : ∀ t, t < 128 → 1 ≤ t → (decide ((digB t).length % 7 = 1) = decide (t = 1)) := by decide +kernel
theorem bin_pad : ∀ d, d < 128 → binNum (pad7 d) = d := by decide +kernel
theorem isbin_pad (d : Nat) : ∀ c ∈ pad7 d, IsBin c := fun c hc => by
  unfold pad7 at hc
  simp only [List.mem_cons, List.not_mem_nil, or_false] at hc
  unfold IsBin
  omega
theorem digB_one : digB 1 = [49] := by decide +kernel
theorem flat_drop : ∀ (r : List Nat) (i : Nat) (d : Nat), r[i]? = some d → (((r.map pad7).flatten).drop (7 * i)).take 7 = pad7 d
  | [], i, d, h => by simp at h
  | x :: r, 0, d, h => by
    have e : x = d := Option.some.inj h
    subst e
    rfl
  | x :: r, i + 1, d, h => by
    have e : 7 * (i + 1) = (pad7 x).length + 7 * i := by rw [pad7_len]; omega
    rw [List.map_cons, List.flatten_cons, e, List.drop_append, Nat.add_sub_cancel_left]
    rw [List.drop_eq_nil_of_le (by omega), List.nil_append]
    exact flat_drop r i d h
/-! ### the text of a key -/
/-- a number's digits to the base 128, the highest first: the highest and the others -/
structure Dg (n t : Nat) (r : List Nat) : Prop where
  rev : (lowF 700 n).reverse = t :: r
  top : 1 ≤ t ∧ t < 128
  all : ∀ d ∈ r, d < 128
  bits : digB n = digB t ++ (r.map pad7).flatten
theorem dg_of {n : Nat} (h0 : n ≠ 0) (h : n < 128 ^ 700) : ∃ t r, Dg n t r := by
  obtain ⟨t, r, h1, h2, h3, h4⟩ := low_top 700 n h0 h
  exact ⟨t, r, h1, h2, h3, h4⟩
theorem Dg.len {n t : Nat} {r : List Nat} (D : Dg n t r) : (digB n).length = (digB t).length + 7 * r.length := by
  rw [D.bits, List.length_append, flat_len]
theorem Dg.rem {n t : Nat} {r : List Nat} (D : Dg n t r) : (digB n).length % 7 = 1 ↔ t = 1 := by
  have h := top_bits t D.top.2 D.top.1
  have e : (digB n).length % 7 = (digB t).length % 7 := by
    rw [D.len]
    omega
  rw [e]
  exact decide_eq_decide.mp h
theorem Dg.len1 {n : Nat} {r : List Nat} (D : Dg n 1 r) : (digB n).length = 1 + 7 * r.length := by
  rw [D.len, digB_one]
  rfl
theorem Dg.cut {n : Nat} {r : List Nat} (D : Dg n 1 r) {i d : Nat} (h : r[i]? = some d) : ((digB n).drop (1 + 7 * i)).take 7 = pad7 d := by
  rw [D.bits, digB_one, show 1 + 7 * i = ([49] : List Nat).length + 7 * i from rfl, List.drop_append, Nat.add_sub_cancel_left, List.drop_eq_nil_of_le (by omega), List.nil_append]
  exact flat_drop r i d h
theorem low_len : ∀ f n, (lowF f n).length ≤ f
  | 0, _ => Nat.le_refl _
  | f + 1, n => by
    show (if n = 0 then [] else n % 128 :: lowF f (n / 128)).length ≤ f + 1
    split
    · exact Nat.zero_le _
    · rw [List.length_cons]
      have := low_len f (n / 128)
      omega
theorem Dg.rlen {n t : Nat} {r : List Nat} (D : Dg n t r) : r.length ≤ 699 := by
  have h := congrArg List.length D.rev
  rw [List.length_reverse, List.length_cons] at h
  have := low_len 700 n
  omega
theorem digB_top_len : ∀ t, t < 128 → (digB t).length ≤ 7 := by decide +kernel

variable {P : Program} {w : World} {K : PySem.W.Frag} {mg : Str → Option Value} {base : Heap}
theorem cutS_nat (l : List Nat) (a b : Nat) : cutS (S l) (some (a : Int)) (some (b : Int)) = S ((l.drop a).take (b - a)) := by
  unfold cutS
  rw [HT.sIx_nat, HT.sIx_nat]
  exact congrArg S (cut_nat l a b)
/-! ### the sign of a code -/
def sBef : List Nat := (Str.ofString " !\"#$").cps.toList
def sBeh : List Nat := (Str.ofString "&'()*+,-./0123456789:;<=>?@ABCDEFGHIJKLMNOPQRSTUVWXYZ[\\]^_`abcdefghijklmnopqrstuvwxyz{|}~").cps.toList
theorem at_bef : ∀ c : Nat, c < 37 → 32 ≤ c → atI sBef ((c : Int) - 32) = some c := by decide +kernel
theorem at_beh : ∀ c : Nat, c < 127 → 38 ≤ c → atI sBeh ((c : Int) - 37 - 1) = some c := by decide +kernel
theorem isCode_cases {c : Nat} (h : isCode (c : Int) = true) : c = 10 ∨ (32 ≤ c ∧ c < 37) ∨ (38 ≤ c ∧ c < 127) := by
  unfold isCode at h
  rw [Bool.or_eq_true, Bool.and_eq_true, Bool.and_eq_true, Bool.not_eq_true', decide_eq_true_eq, decide_eq_true_eq, decide_eq_true_eq, decide_eq_false_iff_not] at h
  omega
def sp__sign (_ : PySem.W.Frag) : Sp := sp1 (fun c : Nat => [.int (c : Int)]) (fun c _ => isCode (c : Int) = true) (fun c => .str (S [c]))
theorem ok__sign {f : Addr} {C_Tree C_Store C_StoreReader : Addr} {fd : FuncData} (F : Fun K "_sign" "_sign" s__sign f fd) (T : Tx mg) (G : Gx K mg) (TC_Tree : Tc_Tree K C_Tree) (TC_Store : Tc_Store K C_Store) (TC_StoreReader : Tc_StoreReader K C_StoreReader)  : FnOk P w K mg base CX0 1 f fd ["code"] (sp__sign K) := by
  refine F.ok sc__sign (fun vs H Q E h => ?_) (fun cdv A outer s H vs Q E hr h => ?_)
  · obtain ⟨n, rfl, _⟩ := h
    rfl
  · obtain ⟨c, rfl, hc, q⟩ := h
    refine ⟨_, (pss_cons (ps_if (pt_cmpR op_eq (pv 0) (C8.pe_gc (by rfl) T.c_NEWLINE) (nomark _)) (pss_one (ps_ret pe_str)) pss_nil)
      (pss_cons (ps_if (pt_cmpR op_lt (pv 0) (C8.pe_gc (by rfl) T.c_PERCENT) (nomark _)) (pss_one (ps_ret (pe_ix ix_str (C8.pe_gc (by rfl) T.c_SIGNS_BEFORE) (pe_op op_sub (pv 0) (C8.pe_gc (by rfl) T.c_SPACE)) (fun _ _ => rfl)))) pss_nil)
      (pss_one (ps_ret (pe_ix ix_str (C8.pe_gc (by rfl) T.c_SIGNS_BEHIND) (pe_op op_sub (pe_op op_sub (pv 0) (C8.pe_gc (by rfl) T.c_PERCENT)) pe_int) (fun _ _ => rfl)))))), ?_⟩
    have h3 := isCode_cases hc
    refine q_when (b := decide ((c : Int) = 10)) (by walk_at "ev") (fun hb H1 e1 => ?_) (fun hb H1 e1 => ?_)
    · have e : c = 10 := by
        have := of_decide_eq_true hb
        omega
      subst e
      exact s_ret (ev_cS (l := [10]) rfl) fun H2 e2 => q H2 (e1.trans e2)
    · have hn := of_decide_eq_false hb
      refine q_when (b := decide ((c : Int) < 37)) (by walk_at "ev") (fun hb H2 e2 => ?_) (fun hb H2 e2 => ?_)
      · have hl := of_decide_eq_true hb
        exact s_ret (ev_idxS (ev_cS (l := sBef) rfl) (by walk_at "ev") (by decide +kernel) (at_bef c (by omega) (by omega))) fun H3 e3 => q H3 ((e1.trans e2).trans e3)
      · have hl := of_decide_eq_false hb
        exact s_ret (ev_idxS (ev_cS (l := sBeh) rfl) (by walk_at "ev") (by decide +kernel) (at_beh c (by omega) (by omega))) fun H3 e3 => q H3 ((e1.trans e2).trans e3)
/-! ### the codes of a key -/
def most : Nat := 128 ^ 700
def sp__codes (_ : PySem.W.Frag) : Sp := fun vs H Q _ => ∃ n : Int, vs = [.int n] ∧ n < (most : Int) ∧ (n < 1 → Rt H .non Q) ∧ (∀ (m t : Nat) (r : List Nat), n = (m : Int) → Dg m t r → t ≠ 1 → Rt H .non Q) ∧
  (∀ (m : Nat) (r : List Nat), n = (m : Int) → Dg m 1 r → Rl H (r.map fun d : Nat => V.int (d : Int)) Q)
theorem ok__codes {f : Addr} {C_Tree C_Store C_StoreReader : Addr} {fd : FuncData} (F : Fun K "_codes" "_codes" s__codes f fd) (T : Tx mg) (G : Gx K mg) (TC_Tree : Tc_Tree K C_Tree) (TC_Store : Tc_Store K C_Store) (TC_StoreReader : Tc_StoreReader K C_StoreReader)  (hdig : PySem.W.nsIn K cStatics "sys.int_max_str_digits" = some none) : FnOk P w K mg base CX0 1 f fd ["key"] (sp__codes K) := by
  refine F.ok sc__codes (fun vs H Q E h => ?_) (fun cdv A outer s H vs Q E hr h => ?_)
  · obtain ⟨n, rfl, _⟩ := h
    rfl
  · obtain ⟨n, rfl, hb, h1, h2, h3⟩ := h
    refine ⟨_, (pss_cons (ps_if (pt_cmpR op_lt (pv 0) pe_int (nomark _)) (pss_one (ps_ret pe_non)) pss_nil)
      (pss_cons (ps_set (i := 1) sc__codes.nd rfl (Or.inr rfl) (pe_joined1 (Kn.Bi.pe_fmtB (pv 0) (pe_joined1 pe_str))))
      (pss_cons (ps_if (pt_cmpR op_ne (pe_op op_mod (pe_callB Kn.cr_lenStr (by rfl) T.b_len PySem.boot_len (pa_cons (pv 1) pa_nil)) (C8.pe_gc (by rfl) T.c_DIGIT_BITS)) pe_int (nomark _)) (pss_one (ps_ret pe_non)) pss_nil)
      (pss_one (ps_ret (pe_lc (own := [("at", 2)]) rfl sc__codes.nd (pi_range3 rfl T.b_range (pa_cons pe_int (pa_cons (pe_callB Kn.cr_lenStr (by rfl) T.b_len PySem.boot_len (pa_cons (pv 1) pa_nil)) (pa_cons (C8.pe_gc (by rfl) T.c_DIGIT_BITS) pa_nil)))) (blkOk_by (own := [("at", 2)]) (N := N__codes) (sc := defScope s__codes) (by decide +kernel)) (fun _ _ _ _ _ => pg_name (i := 2) sc__codes.nd rfl (Or.inl rfl)) (fun _ _ _ _ _ => pts_nil) (fun _ _ _ _ _ => (pe_callTy (Kn.Bi.cr_intBinL hdig) (by rfl) T.b_int (by decide +kernel) (pa_cons (pe_slice sl_str (pv 1) (po_some (pv 2)) (po_some (pe_op op_add (pv 2) (C8.pe_gc (by rfl) T.c_DIGIT_BITS)))) (pa_cons pe_int pa_nil)))))))))), ?_⟩
    refine q_when (b := decide (n < 1)) (by walk_at "ev") (fun hb1 H1 e1 => ?_) (fun hb1 H1 e1 => ?_)
    · exact s_ret ev_c fun H2 e2 => h1 (of_decide_eq_true hb1) H2 (e1.trans e2)
    · have hn1 := of_decide_eq_false hb1
      obtain ⟨m, rfl⟩ := Int.eq_ofNat_of_zero_le (show 0 ≤ n by omega)
      obtain ⟨t, r, D⟩ := dg_of (n := m) (by omega) (by unfold most at hb; omega)
      have hr := D.rlen
      have hlen := D.len
      have ht := digB_top_len t D.top.2
      have rem := D.rem
      replace h2 := h2 m t r rfl D
      replace h3 := fun (e : t = 1) => h3 m r rfl (by subst e; exact D)
      refine q_asg (v := .str (S (digB m))) (ev_fmtB (ev_var rfl) (by omega)) fun H2 e2 => ?_
      refine q_when (b := !decide (((digB m).length : Int) % 7 = 1)) (et_test (ev_op (ev_op (ev_cb (ea_cons (ev_var rfl) ea_nil) (rc_lenS (by omega))) ev_c (rv_mod (by decide))) ev_c rv_neI)) (fun hb2 H3 e3 => ?_) (fun hb2 H3 e3 => ?_)
      · refine s_ret ev_c fun H4 e4 => h2 (fun z => ?_) H4 (((e1.trans e2).trans e3).trans e4)
        have := rem.mpr z
        rw [decide_eq_true (show ((digB m).length : Int) % 7 = 1 by omega)] at hb2
        cases hb2
      · have e : t = 1 := by
          refine rem.mp ?_
          by_cases z : ((digB m).length : Int) % 7 = 1
          · omega
          · rw [decide_eq_false z] at hb2
            cases hb2
        subst e
        have hl1 := D.len1
        refine s_retL (xs := r.map fun d : Nat => V.int (d : Int)) ?_ fun p H4 np e4 hp => h3 rfl p H4 (fresh_back ((e1.trans e2).trans e3) np) (((e1.trans e2).trans e3).trans e4) hp
        rw [← given_all (d := V.non)]
        refine el_lcR7 (c := r.length) (fun i => (r[i]?.map fun d : Nat => V.int (d : Int)).getD .non) (ea_cons ev_c (ea_cons (ev_is (ev_cb (ea_cons (ev_var rfl) ea_nil) (rc_lenS (by omega))) (by rw [hl1])) (ea_cons ev_c ea_nil))) (by omega) (fun _ => rfl) fun i H4 e4 hi => ?_
        have hget := List.getElem?_eq_getElem hi
        have hcut := D.cut hget
        have hd := D.all _ (List.getElem_mem hi)
        show Ev _ _ _ ((r[i]?.map fun d : Nat => V.int (d : Int)).getD .non)
        rw [hget]
        generalize r[i] = d at hcut hd
        refine ev_is (ev_intBinL (l := pad7 d) (ea_cons (ev_is (ev_slS (ev_var rfl) (eo_some (ev_var rfl)) (eo_some (ev_op (ev_var rfl) ev_c rv_I0)) (by omega)) ?_) (ea_cons ev_c ea_nil)) (by unfold pad7; simp) (isbin_pad d)) (by rw [bin_pad d hd]; rfl)
        rw [show (1 + ((i : Nat) : Int) * 7) = ((1 + 7 * i : Nat) : Int) by omega, show ((1 + 7 * i : Nat) : Int) + 7 = ((1 + 7 * i + 7 : Nat) : Int) by omega, cutS_nat, Nat.add_sub_cancel_left, hcut]
theorem codes_good {H : Hp} {m : Nat} {r : List Nat} (hb : (m : Int) < (most : Int)) (D : Dg m 1 r) : ∀ H1, Ex H H1 → ∀ Q : VK, Rl H1 (r.map fun d : Nat => V.int (d : Int)) Q → ∀ E, sp__codes K [.int (m : Int)] H1 Q E := fun H1 e Q q E => by
  refine ⟨(m : Int), rfl, hb, fun h => ?_, fun m2 t r2 e2 D2 h => ?_, fun m2 r2 e2 D2 => ?_⟩
  · exfalso
    have : m = 0 := by omega
    subst this
    have z := D.rev
    cases z
  · exfalso
    have : m = m2 := by omega
    subst this
    exact h (List.cons.inj (D.rev.symm.trans D2.rev)).1.symm
  · have : m = m2 := by omega
    subst this
    have e3 := (List.cons.inj (D.rev.symm.trans D2.rev)).2
    subst e3
    exact q
theorem ones_sum : ∀ r : List Nat, (r.map ((fun x : List Nat => x.length) ∘ fun c : Nat => [c])).sum = r.length
  | [] => rfl
  | x :: r => by
    rw [List.map_cons, List.sum_cons, ones_sum r, List.length_cons]
    show 1 + _ = _
    omega
theorem ones_flat : ∀ r : List Nat, (r.map fun c : Nat => [c]).flatten = r
  | [] => rfl
  | x :: r => by
    rw [List.map_cons, List.flatten_cons, ones_flat r]
    rfl

/-- a text of the store -/
def TxK (l : List Nat) : Prop := l.length ≤ 690 ∧ okText l = true
theorem TxK.code {l : List Nat} (h : TxK l) {c : Nat} (hc : c ∈ l) : isCode (c : Int) = true := List.all_eq_true.mp h.2 c hc
theorem TxK.lt {l : List Nat} (h : TxK l) {c : Nat} (hc : c ∈ l) : c < 128 := by
  have := isCode_cases (h.code hc)
  omega
theorem TxK.txl {l : List Nat} (h : TxK l) : Txl l := ⟨by have := h.1; omega, fun c hc => h.lt hc⟩
theorem low_zero : ∀ f, lowF f 0 = []
  | 0 => rfl
  | f + 1 => rfl
theorem key_snoc (l : List Nat) (c : Nat) : key (l ++ [c]) = key l * 128 + c := by
  unfold key
  rw [List.foldl_append]
  rfl
theorem key_pos' : ∀ r : List Nat, 1 ≤ key r.reverse
  | [] => Nat.le_refl 1
  | c :: r => by
    rw [List.reverse_cons, key_snoc]
    have := key_pos' r
    omega
theorem key_lt' : ∀ r : List Nat, (∀ c ∈ r, c < 128) → key r.reverse < 128 ^ (r.length + 1)
  | [], _ => by decide
  | c :: r, h => by
    rw [List.reverse_cons, key_snoc, List.length_cons, Nat.pow_succ]
    have h1 := key_lt' r fun x hx => h x (List.mem_cons_of_mem _ hx)
    have h2 := h c List.mem_cons_self
    omega
theorem low_key : ∀ (r : List Nat) (f : Nat), (∀ c ∈ r, c < 128) → r.length < f → lowF f (key r.reverse) = r ++ [1]
  | [], 0, _, h => absurd h (Nat.not_lt_zero _)
  | [], f + 1, _, _ => by
    rw [show key ([] : List Nat).reverse = 1 from rfl]
    unfold lowF
    rw [if_neg (by decide), show 1 / 128 = 0 from rfl, low_zero]
    rfl
  | c :: r, 0, _, h => absurd h (Nat.not_lt_zero _)
  | c :: r, f + 1, hc, h => by
    have h1 := hc c List.mem_cons_self
    have ih := low_key r f (fun x hx => hc x (List.mem_cons_of_mem _ hx)) (by rw [List.length_cons] at h; omega)
    have hp := key_pos' r
    rw [List.reverse_cons, key_snoc]
    unfold lowF
    rw [if_neg (by omega), show (key r.reverse * 128 + c) % 128 = c by omega, show (key r.reverse * 128 + c) / 128 = key r.reverse by omega, ih]
    rfl
theorem key_dg {l : List Nat} (h : TxK l) : key l < most ∧ Dg (key l) 1 l := by
  have hc : ∀ c ∈ l.reverse, c < 128 := fun c hc => h.lt (List.mem_reverse.mp hc)
  have hlen := h.1
  have h1 := key_lt' l.reverse hc
  have h2 := key_pos' l.reverse
  have h3 := low_key l.reverse 700 hc (by rw [List.length_reverse]; omega)
  rw [List.reverse_reverse] at h1 h2 h3
  rw [List.length_reverse] at h1
  have h4 : 128 ^ (l.length + 1) ≤ 128 ^ 700 := Nat.pow_le_pow_right (by decide) (by omega)
  have h5 : key l < 128 ^ 700 := Nat.lt_of_lt_of_le h1 h4
  obtain ⟨t, r, D⟩ := dg_of (n := key l) (by omega) h5
  have z := D.rev
  rw [h3, List.reverse_append, List.reverse_reverse] at z
  injection z with z1 z2
  subst z1 z2
  exact ⟨h5, D⟩
def sp_key_text (_ : PySem.W.Frag) : Sp := sp1 (fun l : List Nat => [.int ((key l : Nat) : Int)]) (fun l _ => TxK l) (fun l => .str (S l))
theorem ok_key_text {f : Addr} {C_Tree C_Store C_StoreReader : Addr} {fd : FuncData} (F : Fun K "key_text" "key_text" s_key_text f fd) (T : Tx mg) (G : Gx K mg) (TC_Tree : Tc_Tree K C_Tree) (TC_Store : Tc_Store K C_Store) (TC_StoreReader : Tc_StoreReader K C_StoreReader) (C__codes : Kn.Cl P w K mg base 1 "_codes" (sp__codes K)) (C__is_code : Kn.Cl P w K mg base 1 "_is_code" (sp__is_code K)) (C__sign : Kn.Cl P w K mg base 1 "_sign" (sp__sign K)) : FnOk P w K mg base CX0 2 f fd ["key"] (sp_key_text K) := by
  refine F.ok sc_key_text (fun vs H Q E h => ?_) (fun cdv A outer s H vs Q E hr h => ?_)
  · obtain ⟨l, rfl, _⟩ := h
    rfl
  · obtain ⟨r, rfl, hT, q⟩ := h
    refine ⟨_, (pss_cons (ps_set (i := 1) sc_key_text.nd rfl (Or.inl rfl) (Kn.pe_cl C__codes hr (by decide) (by rfl) (pa_cons (pv 0) pa_nil)))
      (pss_cons (ps_if (PW.pt (pw_or (pt_cmpR op_isN1 (pv 1) pe_non (nomark _)) (pw_or1 (pt_not (pt_val (pe_callB (cr_all rfl) (by rfl) T.b_all (by decide +kernel) (pa_cons (pe_lc (own := [("code", 2)]) rfl sc_key_text.nd (pi_list (pv 1)) (blkOk_by (own := [("code", 2)]) (N := N_key_text) (sc := defScope s_key_text) (by decide +kernel)) (fun _ _ _ _ _ => pg_name (i := 2) sc_key_text.nd rfl (Or.inl rfl)) (fun _ _ _ _ _ => pts_nil) (fun _ _ _ _ _ => (Kn.pe_cl C__is_code hr (by decide) (by rfl) (pa_cons (pv 2) pa_nil)))) pa_nil))))))) (pss_one Kw.ps_never) pss_nil)
      (pss_one (ps_ret (Kn.pe_joinN (pe_join pe_str (pe_lc (own := [("code", 2)]) rfl sc_key_text.nd (pi_list (pv 1)) (blkOk_by (own := [("code", 2)]) (N := N_key_text) (sc := defScope s_key_text) (by decide +kernel)) (fun _ _ _ _ _ => pg_name (i := 2) sc_key_text.nd rfl (Or.inl rfl)) (fun _ _ _ _ _ => pts_nil) (fun _ _ _ _ _ => (Kn.pe_cl C__sign hr (by decide) (by rfl) (pa_cons (pv 2) pa_nil)))))))))), ?_⟩
    obtain ⟨hb, D⟩ := key_dg hT
    have hb : ((key r : Nat) : Int) < (most : Int) := by omega
    have hl := hT.1
    refine q_asgL (el_call' (ea_cons (ev_var rfl) ea_nil) (codes_good hb D)) fun p H1 np e1 hp => ?_
    refine q_when (b := false) (et_is (et_or (a := false) (b := false) (et_is (et_isN (ev_var rfl)) rfl) fun _ => et_not (a := true) (et_B (ev_is (ev_all (p := fun c : Nat => isCode (c : Int)) (xs := r) (el_lcM (g := fun c : Nat => V.int (c : Int)) (ev_var rfl) (sq_of hp) (by omega) (fun _ => rfl) fun c hc H2 e2 => ev_c1 (a := (c : Int)) (ea_cons (ev_var rfl) ea_nil) fun _ _ => trivial)) (congrArg V.bl hT.2)))) rfl) (fun z => nomatch z) fun _ H2 e2 => ?_
    refine s_ret (v := .str (S r)) (ev_is (ev_join (s := []) (ys := r.map fun c => [c]) (ev_cS (l := []) rfl) ?_ ?_) ?_) fun H3 e3 => q H3 ((e1.trans e2).trans e3)
    · rw [List.map_map]
      exact el_lcM (g := fun c : Nat => V.int (c : Int)) (ev_var rfl) (sq_of (e2 _ _ hp)) (by omega) (fun _ => rfl) fun c hc H3 e3 => ev_c1 (a := c) (ea_cons (ev_var rfl) ea_nil) fun _ _ => hT.code hc
    · rw [List.map_map, List.length_map, List.length_nil, Nat.mul_zero, Nat.add_zero]
      have z := ones_sum r
      omega
    · rw [Kn.join_nil, ones_flat r]
end

section
end
section
def eO (c : Nat) : List Nat := if c = 10 then [92, 110] else if c = 34 ∨ c = 92 then [92, c] else [c]
def fm (l : List Nat) : List Nat := l.flatMap eO
def wr (l : List Nat) : List Nat := [34] ++ fm l ++ [34]
theorem fm_cons (c : Nat) (r : List Nat) : fm (c :: r) = eO c ++ fm r := List.flatMap_cons
theorem sub1_app (c : Nat) (z a b : List Nat) : sub1 c z (a ++ b) = sub1 c z a ++ sub1 c z b := List.flatMap_append
theorem sub1_ne {c e : Nat} {z : List Nat} (h : e ≠ c) : sub1 c z [e] = [e] := by
  unfold sub1
  rw [List.flatMap_cons, if_neg h]
  rfl
theorem sub_comp : ∀ l : List Nat, sub1 10 [92, 110] (sub1 34 [92, 34] (sub1 92 [92, 92] l)) = fm l
  | [] => rfl
  | e :: r => by
    rw [show e :: r = [e] ++ r from rfl, sub1_app, sub1_app, sub1_app, sub_comp r]
    show _ = fm (e :: r)
    rw [fm_cons]
    congr 1
    unfold eO
    by_cases h1 : e = 10
    · subst h1
      rfl
    · rw [if_neg h1]
      by_cases h2 : e = 34
      · subst h2
        rfl
      · by_cases h3 : e = 92
        · subst h3
          rfl
        · rw [if_neg (fun z => z.elim h2 h3), sub1_ne h3, sub1_ne h2, sub1_ne h1]
theorem eO_len (c : Nat) : (eO c).length ≤ 2 := by
  unfold eO
  split
  · decide
  · split
    · show 2 ≤ 2
      decide
    · show 1 ≤ 2
      decide
theorem sub1_len {c : Nat} {z : List Nat} (hz : z.length ≤ 2) : ∀ l : List Nat, (sub1 c z l).length ≤ 2 * l.length
  | [] => Nat.le_refl _
  | e :: r => by
    rw [show e :: r = [e] ++ r from rfl, sub1_app, List.length_append, List.length_append, List.length_singleton]
    have h := sub1_len (c := c) hz r
    have h2 : (sub1 c z [e]).length ≤ 2 := by
      unfold sub1
      rw [List.flatMap_cons, List.length_append]
      show _ + 0 ≤ 2
      split
      · exact hz
      · show 1 + 0 ≤ 2
        decide
    omega
theorem fm_len : ∀ l : List Nat, (fm l).length ≤ 2 * l.length
  | [] => Nat.le_refl _
  | c :: r => by
    rw [fm_cons, List.length_append, List.length_cons]
    have h1 := eO_len c
    have h2 := fm_len r
    omega
theorem wr_len (l : List Nat) : (wr l).length = (fm l).length + 2 := by
  unfold wr
  rw [List.length_append, List.length_append]
  show 1 + _ + 1 = _
  omega
end
section
variable {P : Program} {w : World} {K : PySem.W.Frag} {mg : Str → Option Value} {base : Heap}
def sp_format_string (_ : PySem.W.Frag) : Sp := sp1 (fun l : List Nat => [.str (S l)]) (fun l _ => l.length ≤ 9000) (fun l => .str (S (wr l)))
theorem ok_format_string {f : Addr} {C_Tree C_Store C_StoreReader : Addr} {fd : FuncData} (F : Fun K "format_string" "format_string" s_format_string f fd) (T : Tx mg) (G : Gx K mg) (TC_Tree : Tc_Tree K C_Tree) (TC_Store : Tc_Store K C_Store) (TC_StoreReader : Tc_StoreReader K C_StoreReader)  : FnOk P w K mg base CX0 1 f fd ["text"] (sp_format_string K) := by
  refine okT F sc_format_string (by decide +kernel) (by decide) (fun vs H Q E h => ?_) (fun cdv A outer s H vs Q E hr h => ?_)
  · obtain ⟨l, rfl, _⟩ := h
    rfl
  · obtain ⟨l, rfl, hl, q⟩ := h
    refine ⟨_, (psst_cons (Kn.pst_set (i := 1) sc_format_string.nd rfl (Or.inl rfl) (CwR.pet_replT (CwR.pet_replT (CwR.pet_replC (pv 0)))))
      (psst_cons (PST.of (ps_ret (pe_op Kn.op_addS (pe_op Kn.op_addS pe_str (pv 1)) pe_str)))
      (PSsT.of pss_nil))), ?_⟩
    have l1 := sub1_len (c := 92) (z := [92, 92]) (by decide) l
    have l2 := sub1_len (c := 34) (z := [92, 34]) (by decide) (sub1 92 [92, 92] l)
    have l3 := fm_len l
    refine q_asg (v := .str (S (fm l))) (ev_is (ev_replA (c := 10) (z := [92, 110]) (ev_replA (c := 34) (z := [92, 34]) (ev_replA (c := 92) (z := [92, 92]) (ev_var rfl) rfl rfl (by omega) (by decide)) rfl rfl (by omega) (by decide)) rfl rfl (by omega) (by decide)) (by rw [sub_comp])) fun H1 e1 => ?_
    refine s_ret (v := .str (S (wr l))) (ev_op (ev_op (ev_cS (l := [34]) rfl) (ev_var rfl) (rv_addS (by show 1 + _ ≤ 100000; omega))) (ev_cS (l := [34]) rfl) (rv_addS (by rw [List.length_append]; show 1 + _ + 1 ≤ 100000; omega))) fun H2 e2 => q H2 (e1.trans e2)
open Kn.Rp (idOk LS IS) in
end
section
variable {P : Program} {w : World} {K : PySem.W.Frag} {mg : Str → Option Value} {base : Heap}
open Kn.Rp (idOk LS IS) in
def sp_is_identifier (_ : PySem.W.Frag) : Sp := sp1 (fun l : List Nat => [.str (S l)]) (fun l _ => l.length ≤ 40000) (fun l => .bl (idOk l))
open Kn.Rp (idOk LS IS) in
theorem ok_is_identifier {f : Addr} {C_Tree C_Store C_StoreReader : Addr} {fd : FuncData} (F : Fun K "is_identifier" "is_identifier" s_is_identifier f fd) (T : Tx mg) (G : Gx K mg) (TC_Tree : Tc_Tree K C_Tree) (TC_Store : Tc_Store K C_Store) (TC_StoreReader : Tc_StoreReader K C_StoreReader)  : FnOk P w K mg base CX0 1 f fd ["value"] (sp_is_identifier K) := by
  refine F.ok sc_is_identifier (fun vs H Q E h => ?_) (fun cdv A outer s H vs Q E hr h => ?_)
  · obtain ⟨l, rfl, _⟩ := h
    rfl
  · obtain ⟨l, rfl, hl, q⟩ := h
    refine ⟨_, (pss_cons (ps_if (PW.pt (pw_or (pt_not (pt_chain op_le op_le pe_int (pe_callB Kn.cr_lenStr (by rfl) T.b_len PySem.boot_len (pa_cons (pv 0) pa_nil)) (C8.pe_gc (by rfl) T.c_IDENTIFIER_LENGTH))) (pw_or1 (pt_cmpR op_notInS (pe_ix ix_str (pv 0) pe_int (fun _ _ => rfl)) (C8.pe_gc (by rfl) T.c_LETTERS) rfl)))) (pss_one (ps_ret pe_bl)) pss_nil)
      (pss_one (ps_ret (pe_callB (cr_all rfl) (by rfl) T.b_all (by decide +kernel) (pa_cons (pe_lc (own := [("sign", 1)]) rfl sc_is_identifier.nd (pi_str (pv 0)) (blkOk_by (own := [("sign", 1)]) (N := N_is_identifier) (sc := defScope s_is_identifier) (by decide +kernel)) (fun _ _ _ _ _ => pg_name (i := 1) sc_is_identifier.nd rfl (Or.inl rfl)) (fun _ _ _ _ _ => pts_nil) (fun _ _ _ _ _ => (pe_cmpR op_inS (pv 1) (C8.pe_gc (by rfl) T.c_IDENTIFIER_SIGNS) rfl))) pa_nil))))), ?_⟩
    refine q_when (b := !(decide (1 ≤ (l.length : Int)) && decide ((l.length : Int) ≤ 12)) || !decide (l.getD 0 0 ∈ LS)) (et_or (et_not (et_test (ev_chain ev_c (ev_cb (ea_cons (ev_var rfl) ea_nil) (rc_lenS (by omega))) rv_le ev_c rv_le))) fun h => ?_) (fun hb H1 e1 => ?_) fun hb H1 e1 => ?_
    · rw [Bool.not_eq_false', Bool.and_eq_true, decide_eq_true_eq] at h
      cases l with
      | nil => exact absurd h.1 (by decide)
      | cons c r => exact et_test (ev_op (ev_idxS (ev_var rfl) (ev_c (v := .int ((0 : Nat) : Int))) (by omega) (atI_nat rfl)) (ev_cS (l := LS) rfl) rv_ninS)
    · have h0 : idOk l = false := by
        unfold idOk
        rw [hb]
        rfl
      exact s_ret (v := .bl (idOk l)) (ev_is ev_c (by rw [h0])) fun H2 e2 => q H2 (e1.trans e2)
    · have h0 : idOk l = l.all fun c => decide (c ∈ IS) := by
        unfold idOk
        rw [hb]
        rfl
      exact s_ret (v := .bl (idOk l)) (ev_is (ev_all (p := fun c : Nat => decide (c ∈ IS)) (xs := l) (el_lcS (ev_var rfl) (by omega) (fun _ => rfl) fun c hc H2 e2 => ev_op (ev_var rfl) (ev_cS (l := IS) rfl) rv_inS)) (by rw [h0])) fun H2 e2 => q H2 (e1.trans e2)
end
section
variable {P : Program} {w : World} {K : PySem.W.Frag} {mg : Str → Option Value} {base : Heap}
def keysE (es : List (List Nat × Ent)) : List Str := es.map fun x => S x.1
def sp_Tree_paths (C : Addr) (_ : PySem.W.Frag) : Sp := fun vs H Q _ => ∃ (p d : Addr) (es : List (List Nat × Ent)), vs = [.ref p] ∧ Tr C H p d es ∧ es.length < 64 ∧ ∀ ys, ys.Perm (keysE es) → sortedS ys = true → Rl H (ys.map V.str) Q
theorem ok_Tree_paths {f : Addr} {C_Tree C_Store C_StoreReader : Addr} {fd : FuncData} (F : Fun K "paths" "Tree.paths" s_Tree_paths f fd) (T : Tx mg) (G : Gx K mg) (TC_Tree : Tc_Tree K C_Tree) (TC_Store : Tc_Store K C_Store) (TC_StoreReader : Tc_StoreReader K C_StoreReader)  : FnOk P w K mg base CX0 1 f fd ["self"] (sp_Tree_paths C_Tree K) := by
  refine F.ok sc_Tree_paths (fun vs H Q E h => ?_) (fun cdv A outer s H vs Q E hr h => ?_)
  · obtain ⟨p, d, es, rfl, _⟩ := h
    rfl
  · obtain ⟨p, d, es, rfl, TR, hl, q⟩ := h
    refine ⟨_, (pss_one (ps_ret (pe_callB (Kn.cr_sortD rfl) (by rfl) T.b_sorted (by decide +kernel) (pa_cons (pe_fld (pv 0) rfl) pa_nil)))), ?_⟩
    obtain ⟨⟨dx, hp⟩, kvs, hd, hL⟩ := id TR
    refine ev_fld (ev_var rfl) hp TC_Tree.cl TC_Tree.na_entries (flds_get d) H (Ex.refl _) _ fun H1 e1 => ⟨d, kvs, keysE es, rfl, .inl (e1 _ _ hd), ?_, ?_, fun ys l hperm hs hn => ?_⟩
    · rw [hL.keys]; rfl
    · unfold keysE
      rw [List.length_map]
      exact hl
    · exact q ys hperm hs l _ (fresh_back e1 hn) (e1.trans (Ex.new hn)) upd_same
end
/-! ### lines of words and quoted texts -/
section
def itL (x : Bool × List Nat) : List Nat := if x.1 = true then wr x.2 else x.2
def lnI (xs : List (Bool × List Nat)) : List Nat := TL.joinL [32] (xs.map itL)
def GW (t : List Nat) : Prop := t ≠ [] ∧ ∀ c ∈ t, c ∉ WEN
def GI (x : Bool × List Nat) : Prop := x.1 = true ∨ GW x.2
def eSet : List Nat := (Str.ofString "setting").cps.toList
def eBuild : List Nat := (Str.ofString "build").cps.toList
def entI (x : List Nat × Ent) : List (Bool × List Nat) := match x.2 with
  | .link t => [(false, eLink), (false, x.1), (false, t)]
  | .file t b => [(false, eFile), (false, x.1), (false, b), (true, t)]
def entL (x : List Nat × Ent) : List Nat := lnI (entI x)
def setI (x : List Nat × List Nat) : List (Bool × List Nat) := [(false, eSet), (false, x.1), (true, x.2)]
def setL (x : List Nat × List Nat) : List Nat := lnI (setI x)
theorem word_len : eLink.length = 4 ∧ eFile.length = 4 ∧ ePerson.length = 6 ∧ eBuild.length = 5 ∧ eSet.length = 7 := by decide +kernel
end

/-! ### a store: its texts, its rows -/
def RowV (H : Hp) (v : V) : Prop := v = .non ∨ ∃ (a : Addr) (l m : List Nat), v = .ref a ∧ H a = some (.tup [.int ((key l : Nat) : Int), .str (S m)]) ∧ TxK l ∧ TxK m
theorem RowV.keep {H H1 : Hp} {v : V} (h : RowV H v) (e : ∀ b xs, H b = some (.tup xs) → H1 b = some (.tup xs)) : RowV H1 v := by
  rcases h with h | ⟨a, k, x, h, ha, t1, t2⟩
  · exact .inl h
  · exact .inr ⟨a, k, x, h, e _ _ ha, t1, t2⟩
def Good (kvs : List (Key × V)) : Prop := (∀ x ∈ kvs, ∃ (l m : List Nat), x = (Sum.inl ((key l : Nat) : Int), .str (S m)) ∧ TxK l ∧ TxK m) ∧ (kvs.map (·.1)).Nodup
theorem keysK (kvs : List (Key × V)) (k : Key) (v : V) : (putK kvs k v).map (·.1) = kvs.map (·.1) ∨ (k ∉ kvs.map (·.1) ∧ (putK kvs k v).map (·.1) = kvs.map (·.1) ++ [k]) := by
  unfold putK
  split
  · left
    rw [List.map_map]
    refine List.map_congr_left fun x hx => ?_
    show (if x.1 = k then (x.1, v) else x).1 = x.1
    split <;> rfl
  · next h =>
    refine .inr ⟨fun hm => h ?_, by rw [List.map_append]; rfl⟩
    obtain ⟨x, hx, e⟩ := List.mem_map.mp hm
    exact List.any_eq_true.mpr ⟨x, hx, decide_eq_true e⟩
theorem Good.put {kvs : List (Key × V)} (g : Good kvs) {k s : List Nat} (hk : TxK k) (hs : TxK s) : Good (putK kvs (Sum.inl ((key k : Nat) : Int)) (.str (S s))) := by
  refine ⟨fun x hx => ?_, ?_⟩
  · unfold putK at hx
    split at hx
    · obtain ⟨y, hy, rfl⟩ := List.mem_map.mp hx
      obtain ⟨i, m, rfl, t1, t2⟩ := g.1 y hy
      split
      · exact ⟨i, s, rfl, t1, hs⟩
      · exact ⟨i, m, rfl, t1, t2⟩
    · rcases List.mem_append.mp hx with h | h
      · exact g.1 x h
      · rw [List.mem_singleton.mp h]
        exact ⟨k, s, rfl, hk, hs⟩
  · rcases keysK kvs (Sum.inl ((key k : Nat) : Int)) (.str (S s)) with z | ⟨h, z⟩
    · rw [z]
      exact g.2
    · rw [z]
      refine List.nodup_append.mpr ⟨g.2, List.pairwise_singleton _ _, fun a ha b hb z => ?_⟩
      rw [List.mem_singleton.mp hb] at z
      exact h (z ▸ ha)
theorem Good.drop {kvs : List (Key × V)} (g : Good kvs) {k : Key} : Good (dropK kvs k) := ⟨fun x hx => g.1 x (List.mem_filter.mp hx).1, List.Sublist.nodup (List.Sublist.map _ List.filter_sublist) g.2⟩
theorem Good.keys {kvs : List (Key × V)} (g : Good kvs) : ∃ ks : List Int, kvs.map (·.1) = ks.map Sum.inl := by
  have z : ∀ kvs : List (Key × V), (∀ x ∈ kvs, ∃ (l m : List Nat), x = (Sum.inl ((key l : Nat) : Int), .str (S m)) ∧ TxK l ∧ TxK m) → ∃ ks : List Int, kvs.map (·.1) = ks.map Sum.inl := fun kvs => by
    induction kvs with
    | nil => exact fun _ => ⟨[], rfl⟩
    | cons x r ih =>
      intro h
      obtain ⟨i, l, rfl, _⟩ := h x List.mem_cons_self
      obtain ⟨ks, hk⟩ := ih fun y hy => h y (List.mem_cons_of_mem _ hy)
      exact ⟨((key i : Nat) : Int) :: ks, by rw [List.map_cons, hk]; rfl⟩
  exact z kvs g.1
def fldS (d r : Addr) : List (Str × V) := putF "_rows" (.ref r) (putF "_texts" (.ref d) (putF "journal" .non []))
theorem fld_r (d r : Addr) : (fldS d r).lookup ("_rows" : Str) = some (.ref r) := by rfl
theorem fld_t (d r : Addr) : (fldS d r).lookup ("_texts" : Str) = some (.ref d) := by rfl
theorem fld_no (d r : Addr) {m : Str} (h1 : ¬ m = "_rows") (h2 : ¬ m = "_texts") (h3 : ¬ m = "journal") : (fldS d r).lookup m = none := by
  unfold fldS
  rw [lookup_putF, if_neg h1, lookup_putF, if_neg h2, lookup_putF, if_neg h3]
  rfl
structure Sto (C : Addr) (H : Hp) (p d r : Addr) (kvs : List (Key × V)) (xs : List V) : Prop where
  ob : ∃ dx, H p = some (.ins C dx (fldS d r))
  dc : H d = some (.dK kvs)
  rc : H r = some (.lst xs)
  rv : ∀ x ∈ xs, RowV H x
theorem Sto.mono {C : Addr} {H H1 : Hp} {p d r : Addr} {kvs : List (Key × V)} {xs : List V} (T : Sto C H p d r kvs xs) (e : Ex H H1) : Sto C H1 p d r kvs xs := by
  obtain ⟨⟨dx, h1⟩, h2, h3, h4⟩ := T
  exact ⟨⟨dx, e _ _ h1⟩, e _ _ h2, e _ _ h3, fun x hx => (h4 x hx).keep fun b ys hb => e _ _ hb⟩
theorem Sto.dr {C : Addr} {H : Hp} {p d r : Addr} {kvs : List (Key × V)} {xs : List V} (T : Sto C H p d r kvs xs) : d ≠ r := ne_of T.dc T.rc (by intro z; cases z)
section
variable {P : Program} {w : World} {K : PySem.W.Frag} {mg : Str → Option Value} {base : Heap}
def sp_Store___init__ (C : Addr) (_ : PySem.W.Frag) : Sp := fun vs H Q _ => ∃ (p dx : Addr), vs = [.ref p, .non] ∧ H p = some (.ins C dx []) ∧ ∀ (d r : Addr) (H' : Hp), H d = none → H r = none → Sto C H' p d r [] [] → (∀ b o, H b = some o → b ≠ p → H' b = some o) → Q .non H'
theorem ok_Store___init__ {f : Addr} {C_Tree C_Store C_StoreReader : Addr} {fd : FuncData} (F : FunD K "__init__" "Store.__init__" (defArgs s_Store___init__) (defBody s_Store___init__) (defScope s_Store___init__) [.non] [] f fd) (T : Tx mg) (G : Gx K mg) (TC_Tree : Tc_Tree K C_Tree) (TC_Store : Tc_Store K C_Store) (TC_StoreReader : Tc_StoreReader K C_StoreReader)  : FnOk P w K mg base CX0 1 f fd ["self", "journal"] (sp_Store___init__ C_Store K) := by
  refine F.ok sc_Store___init__ (fun vs H Q E h => ?_) (fun cdv A outer s H vs Q E hr h => ?_)
  · obtain ⟨p, dx, rfl, _⟩ := h
    rfl
  · obtain ⟨p, dx, rfl, hp, k⟩ := h
    refine ⟨_, (pss_cons (ps_fld (pv 0) (pv 1) rfl)
      (pss_cons (ps_fld (pv 0) pe_dnewK rfl)
      (pss_one (ps_fld (pv 0) (pe_lst pa_nil) rfl)))), ?_⟩
    refine ⟨_, rfl, _, rfl, p, C_Store, dx, [], rfl, hp, TC_Store.cl, TC_Store.na_journal, (by show 0 < 1000; decide), ?_⟩
    intro d hd
    have npd : p ≠ d := fun z => by rw [z, upd_same] at hd; cases hd
    rw [upd_ne npd.symm] at hd
    refine ⟨_, rfl, p, C_Store, dx, _, rfl, (by rw [upd_ne npd]; exact upd_same), TC_Store.cl, TC_Store.na__texts, (by show 1 < 1000; decide), ?_⟩
    refine ⟨sz_of (by show 0 ≤ 100000; decide), fun r hr => ?_⟩
    have npr : r ≠ p := fun z => by rw [z, upd_same] at hr; cases hr
    rw [upd_ne npr] at hr
    have nrd : r ≠ d := fun z => by rw [z, upd_same] at hr; cases hr
    rw [upd_ne nrd, upd_ne npr] at hr
    refine ⟨_, rfl, p, C_Store, dx, _, rfl, (by rw [upd_ne npr.symm]; exact upd_same), TC_Store.cl, TC_Store.na__rows, (by show 2 < 1000; decide), ?_⟩
    refine k d r _ hd hr ⟨⟨dx, upd_same⟩, ?_, by rw [upd_ne npr, upd_same], fun _ h => nomatch h⟩ fun b o hb hne => ?_
    · rw [upd_ne npd.symm, upd_ne nrd.symm, upd_ne npd.symm, upd_same]
    · rw [upd_ne hne, upd_ne (ne_of_none hb hr), upd_ne hne, upd_ne (ne_of_none hb hd), upd_ne hne]
      exact hb
theorem ev_rows {σ : L2.St} {H : Hp} {C p d r dx : Addr} {i : Nat} (hσ : σ[i]? = some (some (.ref p))) (hp : H p = some (.ins C dx (fldS d r))) (T : Tc_Store K C) : Ev (tFld K (tVar i) "_rows") σ H (.ref r) := ev_fld (ev_var hσ) hp T.cl T.na__rows (fld_r d r)
theorem ev_texts {σ : L2.St} {H : Hp} {C p d r dx : Addr} {i : Nat} (hσ : σ[i]? = some (some (.ref p))) (hp : H p = some (.ins C dx (fldS d r))) (T : Tc_Store K C) : Ev (tFld K (tVar i) "_texts") σ H (.ref d) := ev_fld (ev_var hσ) hp T.cl T.na__texts (fld_t d r)
def Rdk (H : Hp) (kvs : List (Key × V)) (Q : VK) : Prop := ∀ p H1, H p = none → Ex H H1 → H1 p = some (.dK kvs) → Q (.ref p) H1
def sp_Store_record_count (C : Addr) (_ : PySem.W.Frag) : Sp := fun vs H Q _ => ∃ (p d r : Addr) (kvs : List (Key × V)) (xs : List V), vs = [.ref p] ∧ Sto C H p d r kvs xs ∧ Rt H (.int (xs.length : Int)) Q
theorem ok_Store_record_count {f : Addr} {C_Tree C_Store C_StoreReader : Addr} {fd : FuncData} (F : Fun K "record_count" "Store.record_count" s_Store_record_count f fd) (T : Tx mg) (G : Gx K mg) (TC_Tree : Tc_Tree K C_Tree) (TC_Store : Tc_Store K C_Store) (TC_StoreReader : Tc_StoreReader K C_StoreReader)  : FnOk P w K mg base CX0 1 f fd ["self"] (sp_Store_record_count C_Store K) := by
  refine F.ok sc_Store_record_count (fun vs H Q E h => ?_) (fun cdv A outer s H vs Q E hr h => ?_)
  · obtain ⟨p, d, r, kvs, xs, rfl, _⟩ := h
    rfl
  · obtain ⟨p, d, r, kvs, xs, rfl, T0, q⟩ := h
    refine ⟨_, (pss_one (ps_ret (pe_callB Kn.cr_lenSeq (by rfl) T.b_len PySem.boot_len (pa_cons (pe_fld (pv 0) rfl) pa_nil)))), ?_⟩
    obtain ⟨dx, h1⟩ := T0.ob
    exact s_ret (ev_len (ev_rows rfl h1 TC_Store) (sq_of T0.rc)) q
def sp_Store_kept_records (C : Addr) (_ : PySem.W.Frag) : Sp := fun vs H Q _ => ∃ (p d r : Addr) (kvs : List (Key × V)) (xs : List V), vs = [.ref p] ∧ Sto C H p d r kvs xs ∧ Rl H xs Q
theorem ok_Store_kept_records {f : Addr} {C_Tree C_Store C_StoreReader : Addr} {fd : FuncData} (F : Fun K "kept_records" "Store.kept_records" s_Store_kept_records f fd) (T : Tx mg) (G : Gx K mg) (TC_Tree : Tc_Tree K C_Tree) (TC_Store : Tc_Store K C_Store) (TC_StoreReader : Tc_StoreReader K C_StoreReader)  : FnOk P w K mg base CX0 1 f fd ["self"] (sp_Store_kept_records C_Store K) := by
  refine F.ok sc_Store_kept_records (fun vs H Q E h => ?_) (fun cdv A outer s H vs Q E hr h => ?_)
  · obtain ⟨p, d, r, kvs, xs, rfl, _⟩ := h
    rfl
  · obtain ⟨p, d, r, kvs, xs, rfl, T0, q⟩ := h
    refine ⟨_, (pss_one (ps_ret (pe_callTy Kn.cr_listS (by rfl) T.b_list (by decide +kernel) (pa_cons (pe_fld (pv 0) rfl) pa_nil)))), ?_⟩
    obtain ⟨dx, h1⟩ := T0.ob
    exact s_retL (el_list (ev_rows rfl h1 TC_Store) (sq_of T0.rc)) q
def sp_Store_kept_texts (C : Addr) (_ : PySem.W.Frag) : Sp := fun vs H Q _ => ∃ (p d r : Addr) (kvs : List (Key × V)) (xs : List V), vs = [.ref p] ∧ Sto C H p d r kvs xs ∧ Rdk H kvs Q
theorem ok_Store_kept_texts {f : Addr} {C_Tree C_Store C_StoreReader : Addr} {fd : FuncData} (F : Fun K "kept_texts" "Store.kept_texts" s_Store_kept_texts f fd) (T : Tx mg) (G : Gx K mg) (TC_Tree : Tc_Tree K C_Tree) (TC_Store : Tc_Store K C_Store) (TC_StoreReader : Tc_StoreReader K C_StoreReader)  : FnOk P w K mg base CX0 1 f fd ["self"] (sp_Store_kept_texts C_Store K) := by
  refine F.ok sc_Store_kept_texts (fun vs H Q E h => ?_) (fun cdv A outer s H vs Q E hr h => ?_)
  · obtain ⟨p, d, r, kvs, xs, rfl, _⟩ := h
    rfl
  · obtain ⟨p, d, r, kvs, xs, rfl, T0, q⟩ := h
    refine ⟨_, (pss_one (ps_ret (pe_callTy call_dictD (by rfl) T.b_dict (by decide +kernel) (pa_cons (pe_fld (pv 0) rfl) pa_nil)))), ?_⟩
    obtain ⟨dx, h1⟩ := T0.ob
    refine ev_texts rfl h1 TC_Store H (Ex.refl _) _ fun H1 e1 => ⟨d, kvs, rfl, .inl (e1 _ _ T0.dc), fun p2 hp2 => ?_⟩
    exact q p2 _ (fresh_back e1 hp2) (e1.trans (Ex.new hp2)) upd_same
def sp_Store_content_keys (C : Addr) (_ : PySem.W.Frag) : Sp := fun vs H Q _ => ∃ (p d r : Addr) (kvs : List (Key × V)) (xs : List V) (ks : List Int), vs = [.ref p] ∧ Sto C H p d r kvs xs ∧ kvs.map (·.1) = ks.map Sum.inl ∧ ks.length < 64 ∧ ∀ ys : List Int, ys.Perm ks → ys.Pairwise (· ≤ ·) → Rl H (ys.map V.int) Q
theorem ok_Store_content_keys {f : Addr} {C_Tree C_Store C_StoreReader : Addr} {fd : FuncData} (F : Fun K "content_keys" "Store.content_keys" s_Store_content_keys f fd) (T : Tx mg) (G : Gx K mg) (TC_Tree : Tc_Tree K C_Tree) (TC_Store : Tc_Store K C_Store) (TC_StoreReader : Tc_StoreReader K C_StoreReader)  : FnOk P w K mg base CX0 1 f fd ["self"] (sp_Store_content_keys C_Store K) := by
  refine F.ok sc_Store_content_keys (fun vs H Q E h => ?_) (fun cdv A outer s H vs Q E hr h => ?_)
  · obtain ⟨p, d, r, kvs, xs, ks, rfl, _⟩ := h
    rfl
  · obtain ⟨p, d, r, kvs, xs, ks, rfl, TR, hk, hl, q⟩ := h
    refine ⟨_, (pss_one (ps_ret (pe_callB (Kn.cr_sortDI rfl) (by rfl) T.b_sorted (by decide +kernel) (pa_cons (pe_fld (pv 0) rfl) pa_nil)))), ?_⟩
    obtain ⟨dx, hp⟩ := TR.ob
    refine ev_texts rfl hp TC_Store H (Ex.refl _) _ fun H1 e1 => ⟨d, kvs, ks, rfl, .inl (e1 _ _ TR.dc), hk, hl, fun ys l hperm hs hn => ?_⟩
    exact q ys hperm hs l _ (fresh_back e1 hn) (e1.trans (Ex.new hn)) upd_same
def sp_Store_fill_from (C : Addr) (_ : PySem.W.Frag) : Sp := fun vs H Q _ => ∃ (p dx d0 r0 a b : Addr) (kvs : List (Key × V)) (xs : List V), vs = [.ref p, .ref a, .ref b] ∧ H p = some (.ins C dx (fldS d0 r0)) ∧ H a = some (.dK kvs) ∧ H b = some (.lst xs) ∧ (∀ x ∈ xs, RowV H x) ∧
  ∀ (d r : Addr) (H' : Hp), H d = none → H r = none → Sto C H' p d r kvs xs → (∀ b o, H b = some o → b ≠ p → H' b = some o) → Q .non H'
theorem ok_Store_fill_from {f : Addr} {C_Tree C_Store C_StoreReader : Addr} {fd : FuncData} (F : Fun K "fill_from" "Store.fill_from" s_Store_fill_from f fd) (T : Tx mg) (G : Gx K mg) (TC_Tree : Tc_Tree K C_Tree) (TC_Store : Tc_Store K C_Store) (TC_StoreReader : Tc_StoreReader K C_StoreReader)  : FnOk P w K mg base CX0 1 f fd ["self", "texts", "rows"] (sp_Store_fill_from C_Store K) := by
  refine F.ok sc_Store_fill_from (fun vs H Q E h => ?_) (fun cdv A outer s H vs Q E hr h => ?_)
  · obtain ⟨p, dx, d0, r0, a, b, kvs, xs, rfl, _⟩ := h
    rfl
  · obtain ⟨p, dx, d0, r0, a, b, kvs, xs, rfl, hp, ha, hb, hrv, q⟩ := h
    refine ⟨_, (pss_cons (ps_fld (pv 0) (pe_callTy call_dictD (by rfl) T.b_dict (by decide +kernel) (pa_cons (pv 1) pa_nil)) rfl)
      (pss_one (ps_fld (pv 0) (pe_callTy Kn.cr_listS (by rfl) T.b_list (by decide +kernel) (pa_cons (pv 2) pa_nil)) rfl))), ?_⟩
    refine ⟨_, rfl, a, kvs, rfl, .inl ha, fun d hd => ?_⟩
    have npd : p ≠ d := ne_of_none hp hd
    refine ⟨_, rfl, p, C_Store, dx, _, rfl, (by rw [upd_ne npd]; exact hp), TC_Store.cl, TC_Store.na__texts, (by show 3 < 1000; decide), ?_⟩
    have npb : b ≠ p := (ne_of hp hb (by intro z; cases z)).symm
    have nbd : b ≠ d := ne_of_none hb hd
    refine ⟨_, rfl, b, xs, rfl, .inl (sq_of (by rw [upd_ne npb, upd_ne nbd]; exact hb)), fun r hr => ?_⟩
    have npr : r ≠ p := fun z => by rw [z, upd_same] at hr; cases hr
    rw [upd_ne npr] at hr
    have nrd : r ≠ d := fun z => by rw [z, upd_same] at hr; cases hr
    rw [upd_ne nrd] at hr
    refine ⟨_, rfl, p, C_Store, dx, _, rfl, (by rw [upd_ne npr.symm]; exact upd_same), TC_Store.cl, TC_Store.na__rows, (by show 3 < 1000; decide), ?_⟩
    refine q d r _ hd hr ⟨⟨dx, upd_same⟩, ?_, by rw [upd_ne npr, upd_same], fun x hx => (hrv x hx).keep fun c ys hc => ?_⟩ fun c o hc hne => ?_
    · rw [upd_ne npd.symm, upd_ne nrd.symm, upd_ne npd.symm, upd_same]
    · have n1 := ne_of hc hp (by intro z; cases z)
      rw [upd_ne n1, upd_ne (ne_of_none hc hr), upd_ne n1, upd_ne (ne_of_none hc hd)]
      exact hc
    · rw [upd_ne hne, upd_ne (ne_of_none hc hr), upd_ne hne, upd_ne (ne_of_none hc hd)]
      exact hc
end

--SPLIT
section
variable {P : Program} {w : World} {K : PySem.W.Frag} {mg : Str → Option Value} {base : Heap}
/-! ### the parts of any line -/
def PT (l : List Nat) : List (List Nat) := match scan l with
  | .inl ts => ts.map (·.2.1)
  | .inr _ => []
theorem strG_tl : ∀ (n : Nat) (r : List Nat) (b q : Nat) (acc : List Nat) (t : List Nat) (e : Nat), r.length ≤ n → strG r b q acc = .inl (t, e) → t.length ≤ acc.length + r.length
  | 0, [], _, _, _, _, _, _, h => by rw [strG_nil] at h; cases h
  | n + 1, [], _, _, _, _, _, _, h => by rw [strG_nil] at h; cases h
  | n + 1, c :: r, b, q, acc, t, e, hn, h => by
    rw [List.length_cons] at hn ⊢
    rw [strG_cons] at h
    split at h
    · cases h
      omega
    · split at h
      · cases r with
        | nil => cases h
        | cons d r' =>
          dsimp only at h
          cases he : escOf d with
          | none => rw [he] at h; cases h
          | some x =>
            rw [he] at h
            rw [List.length_cons] at hn ⊢
            have z := strG_tl n r' (b + 2) q _ t e (by omega) h
            rw [List.length_append, List.length_singleton] at z
            omega
      · have z := strG_tl n r (b + 1) q _ t e (by omega) h
        rw [List.length_append, List.length_singleton] at z
        omega
theorem tok_tl {l : List Nat} {a : Nat} {x : Tok3} (h : tokG l a = .inl x) : x.2.1.length ≤ l.length + 1 := by
  have hd : (l.drop a).length ≤ l.length := by rw [List.length_drop]; omega
  unfold tokG at h
  split at h
  · cases h
    exact Nat.zero_le _
  · next c r hr =>
    rw [hr, List.length_cons] at hd
    split at h
    · split at h
      · next t b hs =>
        cases h
        have z := strG_tl _ _ _ _ _ _ _ (Nat.le_refl _) hs
        rw [List.length_nil] at z
        show t.length ≤ _
        omega
      · cases h
    · split at h
      · cases h
        show 1 ≤ _
        omega
      · cases h
        show (wordG l a).length ≤ _
        have z := (List.takeWhile_sublist (fun c => !decide (c ∈ WEN)) (l := l.drop a)).length_le
        rw [List.length_drop] at z
        unfold wordG
        omega
theorem scan_tl {l : List Nat} : ∀ (n a : Nat) (acc ts : List Tok3), (∀ x ∈ acc, x.2.1.length ≤ l.length + 1) → scanG l n a acc = .inl ts → (∀ x ∈ ts, x.2.1.length ≤ l.length + 1) ∧ ts.length ≤ acc.length + n
  | 0, a, acc, ts, h, e => by
    unfold scanG at e
    cases e
    exact ⟨h, by omega⟩
  | n + 1, a, acc, ts, h, e => by
    unfold scanG at e
    split at e
    · split at e
      · next k t b ht =>
        have z := scan_tl n (skip l b) (acc ++ [(k, t, a + 1)]) ts (fun x hx => by
          rcases List.mem_append.mp hx with hx | hx
          · exact h x hx
          · rw [List.mem_singleton.mp hx]
            have z : t.length ≤ l.length + 1 := tok_tl (x := (k, t, b)) ht
            exact z) e
        rw [List.length_append, List.length_singleton] at z
        exact ⟨z.1, by omega⟩
      · cases e
    · cases e
      exact ⟨h, by omega⟩
theorem scan_bd {l : List Nat} {ts : List Tok3} (h : scan l = .inl ts) : (∀ x ∈ ts, x.2.1.length ≤ l.length + 1) ∧ ts.length ≤ l.length := by
  unfold scan at h
  split at h
  · cases h
    exact ⟨(fun x hx => nomatch hx), Nat.zero_le _⟩
  · have z := scan_tl l.length (skip l 0) [] ts (fun x hx => nomatch hx) h
    rw [List.length_nil] at z
    exact ⟨z.1, by omega⟩
theorem PT_len (l : List Nat) : (∀ p ∈ PT l, p.length ≤ l.length + 1) ∧ (PT l).length ≤ l.length := by
  unfold PT
  split
  · next ts h =>
    have z := scan_bd h
    refine ⟨fun p hp => ?_, by rw [List.length_map]; exact z.2⟩
    obtain ⟨x, hx, rfl⟩ := List.mem_map.mp hp
    exact z.1 x hx
  · exact ⟨(fun x hx => nomatch hx), Nat.zero_le _⟩
theorem PT_of {l : List Nat} {ts : List Tok3} (h : scan l = .inl ts) : PT l = ts.map (·.2.1) := by unfold PT; rw [h]
theorem PT_no {l : List Nat} {e : Nat × List Nat} (h : scan l = .inr e) : PT l = [] := by unfold PT; rw [h]
theorem dta_at {H : Hp} : ∀ {vs : List V} {ds : List PyData}, DtA H vs ds → ∀ (i : Nat) (v : V), vs[i]? = some v → ∃ d, ds[i]? = some d ∧ Dt H v d
  | _, _, .nil, i, v, h => by simp at h
  | _, _, .cons h r, 0, v, e => by
    cases Option.some.inj e
    exact ⟨_, rfl, h⟩
  | _, _, .cons h r, i + 1, v, e => dta_at r i v (by simpa using e)
theorem el_lcTok {σ : L2.St} {H : Hp} {tl : TE} {i j : Nat} {vs : List Nat} {ts : List Tok3} (h : EvD tl σ H (toksD ts)) (hz : ts.length ≤ 40000) (hw : ∀ a b c, wipe ((((wipe σ vs).set i a).set j b).set i c) vs = wipe σ vs)
    (hj : ∀ a b c, ((((wipe σ vs).set i (some a)).set j (some b)).set i (some c))[j]? = some (some b)) : EvL (tLc (iList K tl) (gTup K 3 (gCons (gName i) (gCons (gName j) (gCons (gName i) gNil)))) tYes (tVar j) vs) σ H ((ts.map (·.2.1)).map fun t => V.str (S t)) := fun H0 e Q q => h H0 e _ fun v H1 e1 hv => by
  cases hv with
  | @lst a xs ds hl hD =>
    have hlen : xs.length = ts.length := by rw [hD.len, List.length_map]
    refine ⟨a, rfl, ⟨xs, sq_of hl⟩, fun Dl hDl => ?_⟩
    refine lc_it (walk_list (xs := xs)) (Cw H1 (fun _ => true) (fun i => (ts[i]?.map fun x => V.str (S x.2.1)).getD .non) Dl) ⟨hDl, Ex.new hDl, upd_same⟩ (fun i H' _ p => sq_of (p.2.1 _ _ hl)) (fun n x H2 H3 hn p y => ?_) (fun H' p => q Dl H' (fresh_back e1 p.1) (e1.trans p.2.1) ?_)
    · obtain ⟨rfl, hy⟩ := y
      obtain ⟨d, hd, hx⟩ := dta_at hD n x hy
      rw [List.getElem?_map] at hd
      cases ht : ts[n]? with
      | none => rw [ht] at hd; cases hd
      | some t =>
        rw [ht] at hd
        cases Option.some.inj hd
        obtain ⟨b, rfl, hb⟩ := tokD_inv hx
        refine ⟨b, _, rfl, st_of (p.2.1 _ _ hb), rfl, _, _, rfl, _, _, rfl, _, _, rfl, rfl, hw _ _ _, cw_turn p (by omega) et_yes fun _ => ?_⟩
        refine ev_is (ev_var (hj _ _ _)) ?_
        rw [ht]
        rfl
    · have z := p.2.2
      rw [hlen, given_all] at z
      rw [List.map_map]
      exact z
def sp__parts (G : Gx K mg) : Sp := fun vs H Q _ => ∃ l : List Nat, vs = [.str (S l)] ∧ l.length ≤ 9000 ∧ Rl H (strsV (PT l)) Q
theorem ok__parts {f : Addr} {C_Tree C_Store C_StoreReader : Addr} {fd : FuncData} (F : Fun K "_parts" "_parts" s__parts f fd) (T : Tx mg) (G : Gx K mg) (TC_Tree : Tc_Tree K C_Tree) (TC_Store : Tc_Store K C_Store) (TC_StoreReader : Tc_StoreReader K C_StoreReader) (C_scan_line : Kn.ClX P w K mg base 6 "scan_line" (sp_scan_line G)) : FnOk P w K mg base CX0 7 f fd ["line"] (sp__parts G) := by
  refine F.ok sc__parts (fun vs H Q E h => ?_) (fun cdv A outer s H vs Q E hr h => ?_)
  · obtain ⟨l, rfl, _⟩ := h
    rfl
  · obtain ⟨l, rfl, hl, q⟩ := h
    refine ⟨_, (pss_one (ps_try_only (tb := fun W => (tRet (tLc (iList K (tCallS (sp_scan_line G) (WE W) (tCons (tC (.str (Str.ofString ""))) (tCons (tC (.int 0)) (tCons (tVar 0) tNil))))) (gTup K 3 (gCons (gName 1) (gCons (gName 2) (gCons (gName 1) gNil)))) tYes (tVar 2) [1, 2]))) (ts := fun a cls d => (tRet (tLst tNil))) (Wout := (fun _ _ _ _ => False)) rfl rfl ⟨rfl, by decide, Or.inl G.g_InvalidRecipe⟩ takes0
      (fun W pn xe tk po => (pss_one (ps_ret (pe_lc (own := [("_", 1), ("text", 2)]) rfl sc__parts.nd (pi_list (Kn.pe_clX C_scan_line hr (by decide) (by rfl) tk (pa_cons pe_str (pa_cons pe_int (pa_cons (pv 0) pa_nil))))) (blkOk_by (own := [("_", 1), ("text", 2)]) (N := N__parts) (sc := defScope s__parts) (by decide +kernel)) (fun _ _ _ _ _ => pg_tup rfl (pgs_cons (pg_name (i := 1) sc__parts.nd rfl (Or.inl rfl)) (pgs_cons (pg_name (i := 2) sc__parts.nd rfl (Or.inl rfl)) (pgs_cons (pg_name (i := 1) sc__parts.nd rfl (Or.inl rfl)) pgs_nil)))) (fun _ _ _ _ _ => pts_nil) (fun _ _ _ _ _ => (pv 2))))))
      (fun a oe cls d pn hz hf => (pss_one (ps_ret (pe_lst pa_nil)))))), ?_⟩
    have q1 : ∀ ts, scan l = .inl ts → Rl H ((ts.map (·.2.1)).map fun t => V.str (S t)) Q := fun ts h p H1 np e hp => q p H1 np e (by rw [PT_of h]; exact hp)
    cases hs : scan l with
    | inl ts =>
      have tb := (scan_bd hs).2
      refine s_retL (el_lcTok (ts := ts) (evd_callS (vs := [.str (S []), .int ((0 : Nat) : Int), .str (S l)]) (ea_cons (ev_cS rfl) (ea_cons ev_c (ea_cons (ev_var rfl) ea_nil))) fun H1 e1 Q q => ⟨[], l, 0, rfl, ⟨by decide, by omega, by decide, by decide⟩, fun x hx => ?_, fun c why hx => ?_⟩) (by omega) (fun _ _ _ => rfl) (fun _ _ _ => rfl)) (q1 ts hs)
      · cases hs.symm.trans hx
        exact q
      · cases hs.symm.trans hx
    | inr e =>
      obtain ⟨c, why⟩ := e
      unfold tRet tLc iList tCallS
      refine (ea_cons (ev_cS (l := []) rfl) (ea_cons (ev_c (v := .int ((0 : Nat) : Int))) (ea_cons (ev_var (i := 0) (v := .str (S l)) rfl) ea_nil))) H (Ex.refl _) _ fun H1 e1 => ?_
      refine ⟨[], l, 0, rfl, ⟨by decide, by omega, by decide, by decide⟩, fun x hx => ?_, fun c' why' hx => ?_⟩
      · cases hs.symm.trans hx
      · intro d H2 e2 hd
        refine ⟨true, G.x_InvalidRecipe.me, fun _ a na => ?_, fun z => nomatch z⟩
        exact s_retL (el_lst ea_nil (by decide)) fun p H3 np e3 hp => q p H3 (fresh_back (e1.trans e2) np) ((e1.trans e2).trans e3) (by rw [PT_no hs]; exact hp)
/-! ### the lines that are written -/
theorem fmt_sp {H : Hp} {l : List Nat} (hl : l.length ≤ 9000) : SpV (sp_format_string K) [.str (S l)] H (.str (S (wr l))) := fun H1 e Q q E => ⟨l, rfl, hl, q⟩
theorem setW : (Str.ofString "setting ").cps.toList = eSet ++ [32] := by decide +kernel
theorem linkW : (Str.ofString "link ").cps.toList = eLink ++ [32] ∧ (Str.ofString "file ").cps.toList = eFile ++ [32] := by decide +kernel
theorem wr_le (t : List Nat) : (wr t).length ≤ 2 * t.length + 2 := by
  have := wr_len t
  have := fm_len t
  omega
def sp__setting_line (_ : PySem.W.Frag) : Sp := sp1 (fun x : List Nat × List Nat => [.str (S x.1), .str (S x.2)]) (fun x _ => x.1.length ≤ 9000 ∧ x.2.length ≤ 9000) (fun x => .str (S (setL x)))
theorem ok__setting_line {f : Addr} {C_Tree C_Store C_StoreReader : Addr} {fd : FuncData} (F : Fun K "_setting_line" "_setting_line" s__setting_line f fd) (T : Tx mg) (G : Gx K mg) (TC_Tree : Tc_Tree K C_Tree) (TC_Store : Tc_Store K C_Store) (TC_StoreReader : Tc_StoreReader K C_StoreReader) (C_format_string : Kn.Cl P w K mg base 1 "format_string" (sp_format_string K)) : FnOk P w K mg base CX0 2 f fd ["name", "text"] (sp__setting_line K) := by
  refine F.ok sc__setting_line (fun vs H Q E h => ?_) (fun cdv A outer s H vs Q E hr h => ?_)
  · obtain ⟨x, rfl, _⟩ := h
    rfl
  · obtain ⟨x, rfl, ⟨h1, h2⟩, q⟩ := h
    refine ⟨_, (pss_one (ps_ret (pe_joined (.cons pe_str (.cons (pe_fmt (pv 0)) (.cons pe_str (.cons (pe_fmt (Kn.pe_cl C_format_string hr (by decide) (by rfl) (pa_cons (pv 1) pa_nil))) .nil))))))), ?_⟩
    have := wr_le x.2
    have := word_len
    refine s_ret (ev_is (ev_js (ls := [eSet ++ [32], x.1, [32], wr x.2]) (.cons (ev_cS setW) (.cons (ev_fmtS (ev_var rfl) (by omega)) (.cons (ev_cS (l := [32]) rfl) (.cons (ev_fmtS (ev_call (dvs := []) (ea_cons (ev_var rfl) ea_nil) (fmt_sp (by omega))) (by omega)) .nil)))) ?_) ?_) q
    · show (eSet ++ [32]).length + (x.1.length + (1 + ((wr x.2).length + 0))) ≤ 100000
      rw [List.length_append, List.length_singleton]
      omega
    · refine congrArg (fun z => V.str (S z)) ?_
      show (eSet ++ [32]) ++ (x.1 ++ ([32] ++ (wr x.2 ++ []))) = eSet ++ ([32] ++ (x.1 ++ ([32] ++ wr x.2)))
      rw [List.append_nil, List.append_assoc]
/-- an entry that can be written -/
structure LE (x : List Nat × Ent) : Prop where
  le : x.1.length ≤ 9000
  en : (∃ t, x.2 = .link t ∧ t.length ≤ 9000) ∨ ∃ t b, x.2 = .file t b ∧ t.length ≤ 9000 ∧ b.length ≤ 9000
theorem link_ne_file : ¬ eFile = eLink := by decide +kernel
def sp__entry_line (C : Addr) (_ : PySem.W.Frag) : Sp := fun vs H Q _ => ∃ (p d : Addr) (es : List (List Nat × Ent)) (k : List Nat) (e : Ent), vs = [.ref p, .str (S k)] ∧ Tr C H p d es ∧ look es k = some e ∧ LE (k, e) ∧ Rt H (.str (S (entL (k, e)))) Q
theorem ok__entry_line {f : Addr} {C_Tree C_Store C_StoreReader : Addr} {fd : FuncData} (F : Fun K "_entry_line" "_entry_line" s__entry_line f fd) (T : Tx mg) (G : Gx K mg) (TC_Tree : Tc_Tree K C_Tree) (TC_Store : Tc_Store K C_Store) (TC_StoreReader : Tc_StoreReader K C_StoreReader) (M_Tree_kind : Kn.Mt P w K mg base 1 C_Tree "kind" (sp_Tree_kind C_Tree K)) (M_Tree_target : Kn.Mt P w K mg base 2 C_Tree "target" (sp_Tree_target C_Tree K)) (M_Tree_writer : Kn.Mt P w K mg base 2 C_Tree "writer" (sp_Tree_writer C_Tree K)) (M_Tree_read : Kn.Mt P w K mg base 2 C_Tree "read" (sp_Tree_read C_Tree K)) (C_format_string : Kn.Cl P w K mg base 1 "format_string" (sp_format_string K)) : FnOk P w K mg base CX0 3 f fd ["tree", "path"] (sp__entry_line C_Tree K) := by
  refine F.ok sc__entry_line (fun vs H Q E h => ?_) (fun cdv A outer s H vs Q E hr h => ?_)
  · obtain ⟨p, d, es, k, e, rfl, _⟩ := h
    rfl
  · obtain ⟨p, d, es, k, e, rfl, TR, hk, g, q⟩ := h
    refine ⟨_, (pss_cons (ps_if (pt_cmpR op_eq (Kn.pe_mt M_Tree_kind hr (by decide) (pv 0) (pa_cons (pv 1) pa_nil)) pe_str (nomark _)) (pss_one (ps_ret (pe_joined (.cons pe_str (.cons (pe_fmt (pv 1)) (.cons pe_str (.cons (pe_fmt (Kn.pe_mt M_Tree_target hr (by decide) (pv 0) (pa_cons (pv 1) pa_nil))) .nil))))))) pss_nil)
      (pss_one (ps_ret (pe_joined (.cons pe_str (.cons (pe_fmt (pv 1)) (.cons pe_str (.cons (pe_fmt (Kn.pe_mt M_Tree_writer hr (by decide) (pv 0) (pa_cons (pv 1) pa_nil))) (.cons pe_str (.cons (pe_fmt (Kn.pe_cl C_format_string hr (by decide) (by rfl) (pa_cons (Kn.pe_mt M_Tree_read hr (by decide) (pv 0) (pa_cons (pv 1) pa_nil)) pa_nil))) .nil)))))))))), ?_⟩
    obtain ⟨dx, hp⟩ := TR.ob
    have w := word_len
    have kl : k.length ≤ 9000 := g.le
    have hkind : Ev (tMeth C_Tree "kind" (sp_Tree_kind C_Tree K) [] E0 (tVar 0) (tCons (tVar 1) tNil)) [some (.ref p), some (.str (S k))] H (.str (S (kindL (some e)))) := by
      rw [← hk]
      exact ev_meth (vs := [.str (S k)]) (ev_var rfl) hp (flds_no d (by decide +kernel)) (ea_cons (ev_var rfl) ea_nil) (kind_sp TR)
    rcases g.en with ⟨t, h0, h1⟩ | ⟨t, b, h0, h1, h2⟩
    · have h0 : e = .link t := h0
      subst h0
      refine q_when (b := true) (et_is (et_test (ev_op hkind (ev_cS (l := eLink) rfl) (rv_eq rfl))) (by exact decide_eq_true rfl)) (fun _ H1 e1 => ?_) (fun z => nomatch z)
      have htgt : Ev (tMeth C_Tree "target" (sp_Tree_target C_Tree K) [] E0 (tVar 0) (tCons (tVar 1) tNil)) [some (.ref p), some (.str (S k))] H1 (.str (S t)) := by
        have z := ev_meth (C := C_Tree) (E := E0) (σ := [some (.ref p), some (.str (S k))]) (vs := [.str (S k)]) (m := "target") (ev_var (i := 0) rfl) (e1 _ _ hp) (flds_no d (by decide +kernel)) (ea_cons (ev_var (i := 1) rfl) ea_nil) (target_sp (K := K) (k := k) (TR.mono e1))
        have hs : step es k = some t := by unfold step; rw [hk]
        rw [hs] at z
        exact z
      refine s_ret (ev_is (ev_js (ls := [eLink ++ [32], k, [32], t]) (.cons (ev_cS linkW.1) (.cons (ev_fmtS (ev_var rfl) (by omega)) (.cons (ev_cS (l := [32]) rfl) (.cons (ev_fmtS htgt (by omega)) .nil)))) ?_) ?_) fun H2 e2 => q H2 (e1.trans e2)
      · show (eLink ++ [32]).length + (k.length + (1 + (t.length + 0))) ≤ 100000
        rw [List.length_append, List.length_singleton]
        omega
      · refine congrArg (fun z => V.str (S z)) ?_
        show (eLink ++ [32]) ++ (k ++ ([32] ++ (t ++ []))) = eLink ++ ([32] ++ (k ++ ([32] ++ t)))
        rw [List.append_nil, List.append_assoc]
    · have h0 : e = .file t b := h0
      subst h0
      refine q_when (b := false) (et_is (et_test (ev_op hkind (ev_cS (l := eLink) rfl) (rv_eq rfl))) (by exact decide_eq_false fun z => link_ne_file (S_inj (V.str.inj z)))) (fun z => nomatch z) fun _ H1 e1 => ?_
      have hwr : Ev (tMeth C_Tree "writer" (sp_Tree_writer C_Tree K) [] E0 (tVar 0) (tCons (tVar 1) tNil)) [some (.ref p), some (.str (S k))] H1 (.str (S b)) := by
        have z := ev_meth (C := C_Tree) (E := E0) (σ := [some (.ref p), some (.str (S k))]) (vs := [.str (S k)]) (m := "writer") (ev_var (i := 0) rfl) (e1 _ _ hp) (flds_no d (by decide +kernel)) (ea_cons (ev_var (i := 1) rfl) ea_nil) (writer_sp (K := K) (k := k) (TR.mono e1))
        rw [hk] at z
        exact z
      have hrd : Ev (tMeth C_Tree "read" (sp_Tree_read C_Tree K) [] E0 (tVar 0) (tCons (tVar 1) tNil)) [some (.ref p), some (.str (S k))] H1 (.str (S t)) := by
        have z := ev_meth (C := C_Tree) (E := E0) (σ := [some (.ref p), some (.str (S k))]) (vs := [.str (S k)]) (m := "read") (ev_var (i := 0) rfl) (e1 _ _ hp) (flds_no d (by decide +kernel)) (ea_cons (ev_var (i := 1) rfl) ea_nil) (read_sp (K := K) (k := k) (TR.mono e1))
        rw [hk] at z
        exact z
      have := wr_le t
      refine s_ret (ev_is (ev_js (ls := [eFile ++ [32], k, [32], b, [32], wr t]) (.cons (ev_cS linkW.2) (.cons (ev_fmtS (ev_var rfl) (by omega)) (.cons (ev_cS (l := [32]) rfl) (.cons (ev_fmtS hwr (by omega)) (.cons (ev_cS (l := [32]) rfl) (.cons (ev_fmtS (ev_call (dvs := []) (ea_cons hrd ea_nil) (fmt_sp (by omega))) (by omega)) .nil)))))) ?_) ?_) fun H2 e2 => q H2 (e1.trans e2)
      · show (eFile ++ [32]).length + (k.length + (1 + (b.length + (1 + ((wr t).length + 0))))) ≤ 100000
        rw [List.length_append, List.length_singleton]
        omega
      · refine congrArg (fun z => V.str (S z)) ?_
        show (eFile ++ [32]) ++ (k ++ ([32] ++ (b ++ ([32] ++ (wr t ++ []))))) = eFile ++ ([32] ++ (k ++ ([32] ++ (b ++ ([32] ++ wr t)))))
        rw [List.append_nil, List.append_assoc]
def cLn (r k : List Nat) : List Nat := lnI [(false, lit "content"), (true, r), (true, k)]
def rLn (i : Nat) (r k : List Nat) : List Nat := lnI [(false, lit "record"), (false, TL.numL i), (true, r), (true, k)]
def nLn (i : Nat) : List Nat := lnI [(false, lit "records"), (false, TL.numL i)]
def sp__content_line (_ : PySem.W.Frag) : Sp := fun vs H Q _ => ∃ r k : List Nat, vs = [.str (S r), .str (S k)] ∧ (r.length ≤ 9000 ∧ k.length ≤ 9000) ∧ Rt H (.str (S (cLn r k))) Q
theorem ok__content_line {f : Addr} {C_Tree C_Store C_StoreReader : Addr} {fd : FuncData} (F : Fun K "_content_line" "_content_line" s__content_line f fd) (T : Tx mg) (G : Gx K mg) (TC_Tree : Tc_Tree K C_Tree) (TC_Store : Tc_Store K C_Store) (TC_StoreReader : Tc_StoreReader K C_StoreReader) (C_format_string : Kn.Cl P w K mg base 1 "format_string" (sp_format_string K)) : FnOk P w K mg base CX0 2 f fd ["right", "kept"] (sp__content_line K) := by
  refine F.ok sc__content_line (fun vs H Q E h => ?_) (fun cdv A outer s H vs Q E hr h => ?_)
  · obtain ⟨r, k, rfl, _⟩ := h
    rfl
  · obtain ⟨r, k, rfl, ⟨h1, h2⟩, q⟩ := h
    refine ⟨_, (pss_one (ps_ret (pe_joined (.cons pe_str (.cons (pe_fmt (Kn.pe_cl C_format_string hr (by decide) (by rfl) (pa_cons (pv 0) pa_nil))) (.cons pe_str (.cons (pe_fmt (Kn.pe_cl C_format_string hr (by decide) (by rfl) (pa_cons (pv 1) pa_nil))) .nil))))))), ?_⟩
    have w1 := wr_le r
    have w2 := wr_le k
    refine s_ret (ev_is (ev_js (ls := [lit "content ", wr r, [32], wr k]) (.cons (ev_cS (l := lit "content ") rfl) (.cons (ev_fmtS (ev_c1 (a := r) (ea_cons (ev_var rfl) ea_nil) fun _ _ => h1) (by omega)) (.cons (ev_cS (l := [32]) rfl) (.cons (ev_fmtS (ev_c1 (a := k) (ea_cons (ev_var rfl) ea_nil) fun _ _ => h2) (by omega)) .nil)))) (by show 8 + ((wr r).length + (1 + ((wr k).length + 0))) ≤ 100000; omega)) ?_) q
    refine congrArg (fun z => V.str (S z)) ?_
    show lit "content " ++ (wr r ++ ([32] ++ (wr k ++ []))) = lit "content" ++ ([32] ++ (wr r ++ ([32] ++ wr k)))
    rw [List.append_nil, show lit "content " = lit "content" ++ [32] by decide +kernel, List.append_assoc]
def sp__row_line (_ : PySem.W.Frag) : Sp := fun vs H Q _ => ∃ (i : Nat) (r k : List Nat), vs = [.int (i : Int), .str (S r), .str (S k)] ∧ i < 10 ^ 9 ∧ (r.length ≤ 9000 ∧ k.length ≤ 9000) ∧ Rt H (.str (S (rLn i r k))) Q
theorem ok__row_line {f : Addr} {C_Tree C_Store C_StoreReader : Addr} {fd : FuncData} (F : Fun K "_row_line" "_row_line" s__row_line f fd) (T : Tx mg) (G : Gx K mg) (TC_Tree : Tc_Tree K C_Tree) (TC_Store : Tc_Store K C_Store) (TC_StoreReader : Tc_StoreReader K C_StoreReader) (C_format_string : Kn.Cl P w K mg base 1 "format_string" (sp_format_string K)) : FnOk P w K mg base CX0 2 f fd ["index", "right", "kept"] (sp__row_line K) := by
  refine F.ok sc__row_line (fun vs H Q E h => ?_) (fun cdv A outer s H vs Q E hr h => ?_)
  · obtain ⟨i, r, k, rfl, _⟩ := h
    rfl
  · obtain ⟨i, r, k, rfl, hi, ⟨h1, h2⟩, q⟩ := h
    refine ⟨_, (pss_one (ps_ret (pe_joined (.cons pe_str (.cons (pe_fmt (pv 0)) (.cons pe_str (.cons (pe_fmt (Kn.pe_cl C_format_string hr (by decide) (by rfl) (pa_cons (pv 1) pa_nil))) (.cons pe_str (.cons (pe_fmt (Kn.pe_cl C_format_string hr (by decide) (by rfl) (pa_cons (pv 2) pa_nil))) .nil))))))))), ?_⟩
    have w1 := wr_le r
    have w2 := wr_le k
    have w3 := num_len hi
    refine s_ret (ev_is (ev_js (ls := [lit "record ", TL.numL i, [32], wr r, [32], wr k]) (.cons (ev_cS (l := lit "record ") rfl) (.cons (ev_fmtI (ev_var rfl) (by omega)) (.cons (ev_cS (l := [32]) rfl) (.cons (ev_fmtS (ev_c1 (a := r) (ea_cons (ev_var rfl) ea_nil) fun _ _ => h1) (by omega)) (.cons (ev_cS (l := [32]) rfl) (.cons (ev_fmtS (ev_c1 (a := k) (ea_cons (ev_var rfl) ea_nil) fun _ _ => h2) (by omega)) .nil)))))) (by show 7 + ((TL.numL i).length + (1 + ((wr r).length + (1 + ((wr k).length + 0))))) ≤ 100000; omega)) ?_) q
    refine congrArg (fun z => V.str (S z)) ?_
    show lit "record " ++ (TL.numL i ++ ([32] ++ (wr r ++ ([32] ++ (wr k ++ []))))) = lit "record" ++ ([32] ++ (TL.numL i ++ ([32] ++ (wr r ++ ([32] ++ wr k)))))
    rw [List.append_nil, show lit "record " = lit "record" ++ [32] by decide +kernel, List.append_assoc]
def sp__count_line (_ : PySem.W.Frag) : Sp := fun vs H Q _ => ∃ i : Nat, vs = [.int (i : Int)] ∧ i < 10 ^ 9 ∧ Rt H (.str (S (nLn i))) Q
theorem ok__count_line {f : Addr} {C_Tree C_Store C_StoreReader : Addr} {fd : FuncData} (F : Fun K "_count_line" "_count_line" s__count_line f fd) (T : Tx mg) (G : Gx K mg) (TC_Tree : Tc_Tree K C_Tree) (TC_Store : Tc_Store K C_Store) (TC_StoreReader : Tc_StoreReader K C_StoreReader)  : FnOk P w K mg base CX0 1 f fd ["count"] (sp__count_line K) := by
  refine F.ok sc__count_line (fun vs H Q E h => ?_) (fun cdv A outer s H vs Q E hr h => ?_)
  · obtain ⟨i, rfl, _⟩ := h
    rfl
  · obtain ⟨i, rfl, hi, q⟩ := h
    refine ⟨_, (pss_one (ps_ret (pe_joined (.cons pe_str (.cons (pe_fmt (pv 0)) .nil))))), ?_⟩
    have w3 := num_len hi
    refine s_ret (ev_is (ev_js (ls := [lit "records ", TL.numL i]) (.cons (ev_cS (l := lit "records ") rfl) (.cons (ev_fmtI (ev_var rfl) (by omega)) .nil)) (by show 8 + ((TL.numL i).length + 0) ≤ 100000; omega)) ?_) q
    refine congrArg (fun z => V.str (S z)) ?_
    show lit "records " ++ (TL.numL i ++ []) = lit "records" ++ ([32] ++ TL.numL i)
    rw [List.append_nil, show lit "records " = lit "records" ++ [32] by decide +kernel, List.append_assoc]
def isN4 (l : List Nat) : Bool := decide ((l.length : Int) ≤ 4) && (Txt.isascii (S l) && Txt.isdigit (S l))
def sp__is_number (_ : PySem.W.Frag) : Sp := sp1 (fun l : List Nat => [.str (S l)]) (fun l _ => l.length ≤ 40000) (fun l => .bl (isN4 l))
theorem ok__is_number {f : Addr} {C_Tree C_Store C_StoreReader : Addr} {fd : FuncData} (F : Fun K "_is_number" "_is_number" s__is_number f fd) (T : Tx mg) (G : Gx K mg) (TC_Tree : Tc_Tree K C_Tree) (TC_Store : Tc_Store K C_Store) (TC_StoreReader : Tc_StoreReader K C_StoreReader)  : FnOk P w K mg base CX0 1 f fd ["word"] (sp__is_number K) := by
  refine F.ok sc__is_number (fun vs H Q E h => ?_) (fun cdv A outer s H vs Q E hr h => ?_)
  · obtain ⟨i, rfl, _⟩ := h
    rfl
  · obtain ⟨l, rfl, hl, q⟩ := h
    refine ⟨_, (pss_one (ps_ret (pe_and (pe_cmpR op_le (pe_callB Kn.cr_lenStr (by rfl) T.b_len PySem.boot_len (pa_cons (pv 0) pa_nil)) (C8.pe_gc (by rfl) T.c_MOST_DIGITS_saving) (nomark _)) (pe_and (pe_m0 PySem.F.slot_str_isascii PySem.F.type_str_isascii Kn.mt_asc (pv 0)) (pe_one (pe_m0 PySem.F.slot_str_isdigit PySem.F.type_str_isdigit Kn.mt_dig (pv 0))))))), ?_⟩
    exact s_ret (v := .bl (isN4 l)) (ev_andV (ev_op (ev_cb (ea_cons (ev_var rfl) ea_nil) (rc_lenS (by omega))) ev_c rv_le) fun _ => ev_andV (ev_asc (ev_var rfl)) fun _ => ev_dig (ev_var rfl)) q
theorem isN4_dig {l : List Nat} (h : isN4 l = true) : NumText.AllDigits l ∧ l ≠ [] ∧ l.length ≤ 4 := by
  unfold isN4 at h
  rw [Bool.and_eq_true, Bool.and_eq_true, decide_eq_true_eq] at h
  obtain ⟨h0, h1, h2⟩ := h
  have e1 : Txt.isascii (S l) = l.all (fun c => decide (c < 128)) := by
    unfold Txt.isascii
    show (l.toArray).all _ = _
    simp
  have e2 : Txt.isdigit (S l) = (decide (l.length > 0) && l.all Unicode.isDigit) := by
    unfold Txt.isdigit
    rw [S_len]
    show (decide (l.length > 0) && (l.toArray).all _) = _
    simp
  rw [e1, List.all_eq_true] at h1
  rw [e2, Bool.and_eq_true, decide_eq_true_eq, List.all_eq_true] at h2
  exact ⟨fun c hc => (dig_small c (of_decide_eq_true (h1 c hc))).mp (h2.2 c hc), List.length_pos_iff.mp h2.1, by omega⟩
end

--SPLIT
section
variable {P : Program} {w : World} {K : PySem.W.Frag} {mg : Str → Option Value} {base : Heap}
/-! ### what is saved -/
theorem look_nd {α : Type} : ∀ {es : List (List Nat × α)}, (es.map (·.1)).Nodup → ∀ x ∈ es, look es x.1 = some x.2
  | [], _, _, h => nomatch h
  | y :: r, n, x, h => by
    rw [look_cons]
    rw [List.map_cons, List.nodup_cons] at n
    rcases List.mem_cons.1 h with rfl | h
    · rw [if_pos rfl]
    · rw [if_neg fun z => n.1 (by rw [z]; exact List.mem_map_of_mem h)]
      exact look_nd n.2 x h
def Asc {α : Type} (es : List (List Nat × α)) : Prop := (es.map (·.1)).Pairwise (· < ·)
theorem Asc.nd {α : Type} {es : List (List Nat × α)} (h : Asc es) : (es.map (·.1)).Nodup := by
  have z : (es.map (·.1)).Pairwise (· < ·) := h
  exact List.Pairwise.imp (fun {a b} (h : a < b) (z : a = b) => by rw [z] at h; exact List.lt_irrefl _ h) z
theorem Asc.srt {α : Type} {es : List (List Nat × α)} (h : Asc es) : sortedS (es.map fun x => S x.1) = true := by
  refine pw_sorted ?_
  have z : (es.map (·.1)).Pairwise (· < ·) := h
  rw [show (es.map fun x => S x.1) = (es.map (·.1)).map S by rw [List.map_map]; rfl]
  exact List.pairwise_map.mpr (List.Pairwise.imp (fun h => List.le_of_lt h) z)
def joinNl (ls : List (List Nat)) : List Nat := TL.joinL [10] ls
theorem join_fin {H : Hp} {lp : Addr} {ls : List (List Nat)} {Q : VK} (h : H lp = some (.lst (ls.map fun l => V.str (S l)))) (hz : (ls.map (·.length)).sum + ls.length ≤ 16777216) (q : Q (.str (S (TL.joinL [10] ls))) H) : rJoin K (.str (Str.ofString "\n")) [.ref lp] H Q := by
  have e : Str.ofString "\n" = S [10] := S1 _ rfl
  rw [e]
  exact ⟨S [10], lp, ls.map S, rfl, rfl, .inl (sq_of (by rw [List.map_map]; exact h)), by rw [SX.lens, List.length_map, S_len, List.length_singleton, Nat.mul_one]; exact hz, by rw [SX.join_S]; exact q⟩
theorem sum_le' {n : Nat} : ∀ {ls : List (List Nat)}, (∀ l ∈ ls, l.length ≤ n) → (ls.map (·.length)).sum ≤ ls.length * n
  | [], _ => Nat.zero_le _
  | a :: r, h => by
    rw [List.map_cons, List.sum_cons, List.length_cons, Nat.succ_mul]
    have h1 := h a List.mem_cons_self
    have h2 := sum_le' fun l hl => h l (List.mem_cons_of_mem _ hl)
    omega

theorem LE.len {x : List Nat × Ent} (g : LE x) : (entL x).length ≤ 36100 := by
  obtain ⟨k, e⟩ := x
  have w := word_len
  have hk : k.length ≤ 9000 := g.le
  rcases g.en with ⟨t, h0, h1⟩ | ⟨t, b, h0, h1, h2⟩
  · have h0 : e = .link t := h0
    subst h0
    show (eLink ++ ([32] ++ (k ++ ([32] ++ t)))).length ≤ 36100
    simp only [List.length_append, List.length_singleton]
    omega
  · have h0 : e = .file t b := h0
    subst h0
    show (eFile ++ ([32] ++ (k ++ ([32] ++ (b ++ ([32] ++ wr t)))))).length ≤ 36100
    have := wr_le t
    simp only [List.length_append, List.length_singleton]
    omega
theorem entry_sp {C p d : Addr} {H : Hp} {es : List (List Nat × Ent)} {k : List Nat} {e : Ent} (T : Tr C H p d es) (hk : look es k = some e) (g : LE (k, e)) : SpV (sp__entry_line C K) [.ref p, .str (S k)] H (.str (S (entL (k, e)))) := fun H1 e1 Q q E => ⟨p, d, es, k, e, rfl, T.mono e1, hk, g, q⟩
def sp_save_tree (C : Addr) (_ : PySem.W.Frag) : Sp := fun vs H Q _ => ∃ (p d : Addr) (es : List (List Nat × Ent)), vs = [.ref p] ∧ Tr C H p d es ∧ es.length < 64 ∧ Asc es ∧ (∀ x ∈ es, LE x) ∧ Rt H (.str (S (joinNl (es.map entL)))) Q
theorem ok_save_tree {f : Addr} {C_Tree C_Store C_StoreReader : Addr} {fd : FuncData} (F : Fun K "save_tree" "save_tree" s_save_tree f fd) (T : Tx mg) (G : Gx K mg) (TC_Tree : Tc_Tree K C_Tree) (TC_Store : Tc_Store K C_Store) (TC_StoreReader : Tc_StoreReader K C_StoreReader) (C__entry_line : Kn.Cl P w K mg base 3 "_entry_line" (sp__entry_line C_Tree K)) (M_Tree_paths : Kn.Mt P w K mg base 1 C_Tree "paths" (sp_Tree_paths C_Tree K)) : FnOk P w K mg base CX0 4 f fd ["tree"] (sp_save_tree C_Tree K) := by
  refine F.ok sc_save_tree (fun vs H Q E h => ?_) (fun cdv A outer s H vs Q E hr h => ?_)
  · obtain ⟨p, d, es, rfl, _⟩ := h
    rfl
  · obtain ⟨p, d, es, rfl, TR, hl, ha, hg, q⟩ := h
    refine ⟨_, (pss_one (ps_ret (Kn.pe_joinN (pe_join pe_str (pe_lc (own := [("path", 1)]) rfl sc_save_tree.nd (pi_list (Kn.pe_mt0 M_Tree_paths hr (by decide) (pv 0))) (blkOk_by (own := [("path", 1)]) (N := N_save_tree) (sc := defScope s_save_tree) (by decide +kernel)) (fun _ _ _ _ _ => pg_name (i := 1) sc_save_tree.nd rfl (Or.inl rfl)) (fun _ _ _ _ _ => pts_nil) (fun _ _ _ _ _ => (Kn.pe_cl C__entry_line hr (by decide) (by rfl) (pa_cons (pv 0) (pa_cons (pv 1) pa_nil))))))))), ?_⟩
    obtain ⟨dx, hp⟩ := TR.ob
    refine ⟨⟨_, rfl⟩, ?_⟩
    refine lc_first ?_
    refine ⟨_, rfl, p, dx, _, rfl, hp, flds_no d (by decide +kernel), ?_⟩
    refine ⟨p, d, es, rfl, TR, hl, fun ys hpm hso l H1 nl e1 hl1 => ?_⟩
    have hys : ys = es.map fun x => S x.1 := sorted_uniq hso ha.srt hpm
    subst hys
    have hl1 : H1 l = some (.lst (es.map fun x => V.str (S x.1))) := by rw [List.map_map] at hl1; exact hl1
    have hL := el_lcM (K := K) (te := tCall (sp__entry_line C_Tree K) [] E0 (tCons (tVar 0) (tCons (tVar 1) tNil))) (σ := [some (.ref p), none]) (H := H1) (tl := tC (.ref l)) (j := 1) (vs := [1]) (g := fun x : List Nat × Ent => V.str (S x.1)) (f := fun x => V.str (S (entL x))) (ns := es) ev_c (sq_of hl1) (by omega) (fun _ => rfl) fun x hx H2 e2 => by
      exact ev_call (dvs := []) (ea_cons (ev_var rfl) (ea_cons (ev_var rfl) ea_nil)) (entry_sp (TR.mono (e1.trans e2)) (look_nd ha.nd x hx) (hg x hx))
    refine hL H1 (Ex.refl _) _ fun lp H2 nlp e2 hlp => ?_
    refine join_fin (ls := es.map entL) (by rw [List.map_map]; exact hlp) ?_ (q H2 (e1.trans e2))
    have hs := sum_le' (ls := es.map entL) (n := 36100) fun l hl => by
      obtain ⟨x, hx, rfl⟩ := List.mem_map.1 hl
      exact (hg x hx).len
    rw [List.length_map] at hs ⊢
    omega
def sp_save_settings (_ : PySem.W.Frag) : Sp := fun vs H Q _ => ∃ (d : Addr) (kvs : List (Key × V)) (es : List (List Nat × List Nat)), vs = [.ref d] ∧ H d = some (.dK kvs) ∧ Lies (fun t v => v = V.str (S t)) es kvs ∧ es.length < 64 ∧ Asc es ∧ (∀ x ∈ es, x.1.length ≤ 9000 ∧ x.2.length ≤ 9000) ∧ Rt H (.str (S (joinNl (es.map setL)))) Q
theorem ok_save_settings {f : Addr} {C_Tree C_Store C_StoreReader : Addr} {fd : FuncData} (F : Fun K "save_settings" "save_settings" s_save_settings f fd) (T : Tx mg) (G : Gx K mg) (TC_Tree : Tc_Tree K C_Tree) (TC_Store : Tc_Store K C_Store) (TC_StoreReader : Tc_StoreReader K C_StoreReader) (C__setting_line : Kn.Cl P w K mg base 2 "_setting_line" (sp__setting_line K)) : FnOk P w K mg base CX0 3 f fd ["settings"] (sp_save_settings K) := by
  refine F.ok sc_save_settings (fun vs H Q E h => ?_) (fun cdv A outer s H vs Q E hr h => ?_)
  · obtain ⟨d, kvs, es, rfl, _⟩ := h
    rfl
  · obtain ⟨d, kvs, es, rfl, hd, L, hl, ha, hg, q⟩ := h
    refine ⟨_, (pss_one (ps_ret (Kn.pe_joinN (pe_join pe_str (pe_lc (own := [("name", 1)]) rfl sc_save_settings.nd (pi_list (pe_callB (Kn.cr_sortD rfl) (by rfl) T.b_sorted (by decide +kernel) (pa_cons (pv 0) pa_nil))) (blkOk_by (own := [("name", 1)]) (N := N_save_settings) (sc := defScope s_save_settings) (by decide +kernel)) (fun _ _ _ _ _ => pg_name (i := 1) sc_save_settings.nd rfl (Or.inl rfl)) (fun _ _ _ _ _ => pts_nil) (fun _ _ _ _ _ => (Kn.pe_cl C__setting_line hr (by decide) (by rfl) (pa_cons (pv 1) (pa_cons (pe_dget (hu_of hr) (pv 0) (pv 1) (fun _ _ => rfl)) pa_nil))))))))), ?_⟩
    refine ⟨⟨_, rfl⟩, ?_⟩
    refine lc_first ?_
    refine ⟨_, rfl, d, kvs, es.map (fun x => S x.1), rfl, .inl hd, by rw [L.keys], by rw [List.length_map]; exact hl, fun ys l hpm hso nl => ?_⟩
    have hys : ys = es.map fun x => S x.1 := sorted_uniq hso ha.srt hpm
    subst hys
    have e1 : Ex H (L2.upd H l (.lst ((es.map fun x => S x.1).map V.str))) := Ex.new nl
    have hl1 : L2.upd H l (.lst ((es.map fun x => S x.1).map V.str)) l = some (.lst ((es.map fun x => S x.1).map V.str)) := upd_same
    generalize L2.upd H l (.lst ((es.map fun x => S x.1).map V.str)) = H1 at e1 hl1
    have hl1 : H1 l = some (.lst (es.map fun x => V.str (S x.1))) := by rw [List.map_map] at hl1; exact hl1
    have hL := el_lcM (K := K) (te := tCall (sp__setting_line K) [] E0 (tCons (tVar 1) (tCons (tDGet (tVar 0) (tVar 1)) tNil))) (σ := [some (.ref d), none]) (H := H1) (tl := tC (.ref l)) (j := 1) (vs := [1]) (g := fun x : List Nat × List Nat => V.str (S x.1)) (f := fun x => V.str (S (setL x))) (ns := es) ev_c (sq_of hl1) (by omega) (fun _ => rfl) fun x hx H2 e2 => by
      have he := look_nd ha.nd x hx
      have hv : valV kvs (Sum.inr (S x.1)) = some (.str (S x.2)) := by
        rcases L.look x.1 with ⟨a, b⟩ | ⟨e', v, a, b, c⟩
        · rw [he] at a; cases a
        · rw [he] at a
          cases a
          rw [b, c]
      exact ev_call (dvs := []) (vs := [.str (S x.1), .str (S x.2)]) (ea_cons (ev_var rfl) (ea_cons (ev_dget (k := x.1) (ev_var rfl) (ev_var rfl) (e2 _ _ (e1 _ _ hd)) hv) ea_nil)) fun H3 e3 Q q E => ⟨x, rfl, hg x hx, q⟩
    refine hL H1 (Ex.refl _) _ fun lp H2 nlp e2 hlp => ?_
    refine join_fin (ls := es.map setL) (by rw [List.map_map]; exact hlp) ?_ (q H2 (e1.trans e2))
    have hs := sum_le' (ls := es.map setL) (n := 36100) fun l hl => by
      obtain ⟨x, hx, rfl⟩ := List.mem_map.1 hl
      have := hg x hx
      have := wr_le x.2
      have := word_len
      show (eSet ++ ([32] ++ (x.1 ++ ([32] ++ wr x.2)))).length ≤ 36100
      simp only [List.length_append, List.length_singleton]
      omega
    rw [List.length_map] at hs ⊢
    omega
/-! ### a store -/
abbrev Tx2 := List (List Nat × List Nat)
abbrev Rw2 := List (Option (List Nat × List Nat))
def kO (x : List Nat × List Nat) : Int := ((key x.1 : Nat) : Int)
def kvO (tx : Tx2) : List (Key × V) := tx.map fun x => (Sum.inl (kO x), V.str (S x.2))
structure TxOk (tx : Tx2) : Prop where
  a : ∀ x ∈ tx, TxK x.1 ∧ TxK x.2
  p : (tx.map kO).Pairwise (· < ·)
  z : tx.length < 60
theorem TxOk.n {tx : Tx2} (h : TxOk tx) : (tx.map kO).Nodup := List.Pairwise.imp (fun h z => by omega) h.p
theorem TxOk.pw {tx : Tx2} (h : TxOk tx) : (tx.map kO).Pairwise (· ≤ ·) := List.Pairwise.imp (fun h => by omega) h.p
theorem valV_kvO : ∀ {tx : Tx2}, (tx.map kO).Nodup → ∀ x ∈ tx, valV (kvO tx) (Sum.inl (kO x) : Key) = some (.str (S x.2))
  | [], _, x, h => nomatch h
  | y :: r, hn, x, hx => by
    have hn' : (kO y :: r.map kO).Nodup := hn
    have e := List.nodup_cons.mp hn'
    show ((((Sum.inl (kO y), V.str (S y.2)) :: kvO r).find? fun p => decide (p.1 = (Sum.inl (kO x) : Key))).map Prod.snd) = _
    by_cases h : kO y = kO x
    · rw [List.find?_cons_of_pos (by simpa using h)]
      rcases List.mem_cons.mp hx with rfl | hm
      · rfl
      · exact absurd (List.mem_map.mpr ⟨x, hm, h.symm⟩) e.1
    · rw [List.find?_cons_of_neg (by simpa using h)]
      rcases List.mem_cons.mp hx with rfl | hm
      · exact absurd rfl h
      · exact valV_kvO e.2 x hm
def RwO (H : Hp) (v : V) (y : Option (List Nat × List Nat)) : Prop := match y with
  | none => v = .non
  | some (l, m) => ∃ a, v = .ref a ∧ H a = some (.tup [.int ((key l : Nat) : Int), .str (S m)])
theorem RwO.mono {H H1 : Hp} {v : V} {y : Option (List Nat × List Nat)} (h : RwO H v y) (e : Ex H H1) : RwO H1 v y := by
  match y, h with
  | none, h => exact h
  | some (l, m), ⟨a, h1, h2⟩ => exact ⟨a, h1, e _ _ h2⟩
theorem pair_at {α β : Type} {F : α → β → Prop} : ∀ {as : List α} {bs : List β}, Paired F as bs → ∀ (i : Nat) (a : α), as[i]? = some a → ∃ b, bs[i]? = some b ∧ F a b
  | _, _, .nil, i, a, h => by simp at h
  | _, _, .cons h r, 0, a, e => by
    cases Option.some.inj e
    exact ⟨_, rfl, h⟩
  | _, _, .cons h r, i + 1, a, e => pair_at r i a (by simpa using e)
theorem pair_len {α β : Type} {F : α → β → Prop} : ∀ {as : List α} {bs : List β}, Paired F as bs → as.length = bs.length
  | _, _, .nil => rfl
  | _, _, .cons _ r => congrArg (· + 1) (pair_len r)
def rowL : Rw2 → Nat → List (List Nat)
  | [], _ => []
  | none :: r, i => rowL r (i + 1)
  | some (l, m) :: r, i => rLn i l m :: rowL r (i + 1)
theorem rowL_snoc : ∀ (ys : Rw2) (y : Option (List Nat × List Nat)) (i : Nat), rowL (ys ++ [y]) i = rowL ys i ++ rowL [y] (i + ys.length)
  | [], y, i => rfl
  | none :: r, y, i => by
    show rowL (r ++ [y]) (i + 1) = rowL r (i + 1) ++ _
    rw [rowL_snoc r y (i + 1), List.length_cons]
    congr 2
    omega
  | some (l, m) :: r, y, i => by
    show rLn i l m :: rowL (r ++ [y]) (i + 1) = (rLn i l m :: rowL r (i + 1)) ++ _
    rw [rowL_snoc r y (i + 1), List.length_cons, List.cons_append]
    congr 3
    omega
theorem rowL_len : ∀ (ys : Rw2) (i : Nat), (rowL ys i).length ≤ ys.length
  | [], _ => Nat.le_refl 0
  | none :: r, i => Nat.le_succ_of_le (rowL_len r (i + 1))
  | some (_, _) :: r, i => Nat.succ_le_succ (rowL_len r (i + 1))
theorem rowL_mem : ∀ (ys : Rw2) (i : Nat) (x : List Nat), x ∈ rowL ys i → ∃ j l m, x = rLn j l m ∧ j < i + ys.length ∧ some (l, m) ∈ ys
  | [], _, x, h => nomatch h
  | none :: r, i, x, h => by
    obtain ⟨j, l, m, h1, h2, h3⟩ := rowL_mem r (i + 1) x h
    exact ⟨j, l, m, h1, by rw [List.length_cons]; omega, List.mem_cons_of_mem _ h3⟩
  | some (l, m) :: r, i, x, h => by
    have h : x ∈ rLn i l m :: rowL r (i + 1) := h
    rcases List.mem_cons.mp h with rfl | h
    · exact ⟨i, l, m, rfl, by rw [List.length_cons]; omega, List.mem_cons_self⟩
    · obtain ⟨j, l', m', h1, h2, h3⟩ := rowL_mem r (i + 1) x h
      exact ⟨j, l', m', h1, by rw [List.length_cons]; omega, List.mem_cons_of_mem _ h3⟩

structure RwOk (ys : Rw2) : Prop where
  a : ∀ l m, some (l, m) ∈ ys → TxK l ∧ TxK m
  z : ys.length ≤ 10000
  r : (rowL ys 0).length < 100
theorem TxK.wr {l : List Nat} (h : TxK l) : (wr l).length ≤ 1382 := by
  have := wr_le l
  have := h.1
  omega
theorem cLn_len {l m : List Nat} (h1 : TxK l) (h2 : TxK m) : (cLn l m).length ≤ 3000 := by
  have w1 := h1.wr
  have w2 := h2.wr
  show (lit "content" ++ ([32] ++ (wr l ++ ([32] ++ wr m)))).length ≤ 3000
  have h3 : (lit "content").length = 7 := by decide +kernel
  simp only [List.length_append, List.length_singleton]
  omega
theorem rLn_len {i : Nat} (hi : i < 10 ^ 9) {l m : List Nat} (h1 : TxK l) (h2 : TxK m) : (rLn i l m).length ≤ 3000 := by
  have w1 := h1.wr
  have w2 := h2.wr
  have w3 := num_len hi
  show (lit "record" ++ ([32] ++ (TL.numL i ++ ([32] ++ (wr l ++ ([32] ++ wr m)))))).length ≤ 3000
  have h3 : (lit "record").length = 6 := by decide +kernel
  simp only [List.length_append, List.length_singleton]
  omega
theorem nLn_len {i : Nat} (hi : i < 10 ^ 9) : (nLn i).length ≤ 3000 := by
  have w3 := num_len hi
  show (lit "records" ++ ([32] ++ TL.numL i)).length ≤ 3000
  have h3 : (lit "records").length = 7 := by decide +kernel
  simp only [List.length_append, List.length_singleton]
  omega
def svL (tx : Tx2) (ys : Rw2) : List (List Nat) := (tx.map (fun x : List Nat × List Nat => cLn x.1 x.2) ++ rowL ys 0) ++ [nLn ys.length]
def svT (tx : Tx2) (ys : Rw2) : List Nat := TL.joinL [10] (svL tx ys)
theorem svL_len {tx : Tx2} {ys : Rw2} (h1 : TxOk tx) (h2 : RwOk ys) : (svL tx ys).length ≤ 200 := by
  unfold svL
  have := h1.z
  have := h2.r
  rw [List.length_append, List.length_append, List.length_map]
  show _ + _ + 1 ≤ 200
  omega
theorem svL_mem {tx : Tx2} {ys : Rw2} (h1 : TxOk tx) (h2 : RwOk ys) : ∀ x ∈ svL tx ys, x.length ≤ 3000 := by
  intro x hx
  have hz := h2.z
  unfold svL at hx
  rcases List.mem_append.mp hx with hx | hx
  · rcases List.mem_append.mp hx with hx | hx
    · obtain ⟨y, hy, rfl⟩ := List.mem_map.mp hx
      have := h1.a y hy
      exact cLn_len this.1 this.2
    · obtain ⟨j, l, m, rfl, hj, hm⟩ := rowL_mem ys 0 x hx
      exact rLn_len (by omega) (h2.a l m hm).1 (h2.a l m hm).2
  · rw [List.mem_singleton.mp hx]
    exact nLn_len (by omega)
theorem svL_sum {tx : Tx2} {ys : Rw2} (h1 : TxOk tx) (h2 : RwOk ys) : ((svL tx ys).map (·.length)).sum + (svL tx ys).length * [10].length ≤ 16777216 := by
  have a := svL_len h1 h2
  have b := sum_le' (svL_mem h1 h2)
  have c : (svL tx ys).length * 3000 ≤ 200 * 3000 := Nat.mul_le_mul_right _ a
  show _ + _ * 1 ≤ _
  omega
theorem el_meth' {σ : L2.St} {H : Hp} {C p dx : Addr} {ta : TE} {fs : List (Str × V)} {m : Str} {sp : Sp} {E : XK} {t : TA} {vs xs : List V} (ha : Ev ta σ H (.ref p)) (ho : H p = some (.ins C dx fs)) (hm : fs.lookup m = none) (h : EvA t σ H vs) (hs : ∀ H1, Ex H H1 → ∀ Q : VK, Rl H1 xs Q → ∀ E, sp (.ref p :: (vs ++ [])) H1 Q E) : EvL (tMeth C m sp [] E ta t) σ H xs := fun H1 e Q q =>
  ha H1 e _ fun H2 e2 => ⟨p, dx, fs, rfl, (e.trans e2) _ _ ho, hm, h H2 (e.trans e2) _ fun H3 e3 => hs H3 ((e.trans e2).trans e3) Q (fun l H4 nl e4 hl => q l H4 (fresh_back (e2.trans e3) nl) ((e2.trans e3).trans e4) hl) E⟩
theorem el_catV' {σ : L2.St} {H : Hp} {ta tb : TE} {p : Addr} {xs ys : List V} (h1 : Ev ta σ H (.ref p)) (hp : H p = some (.lst xs)) (h2 : EvL tb σ H ys) (hz : xs.length + ys.length ≤ 100000) : EvL (tOp rCat ta tb) σ H (xs ++ ys) := fun H1 e Q q =>
  h1 H1 e _ fun H2 e2 => h2 H2 (e.trans e2) _ fun b H3 nb e3 hb => ⟨p, b, xs, ys, rfl, rfl, ((e.trans e2).trans e3) _ _ hp, hb, sz_of hz, fun l hl => q _ _ (fresh_back (e2.trans e3) hl) ((e2.trans e3).trans (Ex.new hl)) upd_same⟩
theorem q_forEnC {σ : L2.St} {H : Hp} {D : Ends} {tl : TE} {g : TG} {tu tz : TS} (h : tl σ H fun v H1 => tSeq (tFor (iEnum K (tCons (tC v) tNil)) g tu) tz D σ H1) : tSeq (tFor (iEnum K (tCons tl tNil)) g tu) tz D σ H := h
def sp_save_store (C : Addr) (_ : PySem.W.Frag) : Sp := fun vs H Q _ => ∃ (p d r : Addr) (tx : Tx2) (xs : List V) (ys : Rw2), vs = [.ref p] ∧ Sto C H p d r (kvO tx) xs ∧ TxOk tx ∧ RwOk ys ∧ Paired (RwO H) xs ys ∧ Rt H (.str (S (svT tx ys))) Q
theorem ok_save_store {f : Addr} {C_Tree C_Store C_StoreReader : Addr} {fd : FuncData} (F : Fun K "save_store" "save_store" s_save_store f fd) (T : Tx mg) (G : Gx K mg) (TC_Tree : Tc_Tree K C_Tree) (TC_Store : Tc_Store K C_Store) (TC_StoreReader : Tc_StoreReader K C_StoreReader) (M_Store_kept_texts : Kn.Mt P w K mg base 1 C_Store "kept_texts" (sp_Store_kept_texts C_Store K)) (C__content_line : Kn.Cl P w K mg base 2 "_content_line" (sp__content_line K)) (C_key_text : Kn.Cl P w K mg base 2 "key_text" (sp_key_text K)) (M_Store_content_keys : Kn.Mt P w K mg base 1 C_Store "content_keys" (sp_Store_content_keys C_Store K)) (M_Store_kept_records : Kn.Mt P w K mg base 1 C_Store "kept_records" (sp_Store_kept_records C_Store K)) (C__row_line : Kn.Cl P w K mg base 2 "_row_line" (sp__row_line K)) (C__count_line : Kn.Cl P w K mg base 1 "_count_line" (sp__count_line K)) (M_Store_record_count : Kn.Mt P w K mg base 1 C_Store "record_count" (sp_Store_record_count C_Store K)) : FnOk P w K mg base CX0 4 f fd ["store"] (sp_save_store C_Store K) := by
  refine F.ok sc_save_store (fun vs H Q E h => ?_) (fun cdv A outer s H vs Q E hr h => ?_)
  · obtain ⟨p, d, r, tx, xs, ys, rfl, _⟩ := h
    rfl
  · obtain ⟨p, d, r, tx, xs, ys, rfl, T0, hx, hy, hp, q⟩ := h
    refine ⟨_, (pss_cons (ps_set (i := 1) sc_save_store.nd rfl (Or.inr rfl) (Kn.pe_mt0 M_Store_kept_texts hr (by decide) (pv 0)))
      (pss_cons (ps_setLc (i := 2) (own := [("key", 5)]) rfl sc_save_store.nd rfl rfl (sw_true rfl rfl rfl (by decide +kernel)) (pi_list (Kn.pe_mt0 M_Store_content_keys hr (by decide) (pv 0))) (blkOk_by (own := [("key", 5)]) (N := N_save_store) (sc := defScope s_save_store) (by decide +kernel)) (fun _ _ _ _ _ => pg_name (i := 5) sc_save_store.nd rfl (Or.inl rfl)) (fun _ _ _ _ _ => pts_nil) (fun _ _ _ _ _ => (Kn.pe_cl C__content_line hr (by decide) (by rfl) (pa_cons (Kn.pe_cl C_key_text hr (by decide) (by rfl) (pa_cons (pv 5) pa_nil)) (pa_cons (pe_dget (hu_of hr) (pv 1) (pv 5) (fun _ _ => rfl)) pa_nil)))))
      (pss_cons (ps_for PassesOwn.never rfl (pi_enum (by rfl) T.b_enumerate (pa_cons (Kn.pe_mt0 M_Store_kept_records hr (by decide) (pv 0)) pa_nil)) (pg_tup rfl (pgs_cons (pg_name (i := 3) sc_save_store.nd rfl (Or.inl rfl)) (pgs_cons (pg_name (i := 4) sc_save_store.nd rfl (Or.inl rfl)) pgs_nil))) (pss_one (ps_if (pt_cmpR op_notN1 (pv 4) pe_non (nomark _)) (pss_one (ps_expr (pe_bm PySem.F.plainAttrs_list PySem.F.slot_list_append PySem.F.type_list_append mt_append (pv 2) (pa_cons (Kn.pe_cl C__row_line hr (by decide) (by rfl) (pa_cons (pv 3) (pa_cons (Kn.pe_cl C_key_text hr (by decide) (by rfl) (pa_cons (pe_ix ix_tup (pv 4) pe_int (fun _ _ => rfl)) pa_nil)) (pa_cons (pe_ix ix_tup (pv 4) pe_int (fun _ _ => rfl)) pa_nil)))) pa_nil)))) pss_nil)))
      (pss_one (ps_ret (Kn.pe_joinN (pe_join pe_str (pe_op op_cat (pv 2) (pe_lst (pa_cons (Kn.pe_cl C__count_line hr (by decide) (by rfl) (pa_cons (Kn.pe_mt0 M_Store_record_count hr (by decide) (pv 0)) pa_nil)) pa_nil)))))))))), ?_⟩
    have no : ∀ {m : Str}, ¬ m = "_rows" → ¬ m = "_texts" → ¬ m = "journal" → (fldS d r).lookup m = none := fun h1 h2 h3 => fld_no d r h1 h2 h3
    obtain ⟨dx, h1⟩ := T0.ob
    have hks : (kvO tx).map (·.1) = (tx.map kO).map Sum.inl := by
      unfold kvO
      rw [List.map_map, List.map_map]
      rfl
    have hz := hx.z
    have hyz := hy.z
    have hxl := pair_len hp
    refine ⟨_, rfl, p, dx, _, rfl, h1, no (by decide +kernel) (by decide +kernel) (by decide +kernel), p, d, r, kvO tx, xs, rfl, T0, fun dn H1 ndn e1 hdn => ?_⟩
    have T1 := T0.mono e1
    try unfold gName
    dsimp only
    refine q_asgL (xs := (tx.map fun x => cLn x.1 x.2).map fun l => V.str (S l)) ?_ fun pl H2 npl e2 hpl => ?_
    · rw [List.map_map]
      refine el_lcNM (ns := tx) (g := fun x => V.int (kO x)) (el_meth' (xs := tx.map fun x => V.int (kO x)) (ev_var rfl) (e1 _ _ h1) (no (by decide +kernel) (by decide +kernel) (by decide +kernel)) ea_nil fun H2 e2 Q q E => ⟨p, d, r, kvO tx, xs, tx.map kO, rfl, T1.mono e2, hks, by rw [List.length_map]; omega, fun zs hperm hs => ?_⟩) (by omega) (fun _ => rfl) fun x hxm H2 e2 => ?_
      · rw [ints_uniq hs hx.pw hperm, List.map_map]
        exact q
      · have ht := hx.a x hxm
        exact ev_call' (ea_cons (ev_c1 (a := x.1) (ea_cons (ev_var rfl) ea_nil) fun _ _ => ht.1) (ea_cons (ev_dgetI (ev_var rfl) (ev_var rfl) (e2 _ _ hdn) (valV_kvO hx.n x hxm)) ea_nil)) fun H3 e3 Q q E => ⟨x.1, x.2, rfl, ⟨by have := ht.1.1; omega, by have := ht.2.1; omega⟩, q⟩
    refine q_forEnC ?_
    refine el_meth' (xs := xs) (ev_var rfl) ((e1.trans e2) _ _ h1) (no (by decide +kernel) (by decide +kernel) (by decide +kernel)) ea_nil (fun H3 e3 Q q E => ⟨p, d, r, kvO tx, xs, rfl, (T1.mono e2).mono e3, q⟩) H2 (Ex.refl H2) _ fun a H3 na e3 ha => ?_
    have e13 := e2.trans e3
    refine q_forEn (ev_c (v := .ref a)) (sq_of ha) (fun n σ' H' => ∃ y3 y4, σ' = [some (.ref p), some (.ref dn), some (.ref pl), y3, y4, none] ∧ Ex H H' ∧ H' a = some (.lst xs) ∧ H' pl = some (.lst ((tx.map (fun x : List Nat × List Nat => cLn x.1 x.2) ++ rowL (ys.take n) 0).map fun l => V.str (S l)))) (fun H4 e4 => ⟨_, _, rfl, (e1.trans e13).trans e4, e4 _ _ ha, ?_⟩) (fun n _ _ _ ⟨_, _, _, _, h, _⟩ => sq_of h) ?_ ?_
    · show H4 pl = some (.lst ((tx.map (fun x : List Nat × List Nat => cLn x.1 x.2) ++ []).map fun l => V.str (S l)))
      rw [List.append_nil]
      exact e4 _ _ (e3 _ _ hpl)
    · rintro n x σ' H4 H5 hxn ⟨y3, y4, rfl, e4, ha4, hpl4⟩ e5
      obtain ⟨y, hyn, hR⟩ := pair_at hp n x hxn
      have hn : n < ys.length := (List.getElem?_eq_some_iff.mp hyn).1
      have htk : ys.take (n + 1) = ys.take n ++ [y] := by
        rw [List.take_add_one, hyn]
        rfl
      have hR5 := hR.mono (e4.trans e5)
      have hpl5 := e5 _ _ hpl4
      have hlen : ((tx.map (fun x : List Nat × List Nat => cLn x.1 x.2) ++ rowL (ys.take n) 0).map fun l => V.str (S l)).length < 100000 := by
        have z := rowL_len (ys.take n) 0
        rw [List.length_take] at z
        rw [List.length_map, List.length_append, List.length_map]
        omega
      have npl0 : H pl = none := fresh_back e1 npl
      match y, hyn, hR5 with
      | none, hyn, hR5 =>
        cases hR5
        refine s_when (b := false) (et_is (et_notN (ev_var rfl)) rfl) (fun z => nomatch z) fun _ H6 e6 => ⟨_, _, rfl, (e4.trans e5).trans e6, e6 _ _ (e5 _ _ ha4), ?_⟩
        rw [htk, rowL_snoc]
        show H6 pl = some (.lst ((tx.map (fun x : List Nat × List Nat => cLn x.1 x.2) ++ (rowL (ys.take n) 0 ++ [])).map fun l => V.str (S l)))
        rw [List.append_nil]
        exact e6 _ _ hpl5
      | some (l, m), hyn, hR5 =>
        obtain ⟨b, rfl, hb⟩ := hR5
        have ht := hy.a l m (List.mem_of_getElem? hyn)
        refine s_when (b := true) (et_is (et_notN (ev_var rfl)) rfl) (fun _ H6 e6 => ?_) (fun z => nomatch z)
        have hb6 := e6 _ _ hb
        refine s_app (v := .str (S (rLn n l m))) (e6 _ _ hpl5) (ev_var rfl) (ev_call' (ea_cons (ev_var rfl) (ea_cons (ev_c1 (a := l) (ea_cons (ev_op (ev_var rfl) ev_c (rv_ixT (st_of hb6) (atI_nat (j := 0) rfl))) ea_nil) fun _ _ => ht.1) (ea_cons (ev_op (ev_var rfl) ev_c (rv_ixT (st_of hb6) (atI_nat (j := 1) rfl))) ea_nil))) fun H7 e7 Q q E => ⟨n, l, m, rfl, by omega, ⟨by have := ht.1.1; omega, by have := ht.2.1; omega⟩, q⟩) hlen fun H7 e7 => ⟨_, _, rfl, fun b' o hb' => ?_, ?_, ?_⟩
        · rw [upd_ne (ne_of_none hb' npl0)]
          exact e7 _ _ (e6 _ _ (e5 _ _ (e4 _ _ hb')))
        · have nap : a ≠ pl := fun z => by rw [z, hpl] at na; cases na
          rw [upd_ne nap]
          exact e7 _ _ (e6 _ _ (e5 _ _ ha4))
        · rw [htk, rowL_snoc, upd_same]
          refine congrArg (fun z => some (HO.lst z)) ?_
          rw [List.map_append, List.map_append, List.map_append, List.append_assoc]
          refine congrArg (_ ++ ·) (congrArg (_ ++ ·) ?_)
          rw [List.length_take, Nat.min_eq_left (by omega), Nat.zero_add]
          rfl
    · rintro σ' H4 ⟨y3, y4, rfl, e4, ha4, hpl4⟩
      have hT4 := T0.mono e4
      have hlens := svL_len hx hy
      have hall : ys.take xs.length = ys := by rw [hxl]; exact List.take_length
      have hpl4 : H4 pl = some (.lst ((tx.map (fun x : List Nat × List Nat => cLn x.1 x.2) ++ rowL ys 0).map fun l => V.str (S l))) := by rw [← hall]; exact hpl4
      refine s_ret (v := .str (S (svT tx ys))) (ev_join (s := [10]) (ys := svL tx ys) (ev_cS rfl) ?_ (svL_sum hx hy)) fun H5 e5 => q H5 (e4.trans e5)
      unfold svL at hlens ⊢
      rw [List.map_append]
      refine el_catV' (ev_var rfl) hpl4 (el_lst (ea_cons (ev_call' (ea_cons (ev_is (ev_meth (z := .int (xs.length : Int)) (ev_var rfl) (e4 _ _ h1) (no (by decide +kernel) (by decide +kernel) (by decide +kernel)) ea_nil fun H6 e6 Q q E => ⟨p, d, r, kvO tx, xs, rfl, hT4.mono e6, q⟩) (by rw [hxl])) ea_nil) fun H6 e6 Q q E => ⟨ys.length, rfl, by omega, q⟩) ea_nil) (by show 1 ≤ 100000; decide)) ?_
      rw [List.length_append] at hlens
      rw [List.length_map]
      show _ + 1 ≤ 100000
      have : ([nLn ys.length] : List (List Nat)).length = 1 := rfl
      omega
end

--SPLIT
section
variable {P : Program} {w : World} {K : PySem.W.Frag} {mg : Str → Option Value} {base : Heap}
/-! ### an entry, a setting is read from any line -/
theorem eqV_S (a b : List Nat) : eqV (.str (S a)) (.str (S b)) = decide (a = b) := by
  show (S a == S b) = _
  by_cases h : a = b
  · subst h
    rw [decide_eq_true rfl]
    exact beq_self_eq_true _
  · rw [decide_eq_false h]
    exact beq_eq_false_iff_ne.mpr fun z => h (S_inj z)
theorem inV_S (t : List Nat) : ∀ ks : List (List Nat), inV (.str (S t)) (ks.map fun l => V.str (S l)) = decide (t ∈ ks)
  | [] => by simp [inV]
  | k :: r => by
    have ih := inV_S t r
    unfold inV at ih ⊢
    rw [List.map_cons, List.any_cons, ih, eqV_S]
    by_cases h : k = t
    · subst h
      simp
    · have h2 : t ≠ k := fun z => h z.symm
      simp [h, h2]
theorem q_ixs {σ : L2.St} {H : Hp} {j pl : Addr} {xs : List V} {v : V} {i : Nat} {k : Int} (hj : σ[j]? = some (some (.ref pl))) (h : H pl = some (.lst xs)) (hk : k = (i : Int)) (hv : xs[i]? = some v) : Ev (tOp (rIxL K) (tVar j) (tC (.int k))) σ H v := by
  subst hk
  exact ev_op (ev_var hj) ev_c (rv_ixL (sq_of h) (atI_nat hv))
def wrT : List (List Nat) := [ePerson, eBuild]
def chkE (x : List Nat × Ent) (l : List Nat) : Option (List Nat × Ent) := if entL x = l then some x else none
def rdP (ps : List (List Nat)) (l : List Nat) : Option (List Nat × Ent) := match ps with
  | [_, k, t] => if (pathOk k && pathOk t) = true then chkE (k, .link t) l else none
  | [_, k, b, t] => if (decide (b ∈ wrT) && (pathOk k && contOk t)) = true then chkE (k, .file t b) l else none
  | _ => none
def rdE (l : List Nat) : Option (List Nat × Ent) := rdP (PT l) l
theorem chk_in {x y : List Nat × Ent} {l : List Nat} (h : chkE x l = some y) : y = x ∧ entL x = l := by
  unfold chkE at h
  split at h
  · next e =>
    cases h
    exact ⟨rfl, e⟩
  · cases h
theorem rdE_ok {l : List Nat} {x : List Nat × Ent} (hl : l.length ≤ 8000) (h : rdE l = some x) : entL x = l ∧ LE x := by
  have hp := (PT_len l).1
  unfold rdE rdP at h
  split at h
  · next a k t he =>
    rw [he] at hp
    split at h
    · obtain ⟨rfl, h2⟩ := chk_in h
      have h1 := hp k (by simp)
      have h3 := hp t (by simp)
      exact ⟨h2, by show k.length ≤ 9000; omega, .inl ⟨t, rfl, by omega⟩⟩
    · cases h
  · next a k b t he =>
    rw [he] at hp
    split at h
    · obtain ⟨rfl, h2⟩ := chk_in h
      have h1 := hp k (by simp)
      have h3 := hp t (by simp)
      have h4 := hp b (by simp)
      exact ⟨h2, by show k.length ≤ 9000; omega, .inr ⟨t, b, rfl, by omega, by omega⟩⟩
    · cases h
  · cases h
theorem look_put' {α : Type} (es : List (List Nat × α)) (k : List Nat) (e : α) : look (put es k e) k = some e := by rw [look_put, if_pos rfl]
def sp__read_entry (C : Addr) (G : Gx K mg) : Sp := fun vs H Q _ => ∃ (p d : Addr) (es : List (List Nat × Ent)) (l : List Nat), vs = [.ref p, .str (S l)] ∧ Tr C H p d es ∧ es.length < 59 ∧ l.length ≤ 8000 ∧
  (rdE l = none → ∀ es' H', Tr C H' p d es' → Keeps H H' d → Q .non H') ∧ (∀ x, rdE l = some x → ∀ H', Tr C H' p d (put es x.1 x.2) → Keeps H H' d → Q (.str (S x.1)) H')
theorem ev_fin {H : Hp} {C p d pl : Addr} {es : List (List Nat × Ent)} {k : List Nat} {e : Ent} {ps : List (List Nat)} {l : List Nat} (T : Tr C H p d es) (hk : look es k = some e) (g : LE (k, e)) (hp : H pl = some (.lst (strsV ps))) (h1 : ps[1]? = some k) :
    Ev (tIf (tTest (tOp rEq (tCall (sp__entry_line C K) [] E0 (tCons (tVar 0) (tCons (tOp (rIxL K) (tVar 2) (tC (.int 1))) tNil))) (tVar 1))) (tOp (rIxL K) (tVar 2) (tC (.int 1))) (tC .non)) [some (.ref p), some (.str (S l)), some (.ref pl)] H (tgtV ((chkE (k, e) l).map (·.1))) := by
  have hv : (strsV ps)[1]? = some (.str (S k)) := by
    unfold strsV
    rw [List.getElem?_map, h1]
    rfl
  have hix : ∀ {H2 : Hp}, Ex H H2 → Ev (tOp (rIxL K) (tVar 2) (tC (.int 1))) [some (.ref p), some (.str (S l)), some (.ref pl)] H2 (.str (S k)) := fun e2 => q_ixs (i := 1) rfl (e2 _ _ hp) rfl hv
  refine ev_if (b := decide (entL (k, e) = l)) (et_test (ev_op (ev_call (dvs := []) (ea_cons (ev_var rfl) (ea_cons (hix (Ex.refl _)) ea_nil)) (entry_sp T hk g)) (ev_var rfl) rv_eqS)) (fun hb => ?_) fun hb => ?_
  · have z := of_decide_eq_true hb
    unfold chkE
    rw [if_pos z]
    exact hix (Ex.refl _)
  · have z := of_decide_eq_false hb
    unfold chkE
    rw [if_neg z]
    exact ev_c
theorem rdP_len3 {ps : List (List Nat)} (h : ps.length = 3) : ∃ a k t, ps = [a, k, t] := by
  match ps, h with
  | [a, k, t], _ => exact ⟨a, k, t, rfl⟩
theorem rdP_len4 {ps : List (List Nat)} (h : ps.length = 4) : ∃ a k b t, ps = [a, k, b, t] := by
  match ps, h with
  | [a, k, b, t], _ => exact ⟨a, k, b, t, rfl⟩
theorem rdP_other {ps : List (List Nat)} {l : List Nat} (h3 : ps.length ≠ 3) (h4 : ps.length ≠ 4) : rdP ps l = none := by
  unfold rdP
  split
  · exact absurd rfl h3
  · exact absurd rfl h4
  · rfl
theorem ok__read_entry {f : Addr} {C_Tree C_Store C_StoreReader : Addr} {fd : FuncData} (F : Fun K "_read_entry" "_read_entry" s__read_entry f fd) (T : Tx mg) (G : Gx K mg) (TC_Tree : Tc_Tree K C_Tree) (TC_Store : Tc_Store K C_Store) (TC_StoreReader : Tc_StoreReader K C_StoreReader) (C__parts : Kn.Cl P w K mg base 7 "_parts" (sp__parts G)) (M_Tree_link : Kn.MtX P w K mg base 3 C_Tree "link" (sp_Tree_link C_Tree G)) (M_Tree_write : Kn.MtX P w K mg base 4 C_Tree "write" (sp_Tree_write C_Tree G)) (C__entry_line : Kn.Cl P w K mg base 3 "_entry_line" (sp__entry_line C_Tree K)) (mB1 : PySem.W.exmOne K (.ref G.c_InvalidPath) (.ref G.c_BuildError) = some true) (mB2 : PySem.W.exmOne K (.ref G.c_InvalidContent) (.ref G.c_BuildError) = some true) {AW : Addr} (gW : mg "WRITERS" = some (.ref AW)) (sW : ∀ H : Hp, SqT K H AW [.str (S ePerson), .str (S eBuild)]) : FnOk P w K mg base CX0 8 f fd ["tree", "line"] (sp__read_entry C_Tree G) := by
  refine F.ok sc__read_entry (fun vs H Q E h => ?_) (fun cdv A outer s H vs Q E hr h => ?_)
  · obtain ⟨p, d, es, l, rfl, _⟩ := h
    rfl
  · obtain ⟨p, d, es, l, rfl, TR, hle, hl, qn, qs⟩ := h
    refine ⟨_, (pss_cons (ps_set (i := 2) sc__read_entry.nd rfl (Or.inl rfl) (Kn.pe_cl C__parts hr (by decide) (by rfl) (pa_cons (pv 1) pa_nil)))
      (pss_cons (ps_try_only (tb := fun W => (tIfS (tTest (tOp rEq (tCB (rLenS K) (tCons (tVar 2) tNil)) (tC (.int 3)))) (tDrop (tMethX C_Tree "link" (sp_Tree_link C_Tree G) (WE W) (tVar 0) (tCons (tOp (rIxL K) (tVar 2) (tC (.int 1))) (tCons (tOp (rIxL K) (tVar 2) (tC (.int 2))) tNil)))) (tIfS (tAnd (tTest (tOp rEq (tCB (rLenS K) (tCons (tVar 2) tNil)) (tC (.int 4)))) (tTest (tOp (rIn K false) (tOp (rIxL K) (tVar 2) (tC (.int 2))) (tC (.ref AW))))) (tDrop (tMethX C_Tree "write" (sp_Tree_write C_Tree G) (WE W) (tVar 0) (tCons (tOp (rIxL K) (tVar 2) (tC (.int 1))) (tCons (tOp (rIxL K) (tVar 2) (tC (.int 3))) (tCons (tOp (rIxL K) (tVar 2) (tC (.int 2))) tNil))))) (tRet (tC .non))))) (ts := fun a cls d => (tRet (tC .non))) (Wout := (fun _ _ _ _ => False)) rfl rfl ⟨rfl, by decide, Or.inl G.g_BuildError⟩ takes0
      (fun W pn xe tk po => (pss_one (ps_if (pt_cmpR op_eq (pe_callB Kn.cr_lenSeq (by rfl) T.b_len PySem.boot_len (pa_cons (pv 2) pa_nil)) pe_int (nomark _)) (pss_one (ps_expr (Kn.pe_mtX M_Tree_link hr (by decide) tk (pv 0) (pa_cons (pe_ix ix_list (pv 2) pe_int (fun _ _ => rfl)) (pa_cons (pe_ix ix_list (pv 2) pe_int (fun _ _ => rfl)) pa_nil))))) (pss_one (ps_if (PW.pt (pw_and (pt_cmpR op_eq (pe_callB Kn.cr_lenSeq (by rfl) T.b_len PySem.boot_len (pa_cons (pv 2) pa_nil)) pe_int (nomark _)) (pw_and1 (pt_cmpR op_in_seq (pe_ix ix_list (pv 2) pe_int (fun _ _ => rfl)) (pe_glob (v := V.ref AW) (by rfl) gW rfl) rfl)))) (pss_one (ps_expr (Kn.pe_mtX M_Tree_write hr (by decide) tk (pv 0) (pa_cons (pe_ix ix_list (pv 2) pe_int (fun _ _ => rfl)) (pa_cons (pe_ix ix_list (pv 2) pe_int (fun _ _ => rfl)) (pa_cons (pe_ix ix_list (pv 2) pe_int (fun _ _ => rfl)) pa_nil)))))) (pss_one (ps_ret pe_non)))))))
      (fun a oe cls d pn hz hf => (pss_one (ps_ret pe_non))))
      (pss_one (ps_ret (pe_ifExp (pt_cmpR op_eq (Kn.pe_cl C__entry_line hr (by decide) (by rfl) (pa_cons (pv 0) (pa_cons (pe_ix ix_list (pv 2) pe_int (fun _ _ => rfl)) pa_nil))) (pv 1) (nomark _)) (pe_ix ix_list (pv 2) pe_int (fun _ _ => rfl)) pe_non))))), ?_⟩
    have hpl := PT_len l
    have hrd : rdE l = rdP (PT l) l := rfl
    refine q_asgL (xs := strsV (PT l)) (el_call' (ea_cons (ev_var rfl) ea_nil) fun H2 e2 Q q E => ⟨l, rfl, by omega, q⟩) fun pl H1 npl e1 hpl1 => ?_
    generalize hps : PT l = ps at hpl hpl1 hrd
    have T1 := TR.mono e1
    have kk : ∀ {H3 H4 : Hp}, Ex H1 H3 → Keeps H3 H4 d → Keeps H H4 d := fun e3 k b o hb hne => k b o (e3 _ _ (e1 _ _ hb)) hne
    have pld : ∀ {H3 : Hp}, Tr C_Tree H3 p d es → H3 pl = some (.lst (strsV ps)) → pl ≠ d := fun T h => by
      obtain ⟨_, kvs, h2, _⟩ := T
      exact ne_of h h2 (by intro z; cases z)
    have hroom : ∀ k, hasRoom es k = true := fun k => room_of (by omega) _
    -- an error is caught
    have bad : rdE l = none → ∀ {H3 H4 : Hp} {X : Addr} {dd : Addr} {D : Ends} {σ : L2.St}, D.rt = Q → PySem.W.exmOne K (.ref X) (.ref G.c_BuildError) = some true → Ex H1 H3 → Ex H3 H4 →
        WE (wOnly K (.ref G.c_BuildError) (fun a cls d => tRet (tC .non)) (fun _ _ _ _ => False) D) σ (.ref X) (some dd) H4 := fun hz {H3 H4 X dd D σ} hD hm e3 e4 => ⟨true, hm, fun _ a na => by
      show D.rt .non H4
      rw [hD]
      exact qn hz es H4 (T1.mono (e3.trans e4)) fun b o hb _ => e4 _ _ (e3 _ _ (e1 _ _ hb)), fun z => nomatch z⟩
    have ix : ∀ {H3 : Hp} {i : Nat} {t : List Nat}, Ex H1 H3 → ps[i]? = some t → Ev (tOp (rIxL K) (tVar 2) (tC (.int (i : Int)))) [some (.ref p), some (.str (S l)), some (.ref pl)] H3 (.str (S t)) := fun {H3 i t} e3 ht => q_ixs (i := i) rfl (e3 _ _ hpl1) rfl (by unfold strsV; rw [List.getElem?_map, ht]; rfl)
    unfold tSeq
    dsimp only
    refine s_if (b := decide (ps.length = 3)) (et_is (et_test (ev_op (ev_len (ev_var rfl) (sq_of hpl1)) ev_c rv_eqI)) (by unfold strsV; rw [List.length_map]; exact decide_eq_decide.mpr (by omega))) (fun hb H2 e2 => ?_) fun hb H2 e2 => ?_
    · obtain ⟨a, k, t, he⟩ := rdP_len3 (of_decide_eq_true hb)
      subst he
      have hr3 : rdE l = if (pathOk k && pathOk t) = true then chkE (k, .link t) l else none := hrd
      have l1 := hpl.1 k (by simp)
      have l2 := hpl.1 t (by simp)
      have T2 := T1.mono e2
      obtain ⟨dx, hp⟩ := T2.ob
      refine ⟨_, rfl, p, dx, _, rfl, hp, flds_no d (by decide +kernel), ?_⟩
      refine ea_cons (ix (i := 1) e2 rfl) (ea_cons (ix (i := 2) e2 rfl) ea_nil) H2 (Ex.refl _) _ fun H3 e3 => ?_
      have T3 := T2.mono e3
      have e13 := e2.trans e3
      refine ⟨p, d, es, k, t, rfl, T3, by omega, ⟨by omega, by omega⟩, fun z => ?_, fun z1 z => ?_, fun _ _ z => (by rw [hroom] at z; cases z), fun z1 z2 _ H5 T5 k5 => ?_⟩
      · intro dd H4 e4 hd
        exact bad (by rw [hr3, z]; rfl) rfl mB1 e13 e4
      · intro dd H4 e4 hd
        exact bad (by rw [hr3, z1, z]; rfl) rfl mB1 e13 e4
      · have hp5 := k5 _ _ (e13 _ _ hpl1) (pld T3 (e13 _ _ hpl1))
        have hr4 : rdE l = chkE (k, .link t) l := by rw [hr3, z1, z2]; rfl
        refine s_ret (ev_fin T5 (look_put' _ _ _) ⟨by show k.length ≤ 9000; omega, .inl ⟨t, rfl, by omega⟩⟩ hp5 rfl) fun H6 e6 => ?_
        have kz : Keeps H H6 d := fun b o hb hne => e6 _ _ (kk e13 k5 b o hb hne)
        cases hc : chkE (k, .link t) l with
        | none => exact qn (hr4.trans hc) _ H6 (T5.mono e6) kz
        | some x =>
          obtain ⟨rfl, _⟩ := chk_in hc
          exact qs _ (hr4.trans hc) H6 (T5.mono e6) kz
    · have n3 := of_decide_eq_false hb
      by_cases h4 : ps.length = 4
      · obtain ⟨a, k, b, t, he⟩ := rdP_len4 h4
        subst he
        have hr3 : rdE l = if (decide (b ∈ wrT) && (pathOk k && contOk t)) = true then chkE (k, .file t b) l else none := hrd
        have l1 := hpl.1 k (by simp)
        have l2 := hpl.1 t (by simp)
        have l3 := hpl.1 b (by simp)
        refine s_if (b := decide (b ∈ wrT)) (et_is (et_and (a := true) (b := decide (b ∈ wrT)) (et_is (et_test (ev_op (ev_len (ev_var rfl) (sq_of (e2 _ _ hpl1))) ev_c rv_eqI)) rfl) fun _ => et_test (ev_op (ix (i := 2) e2 rfl) ev_c ?_)) (Bool.true_and _)) (fun hb H3 e3 => ?_) fun hb H3 e3 => ?_
        · intro Hx ex Qx qx
          have hin := inV_S b wrT
          refine ⟨AW, _, rfl, .inr (sW Hx), rfl, rfl, ?_⟩
          show Qx (.bl (inV (.str (S b)) [.str (S ePerson), .str (S eBuild)])) Hx
          rw [show inV (.str (S b)) [.str (S ePerson), .str (S eBuild)] = decide (b ∈ wrT) from hin]
          exact qx Hx (Ex.refl _)
        · have T3 := (T1.mono e2).mono e3
          have e13 := e2.trans e3
          obtain ⟨dx, hp⟩ := T3.ob
          refine ⟨_, rfl, p, dx, _, rfl, hp, flds_no d (by decide +kernel), ?_⟩
          refine ea_cons (ix (i := 1) e13 rfl) (ea_cons (ix (i := 3) e13 rfl) (ea_cons (ix (i := 2) e13 rfl) ea_nil)) H3 (Ex.refl _) _ fun H4 e4 => ?_
          have T4 := T3.mono e4
          have e14 := e13.trans e4
          refine ⟨p, d, es, k, t, b, rfl, T4, by omega, ⟨by omega, by omega⟩, fun z => ?_, fun z1 z => ?_, fun _ _ z => (by rw [hroom, Bool.not_true, Bool.and_false] at z; cases z), fun z1 z2 _ H5 T5 k5 => ?_⟩
          · intro dd H5 e5 hd
            exact bad (by rw [hr3, hb, z]; rfl) rfl mB1 e14 e5
          · intro dd H5 e5 hd
            exact bad (by rw [hr3, hb, z1, z]; rfl) rfl mB2 e14 e5
          · have hp5 := k5 _ _ (e14 _ _ hpl1) (pld T4 (e14 _ _ hpl1))
            have hr4 : rdE l = chkE (k, .file t b) l := by rw [hr3, hb, z1, z2]; rfl
            refine s_ret (ev_fin T5 (look_put' _ _ _) ⟨by show k.length ≤ 9000; omega, .inr ⟨t, b, rfl, by omega, by omega⟩⟩ hp5 rfl) fun H6 e6 => ?_
            have kz : Keeps H H6 d := fun b o hb hne => e6 _ _ (kk e14 k5 b o hb hne)
            cases hc : chkE (k, .file t b) l with
            | none => exact qn (hr4.trans hc) _ H6 (T5.mono e6) kz
            | some x =>
              obtain ⟨rfl, _⟩ := chk_in hc
              exact qs _ (hr4.trans hc) H6 (T5.mono e6) kz
        · refine s_ret (v := .non) ev_c fun H4 e4 => qn (by rw [hr3, hb]; rfl) es H4 (T1.mono ((e2.trans e3).trans e4)) fun b o hb _ => e4 _ _ (e3 _ _ (e2 _ _ (e1 _ _ hb)))
      · refine s_if (b := false) (et_is (et_and (a := false) (b := false) (et_is (et_test (ev_op (ev_len (ev_var rfl) (sq_of (e2 _ _ hpl1))) ev_c rv_eqI)) (decide_eq_false (by unfold strsV; rw [List.length_map]; omega))) fun z => nomatch z) rfl) (fun z => nomatch z) fun _ H3 e3 => ?_
        exact s_ret (v := .non) ev_c fun H4 e4 => qn (hrd.trans (rdP_other n3 h4)) es H4 (T1.mono ((e2.trans e3).trans e4)) fun b o hb _ => e4 _ _ (e3 _ _ (e2 _ _ (e1 _ _ hb)))
/-! ### a setting -/
def rdQ (ps : List (List Nat)) (l : List Nat) : Option (List Nat × List Nat) := match ps with
  | [_, n, t] => if (idOk n && contOk t) = true then (if setL (n, t) = l then some (n, t) else none) else none
  | _ => none
def rdS (l : List Nat) : Option (List Nat × List Nat) := rdQ (PT l) l
theorem rdS_ok {l : List Nat} {x : List Nat × List Nat} (hl : l.length ≤ 8000) (h : rdS l = some x) : setL x = l ∧ x.1.length ≤ 9000 ∧ x.2.length ≤ 9000 := by
  have hp := (PT_len l).1
  unfold rdS rdQ at h
  split at h
  · next a k t he =>
    rw [he] at hp
    split at h
    · split at h
      · next e =>
        cases h
        have h1 := hp k (by simp)
        have h3 := hp t (by simp)
        exact ⟨e, by show k.length ≤ 9000; omega, by show t.length ≤ 9000; omega⟩
      · cases h
    · cases h
  · cases h
theorem rdQ_other {ps : List (List Nat)} {l : List Nat} (h3 : ps.length ≠ 3) : rdQ ps l = none := by
  unfold rdQ
  split
  · exact absurd rfl h3
  · rfl
def sp__read_setting (G : Gx K mg) : Sp := fun vs H Q _ => ∃ (d : Addr) (kvs : List (Key × V)) (l : List Nat), vs = [.ref d, .str (S l)] ∧ H d = some (.dK kvs) ∧ kvs.length < 1000 ∧ l.length ≤ 8000 ∧
  (rdS l = none → ∀ kvs' H', H' d = some (.dK kvs') → Keeps H H' d → Q .non H') ∧ (∀ x, rdS l = some x → ∀ H', H' d = some (.dK (putK kvs (Sum.inr (S x.1)) (.str (S x.2)))) → Keeps H H' d → Q (.str (S x.1)) H')
theorem ok__read_setting {f : Addr} {C_Tree C_Store C_StoreReader : Addr} {fd : FuncData} (F : Fun K "_read_setting" "_read_setting" s__read_setting f fd) (T : Tx mg) (G : Gx K mg) (TC_Tree : Tc_Tree K C_Tree) (TC_Store : Tc_Store K C_Store) (TC_StoreReader : Tc_StoreReader K C_StoreReader) (C__parts : Kn.Cl P w K mg base 7 "_parts" (sp__parts G)) (C_is_identifier : Kn.Cl P w K mg base 1 "is_identifier" (sp_is_identifier K)) (C_is_content : Kn.Cl P w K mg base 3 "is_content" (sp_is_content K)) (C__setting_line : Kn.Cl P w K mg base 2 "_setting_line" (sp__setting_line K)) : FnOk P w K mg base CX0 8 f fd ["settings", "line"] (sp__read_setting G) := by
  refine F.ok sc__read_setting (fun vs H Q E h => ?_) (fun cdv A outer s H vs Q E hr h => ?_)
  · obtain ⟨d, kvs, l, rfl, _⟩ := h
    rfl
  · obtain ⟨d, kvs, l, rfl, hd, hle, hl, qn, qs⟩ := h
    refine ⟨_, (pss_cons (ps_set (i := 2) sc__read_setting.nd rfl (Or.inl rfl) (Kn.pe_cl C__parts hr (by decide) (by rfl) (pa_cons (pv 1) pa_nil)))
      (pss_cons (ps_if (PW.pt (pw_or (pt_cmpR op_ne (pe_callB Kn.cr_lenSeq (by rfl) T.b_len PySem.boot_len (pa_cons (pv 2) pa_nil)) pe_int (nomark _)) (pw_or (pt_not (pt_val (Kn.pe_cl C_is_identifier hr (by decide) (by rfl) (pa_cons (pe_ix ix_list (pv 2) pe_int (fun _ _ => rfl)) pa_nil)))) (pw_or1 (pt_not (pt_val (Kn.pe_cl C_is_content hr (by decide) (by rfl) (pa_cons (pe_ix ix_list (pv 2) pe_int (fun _ _ => rfl)) pa_nil)))))))) (pss_one (ps_ret pe_non)) pss_nil)
      (pss_cons (ps_dput (hu_of hr) (pv 0) (pe_ix ix_list (pv 2) pe_int (fun _ _ => rfl)) (pe_ix ix_list (pv 2) pe_int (fun _ _ => rfl)) rfl)
      (pss_one (ps_ret (pe_ifExp (pt_cmpR op_eq (Kn.pe_cl C__setting_line hr (by decide) (by rfl) (pa_cons (pe_ix ix_list (pv 2) pe_int (fun _ _ => rfl)) (pa_cons (pe_ix ix_list (pv 2) pe_int (fun _ _ => rfl)) pa_nil))) (pv 1) (nomark _)) (pe_ix ix_list (pv 2) pe_int (fun _ _ => rfl)) pe_non)))))), ?_⟩
    have hpl := PT_len l
    have hrd : rdS l = rdQ (PT l) l := rfl
    refine q_asgL (xs := strsV (PT l)) (el_call' (ea_cons (ev_var rfl) ea_nil) fun H2 e2 Q q E => ⟨l, rfl, by omega, q⟩) fun pl H1 npl e1 hpl1 => ?_
    generalize hps : PT l = ps at hpl hpl1 hrd
    by_cases h3 : ps.length = 3
    · obtain ⟨a, n, t, he⟩ := rdP_len3 h3
      subst he
      have hr3 : rdS l = if (idOk n && contOk t) = true then (if setL (n, t) = l then some (n, t) else none) else none := hrd
      have l1 := hpl.1 n (by simp)
      have l2 := hpl.1 t (by simp)
      have ix : ∀ {H3 : Hp} {i : Nat} {z : List Nat}, Ex H1 H3 → [a, n, t][i]? = some z → Ev (tOp (rIxL K) (tVar 2) (tC (.int (i : Int)))) [some (.ref d), some (.str (S l)), some (.ref pl)] H3 (.str (S z)) := fun {H3 i z} e3 ht => q_ixs (i := i) rfl (e3 _ _ hpl1) rfl (by unfold strsV; rw [List.getElem?_map, ht]; rfl)
      refine q_when (b := !(idOk n && contOk t)) (et_is (et_or (a := false) (b := !(idOk n && contOk t)) (et_is (et_test (ev_op (ev_len (ev_var rfl) (sq_of hpl1)) ev_c rv_neI)) rfl) fun _ => et_is (et_or (a := !idOk n) (b := !contOk t) (et_not (et_B (ev_call (dvs := []) (ea_cons (ix (i := 1) (Ex.refl _) rfl) ea_nil) fun H1 e Q q E => ⟨n, rfl, by omega, q⟩))) fun _ => et_not (et_B (ev_call (dvs := []) (ea_cons (ix (i := 2) (Ex.refl _) rfl) ea_nil) fun H1 e Q q E => ⟨t, rfl, by omega, q⟩))) (by cases idOk n <;> cases contOk t <;> rfl)) (Bool.false_or _)) (fun hb H2 e2 => ?_) fun hb H2 e2 => ?_
      · refine s_ret (v := .non) ev_c fun H4 e4 => qn (by rw [hr3, nb hb]; rfl) kvs H4 (e4 _ _ (e2 _ _ (e1 _ _ hd))) fun b o hb _ => e4 _ _ (e2 _ _ (e1 _ _ hb))
      · have hok := nf hb
        have hr4 : rdS l = if setL (n, t) = l then some (n, t) else none := by rw [hr3, hok]; rfl
        have hd3 := e2 _ _ (e1 _ _ hd)
        have hpl3 := e2 _ _ hpl1
        have pld : pl ≠ d := ne_of hpl3 hd3 (by intro z; cases z)
        refine q_dputS (k := S n) (ix (i := 2) e2 rfl) (fun H e => ev_var rfl) (fun H e => ix (i := 1) (e2.trans e) rfl) hd3 (by omega) fun H4 e4 => ?_
        have hpl4 : upd H4 d (.dK (putK kvs (Sum.inr (S n)) (.str (S t)))) pl = some (.lst (strsV [a, n, t])) := by rw [upd_ne pld]; exact e4 _ _ hpl3
        have hd4 : upd H4 d (.dK (putK kvs (Sum.inr (S n)) (.str (S t)))) d = _ := upd_same
        have kk : Keeps H (upd H4 d (.dK (putK kvs (Sum.inr (S n)) (.str (S t))))) d := fun b o hb hne => by rw [upd_ne hne]; exact e4 _ _ (e2 _ _ (e1 _ _ hb))
        generalize upd H4 d (.dK (putK kvs (Sum.inr (S n)) (.str (S t)))) = H5 at hpl4 hd4 kk
        have ix5 : ∀ {i : Nat} {z : List Nat}, [a, n, t][i]? = some z → Ev (tOp (rIxL K) (tVar 2) (tC (.int (i : Int)))) [some (.ref d), some (.str (S l)), some (.ref pl)] H5 (.str (S z)) := fun {i z} ht => q_ixs (i := i) rfl hpl4 rfl (by unfold strsV; rw [List.getElem?_map, ht]; rfl)
        refine s_ret (v := if setL (n, t) = l then .str (S n) else .non) (ev_if (b := decide (setL (n, t) = l)) (et_test (ev_op (ev_call (dvs := []) (ea_cons (ix5 (i := 1) rfl) (ea_cons (ix5 (i := 2) rfl) ea_nil)) fun H1 e Q q E => ⟨(n, t), rfl, ⟨by show n.length ≤ 9000; omega, by show t.length ≤ 9000; omega⟩, q⟩) (ev_var rfl) rv_eqS)) (fun hb => ?_) fun hb => ?_) fun H6 e6 => ?_
        · rw [if_pos (of_decide_eq_true hb)]
          exact ix5 (i := 1) rfl
        · rw [if_neg (of_decide_eq_false hb)]
          exact ev_c
        · have kz : Keeps H H6 d := fun b o hb hne => e6 _ _ (kk b o hb hne)
          by_cases hz : setL (n, t) = l
          · rw [if_pos hz] at hr4 ⊢
            exact qs _ hr4 H6 (e6 _ _ hd4) kz
          · rw [if_neg hz] at hr4 ⊢
            exact qn hr4 _ H6 (e6 _ _ hd4) kz
    · refine q_when (b := true) (et_is (et_or (a := true) (b := true) (et_is (et_test (ev_op (ev_len (ev_var rfl) (sq_of hpl1)) ev_c rv_neI)) (by unfold strsV; rw [List.length_map, decide_eq_false (by omega)]; rfl)) fun z => nomatch z) rfl) (fun _ H2 e2 => ?_) fun z => nomatch z
      exact s_ret (v := .non) ev_c fun H4 e4 => qn (hrd.trans (rdQ_other h3)) kvs H4 (e4 _ _ (e2 _ _ (e1 _ _ hd))) fun b o hb _ => e4 _ _ (e2 _ _ (e1 _ _ hb))
end

--SPLIT
section
variable {P : Program} {w : World} {K : PySem.W.Frag} {mg : Str → Option Value} {base : Heap}
def linesL (l : List Nat) : List (List Nat) := if l = [] then [] else cut1 10 l
def sp_lines_of (_ : PySem.W.Frag) : Sp := fun vs H Q _ => ∃ l : List Nat, vs = [.str (S l)] ∧ l.length ≤ 90000 ∧ Rl H ((linesL l).map fun p => V.str (S p)) Q
theorem el_ite {σ : L2.St} {H : Hp} {t : TT} {ta tb : TE} {b : Bool} {xs : List V} (h : EvT t σ H b) (h1 : b = true → EvL ta σ H xs) (h2 : b = false → EvL tb σ H xs) : EvL (tIf t ta tb) σ H xs := fun H1 e Q q => h H1 e _ fun H2 e2 => by
  cases b with
  | true => exact h1 rfl H2 (e.trans e2) Q fun p H3 n e3 hp => q p H3 (fresh_back e2 n) (e2.trans e3) hp
  | false => exact h2 rfl H2 (e.trans e2) Q fun p H3 n e3 hp => q p H3 (fresh_back e2 n) (e2.trans e3) hp
theorem ok_lines_of {f : Addr} {C_Tree C_Store C_StoreReader : Addr} {fd : FuncData} (F : Fun K "lines_of" "lines_of" s_lines_of f fd) (T : Tx mg) (G : Gx K mg) (TC_Tree : Tc_Tree K C_Tree) (TC_Store : Tc_Store K C_Store) (TC_StoreReader : Tc_StoreReader K C_StoreReader)  : FnOk P w K mg base CX0 1 f fd ["text"] (sp_lines_of K) := by
  refine F.ok sc_lines_of (fun vs H Q E h => ?_) (fun cdv A outer s H vs Q E hr h => ?_)
  · obtain ⟨l, rfl, _⟩ := h
    rfl
  · obtain ⟨l, rfl, hl, q⟩ := h
    refine ⟨_, (pss_one (ps_ret (pe_ifExp (pt_cmpR op_eq (pv 0) pe_str (nomark _)) (pe_lst pa_nil) (pe_m1 PySem.F.slot_str_split PySem.F.type_str_split Kn.mt_split (pv 0) pe_str)))), ?_⟩
    refine s_retL (el_ite (b := decide (l = [])) (et_is (et_test (ev_op (ev_var rfl) (ev_cS (l := []) rfl) (rv_eq rfl))) (decide_eq_decide.2 ⟨fun z => S_inj (V.str.inj z), fun z => by rw [z]⟩)) (fun hb => ?_) (fun hb => ?_)) q
    · have hb := of_decide_eq_true hb
      subst hb
      exact el_lst ea_nil (by decide)
    · have hb := of_decide_eq_false hb
      unfold linesL
      rw [if_neg hb]
      exact el_split (ev_var rfl) (ev_cS (l := [10]) rfl) (by decide) hl
end
section
variable {P : Program} {w : World} {K : PySem.W.Frag} {mg : Str → Option Value} {base : Heap}
variable {S_ : Addr → Option Sp}
/-! ### rows that come one behind the other -/
/-- the number of the first line with an error -/
def goR (rd : List Nat → Option (List Nat)) : List (List Nat) → Nat → List Nat → Option Nat
  | [], _, _ => none
  | x :: r, n, last => match rd x with
    | none => some n
    | some k => if last < k then goR rd r (n + 1) k else some n
def HasD (H : Hp) (d : Addr) : Prop := ∃ kvs, H d = some (.dK kvs)
def sp__read_lines (S_ : Addr → Option Sp) (G : Gx K mg) : Sp := fun vs H Q E => ∃ (l : List Nat) (f fd dd : Addr) (sp : Sp) (rd : List Nat → Option (List Nat)) (I : Nat → List Nat → Hp → Prop), vs = [.str (S l), .ref f, .ref fd] ∧ S_ f = some sp ∧ l.length ≤ 90000 ∧ (linesL l).length ≤ 1000 ∧ I 0 [] H ∧
  (∀ i last H1 H2, I i last H1 → Ex H1 H2 → I i last H2) ∧ (∀ i last H1, I i last H1 → HasD H1 dd) ∧
  (∀ i last x H1, (linesL l)[i]? = some x → I i last H1 → ∀ Q' : VK, (rd x = none → ∀ H2, Keeps H1 H2 dd → HasD H2 dd → Q' .non H2) → (∀ k, rd x = some k → ∀ H2, Keeps H1 H2 dd → HasD H2 dd → (last < k → I (i + 1) k H2) → Q' (.str (S k)) H2) → sp [.ref fd, .str (S x)] H1 Q' (fun _ _ _ => False)) ∧
  (∀ n, goR rd (linesL l) 1 [] = some n → ∀ d H', Keeps H H' dd → H' d = some (.xd [(("line" : Str), .int (n : Int))]) → E (.ref G.c_InvalidSave) (some d) H') ∧
  (goR rd (linesL l) 1 [] = none → ∀ last H2, I (linesL l).length last H2 → Keeps H H2 dd → Q (.ref fd) H2)
theorem Keeps.pre {H H1 H2 : Hp} {d : Addr} (e : Ex H H1) (k : Keeps H1 H2 d) : Keeps H H2 d := fun b o hb hn => k b o (e _ _ hb) hn
theorem Keeps.post {H H1 H2 : Hp} {d : Addr} (k : Keeps H H1 d) (e : Ex H1 H2) : Keeps H H2 d := fun b o hb hn => e _ _ (k b o hb hn)
theorem Keeps.tr {H H1 H2 : Hp} {d : Addr} (k : Keeps H H1 d) (k2 : Keeps H1 H2 d) : Keeps H H2 d := fun b o hb hn => k2 b o (k b o hb hn) hn
theorem Keeps.ex {H H1 : Hp} {d : Addr} (k : Keeps H H1 d) (n : H d = none) : Ex H H1 := fun b o hb => k b o hb (ne_of_none hb n)
theorem drop_cons {α : Type} {l : List α} {n : Nat} {x : α} (h : l[n]? = some x) : l.drop n = x :: l.drop (n + 1) := by
  obtain ⟨hn, rfl⟩ := List.getElem?_eq_some_iff.mp h
  exact List.drop_eq_getElem_cons hn
theorem ok__read_lines {f : Addr} {C_Tree C_Store C_StoreReader : Addr} {fd : FuncData} (F : Fun K "_read_lines" "_read_lines" s__read_lines f fd) (T : Tx mg) (G : Gx K mg) (TC_Tree : Tc_Tree K C_Tree) (TC_Store : Tc_Store K C_Store) (TC_StoreReader : Tc_StoreReader K C_StoreReader) (C_lines_of : Kn.Cl P w K mg base 1 "lines_of" (sp_lines_of K)) (Z_InvalidSave : Kn.Xk P w K mg base 1 "InvalidSave" G.c_InvalidSave (sp_I1z "line" K)) {S_ : Addr → Option Sp} (A : ∀ f sp, S_ f = some sp → Held P w K mg base 8 f sp) : FnOk P w K mg base (L2.CX P w) 9 f fd ["text", "read_line", "found"] (sp__read_lines S_ G) := by
  refine F.okX sc__read_lines (fun vs H Q E h => ?_) (fun cdv A' outer s H vs Q E hr h => ?_)
  · obtain ⟨l, f, fd, dd, sp, rd, I, rfl, _⟩ := h
    rfl
  · obtain ⟨l, f, fd, dd, sp, rd, I, rfl, hS, hl, hn, h0, hmo, hdk, hst, qe, q⟩ := h
    refine ⟨_, (pss_cons (ps_set (i := 3) sc__read_lines.nd rfl (Or.inl rfl) pe_str)
      (pss_cons (ps_for (passes_of rfl) rfl (Kw.pi_enum1 (by rfl) T.b_enumerate (pa_cons (Kn.pe_cl C_lines_of hr (by decide) (by rfl) (pa_cons (pv 0) pa_nil)) pa_nil) (pk_cons pe_int pk_nil)) (pg_tup rfl (pgs_cons (pg_name (i := 4) sc__read_lines.nd rfl (Or.inl rfl)) (pgs_cons (pg_name (i := 5) sc__read_lines.nd rfl (Or.inl rfl)) pgs_nil))) (pss_cons (ps_set (i := 6) sc__read_lines.nd rfl (Or.inl rfl) (pe_callA (i := 1) A hr rfl (Or.inl rfl) (pa_cons (pv 2) (pa_cons (pv 5) pa_nil))))
      (pss_cons (ps_if (PW.pt (pw_or (pt_cmpR op_isN1 (pv 6) pe_non (nomark _)) (pw_or1 (pt_cmpR op_le_str (pv 6) (pv 3) (nomark _))))) (pss_one (Kn.ps_xk Z_InvalidSave hr (by decide) rfl (takes_of rfl rfl rfl rfl) (by rfl) (pa_cons (pv 4) pa_nil))) pss_nil)
      (pss_one (ps_set (i := 3) sc__read_lines.nd rfl (Or.inl rfl) (pv 6))))))
      (pss_one (ps_ret (pv 2))))), ?_⟩
    refine q_asg (v := .str (S [])) (ev_cS rfl) fun H1 e1 => ?_
    have hL : EvL (tCall (sp_lines_of K) [] E0 (tCons (tVar 0) tNil)) [some (.str (S l)), some (.ref f), some (.ref fd), some (.str (S [])), none, none, none] H1 (strsV (linesL l)) := el_call' (ea_cons (ev_var rfl) ea_nil) fun H2 e2 Q q E => ⟨l, rfl, hl, q⟩
    have sl : (strsV (linesL l)).length = (linesL l).length := List.length_map _
    refine q_forEn1 hL (fun H2 => ea_cons ev_c ea_nil) (fun a i σ' H' => ∃ last y4 y5 y6, σ' = [some (.str (S l)), some (.ref f), some (.ref fd), some (.str (S last)), y4, y5, y6] ∧ I i last H' ∧ H' a = some (.lst (strsV (linesL l))) ∧ Keeps H H' dd ∧ goR rd (linesL l) 1 [] = goR rd ((linesL l).drop i) (i + 1) last)
      (fun a H2 na e2 ha => ⟨[], _, _, _, rfl, hmo _ _ _ _ h0 (e1.trans e2), ha, fun b o hb _ => e2 _ _ (e1 _ _ hb), by rw [List.drop_zero]⟩) (fun a n σ' H' _ ⟨_, _, _, _, _, _, h, _⟩ => sq_of h) (fun a n x σ' H' H2 hx ⟨last, y4, y5, y6, hσ, hI, ha, kp, hg⟩ e2 => ?_) (fun a σ' H' ⟨last, y4, y5, y6, hσ, hI, ha, kp, hg⟩ => ?_)
    · subst hσ
      unfold strsV at hx
      rw [List.getElem?_map] at hx
      cases hr' : (linesL l)[n]? with
      | none => rw [hr'] at hx; cases hx
      | some r =>
        rw [hr'] at hx
        cases Option.some.inj hx
        have hn2 := (List.getElem?_eq_some_iff.mp hr').1
        have hI2 := hmo _ _ _ _ hI e2
        have ha2 := e2 _ _ ha
        rw [drop_cons hr'] at hg
        refine ⟨f, sp, rfl, hS, ?_⟩
        refine ea_cons (ev_var rfl) (ea_cons (ev_var rfl) ea_nil) H2 (Ex.refl _) _ fun H3 e3 => ?_
        have hI3 := hmo _ _ _ _ hI2 e3
        obtain ⟨kvs, hdd⟩ := hdk _ _ _ hI3
        have ha3 := e3 _ _ ha2
        have nad : a ≠ dd := ne_of ha3 hdd (by intro z; cases z)
        have kp3 : Keeps H H3 dd := (kp.post e2).post e3
        refine hst n last r H3 hr' hI3 _ (fun hz H4 k4 _ => ?_) fun k hz H4 k4 _ hI4 => ?_
        · try unfold gName
          dsimp only
          refine q_when (b := true) (et_is (et_or (a := true) (b := true) (et_test (ev_op (ev_var rfl) ev_c fun H1 _ Q q => ⟨rfl, q H1 (Ex.refl H1)⟩)) fun z => nomatch z) rfl) (fun _ H5 e5 => ?_) fun z => nomatch z
          have hg2 : goR rd (linesL l) 1 [] = some (n + 1) := by
            rw [hg]
            show (match rd r with | none => some (n + 1) | some k => _) = _
            rw [hz]
          exact raise1z (W := fun cls d _ H => E cls d H) G.x_InvalidSave.oe G.n_InvalidSave_line (sm_I (by omega) (by omega)) (ev_var rfl) fun d H' e hd => qe (n + 1) hg2 d H' (((kp3.tr k4).post e5).post e) hd
        · try unfold gName
          dsimp only
          have hg2 : goR rd (linesL l) 1 [] = if last < k then goR rd ((linesL l).drop (n + 1)) (n + 1 + 1) k else some (n + 1) := by
            rw [hg]
            show (match rd r with | none => some (n + 1) | some k => if last < k then goR rd ((linesL l).drop (n + 1)) (n + 1 + 1) k else some (n + 1)) = _
            rw [hz]
          refine q_when (b := !decide (last < k)) (et_is (et_or (a := false) (b := !decide (last < k)) (et_is (et_test (ev_op (ev_var rfl) ev_c fun H1 _ Q q => ⟨rfl, q H1 (Ex.refl H1)⟩)) rfl) fun _ => et_test (ev_op (ev_var rfl) (ev_var rfl) fun H1 _ Q q => ⟨_, _, rfl, rfl, q H1 (Ex.refl H1)⟩)) (Bool.false_or _)) (fun hb H5 e5 => ?_) fun hb H5 e5 => ?_
          · have hb2 : ¬ last < k := of_decide_eq_false (nb hb)
            rw [if_neg hb2] at hg2
            exact raise1z (W := fun cls d _ H => E cls d H) G.x_InvalidSave.oe G.n_InvalidSave_line (sm_I (by omega) (by omega)) (ev_var rfl) fun d H' e hd => qe (n + 1) hg2 d H' (((kp3.tr k4).post e5).post e) hd
          · have hb2 : last < k := of_decide_eq_true (nf hb)
            rw [if_pos hb2] at hg2
            exact s_asg (v := .str (S k)) (ev_var rfl) fun H6 e6 => ⟨k, some (.int ((n : Int) + 1)), some (.str (S r)), some (.str (S k)), rfl, hmo _ _ _ _ (hI4 hb2) (e5.trans e6), e6 _ _ (e5 _ _ (k4 _ _ ha3 nad)), ((kp3.tr k4).post e5).post e6, hg2⟩
    · subst hσ
      rw [sl] at hI hg
      rw [List.drop_length] at hg
      exact s_ret (ev_var rfl) fun H2 e2 => q hg last H2 (hmo _ _ _ _ hI e2) (kp.post e2)
/-! ### a tree, settings from any text -/
def nmE (l : List Nat) : Option (List Nat) := (rdE l).map (·.1)
def nmS (l : List Nat) : Option (List Nat) := (rdS l).map (·.1)
def Sz (l : List Nat) : Prop := l.length ≤ 8000 ∧ (linesL l).length < 59
theorem lines_len {l x : List Nat} (h : x ∈ linesL l) : x.length ≤ l.length := by
  unfold linesL at h
  split at h
  · cases h
  · exact cut1_part h
/-- what is read so far -/
structure UpTo {α : Type} (es : List (List Nat × α)) (last : List Nat) (ln : List Nat × α → List Nat) (ls : List (List Nat)) (i : Nat) : Prop where
  ls : es.map ln = ls.take i
  a : Asc es
  le : ∀ x ∈ es, x.1 ≤ last
theorem UpTo.new {α : Type} {es : List (List Nat × α)} {last : List Nat} {ln : List Nat × α → List Nat} {ls : List (List Nat)} {i : Nat} (u : UpTo es last ln ls i) {k x : List Nat} {e : α} (hx : ls[i]? = some x) (hl : ln (k, e) = x) (h : last < k) : look es k = none ∧ UpTo (es ++ [(k, e)]) k ln ls (i + 1) := by
  have hlt : ∀ y ∈ es, y.1 < k := fun y hy => List.lt_of_le_of_lt (u.le y hy) h
  refine ⟨?_, ?_, ?_, fun y hy => ?_⟩
  · cases hk : look es k with
    | none => rfl
    | some e' =>
      have hm := look_mem hk
      exact absurd (hlt _ hm) (List.lt_irrefl _)
  · rw [List.map_append, u.ls, List.take_add_one, hx]
    show _ ++ [ln (k, e)] = _ ++ [x]
    rw [hl]
  · have z : ((es ++ [(k, e)]).map (·.1)).Pairwise (· < ·) := by
      rw [List.map_append, List.pairwise_append]
      refine ⟨u.a, List.pairwise_singleton _ _, fun a ha b hb => ?_⟩
      obtain ⟨y, hy, rfl⟩ := List.mem_map.mp ha
      rw [List.mem_singleton.mp hb]
      exact hlt y hy
    exact z
  · rcases List.mem_append.mp hy with hy | hy
    · exact List.le_of_lt (hlt y hy)
    · rw [List.mem_singleton.mp hy]
      exact List.le_refl _
theorem UpTo.nil {α : Type} {ln : List Nat × α → List Nat} {ls : List (List Nat)} : UpTo ([] : List (List Nat × α)) [] ln ls 0 := ⟨rfl, .nil, fun _ h => nomatch h⟩
theorem put_new {α : Type} {es : List (List Nat × α)} {k : List Nat} {e : α} (h : look es k = none) : put es k e = es ++ [(k, e)] := by
  unfold put
  rw [look_any, h]
  rfl
theorem len_of {α : Type} {es : List (List Nat × α)} {last : List Nat} {ln : List Nat × α → List Nat} {ls : List (List Nat)} {i : Nat} (u : UpTo es last ln ls i) : es.length ≤ ls.length := by
  have z := congrArg List.length u.ls
  rw [List.length_map, List.length_take] at z
  omega
def sp_load_tree (C : Addr) (G : Gx K mg) : Sp := fun vs H Q E => ∃ l : List Nat, vs = [.str (S l)] ∧ Sz l ∧ (∀ n, goR nmE (linesL l) 1 [] = some n → Rzv H E G.c_InvalidSave "line" (.int (n : Int))) ∧
  (goR nmE (linesL l) 1 [] = none → ∀ p d es H', H p = none → H d = none → Ex H H' → Tr C H' p d es → es.length < 59 → Asc es → (∀ x ∈ es, LE x) → es.map entL = linesL l → Q (.ref p) H')
theorem ok_load_tree {f : Addr} {C_Tree C_Store C_StoreReader : Addr} {fd : FuncData} (F : Fun K "load_tree" "load_tree" s_load_tree f fd) (T : Tx mg) (G : Gx K mg) (TC_Tree : Tc_Tree K C_Tree) (TC_Store : Tc_Store K C_Store) (TC_StoreReader : Tc_StoreReader K C_StoreReader) (C__read_lines : Kn.ClX P w K mg base 9 "_read_lines" (sp__read_lines S_ G)) (M_Tree : Kn.Mkr P w K mg base 1 "Tree" C_Tree (sp_Tree___init__ C_Tree K)) {f_read_entry : Addr} (g_read_entry : mg "_read_entry" = some (.ref f_read_entry)) (hS : S_ f_read_entry = some (sp__read_entry C_Tree G)) : FnOk P w K mg base (L2.CX P w) 10 f fd ["text"] (sp_load_tree C_Tree G) := by
  refine F.okX sc_load_tree (fun vs H Q E h => ?_) (fun cdv A outer s H vs Q E hr h => ?_)
  · obtain ⟨l, rfl, _⟩ := h
    rfl
  · obtain ⟨l, rfl, ⟨hl, hn⟩, qe, q⟩ := h
    refine ⟨_, (pss_one (ps_ret (Kn.pe_clX C__read_lines hr (by decide) (by rfl) (takes_of rfl rfl rfl rfl) (pa_cons (pv 0) (pa_cons (pe_glob (v := V.ref f_read_entry) (by rfl) g_read_entry rfl) (pa_cons (Kn.pe_mkr0 M_Tree hr (by decide) (by rfl)) pa_nil)))))), ?_⟩
    refine ⟨_, rfl, ?_⟩
    intro p dx np ndx nex
    refine ⟨p, dx, rfl, upd_same, fun d H1 nd T1 keep => ⟨rfl, ?_⟩⟩
    have e1 : Ex H H1 := fun b o hb => keep b o (by rw [upd_ne (ne_of_none hb np), upd_ne (ne_of_none hb ndx)]; exact hb) (ne_of_none hb np)
    have nd0 : H d = none := by
      cases hz : H d with
      | none => rfl
      | some o =>
        rw [upd_ne (ne_of_none hz np), upd_ne (ne_of_none hz ndx), hz] at nd
        cases nd
    refine ⟨l, f_read_entry, p, d, _, nmE, fun i last H' => ∃ es, Tr C_Tree H' p d es ∧ UpTo es last entL (linesL l) i ∧ (∀ x ∈ es, LE x), rfl, hS, by omega, by omega, ⟨[], T1, .nil, fun _ h => nomatch h⟩, fun i last Ha Hb ⟨es, T, u, g⟩ e => ⟨es, T.mono e, u, g⟩, fun i last Ha ⟨es, T, _⟩ => (by obtain ⟨_, kvs, h, _⟩ := T; exact ⟨kvs, h⟩), fun i last x Ha hx ⟨es, T, u, g⟩ Q' q1 q2 => ?_, fun n hg d' H' k hd' => ?_, fun hg last Ha ⟨es, T, u, g⟩ k => ?_⟩
    · have hxl := lines_len (List.mem_of_getElem? hx)
      have hes := len_of u
      refine ⟨p, d, es, x, rfl, T, by omega, by omega, fun hz es' H' T' k' => ?_, fun y hy H' T' k' => ?_⟩
      · obtain ⟨_, kvs', h', _⟩ := T'
        exact q1 (by unfold nmE; rw [hz]; rfl) H' k' ⟨kvs', h'⟩
      · obtain ⟨ho, hle⟩ := rdE_ok (by omega) hy
        obtain ⟨_, kvs', h', _⟩ := id T'
        refine q2 y.1 (by unfold nmE; rw [hy]; rfl) H' k' ⟨kvs', h'⟩ fun hlt => ?_
        obtain ⟨z1, z2⟩ := u.new (k := y.1) (e := y.2) hx ho hlt
        rw [put_new z1] at T'
        refine ⟨_, T', z2, fun z hz => ?_⟩
        rcases List.mem_append.mp hz with hz | hz
        · exact g z hz
        · rw [List.mem_singleton.mp hz]
          exact hle
    · exact qe n hg d' H' (fun b o hb => k b o (e1 _ _ hb) (ne_of_none hb nd0)) hd'
    · have hes := len_of u
      refine q hg p d es Ha np nd0 (fun b o hb => k b o (e1 _ _ hb) (ne_of_none hb nd0)) T (by omega) u.a g ?_
      rw [u.ls, List.take_length]
def sp_load_settings (G : Gx K mg) : Sp := fun vs H Q E => ∃ l : List Nat, vs = [.str (S l)] ∧ Sz l ∧ (∀ n, goR nmS (linesL l) 1 [] = some n → Rzv H E G.c_InvalidSave "line" (.int (n : Int))) ∧
  (goR nmS (linesL l) 1 [] = none → ∀ d kvs es H', H d = none → Ex H H' → H' d = some (.dK kvs) → Lies (fun t v => v = V.str (S t)) es kvs → es.length < 59 → Asc es → (∀ x ∈ es, x.1.length ≤ 9000 ∧ x.2.length ≤ 9000) → es.map setL = linesL l → Q (.ref d) H')
theorem ok_load_settings {f : Addr} {C_Tree C_Store C_StoreReader : Addr} {fd : FuncData} (F : Fun K "load_settings" "load_settings" s_load_settings f fd) (T : Tx mg) (G : Gx K mg) (TC_Tree : Tc_Tree K C_Tree) (TC_Store : Tc_Store K C_Store) (TC_StoreReader : Tc_StoreReader K C_StoreReader) (C__read_lines : Kn.ClX P w K mg base 9 "_read_lines" (sp__read_lines S_ G)) {f_read_setting : Addr} (g_read_setting : mg "_read_setting" = some (.ref f_read_setting)) (hS : S_ f_read_setting = some (sp__read_setting G)) : FnOk P w K mg base (L2.CX P w) 10 f fd ["text"] (sp_load_settings G) := by
  refine F.okX sc_load_settings (fun vs H Q E h => ?_) (fun cdv A outer s H vs Q E hr h => ?_)
  · obtain ⟨l, rfl, _⟩ := h
    rfl
  · obtain ⟨l, rfl, ⟨hl, hn⟩, qe, q⟩ := h
    refine ⟨_, (pss_one (ps_ret (Kn.pe_clX C__read_lines hr (by decide) (by rfl) (takes_of rfl rfl rfl rfl) (pa_cons (pv 0) (pa_cons (pe_glob (v := V.ref f_read_setting) (by rfl) g_read_setting rfl) (pa_cons pe_dnewK pa_nil)))))), ?_⟩
    refine ⟨_, rfl, ?_⟩
    intro d nd0
    have e1 : Ex H (upd H d (.dK [])) := Ex.new nd0
    have hd : upd H d (.dK []) d = some (.dK []) := upd_same
    show sp__read_lines S_ G [.str (S l), .ref f_read_setting, .ref d] (upd H d (.dK [])) Q E
    generalize upd H d (.dK []) = H1 at e1 hd
    refine ⟨l, f_read_setting, d, d, _, nmS, fun i last H' => ∃ kvs es, H' d = some (.dK kvs) ∧ Lies (fun t v => v = V.str (S t)) es kvs ∧ UpTo es last setL (linesL l) i ∧ (∀ x ∈ es, x.1.length ≤ 9000 ∧ x.2.length ≤ 9000), rfl, hS, by omega, by omega, ⟨[], [], hd, .nil, .nil, fun _ h => nomatch h⟩, fun i last Ha Hb ⟨kvs, es, h, L, u, g⟩ e => ⟨kvs, es, e _ _ h, L, u, g⟩, fun i last Ha ⟨kvs, es, h, _⟩ => ⟨kvs, h⟩, fun i last x Ha hx ⟨kvs, es, h, L, u, g⟩ Q' q1 q2 => ?_, fun n hg d' H' k hd' => ?_, fun hg last Ha ⟨kvs, es, h, L, u, g⟩ k => ?_⟩
    · have hxl := lines_len (List.mem_of_getElem? hx)
      have hes := len_of u
      have hkl := L.len
      refine ⟨d, kvs, x, rfl, h, by omega, by omega, fun hz kvs' H' h' k' => ?_, fun y hy H' h' k' => ?_⟩
      · exact q1 (by unfold nmS; rw [hz]; rfl) H' k' ⟨kvs', h'⟩
      · obtain ⟨ho, hle⟩ := rdS_ok (by omega) hy
        refine q2 y.1 (by unfold nmS; rw [hy]; rfl) H' k' ⟨_, h'⟩ fun hlt => ?_
        obtain ⟨z1, z2⟩ := u.new (k := y.1) (e := y.2) hx ho hlt
        have z := Lies.put (k := y.1) (e := y.2) (v := V.str (S y.2)) L rfl
        rw [put_new z1] at z
        refine ⟨_, _, h', z, z2, fun z hz => ?_⟩
        rcases List.mem_append.mp hz with hz | hz
        · exact g z hz
        · rw [List.mem_singleton.mp hz]
          exact hle
    · exact qe n hg d' H' (fun b o hb => k b o (e1 _ _ hb) (ne_of_none hb nd0)) hd'
    · have hes := len_of u
      refine q hg d kvs es Ha nd0 (fun b o hb => k b o (e1 _ _ hb) (ne_of_none hb nd0)) h L (by omega) u.a g ?_
      rw [u.ls, List.take_length]
end

--SPLIT
section
variable {P : Program} {w : World} {K : PySem.W.Frag} {mg : Str → Option Value} {base : Heap}
/-! ### the reader -/
def fldD (dt dr : Addr) (lk li : Int) (ct : V) : List (Str × V) := putF "count" ct (putF "last_index" (.int li) (putF "last_key" (.int lk) (putF "rows" (.ref dr) (putF "texts" (.ref dt) []))))
theorem fd_t (dt dr : Addr) (lk li : Int) (ct : V) : (fldD dt dr lk li ct).lookup ("texts" : Str) = some (.ref dt) := by rfl
theorem fd_r (dt dr : Addr) (lk li : Int) (ct : V) : (fldD dt dr lk li ct).lookup ("rows" : Str) = some (.ref dr) := by rfl
theorem fd_k (dt dr : Addr) (lk li : Int) (ct : V) : (fldD dt dr lk li ct).lookup ("last_key" : Str) = some (.int lk) := by rfl
theorem fd_i (dt dr : Addr) (lk li : Int) (ct : V) : (fldD dt dr lk li ct).lookup ("last_index" : Str) = some (.int li) := by rfl
theorem fd_c (dt dr : Addr) (lk li : Int) (ct : V) : (fldD dt dr lk li ct).lookup ("count" : Str) = some ct := by rfl
theorem fd_no (dt dr : Addr) (lk li : Int) (ct : V) {m : Str} (h1 : ¬ m = "count") (h2 : ¬ m = "last_index") (h3 : ¬ m = "last_key") (h4 : ¬ m = "rows") (h5 : ¬ m = "texts") : (fldD dt dr lk li ct).lookup m = none := by
  show List.lookup m [("texts", V.ref dt), ("rows", V.ref dr), ("last_key", V.int lk), ("last_index", V.int li), ("count", ct)] = none
  have e : ∀ x : Str, ¬ m = x → (m == x) = false := fun x h => beq_eq_false_iff_ne.mpr h
  simp only [List.lookup, e _ h1, e _ h2, e _ h3, e _ h4, e _ h5]
structure Rdr (C : Addr) (H : Hp) (p dt dr : Addr) (tx rs : List (Key × V)) (lk li : Int) (ct : V) : Prop where
  ob : ∃ dx, H p = some (.ins C dx (fldD dt dr lk li ct))
  t : H dt = some (.dK tx)
  r : H dr = some (.dK rs)
  nd : dt ≠ dr
theorem Rdr.mono {C : Addr} {H H1 : Hp} {p dt dr : Addr} {tx rs : List (Key × V)} {lk li : Int} {ct : V} (h : Rdr C H p dt dr tx rs lk li ct) (e : Ex H H1) : Rdr C H1 p dt dr tx rs lk li ct := by
  obtain ⟨dx, h1⟩ := h.ob
  exact ⟨⟨dx, e _ _ h1⟩, e _ _ h.t, e _ _ h.r, h.nd⟩
/-- all but the reader's own objects stay -/
def Kp3 (H H' : Hp) (p dt dr : Addr) : Prop := ∀ b o, H b = some o → b ≠ p → b ≠ dt → b ≠ dr → H' b = some o
def sp_StoreReader___init__ (C : Addr) (_ : PySem.W.Frag) : Sp := fun vs H Q _ => ∃ (p dx : Addr), vs = [.ref p] ∧ H p = some (.ins C dx []) ∧ ∀ (dt dr : Addr) (H' : Hp), H dt = none → H dr = none → Rdr C H' p dt dr [] [] 0 (-1) .non → (∀ b o, H b = some o → b ≠ p → H' b = some o) → Q .non H'
theorem ok_StoreReader___init__ {f : Addr} {C_Tree C_Store C_StoreReader : Addr} {fd : FuncData} (F : Fun K "__init__" "StoreReader.__init__" s_StoreReader___init__ f fd) (T : Tx mg) (G : Gx K mg) (TC_Tree : Tc_Tree K C_Tree) (TC_Store : Tc_Store K C_Store) (TC_StoreReader : Tc_StoreReader K C_StoreReader)  : FnOk P w K mg base CX0 1 f fd ["self"] (sp_StoreReader___init__ C_StoreReader K) := by
  refine F.ok sc_StoreReader___init__ (fun vs H Q E h => ?_) (fun cdv A outer s H vs Q E hr h => ?_)
  · obtain ⟨p, dx, rfl, _⟩ := h
    rfl
  · obtain ⟨p, dx, rfl, hp, k⟩ := h
    refine ⟨_, (pss_cons (ps_fld (pv 0) pe_dnewK rfl)
      (pss_cons (ps_fld (pv 0) pe_dnewK rfl)
      (pss_cons (ps_fld (pv 0) pe_int rfl)
      (pss_cons (ps_fld (pv 0) (pe_un un_neg pe_int) rfl)
      (pss_one (ps_fld (pv 0) pe_non rfl)))))), ?_⟩
    intro d hd
    have npd : p ≠ d := ne_of_none hp hd
    refine ⟨_, rfl, p, C_StoreReader, dx, _, rfl, (by rw [upd_ne npd]; exact hp), TC_StoreReader.cl, TC_StoreReader.na_texts, (by show 0 < 1000; decide), ?_⟩
    intro r hr
    have npr : r ≠ p := fun z => by rw [z, upd_same] at hr; cases hr
    rw [upd_ne npr] at hr
    have nrd : r ≠ d := fun z => by rw [z, upd_same] at hr; cases hr
    rw [upd_ne nrd] at hr
    refine ⟨_, rfl, p, C_StoreReader, dx, _, rfl, (by rw [upd_ne npr.symm]; exact upd_same), TC_StoreReader.cl, TC_StoreReader.na_rows, (by show 1 < 1000; decide), ?_⟩
    refine ⟨_, rfl, p, C_StoreReader, dx, _, rfl, upd_same, TC_StoreReader.cl, TC_StoreReader.na_last_key, (by show 2 < 1000; decide), ?_⟩
    refine ⟨1, rfl, _, rfl, p, C_StoreReader, dx, _, rfl, upd_same, TC_StoreReader.cl, TC_StoreReader.na_last_index, (by show 3 < 1000; decide), ?_⟩
    refine ⟨_, rfl, p, C_StoreReader, dx, _, rfl, upd_same, TC_StoreReader.cl, TC_StoreReader.na_count, (by show 4 < 1000; decide), ?_⟩
    refine k d r _ hd hr ⟨⟨dx, upd_same⟩, ?_, ?_, nrd.symm⟩ fun b o hb hne => ?_
    · rw [upd_ne npd.symm, upd_ne npd.symm, upd_ne npd.symm, upd_ne npd.symm, upd_ne nrd.symm, upd_ne npd.symm, upd_same]
    · rw [upd_ne npr, upd_ne npr, upd_ne npr, upd_ne npr, upd_same]
    · rw [upd_ne hne, upd_ne hne, upd_ne hne, upd_ne hne, upd_ne (ne_of_none hb hr), upd_ne hne, upd_ne (ne_of_none hb hd)]
      exact hb
theorem rdr_set {C : Addr} {H H1 : Hp} {p dt dr dx : Addr} {tx rs : List (Key × V)} {lk li lk' li' : Int} {ct ct' : V} (R : Rdr C H p dt dr tx rs lk li ct) (e : Ex H H1) : Rdr C (L2.upd H1 p (.ins C dx (fldD dt dr lk' li' ct'))) p dt dr tx rs lk' li' ct' := by
  obtain ⟨dx', hp⟩ := R.ob
  have np1 : dt ≠ p := ne_of R.t hp (by intro z; cases z)
  have np2 : dr ≠ p := ne_of R.r hp (by intro z; cases z)
  exact ⟨⟨dx, upd_same⟩, by rw [upd_ne np1]; exact e _ _ R.t, by rw [upd_ne np2]; exact e _ _ R.r, R.nd⟩
/-- the rows that are there, with their places -/
def idxL : Rw2 → Nat → List (Nat × List Nat × List Nat)
  | [], _ => []
  | none :: r, i => idxL r (i + 1)
  | some (l, m) :: r, i => (i, l, m) :: idxL r (i + 1)
theorem rowL_idx : ∀ (ys : Rw2) (i : Nat), rowL ys i = (idxL ys i).map fun e => rLn e.1 e.2.1 e.2.2
  | [], _ => rfl
  | none :: r, i => rowL_idx r (i + 1)
  | some (l, m) :: r, i => congrArg (_ :: ·) (rowL_idx r (i + 1))
theorem idxL_mem : ∀ (ys : Rw2) (i : Nat) (e : Nat × List Nat × List Nat), e ∈ idxL ys i → i ≤ e.1 ∧ e.1 < i + ys.length ∧ ys[e.1 - i]? = some (some e.2)
  | [], _, e, h => nomatch h
  | none :: r, i, e, h => by
    obtain ⟨h1, h2, h3⟩ := idxL_mem r (i + 1) e h
    refine ⟨by omega, by rw [List.length_cons]; omega, ?_⟩
    rw [show e.1 - i = (e.1 - (i + 1)) + 1 by omega]
    exact h3
  | some (l, m) :: r, i, e, h => by
    have h : e ∈ (i, l, m) :: idxL r (i + 1) := h
    rcases List.mem_cons.mp h with rfl | h
    · exact ⟨Nat.le_refl i, by rw [List.length_cons]; omega, by rw [Nat.sub_self]; rfl⟩
    · obtain ⟨h1, h2, h3⟩ := idxL_mem r (i + 1) e h
      refine ⟨by omega, by rw [List.length_cons]; omega, ?_⟩
      rw [show e.1 - i = (e.1 - (i + 1)) + 1 by omega]
      exact h3
theorem idxL_in : ∀ (ys : Rw2) (i j : Nat) (l m : List Nat), ys[j]? = some (some (l, m)) → (i + j, l, m) ∈ idxL ys i
  | [], _, _, _, _, h => by simp at h
  | none :: r, i, 0, l, m, h => by cases h
  | some (a, b) :: r, i, 0, l, m, h => by
    cases h
    exact List.mem_cons_self
  | none :: r, i, j + 1, l, m, h => by
    have z := idxL_in r (i + 1) j l m (by simpa using h)
    rw [show i + (j + 1) = i + 1 + j by omega]
    exact z
  | some (a, b) :: r, i, j + 1, l, m, h => by
    have z := idxL_in r (i + 1) j l m (by simpa using h)
    rw [show i + (j + 1) = i + 1 + j by omega]
    exact List.mem_cons_of_mem _ z
theorem pair_of {α β : Type} {F : α → β → Prop} : ∀ {as : List α} {bs : List β}, as.length = bs.length → (∀ (i : Nat) (a : α) (b : β), as[i]? = some a → bs[i]? = some b → F a b) → Paired F as bs
  | [], [], _, _ => .nil
  | a :: as, b :: bs, h, k => .cons (k 0 a b rfl rfl) (pair_of (Nat.succ.inj h) fun i x y h1 h2 => k (i + 1) x y (by simpa using h1) (by simpa using h2))
abbrev Ie := Nat × List Nat × List Nat
def RsO (H : Hp) (rs : List (Key × V)) (es : List Ie) : Prop := Paired (fun (kv : Key × V) (e : Ie) => kv.1 = Sum.inl (e.1 : Int) ∧ RwO H kv.2 (some e.2)) rs es
theorem RsO.keep {H H1 : Hp} {rs : List (Key × V)} {es : List Ie} (h : RsO H rs es) (k : ∀ b xs, H b = some (.tup xs) → H1 b = some (.tup xs)) : RsO H1 rs es := by
  induction h with
  | nil => exact .nil
  | cons z _ ih =>
    obtain ⟨h1, a, h2, h3⟩ := z
    exact .cons ⟨h1, a, h2, k _ _ h3⟩ ih
theorem putK_new {kvs : List (Key × V)} {k : Key} {v : V} (h : k ∉ kvs.map (·.1)) : putK kvs k v = kvs ++ [(k, v)] := by
  rcases keysK kvs k v with z | ⟨_, z⟩
  · unfold putK at z ⊢
    split
    · rename_i hh
      obtain ⟨x, hx, e⟩ := List.any_eq_true.mp hh
      exact absurd (List.mem_map.mpr ⟨x, hx, of_decide_eq_true e⟩) h
    · rfl
  · unfold putK
    split
    · rename_i hh
      obtain ⟨x, hx, e⟩ := List.any_eq_true.mp hh
      exact absurd (List.mem_map.mpr ⟨x, hx, of_decide_eq_true e⟩) h
    · rfl
theorem RsO.keys {H : Hp} : ∀ {rs : List (Key × V)} {es : List Ie}, RsO H rs es → rs.map (·.1) = es.map fun e => Sum.inl (e.1 : Int)
  | _, _, .nil => rfl
  | _, _, .cons h r => by
    rw [List.map_cons, List.map_cons, h.1]
    exact congrArg (_ :: ·) (RsO.keys r)
theorem RsO.snoc {H : Hp} : ∀ {rs : List (Key × V)} {es : List Ie} {kv : Key × V} {e : Ie}, RsO H rs es → kv.1 = Sum.inl (e.1 : Int) → RwO H kv.2 (some e.2) → RsO H (rs ++ [kv]) (es ++ [e])
  | _, _, _, _, .nil, h1, h2 => .cons ⟨h1, h2⟩ .nil
  | _, _, _, _, .cons h r, h1, h2 => .cons h (RsO.snoc r h1 h2)
theorem RsO.val {H : Hp} : ∀ {rs : List (Key × V)} {es : List Ie}, RsO H rs es → (es.map (·.1)).Pairwise (· < ·) → ∀ e ∈ es, ∃ v, valV rs (Sum.inl (e.1 : Int) : Key) = some v ∧ RwO H v (some e.2)
  | _, _, .nil, _, _, h => nomatch h
  | kv :: rs, f :: es, .cons h r, hp, e, he => by
    have hp' := List.pairwise_cons.mp hp
    show ∃ v, (((kv :: rs).find? fun p => decide (p.1 = (Sum.inl (e.1 : Int) : Key))).map Prod.snd) = some v ∧ _
    rcases List.mem_cons.mp he with rfl | hm
    · rw [List.find?_cons_of_pos (by simpa using h.1)]
      exact ⟨_, rfl, h.2⟩
    · have hlt := hp'.1 e.1 (List.mem_map.mpr ⟨e, hm, rfl⟩)
      rw [List.find?_cons_of_neg (by
        rw [h.1]
        simp only [decide_eq_true_eq]
        intro z
        have : (f.1 : Int) = (e.1 : Int) := Sum.inl.inj z
        exact (Int.ne_of_lt (Int.ofNat_lt.mpr hlt)) this)]
      exact RsO.val r hp'.2 e hm
theorem RsO.non {H : Hp} : ∀ {rs : List (Key × V)} {es : List Ie}, RsO H rs es → ∀ i : Nat, i ∉ es.map (·.1) → valV rs (Sum.inl (i : Int) : Key) = none
  | _, _, .nil, _, _ => rfl
  | kv :: rs, f :: es, .cons h r, i, hi => by
    show (((kv :: rs).find? fun p => decide (p.1 = (Sum.inl (i : Int) : Key))).map Prod.snd) = none
    rw [List.find?_cons_of_neg (by
      rw [h.1]
      simp only [decide_eq_true_eq]
      intro z
      have : (f.1 : Int) = (i : Int) := Sum.inl.inj z
      exact hi (List.mem_cons.mpr (.inl (Int.ofNat_inj.mp this).symm)))]
    exact RsO.non r i fun z => hi (List.mem_cons_of_mem _ z)
theorem q_forEn1V {σ : L2.St} {H : Hp} {D : Ends} {tu tz : TS} {tk : TA} {xs : List V} {tl : TE} {i j : Nat} {a : Addr} (h : Ev tl σ H (.ref a)) (hx : SqL K H a xs) (hk : ∀ H1, EvA tk σ H1 [.int 1]) (Pv : Nat → L2.St → Hp → Prop) (h0 : ∀ H1, Ex H H1 → Pv 0 σ H1) (hl : ∀ n σ' H', n ≤ xs.length → Pv n σ' H' → SqL K H' a xs)
    (hs : ∀ n x σ' H' H2, xs[n]? = some x → Pv n σ' H' → Ex H' H2 → tu { D with nx := Pv (n + 1), ct := Pv (n + 1), bk := tz D } ((σ'.set i (some (.int ((n : Int) + 1)))).set j (some x)) H2) (hd : ∀ σ' H', Pv xs.length σ' H' → tz D σ' H') :
    tSeq (tFor (iEnum1 K (tCons tl tNil) tk) (gTup K 2 (gCons (gName i) (gCons (gName j) gNil))) tu) tz D σ H :=
  h H (Ex.refl H) _ fun H1 e => hk H1 H1 (Ex.refl H1) _ fun H2 e2 => ⟨a, xs, rfl, rfl, ex_l (e.trans e2) hx, for_it (D := { D with nx := tz D }) walk_enum1 Pv (h0 H2 (e.trans e2)) hl (fun n v σ' H2 H3 hn p y => by
    obtain ⟨T, u, w, rfl, nT, rfl, hu, hw⟩ := y
    cases hu
    exact unp2 upd_same (hs n w σ' H2 _ hw p (Ex.new nT))) hd⟩
theorem ev_dget1I {σ : L2.St} {H : Hp} {td ty : TE} {d : Addr} {k : Int} {kvs : List (Key × V)} (h1 : Ev td σ H (.ref d)) (h2 : Ev ty σ H (.int k)) (hd : H d = some (.dK kvs)) : Ev (tDGet1 td ty) σ H ((valV kvs (Sum.inl k)).getD .non) := fun H1 e Q q =>
  h1 H1 e _ fun H2 e2 => ⟨d, rfl, .inl ⟨kvs, .inl ((e.trans e2) _ _ hd)⟩, h2 H2 (e.trans e2) _ fun H3 e3 => ⟨_, DGet.k (k := (Sum.inl k : Key)) (((e.trans e2).trans e3) _ _ hd), q H3 (e2.trans e3)⟩⟩
theorem s_notB {σ : L2.St} {H : Hp} {D : Ends} {te : TE} {tu : TS} (h : te σ H fun x H1 => ∃ c, x = .bl c ∧ if (!c) = true then tu D σ H1 else tNext D σ H1) : tIfS (tNot (tB te)) tu tNext D σ H := h
theorem Kp3.tup {H H' : Hp} {C p dt dr : Addr} {tx rs : List (Key × V)} {lk li : Int} {ct : V} (k : Kp3 H H' p dt dr) (R : Rdr C H p dt dr tx rs lk li ct) : ∀ b xs, H b = some (.tup xs) → H' b = some (.tup xs) := fun b xs hb => by
  obtain ⟨dx, hp⟩ := R.ob
  exact k b _ hb (ne_of hb hp (by intro z; cases z)) (ne_of hb R.t (by intro z; cases z)) (ne_of hb R.r (by intro z; cases z))
theorem et_ninT {σ : L2.St} {H : Hp} {ta tb : TE} {x : V} {xs : List V} (ha : Ev ta σ H x) (hb : EvU tb σ H xs) (hx : flatV x = true) (hs : xs.all flatV = true) : EvT (tTest (tOp (rIn K true) ta tb)) σ H (!inV x xs) :=
  et_test fun H1 e Q q => ha H1 e _ fun H2 e2 => hb H2 (e.trans e2) _ fun p H3 np e3 hp => rv_inT (neg := true) (st_of hp) hx hs H3 (Ex.refl _) Q fun H4 e4 => q H4 ((e2.trans e3).trans e4)
theorem q_dputIU {σ : L2.St} {H : Hp} {D : Ends} {tz : TS} {td ty tv : TE} {d : Addr} {k : Int} {kvs : List (Key × V)} {xs : List V} (hv : EvU tv σ H xs) (h1 : ∀ H1, Ex H H1 → Ev td σ H1 (.ref d)) (h2 : ∀ H1, Ex H H1 → Ev ty σ H1 (.int k)) (hd : H d = some (.dK kvs)) (hl : kvs.length < 100000)
    (q : ∀ t H1, H t = none → Ex H H1 → H1 t = some (.tup xs) → tz D σ (L2.upd H1 d (.dK (putK kvs (Sum.inl k) (.ref t))))) : tSeq (sDPut td ty tv) tz D σ H :=
  hv H (Ex.refl H) _ fun t H1 nt e1 ht => by
    have z := s_dputI (D := { D with nx := tz D }) (tv := tC (.ref t)) (ev_c (v := .ref t)) (fun H2 e2 => h1 H2 (e1.trans e2)) (fun H2 e2 => h2 H2 (e1.trans e2)) (e1 _ _ hd) hl fun H2 e2 => q t H2 nt (e1.trans e2) (e2 _ _ ht)
    exact z
theorem Kp3.pre {H H1 H' : Hp} {p dt dr : Addr} (e : Ex H H1) (k : Kp3 H1 H' p dt dr) : Kp3 H H' p dt dr := fun b o hb h1 h2 h3 => k b o (e _ _ hb) h1 h2 h3
/-! ### != of any dict and an empty one -/
theorem neE_run {X : Cx} {pins : List (Addr × Obj)} {σ : L2.St} {H : Hp} {s : Shared} {a b : Addr} {A : Around} {E Q : Value → Shared → Prop} {ks : List (Key × V)} (I : Inv X pins σ H s) (hu : A.units < cLine)
    (h1 : H a = some (.dK ks)) (h2 : H b = some (.dK [])) (hk : ks ≠ []) (q : Q (.bool true) s) : wpAny (model X.prog X.w) A (richCompare .NotEq (.ref a) (.ref b)) Q E s := by
  obtain ⟨_, ya, va, ra, da⟩ := I.hok a _ h1
  obtain ⟨_, yb, vb, rb, db⟩ := I.hok b _ h2
  have hv : ¬ va.length = vb.length := by rw [← ra.length, ← rb.length]; exact fun z => hk (List.length_eq_zero_iff.mp z)
  refine wpAny_richCompare_same_room (op := .NotEq) da.typeIs db.typeIs PySem.F.slot_dict_ne (wpAny_call_entry PySem.F.slot_dict_ne da.typeIs PySem.F.entry_dict_ne (b := Builtin.«dict.__ne__») ?_ (PySem.F.args_dict_ne_2 _ _)) hu
  show wpAny _ _ (Builtin.Dict.dictSlotArgs "__ne__" ⟨[Value.ref a, Value.ref b], []⟩ >>= _) _ _ s
  refine wpAny_bind ?_
  unfold Builtin.Dict.dictSlotArgs
  refine wpAny_bind (wpAny_notOrdered_dict da.typeIs ?_)
  show wpAny _ _ (pure (Value.ref a, Value.ref b)) _ _ s
  refine wpAny_pure (wpAny_bind (wpAny_isInstance (T := "dict") db.typeIs PySem.F.sub_dict_dict ?_))
  rw [show (!true) = false from rfl]
  simp only [Bool.false_eq_true, if_false]
  refine wpAny_bind (wpAny_pure (wpAny_bind (wpAny_pure (wpAny_bind (PySem.W.samePairsP (r := true) ya yb da db (fun z => absurd z hv) ?_)))))
  refine wpAny_pure ⟨_, rfl, (fun x => nomatch x), ?_⟩
  have z : (va.length == vb.length) = false := beq_eq_false_iff_ne.mpr hv
  rw [z]
  exact q
def rNeE (K : PySem.W.Frag) : R2 := fun x y H Q => ∃ a b ks, x = .ref a ∧ y = .ref b ∧ H a = some (.dK ks) ∧ H b = some (.dK []) ∧ Q (.bl (!ks.isEmpty)) H
theorem op_neE {X : Cx} (hu : X.A.units + 64 < cLine) : OpR X (compareOp .NotEq) (rNeE X.K) := by
  intro pins s σ H x y v u Q I rx ry h
  obtain ⟨a, b, ks, rfl, rfl, ha, hb, q⟩ := h
  cases (show v = Value.ref a from rx)
  cases (show u = Value.ref b from ry)
  cases ks with
  | nil => exact neD_run I (A := X.A) (by omega) (eqW_run I 1 X.A.in1 (by show X.A.units + 1 + 1 < cLine; omega)) ha hb rfl (fun _ h => nomatch h) ⟨.bl false, H, I, rfl, q⟩
  | cons k r => exact neE_run I (A := X.A) (by omega) ha hb (List.cons_ne_nil _ _) ⟨.bl true, H, I, rfl, q⟩
/-! ### the store's lines, read -/
structure SR where
  tx : Tx2
  es : List Ie
  lk : Int
  li : Int
  ct : Option Nat
def SR0 : SR := ⟨[], [], 0, -1, none⟩
def ctO (s : SR) (l m : List Nat) : Option SR := if (!s.es.isEmpty || (!okText l || !okText m)) = true then none else if ((key l : Nat) : Int) ≤ s.lk then none else some ⟨s.tx ++ [(l, m)], s.es, ((key l : Nat) : Int), s.li, s.ct⟩
def rcO (s : SR) (i : Nat) (l m : List Nat) : Option SR := if (decide ((i : Int) ≤ s.li) || (!okText l || !okText m)) = true then none else some ⟨s.tx, s.es ++ [(i, l, m)], s.lk, (i : Int), s.ct⟩
def cnO (s : SR) (n : Nat) : Option SR := if (n : Int) ≤ s.li then none else some ⟨s.tx, s.es, s.lk, s.li, some n⟩
abbrev dv (l : List Nat) : Nat := NumText.digitsVal l
def stepP (s : SR) (line : List Nat) : List (List Nat) → Option SR
  | [_, l, m] => if cLn l m = line then ctO s l m else none
  | [_, a] => if isN4 a = true then (if nLn (dv a) = line then cnO s (dv a) else none) else none
  | [_, a, l, m] => if isN4 a = true then (if rLn (dv a) l m = line then rcO s (dv a) l m else if nLn (dv a) = line then cnO s (dv a) else none) else none
  | _ => none
def stepL (s : SR) (line : List Nat) : Option SR := match s.ct with
  | some _ => none
  | none => stepP s line (PT line)
theorem dv_lt {l : List Nat} (h : isN4 l = true) : dv l < 10000 := by
  obtain ⟨h1, _, h3⟩ := isN4_dig h
  have z : ∀ (n : Nat) (l : List Nat), l.length = n → NumText.AllDigits l → dv l < 10 ^ n := by
    intro n
    induction n with
    | zero =>
      intro l hl _
      cases List.length_eq_zero_iff.mp hl
      decide
    | succ n ih =>
      intro l hl ha
      have hne : l ≠ [] := fun z => by rw [z] at hl; cases hl
      have e := List.dropLast_concat_getLast hne
      rw [← e]
      have z1 := ih l.dropLast (by rw [List.length_dropLast]; omega) fun c hc => ha c (List.dropLast_subset _ hc)
      have z2 := ha (l.getLast hne) (List.getLast_mem hne)
      show NumText.digitsVal _ < _
      rw [NumText.digitsVal_snoc]
      have z3 : l.getLast hne - 48 ≤ 9 := by
        have := z2.2
        omega
      have z1 : NumText.digitsVal l.dropLast < 10 ^ n := z1
      rw [Nat.pow_succ]
      omega
  have y := z l.length l rfl h1
  have x : 10 ^ l.length ≤ 10 ^ 4 := Nat.pow_le_pow_right (by decide) h3
  have w : (10 : Nat) ^ 4 = 10000 := by decide
  omega
structure SI (s : SR) (ls : List (List Nat)) : Prop where
  ls : ls = (s.tx.map (fun x : List Nat × List Nat => cLn x.1 x.2) ++ s.es.map fun e : Ie => rLn e.1 e.2.1 e.2.2) ++ (match s.ct with | none => [] | some n => [nLn n])
  tp : (s.tx.map kO).Pairwise (· < ·)
  tl : ∀ x ∈ s.tx, kO x ≤ s.lk
  ep : (s.es.map (·.1)).Pairwise (· < ·)
  el : ∀ e ∈ s.es, (e.1 : Int) ≤ s.li
  tk : ∀ x ∈ s.tx, TxK x.1 ∧ TxK x.2
  ek : ∀ e ∈ s.es, TxK e.2.1 ∧ TxK e.2.2
  ct : ∀ n, s.ct = some n → s.li < (n : Int) ∧ n < 10000
theorem SI.zero : SI SR0 [] := ⟨rfl, .nil, (fun _ h => nomatch h), .nil, (fun _ h => nomatch h), (fun _ h => nomatch h), (fun _ h => nomatch h), fun n h => nomatch h⟩
theorem pw_snoc {α β : Type} {f : α → β} {R : β → β → Prop} {l : List α} {x : α} (h : (l.map f).Pairwise R) (k : ∀ y ∈ l, R (f y) (f x)) : ((l ++ [x]).map f).Pairwise R := by
  rw [List.map_append, List.pairwise_append]
  refine ⟨h, List.pairwise_singleton _ _, fun a ha b hb => ?_⟩
  obtain ⟨y, hy, rfl⟩ := List.mem_map.mp ha
  rw [List.mem_singleton.mp hb]
  exact k y hy
theorem SI.cont {s s' : SR} {ls : List (List Nat)} {l m : List Nat} (I : SI s ls) (hc : s.ct = none) (h1 : l.length ≤ 690) (h2 : m.length ≤ 690) (h : ctO s l m = some s') : SI s' (ls ++ [cLn l m]) := by
  unfold ctO at h
  split at h
  · cases h
  · next h0 =>
    rw [Bool.not_eq_true, Bool.or_eq_false_iff, Bool.or_eq_false_iff, Bool.not_eq_false', Bool.not_eq_false', Bool.not_eq_false', List.isEmpty_iff] at h0
    obtain ⟨ze, zl, zm⟩ := h0
    split at h
    · cases h
    · next hk =>
      cases h
      have tk : TxK l ∧ TxK m := ⟨⟨h1, zl⟩, h2, zm⟩
      refine ⟨?_, pw_snoc I.tp fun y hy => ?_, fun x hx => ?_, I.ep, I.el, fun x hx => ?_, I.ek, I.ct⟩
      · rw [I.ls]
        dsimp only
        rw [ze, hc, List.map_append]
        simp
      · have := I.tl y hy
        show kO y < ((key l : Nat) : Int)
        omega
      · rcases List.mem_append.mp hx with hx | hx
        · have := I.tl x hx
          show kO x ≤ ((key l : Nat) : Int)
          omega
        · rw [List.mem_singleton.mp hx]
          exact Int.le_refl _
      · rcases List.mem_append.mp hx with hx | hx
        · exact I.tk x hx
        · rw [List.mem_singleton.mp hx]
          exact tk
theorem SI.rcd {s s' : SR} {ls : List (List Nat)} {i : Nat} {l m : List Nat} (I : SI s ls) (hc : s.ct = none) (h1 : l.length ≤ 690) (h2 : m.length ≤ 690) (h : rcO s i l m = some s') : SI s' (ls ++ [rLn i l m]) := by
  unfold rcO at h
  split at h
  · cases h
  · next h0 =>
    rw [Bool.not_eq_true, Bool.or_eq_false_iff, Bool.or_eq_false_iff, Bool.not_eq_false', Bool.not_eq_false', decide_eq_false_iff_not] at h0
    obtain ⟨ze, zl, zm⟩ := h0
    cases h
    have tk : TxK l ∧ TxK m := ⟨⟨h1, zl⟩, h2, zm⟩
    refine ⟨?_, I.tp, I.tl, pw_snoc I.ep fun y hy => ?_, fun x hx => ?_, I.tk, fun x hx => ?_, fun n hn => ?_⟩
    · rw [I.ls]
      dsimp only
      rw [hc, List.map_append]
      simp
    · have := I.el y hy
      show y.1 < i
      omega
    · rcases List.mem_append.mp hx with hx | hx
      · have := I.el x hx
        show (x.1 : Int) ≤ (i : Int)
        omega
      · rw [List.mem_singleton.mp hx]
        exact Int.le_refl _
    · rcases List.mem_append.mp hx with hx | hx
      · exact I.ek x hx
      · rw [List.mem_singleton.mp hx]
        exact tk
    · have hn : s.ct = some n := hn
      rw [hc] at hn
      cases hn
theorem SI.cnt {s s' : SR} {ls : List (List Nat)} {n : Nat} (I : SI s ls) (hc : s.ct = none) (hn : n < 10000) (h : cnO s n = some s') : SI s' (ls ++ [nLn n]) := by
  unfold cnO at h
  split at h
  · cases h
  · next h0 =>
    cases h
    refine ⟨?_, I.tp, I.tl, I.ep, I.el, I.tk, I.ek, fun k hk => ?_⟩
    · rw [I.ls]
      dsimp only
      rw [hc]
      simp
    · cases hk
      exact ⟨by show s.li < (n : Int); omega, hn⟩
theorem SI.step {s s' : SR} {ls : List (List Nat)} {x : List Nat} (I : SI s ls) (hx : x.length ≤ 680) (h : stepL s x = some s') : SI s' (ls ++ [x]) := by
  have hp := (PT_len x).1
  unfold stepL at h
  split at h
  · cases h
  · next hc =>
    unfold stepP at h
    split at h
    · next a l m he =>
      rw [he] at hp
      have h1 := hp l (by simp)
      have h2 := hp m (by simp)
      split at h
      · next e =>
        rw [← e]
        exact I.cont hc (by omega) (by omega) h
      · cases h
    · next a b he =>
      split at h
      · next hn =>
        split at h
        · next e =>
          rw [← e]
          exact I.cnt hc (dv_lt hn) h
        · cases h
      · cases h
    · next a b l m he =>
      rw [he] at hp
      have h1 := hp l (by simp)
      have h2 := hp m (by simp)
      split at h
      · next hn =>
        split at h
        · next e =>
          rw [← e]
          exact I.rcd hc (by omega) (by omega) h
        · split at h
          · next e =>
            rw [← e]
            exact I.cnt hc (dv_lt hn) h
          · cases h
      · cases h
    · cases h
def ctV : Option Nat → V
  | none => .non
  | some n => .int (n : Int)
def RdI (C : Addr) (H : Hp) (p dt dr : Addr) (s : SR) : Prop := ∃ rs, Rdr C H p dt dr (kvO s.tx) rs s.lk s.li (ctV s.ct) ∧ RsO H rs s.es
theorem RdI.mono {C : Addr} {H H1 : Hp} {p dt dr : Addr} {s : SR} (h : RdI C H p dt dr s) (e : Ex H H1) : RdI C H1 p dt dr s := by
  obtain ⟨rs, R, b⟩ := h
  exact ⟨rs, R.mono e, b.keep fun b xs hb => e _ _ hb⟩
theorem kvO_snoc (a : Tx2) (x : List Nat × List Nat) : kvO (a ++ [x]) = kvO a ++ [(Sum.inl (kO x), V.str (S x.2))] := by
  unfold kvO
  rw [List.map_append]
  rfl
theorem kvO_len (tx : Tx2) : (kvO tx).length = tx.length := List.length_map _
theorem put_c {s : SR} {ls : List (List Nat)} {l m : List Nat} (I : SI s ls) (h : ¬ ((key l : Nat) : Int) ≤ s.lk) : putK (kvO s.tx) (Sum.inl ((key l : Nat) : Int)) (.str (S m)) = kvO (s.tx ++ [(l, m)]) := by
  rw [kvO_snoc, putK_new]
  · rfl
  · intro hm
    unfold kvO at hm
    rw [List.map_map] at hm
    obtain ⟨y, hy, e⟩ := List.mem_map.mp hm
    have e : kO y = ((key l : Nat) : Int) := Sum.inl.inj e
    have := I.tl y hy
    omega
theorem put_r {H : Hp} {s : SR} {ls : List (List Nat)} {rs : List (Key × V)} {i : Nat} {v : V} (I : SI s ls) (b : RsO H rs s.es) (h : ¬ (i : Int) ≤ s.li) : putK rs (Sum.inl (i : Int)) v = rs ++ [(Sum.inl (i : Int), v)] := by
  refine putK_new fun hm => ?_
  rw [b.keys] at hm
  obtain ⟨y, hy, e⟩ := List.mem_map.mp hm
  have e : (y.1 : Int) = (i : Int) := Sum.inl.inj e
  have := I.el y hy
  omega
def sp_StoreReader__read_count (C : Addr) (_ : PySem.W.Frag) : Sp := fun vs H Q _ => ∃ (p dt dr : Addr) (s : SR) (n : Nat), vs = [.ref p, .int (n : Int)] ∧ RdI C H p dt dr s ∧
  (cnO s n = none → ∀ H', Ex H H' → Q (.bl false) H') ∧ (∀ s', cnO s n = some s' → ∀ H', RdI C H' p dt dr s' → Kp3 H H' p dt dr → Q (.bl true) H')
theorem ok_StoreReader__read_count {f : Addr} {C_Tree C_Store C_StoreReader : Addr} {fd : FuncData} (F : Fun K "_read_count" "StoreReader._read_count" s_StoreReader__read_count f fd) (T : Tx mg) (G : Gx K mg) (TC_Tree : Tc_Tree K C_Tree) (TC_Store : Tc_Store K C_Store) (TC_StoreReader : Tc_StoreReader K C_StoreReader)  : FnOk P w K mg base CX0 1 f fd ["self", "count"] (sp_StoreReader__read_count C_StoreReader K) := by
  refine F.ok sc_StoreReader__read_count (fun vs H Q E h => ?_) (fun cdv A outer s H vs Q E hr h => ?_)
  · obtain ⟨p, dt, dr, s, n, rfl, _⟩ := h
    rfl
  · obtain ⟨p, dt, dr, ⟨tx, es, lk, li, ct⟩, n, rfl, ⟨rs, R, b⟩, qn, qs⟩ := h
    refine ⟨_, (pss_cons (ps_if (pt_cmpR op_le (pv 1) (pe_fld (pv 0) rfl) (nomark _)) (pss_one (ps_ret pe_bl)) pss_nil)
      (pss_cons (ps_fld (pv 0) (pv 1) rfl)
      (pss_one (ps_ret pe_bl)))), ?_⟩
    obtain ⟨dx, hp⟩ := R.ob
    refine q_when (b := decide ((n : Int) ≤ li)) (et_test (ev_op (ev_var rfl) (ev_fld (ev_var rfl) hp TC_StoreReader.cl TC_StoreReader.na_last_index (fd_i dt dr lk li (ctV ct))) rv_le)) (fun hb H1 e1 => ?_) fun hb H1 e1 => ?_
    · exact s_ret (v := .bl false) ev_c fun H2 e2 => qn (by unfold cnO; exact if_pos (of_decide_eq_true hb)) H2 (e1.trans e2)
    · have np1 : dt ≠ p := ne_of R.t hp (by intro z; cases z)
      have np2 : dr ≠ p := ne_of R.r hp (by intro z; cases z)
      refine ⟨_, rfl, _, rfl, p, C_StoreReader, dx, _, rfl, e1 _ _ hp, TC_StoreReader.cl, TC_StoreReader.na_count, (by show 5 < 1000; decide), ?_⟩
      dsimp only
      refine s_ret (v := .bl true) ev_c fun H2 e2 => ?_
      have kk : Kp3 H H2 p dt dr := fun b o hb h1 _ _ => e2 _ _ (by rw [upd_ne h1]; exact e1 _ _ hb)
      exact qs ⟨tx, es, lk, li, some n⟩ (by unfold cnO; exact if_neg (of_decide_eq_false hb)) H2 ⟨rs, (rdr_set (ct' := .int (n : Int)) R e1).mono e2, b.keep (kk.tup R)⟩ kk
def sp_StoreReader__read_content (C : Addr) (_ : PySem.W.Frag) : Sp := fun vs H Q _ => ∃ (p dt dr : Addr) (s : SR) (ls : List (List Nat)) (l m : List Nat), vs = [.ref p, .str (S l), .str (S m)] ∧ RdI C H p dt dr s ∧ SI s ls ∧ s.tx.length < 1000 ∧ l.length ≤ 690 ∧ m.length ≤ 690 ∧
  (ctO s l m = none → ∀ H', Ex H H' → Q (.bl false) H') ∧ (∀ s', ctO s l m = some s' → ∀ H', RdI C H' p dt dr s' → Kp3 H H' p dt dr → Q (.bl true) H')
theorem ok_StoreReader__read_content {f : Addr} {C_Tree C_Store C_StoreReader : Addr} {fd : FuncData} (F : Fun K "_read_content" "StoreReader._read_content" s_StoreReader__read_content f fd) (T : Tx mg) (G : Gx K mg) (TC_Tree : Tc_Tree K C_Tree) (TC_Store : Tc_Store K C_Store) (TC_StoreReader : Tc_StoreReader K C_StoreReader) (C_is_text : Kn.Cl P w K mg base 2 "is_text" (sp_is_text K)) (C_content_key : Kn.Cl P w K mg base 1 "content_key" (sp_content_key K)) : FnOk P w K mg base CX0 3 f fd ["self", "right", "kept"] (sp_StoreReader__read_content C_StoreReader K) := by
  refine F.ok sc_StoreReader__read_content (fun vs H Q E h => ?_) (fun cdv A outer s H vs Q E hr h => ?_)
  · obtain ⟨p, dt, dr, s, ls, l, m, rfl, _⟩ := h
    rfl
  · obtain ⟨p, dt, dr, ⟨tx, es, lk, li, ct⟩, ls, l, m, rfl, ⟨rs, R, b⟩, I, hz, hl1, hm1, qn, qs⟩ := h
    refine ⟨_, (pss_cons (ps_if (PW.pt (pw_or (pt_cmpR (op_neE hr.units) (pe_fld (pv 0) rfl) pe_dnewK (nomark _)) (pw_or (pt_not (pt_val (Kn.pe_cl C_is_text hr (by decide) (by rfl) (pa_cons (pv 1) pa_nil)))) (pw_or1 (pt_not (pt_val (Kn.pe_cl C_is_text hr (by decide) (by rfl) (pa_cons (pv 2) pa_nil)))))))) (pss_one (ps_ret pe_bl)) pss_nil)
      (pss_cons (ps_set (i := 3) sc_StoreReader__read_content.nd rfl (Or.inl rfl) (Kn.pe_cl C_content_key hr (by decide) (by rfl) (pa_cons (pv 1) pa_nil)))
      (pss_cons (ps_if (pt_cmpR op_le (pv 3) (pe_fld (pv 0) rfl) (nomark _)) (pss_one (ps_ret pe_bl)) pss_nil)
      (pss_cons (ps_dput (hu_of hr) (pe_fld (pv 0) rfl) (pv 3) (pv 2) rfl)
      (pss_cons (ps_fld (pv 0) (pv 3) rfl)
      (pss_one (ps_ret pe_bl))))))), ?_⟩
    have hz : tx.length < 1000 := hz
    obtain ⟨dx, hp⟩ := R.ob
    have hre : rs.isEmpty = es.isEmpty := by
      have z := pair_len b
      dsimp only at z
      cases rs <;> cases es <;> first | rfl | cases z
    refine q_when (b := !es.isEmpty || (!okText l || !okText m)) (et_or (a := !es.isEmpty) (b := !okText l || !okText m) (et_test fun H1 e1 Q q => ev_fld (ev_var rfl) (e1 _ _ hp) TC_StoreReader.cl TC_StoreReader.na_rows (fd_r dt dr lk li (ctV ct)) H1 (Ex.refl H1) _ fun H2 e2 => fun d hd => ⟨dr, d, rs, rfl, rfl, ?_, upd_same, ?_⟩) fun _ => et_or (a := !okText l) (b := !okText m) (et_not (et_B (ev_c1 (a := l) (ea_cons (ev_var rfl) ea_nil) fun _ _ => (by show l.length ≤ 40000; omega)))) fun _ => et_not (et_B (ev_c1 (a := m) (ea_cons (ev_var rfl) ea_nil) fun _ _ => (by show m.length ≤ 40000; omega)))) (fun hb H1 e1 => ?_) fun hb H1 e1 => ?_
    · have h2 := e2 _ _ (e1 _ _ R.r)
      rw [upd_ne (ne_of_none h2 hd)]
      exact h2
    · rw [hre]
      exact q _ (e2.trans (Ex.new hd))
    · exact s_ret (v := .bl false) ev_c fun H2 e2 => qn (by unfold ctO; exact if_pos hb) H2 (e1.trans e2)
    have hb' := hb
    rw [Bool.or_eq_false_iff, Bool.or_eq_false_iff, Bool.not_eq_false', Bool.not_eq_false', Bool.not_eq_false'] at hb'
    have tl : TxK l := ⟨hl1, hb'.2.1⟩
    refine q_asg (v := .int ((key l : Nat) : Int)) (ev_c1 (a := l) (ea_cons (ev_var rfl) ea_nil) fun _ _ => tl.txl) fun H2 e2 => ?_
    have e12 := e1.trans e2
    have hc : ctO ⟨tx, es, lk, li, ct⟩ l m = if ((key l : Nat) : Int) ≤ lk then none else some ⟨tx ++ [(l, m)], es, ((key l : Nat) : Int), li, ct⟩ := by
      unfold ctO
      rw [if_neg (by rw [Bool.not_eq_true]; exact hb)]
    refine q_when (b := decide (((key l : Nat) : Int) ≤ lk)) (et_test (ev_op (ev_var rfl) (ev_fld (ev_var rfl) (e12 _ _ hp) TC_StoreReader.cl TC_StoreReader.na_last_key (fd_k dt dr lk li (ctV ct))) rv_le)) (fun hk H3 e3 => ?_) fun hk H3 e3 => ?_
    · exact s_ret (v := .bl false) ev_c fun H4 e4 => qn (by rw [hc]; exact if_pos (of_decide_eq_true hk)) H4 ((e12.trans e3).trans e4)
    have hk := of_decide_eq_false hk
    have e13 := e12.trans e3
    have R3 := R.mono e13
    refine q_dputI (ev_var rfl) (fun H4 e4 => ev_fld (ev_var rfl) (e4 _ _ (e13 _ _ hp)) TC_StoreReader.cl TC_StoreReader.na_texts (fd_t dt dr lk li (ctV ct))) (fun H4 e4 => ev_var rfl) R3.t (by rw [kvO_len]; show tx.length < _; omega) fun H4 e4 => ?_
    have ntp : p ≠ dt := ne_of hp R.t (by intro z; cases z)
    rw [put_c I hk]
    have R4 : Rdr C_StoreReader (L2.upd H4 dt (.dK (kvO (tx ++ [(l, m)])))) p dt dr (kvO (tx ++ [(l, m)])) rs lk li (ctV ct) := ⟨⟨dx, by rw [upd_ne ntp]; exact e4 _ _ (e13 _ _ hp)⟩, upd_same, by rw [upd_ne R.nd.symm]; exact e4 _ _ R3.r, R.nd⟩
    refine ⟨_, rfl, _, rfl, p, C_StoreReader, dx, _, rfl, (by rw [upd_ne ntp]; exact e4 _ _ (e13 _ _ hp)), TC_StoreReader.cl, TC_StoreReader.na_last_key, (by show 5 < 1000; decide), ?_⟩
    dsimp only
    refine s_ret (v := .bl true) ev_c fun H5 e5 => ?_
    have kk : Kp3 H H5 p dt dr := fun b o hb h1 h2 h3 => e5 _ _ (by rw [upd_ne h1, upd_ne h2]; exact e4 _ _ (e13 _ _ hb))
    exact qs ⟨tx ++ [(l, m)], es, ((key l : Nat) : Int), li, ct⟩ (by rw [hc]; exact if_neg hk) H5 ⟨rs, (rdr_set R4 (Ex.refl _)).mono e5, b.keep (kk.tup R)⟩ kk
def sp_StoreReader__read_record (C : Addr) (_ : PySem.W.Frag) : Sp := fun vs H Q _ => ∃ (p dt dr : Addr) (s : SR) (ls : List (List Nat)) (i : Nat) (l m : List Nat), vs = [.ref p, .int (i : Int), .str (S l), .str (S m)] ∧ RdI C H p dt dr s ∧ SI s ls ∧ s.es.length < 1000 ∧ l.length ≤ 690 ∧ m.length ≤ 690 ∧
  (rcO s i l m = none → ∀ H', Ex H H' → Q (.bl false) H') ∧ (∀ s', rcO s i l m = some s' → ∀ H', RdI C H' p dt dr s' → Kp3 H H' p dt dr → Q (.bl true) H')
theorem ok_StoreReader__read_record {f : Addr} {C_Tree C_Store C_StoreReader : Addr} {fd : FuncData} (F : Fun K "_read_record" "StoreReader._read_record" s_StoreReader__read_record f fd) (T : Tx mg) (G : Gx K mg) (TC_Tree : Tc_Tree K C_Tree) (TC_Store : Tc_Store K C_Store) (TC_StoreReader : Tc_StoreReader K C_StoreReader) (C_is_text : Kn.Cl P w K mg base 2 "is_text" (sp_is_text K)) (C_content_key : Kn.Cl P w K mg base 1 "content_key" (sp_content_key K)) : FnOk P w K mg base CX0 3 f fd ["self", "index", "right", "kept"] (sp_StoreReader__read_record C_StoreReader K) := by
  refine F.ok sc_StoreReader__read_record (fun vs H Q E h => ?_) (fun cdv A outer s H vs Q E hr h => ?_)
  · obtain ⟨p, dt, dr, s, ls, i, l, m, rfl, _⟩ := h
    rfl
  · obtain ⟨p, dt, dr, ⟨tx, es, lk, li, ct⟩, ls, i, l, m, rfl, ⟨rs, R, b⟩, I, hz, hl1, hm1, qn, qs⟩ := h
    refine ⟨_, (pss_cons (ps_if (PW.pt (pw_or (pt_cmpR op_le (pv 1) (pe_fld (pv 0) rfl) (nomark _)) (pw_or (pt_not (pt_val (Kn.pe_cl C_is_text hr (by decide) (by rfl) (pa_cons (pv 2) pa_nil)))) (pw_or1 (pt_not (pt_val (Kn.pe_cl C_is_text hr (by decide) (by rfl) (pa_cons (pv 3) pa_nil)))))))) (pss_one (ps_ret pe_bl)) pss_nil)
      (pss_cons (ps_dput (hu_of hr) (pe_fld (pv 0) rfl) (pv 1) (pe_tup (pa_cons (Kn.pe_cl C_content_key hr (by decide) (by rfl) (pa_cons (pv 2) pa_nil)) (pa_cons (pv 3) pa_nil))) rfl)
      (pss_cons (ps_fld (pv 0) (pv 1) rfl)
      (pss_one (ps_ret pe_bl))))), ?_⟩
    have hz : es.length < 1000 := hz
    have hrl : rs.length = es.length := pair_len b
    obtain ⟨dx, hp⟩ := R.ob
    refine q_when (b := decide ((i : Int) ≤ li) || (!okText l || !okText m)) (et_or (a := decide ((i : Int) ≤ li)) (b := !okText l || !okText m) (et_test (ev_op (ev_var rfl) (ev_fld (ev_var rfl) hp TC_StoreReader.cl TC_StoreReader.na_last_index (fd_i dt dr lk li (ctV ct))) rv_le)) fun _ => et_or (a := !okText l) (b := !okText m) (et_not (et_B (ev_c1 (a := l) (ea_cons (ev_var rfl) ea_nil) fun _ _ => (by show l.length ≤ 40000; omega)))) fun _ => et_not (et_B (ev_c1 (a := m) (ea_cons (ev_var rfl) ea_nil) fun _ _ => (by show m.length ≤ 40000; omega)))) (fun hb H1 e1 => ?_) fun hb H1 e1 => ?_
    · exact s_ret (v := .bl false) ev_c fun H2 e2 => qn (by unfold rcO; exact if_pos hb) H2 (e1.trans e2)
    have hb' := hb
    rw [Bool.or_eq_false_iff, Bool.or_eq_false_iff, Bool.not_eq_false', Bool.not_eq_false', decide_eq_false_iff_not] at hb'
    have tl : TxK l := ⟨hl1, hb'.2.1⟩
    have hc : rcO ⟨tx, es, lk, li, ct⟩ i l m = some ⟨tx, es ++ [(i, l, m)], lk, (i : Int), ct⟩ := by
      unfold rcO
      exact if_neg (by rw [Bool.not_eq_true]; exact hb)
    have R1 := R.mono e1
    refine q_dputIU (xs := [.int ((key l : Nat) : Int), .str (S m)]) (eu_tup (ea_cons (ev_c1 (a := l) (ea_cons (ev_var rfl) ea_nil) fun _ _ => tl.txl) (ea_cons (ev_var rfl) ea_nil)) (by show 2 ≤ 100000; decide)) (fun H4 e4 => ev_fld (ev_var rfl) (e4 _ _ (e1 _ _ hp)) TC_StoreReader.cl TC_StoreReader.na_rows (fd_r dt dr lk li (ctV ct))) (fun H4 e4 => ev_var rfl) R1.r (by omega) fun t H4 nt e4 ht => ?_
    have ntp : p ≠ dr := ne_of hp R.r (by intro z; cases z)
    have e14 := e1.trans e4
    have nt1 : t ≠ p := fun z => by rw [z, e1 _ _ hp] at nt; cases nt
    have nt2 : t ≠ dr := fun z => by rw [z, R1.r] at nt; cases nt
    rw [put_r I b hb'.1]
    have R4 : Rdr C_StoreReader (L2.upd H4 dr (.dK (rs ++ [(Sum.inl (i : Int), .ref t)]))) p dt dr (kvO tx) (rs ++ [(Sum.inl (i : Int), .ref t)]) lk li (ctV ct) := ⟨⟨dx, by rw [upd_ne ntp]; exact e14 _ _ hp⟩, by rw [upd_ne R.nd]; exact e14 _ _ R.t, upd_same, R.nd⟩
    refine ⟨_, rfl, _, rfl, p, C_StoreReader, dx, _, rfl, (by rw [upd_ne ntp]; exact e14 _ _ hp), TC_StoreReader.cl, TC_StoreReader.na_last_index, (by show 5 < 1000; decide), ?_⟩
    dsimp only
    refine s_ret (v := .bl true) ev_c fun H5 e5 => ?_
    have kk : Kp3 H H5 p dt dr := fun b o hb h1 h2 h3 => e5 _ _ (by rw [upd_ne h1, upd_ne h3]; exact e14 _ _ hb)
    exact qs ⟨tx, es ++ [(i, l, m)], lk, (i : Int), ct⟩ hc H5 ⟨_, (rdr_set R4 (Ex.refl _)).mono e5, RsO.snoc (b.keep (kk.tup R)) rfl ⟨t, rfl, e5 _ _ (by rw [upd_ne nt1, upd_ne nt2]; exact ht)⟩⟩ kk
def sp_StoreReader_read (C : Addr) (_ : Gx K mg) : Sp := fun vs H Q _ => ∃ (p dt dr : Addr) (s : SR) (ls : List (List Nat)) (line : List Nat), vs = [.ref p, .str (S line)] ∧ RdI C H p dt dr s ∧ SI s ls ∧ s.tx.length < 1000 ∧ s.es.length < 1000 ∧ line.length ≤ 680 ∧
  (stepL s line = none → ∀ H', Ex H H' → Q (.bl false) H') ∧ (∀ s', stepL s line = some s' → ∀ H', RdI C H' p dt dr s' → Kp3 H H' p dt dr → Q (.bl true) H')
theorem stepP_other {s : SR} {line : List Nat} {ps : List (List Nat)} (h2 : ps.length ≠ 2) (h3 : ps.length ≠ 3) (h4 : ps.length ≠ 4) : stepP s line ps = none := by
  unfold stepP
  split
  · exact absurd rfl h3
  · exact absurd rfl h2
  · exact absurd rfl h4
  · rfl
theorem nin24 {n : Nat} (h2 : n ≠ 2) (h4 : n ≠ 4) : (!inV (.int (n : Int)) [.int 2, .int 4]) = true := by
  have e : inV (.int (n : Int)) [.int 2, .int 4] = false := by
    unfold inV
    rw [List.any_eq_false]
    intro x hx
    rcases List.mem_cons.mp hx with rfl | hx
    · show ¬ (decide ((2 : Int) = (n : Int))) = true
      rw [decide_eq_true_eq]
      omega
    · rw [List.mem_singleton.mp hx]
      show ¬ (decide ((4 : Int) = (n : Int))) = true
      rw [decide_eq_true_eq]
      omega
  rw [e]
  rfl
theorem rdP_len2 {ps : List (List Nat)} (h : ps.length = 2) : ∃ a b, ps = [a, b] := by
  match ps, h with
  | [a, b], _ => exact ⟨a, b, rfl⟩
theorem ok_StoreReader_read {f : Addr} {C_Tree C_Store C_StoreReader : Addr} {fd : FuncData} (F : Fun K "read" "StoreReader.read" s_StoreReader_read f fd) (T : Tx mg) (G : Gx K mg) (TC_Tree : Tc_Tree K C_Tree) (TC_Store : Tc_Store K C_Store) (TC_StoreReader : Tc_StoreReader K C_StoreReader) (C__parts : Kn.Cl P w K mg base 7 "_parts" (sp__parts G)) (C__content_line : Kn.Cl P w K mg base 2 "_content_line" (sp__content_line K)) (M_StoreReader__read_content : Kn.Mt P w K mg base 3 C_StoreReader "_read_content" (sp_StoreReader__read_content C_StoreReader K)) (C__is_number : Kn.Cl P w K mg base 1 "is_number_saving" (sp__is_number K)) (C__row_line : Kn.Cl P w K mg base 2 "_row_line" (sp__row_line K)) (M_StoreReader__read_record : Kn.Mt P w K mg base 3 C_StoreReader "_read_record" (sp_StoreReader__read_record C_StoreReader K)) (C__count_line : Kn.Cl P w K mg base 1 "_count_line" (sp__count_line K)) (M_StoreReader__read_count : Kn.Mt P w K mg base 1 C_StoreReader "_read_count" (sp_StoreReader__read_count C_StoreReader K)) : FnOk P w K mg base CX0 8 f fd ["self", "line"] (sp_StoreReader_read C_StoreReader G) := by
  refine F.ok sc_StoreReader_read (fun vs H Q E h => ?_) (fun cdv A outer s H vs Q E hr h => ?_)
  · obtain ⟨p, dt, dr, s, ls, line, rfl, _⟩ := h
    rfl
  · obtain ⟨p, dt, dr, s, ls, line, rfl, RI, I, hz1, hz2, hl, qn, qs⟩ := h
    refine ⟨_, (pss_cons (ps_if (pt_cmpR op_notN1 (pe_fld (pv 0) rfl) pe_non (nomark _)) (pss_one (ps_ret pe_bl)) pss_nil)
      (pss_cons (ps_set (i := 2) sc_StoreReader_read.nd rfl (Or.inl rfl) (Kn.pe_cl C__parts hr (by decide) (by rfl) (pa_cons (pv 1) pa_nil)))
      (pss_cons (ps_if (PW.pt (pw_and (pt_cmpR op_eq (pe_callB Kn.cr_lenSeq (by rfl) T.b_len PySem.boot_len (pa_cons (pv 2) pa_nil)) pe_int (nomark _)) (pw_and1 (pt_cmpR op_eq (Kn.pe_cl C__content_line hr (by decide) (by rfl) (pa_cons (pe_ix ix_list (pv 2) pe_int (fun _ _ => rfl)) (pa_cons (pe_ix ix_list (pv 2) pe_int (fun _ _ => rfl)) pa_nil))) (pv 1) (nomark _))))) (pss_one (ps_ret (Kn.pe_mt M_StoreReader__read_content hr (by decide) (pv 0) (pa_cons (pe_ix ix_list (pv 2) pe_int (fun _ _ => rfl)) (pa_cons (pe_ix ix_list (pv 2) pe_int (fun _ _ => rfl)) pa_nil))))) pss_nil)
      (pss_cons (ps_if (PW.pt (pw_or (pt_cmpR op_notIn_seq (pe_callB Kn.cr_lenSeq (by rfl) T.b_len PySem.boot_len (pa_cons (pv 2) pa_nil)) (pe_tup (pa_cons pe_int (pa_cons pe_int pa_nil))) rfl) (pw_or1 (pt_not (pt_val (Kn.pe_cl C__is_number hr (by decide) (by rfl) (pa_cons (pe_ix ix_list (pv 2) pe_int (fun _ _ => rfl)) pa_nil))))))) (pss_one (ps_ret pe_bl)) pss_nil)
      (pss_cons (ps_set (i := 3) sc_StoreReader_read.nd rfl (Or.inl rfl) (pe_callTy Kn.cr_intS (by rfl) T.b_int (by decide +kernel) (pa_cons (pe_ix ix_list (pv 2) pe_int (fun _ _ => rfl)) pa_nil)))
      (pss_cons (ps_if (PW.pt (pw_and (pt_cmpR op_eq (pe_callB Kn.cr_lenSeq (by rfl) T.b_len PySem.boot_len (pa_cons (pv 2) pa_nil)) pe_int (nomark _)) (pw_and1 (pt_cmpR op_eq (Kn.pe_cl C__row_line hr (by decide) (by rfl) (pa_cons (pv 3) (pa_cons (pe_ix ix_list (pv 2) pe_int (fun _ _ => rfl)) (pa_cons (pe_ix ix_list (pv 2) pe_int (fun _ _ => rfl)) pa_nil)))) (pv 1) (nomark _))))) (pss_one (ps_ret (Kn.pe_mt M_StoreReader__read_record hr (by decide) (pv 0) (pa_cons (pv 3) (pa_cons (pe_ix ix_list (pv 2) pe_int (fun _ _ => rfl)) (pa_cons (pe_ix ix_list (pv 2) pe_int (fun _ _ => rfl)) pa_nil)))))) pss_nil)
      (pss_one (ps_ret (pe_and (pe_cmpR op_eq (Kn.pe_cl C__count_line hr (by decide) (by rfl) (pa_cons (pv 3) pa_nil)) (pv 1) (nomark _)) (pe_one (Kn.pe_mt M_StoreReader__read_count hr (by decide) (pv 0) (pa_cons (pv 3) pa_nil)))))))))))), ?_⟩
    obtain ⟨tx, es, lk, li, ct⟩ := s
    obtain ⟨rs, R, b⟩ := id RI
    obtain ⟨dx, hp⟩ := R.ob
    cases ct with
    | some k =>
      refine q_when (b := true) (et_is (et_notN (ev_fld (ev_var rfl) hp TC_StoreReader.cl TC_StoreReader.na_count (fd_c dt dr lk li (ctV (some k))))) rfl) (fun _ H1 e1 => ?_) fun z => nomatch z
      exact s_ret (v := .bl false) ev_c fun H2 e2 => qn rfl H2 (e1.trans e2)
    | none =>
      have hpl := (PT_len line).1
      have hrd : stepL ⟨tx, es, lk, li, none⟩ line = stepP ⟨tx, es, lk, li, none⟩ line (PT line) := rfl
      refine q_when (b := false) (et_is (et_notN (ev_fld (ev_var rfl) hp TC_StoreReader.cl TC_StoreReader.na_count (fd_c dt dr lk li (ctV none)))) rfl) (fun z => nomatch z) fun _ H1 e1 => ?_
      refine q_asgL (xs := strsV (PT line)) (el_call' (ea_cons (ev_var rfl) ea_nil) fun H2 e2 Q q E => ⟨line, rfl, by omega, q⟩) fun pl H2 npl e2 hpl2 => ?_
      generalize PT line = ps at hpl hpl2 hrd
      have e12 := e1.trans e2
      have ix : ∀ {H3 : Hp} {i : Nat} {t : List Nat} {y : Option V}, Ex H2 H3 → ps[i]? = some t → Ev (tOp (rIxL K) (tVar 2) (tC (.int (i : Int)))) [some (.ref p), some (.str (S line)), some (.ref pl), y] H3 (.str (S t)) := fun {H3 i t y} e3 ht => q_ixs (i := i) rfl (e3 _ _ hpl2) rfl (by unfold strsV; rw [List.getElem?_map, ht]; rfl)
      have hfld : ∀ {m : Str}, ¬ m = "count" → ¬ m = "last_index" → ¬ m = "last_key" → ¬ m = "rows" → ¬ m = "texts" → (fldD dt dr lk li (ctV none)).lookup m = none := fun h1 h2 h3 h4 h5 => fd_no dt dr lk li (ctV none) h1 h2 h3 h4 h5
      have sl : (strsV ps).length = ps.length := by unfold strsV; rw [List.length_map]
      have cases' : ps.length = 3 ∨ (ps.length = 2 ∨ ps.length = 4) ∨ (ps.length ≠ 2 ∧ ps.length ≠ 3 ∧ ps.length ≠ 4) := by omega
      rcases cases' with h3 | h24 | ⟨h2, h3, h4⟩
      · obtain ⟨a, l, m, he⟩ := rdP_len3 h3
        subst he
        have hr3 : stepL ⟨tx, es, lk, li, none⟩ line = if cLn l m = line then ctO ⟨tx, es, lk, li, none⟩ l m else none := hrd
        have l1 := hpl l (by simp)
        have l2 := hpl m (by simp)
        refine q_when (b := decide (cLn l m = line)) (et_is (et_and (a := true) (b := decide (cLn l m = line)) (et_is (et_test (ev_op (ev_len (ev_var rfl) (sq_of hpl2)) ev_c rv_eqI)) (decide_eq_true rfl)) fun _ => et_test (ev_op (ev_call (dvs := []) (ea_cons (ix (i := 1) (Ex.refl _) rfl) (ea_cons (ix (i := 2) (Ex.refl _) rfl) ea_nil)) fun H3 e3 Q q E => ⟨l, m, rfl, ⟨by omega, by omega⟩, q⟩) (ev_var rfl) rv_eqS)) (Bool.true_and _)) (fun hb H3 e3 => ?_) fun hb H3 e3 => ?_
        · have e13 := e12.trans e3
          have hr4 := hr3.trans (if_pos (of_decide_eq_true hb))
          refine ⟨_, rfl, p, dx, _, rfl, e13 _ _ hp, hfld (by decide +kernel) (by decide +kernel) (by decide +kernel) (by decide +kernel) (by decide +kernel), ?_⟩
          refine ea_cons (ix (i := 1) e3 rfl) (ea_cons (ix (i := 2) e3 rfl) ea_nil) H3 (Ex.refl _) _ fun H4 e4 => ?_
          exact ⟨p, dt, dr, _, ls, l, m, rfl, RI.mono (e13.trans e4), I, hz1, by omega, by omega, fun hz H' e' => qn (hr4.trans hz) H' ((e13.trans e4).trans e'), fun s' hz H' R' k => qs s' (hr4.trans hz) H' R' (k.pre (e13.trans e4))⟩
        · refine q_when (b := true) (et_is (et_or (a := true) (b := true) (et_is (et_ninT (ev_len (ev_var rfl) (sq_of (e3 _ _ hpl2))) (eu_tup (ea_cons ev_c (ea_cons ev_c ea_nil)) (by show 2 ≤ 100000; decide)) rfl rfl) (by show (!inV (.int 3) [.int 2, .int 4]) = true; decide)) fun z => nomatch z) rfl) (fun _ H4 e4 => ?_) fun z => nomatch z
          exact s_ret (v := .bl false) ev_c fun H5 e5 => qn (hr3.trans (if_neg (of_decide_eq_false hb))) H5 (((e12.trans e3).trans e4).trans e5)
      · rcases h24 with h2 | h4
        · obtain ⟨w0, a, he⟩ := rdP_len2 h2
          subst he
          have hr3 : stepL ⟨tx, es, lk, li, none⟩ line = if isN4 a = true then (if nLn (dv a) = line then cnO ⟨tx, es, lk, li, none⟩ (dv a) else none) else none := hrd
          have l1 := hpl a (by simp)
          refine q_when (b := false) (et_is (et_and (a := false) (b := false) (et_is (et_test (ev_op (ev_len (ev_var rfl) (sq_of hpl2)) ev_c rv_eqI)) (decide_eq_false (by show ¬ (2 : Int) = 3; decide))) fun z => nomatch z) rfl) (fun z => nomatch z) fun _ H3 e3 => ?_
          refine q_when (b := !isN4 a) (et_is (et_or (a := false) (b := !isN4 a) (et_is (et_ninT (ev_len (ev_var rfl) (sq_of (e3 _ _ hpl2))) (eu_tup (ea_cons ev_c (ea_cons ev_c ea_nil)) (by show 2 ≤ 100000; decide)) rfl rfl) (by show (!inV (.int 2) [.int 2, .int 4]) = false; decide)) fun _ => et_not (et_B (ev_call (dvs := []) (ea_cons (ix (i := 1) e3 rfl) ea_nil) fun H4 e4 Q q E => ⟨a, rfl, by omega, q⟩))) (Bool.false_or _)) (fun hb H4 e4 => ?_) fun hb H4 e4 => ?_
          · exact s_ret (v := .bl false) ev_c fun H5 e5 => qn (hr3.trans (if_neg (by rw [nb hb]; exact Bool.false_ne_true))) H5 (((e12.trans e3).trans e4).trans e5)
          have hn := nf hb
          have hr4 := hr3.trans (if_pos hn)
          obtain ⟨hd1, hd2, hd3⟩ := isN4_dig hn
          have hv := dv_lt hn
          have e24 := e3.trans e4
          refine q_asg (v := .int ((dv a : Nat) : Int)) (ev_intS (ix (i := 1) e24 rfl) (intS hd1 hd2 (by omega)) (by omega)) fun H5 e5 => ?_
          have e25 := e24.trans e5
          refine q_when (b := false) (et_is (et_and (a := false) (b := false) (et_is (et_test (ev_op (ev_len (ev_var rfl) (sq_of (e25 _ _ hpl2))) ev_c rv_eqI)) (decide_eq_false (by show ¬ (2 : Int) = 4; decide))) fun z => nomatch z) rfl) (fun z => nomatch z) fun _ H6 e6 => ?_
          have e26 := e25.trans e6
          have e16 := e12.trans e26
          refine (ev_op (ev_call (dvs := []) (vs := [.int ((dv a : Nat) : Int)]) (z := .str (S (nLn (dv a)))) (ea_cons (ev_var rfl) ea_nil) fun H7 e7 Q q E => ⟨dv a, rfl, by omega, q⟩) (ev_var rfl) rv_eqS) H6 (Ex.refl _) _ fun H7 e7 => ⟨decide (nLn (dv a) = line), rfl, ?_⟩
          have e17 := e16.trans e7
          by_cases hb2 : nLn (dv a) = line
          · rw [decide_eq_true hb2]
            have hr5 := hr4.trans (if_pos hb2)
            refine ⟨_, rfl, p, dx, _, rfl, e17 _ _ hp, hfld (by decide +kernel) (by decide +kernel) (by decide +kernel) (by decide +kernel) (by decide +kernel), ?_⟩
            refine ea_cons (ev_var rfl) ea_nil H7 (Ex.refl _) _ fun H8 e8 => ?_
            exact ⟨p, dt, dr, _, dv a, rfl, RI.mono (e17.trans e8), fun hz H' e' => qn (hr5.trans hz) H' ((e17.trans e8).trans e'), fun s' hz H' R' k => qs s' (hr5.trans hz) H' R' (k.pre (e17.trans e8))⟩
          · rw [decide_eq_false hb2]
            exact qn (hr4.trans (if_neg hb2)) H7 e17
        · obtain ⟨w0, a, l, m, he⟩ := rdP_len4 h4
          subst he
          have hr3 : stepL ⟨tx, es, lk, li, none⟩ line = if isN4 a = true then (if rLn (dv a) l m = line then rcO ⟨tx, es, lk, li, none⟩ (dv a) l m else if nLn (dv a) = line then cnO ⟨tx, es, lk, li, none⟩ (dv a) else none) else none := hrd
          have l1 := hpl a (by simp)
          have l2 := hpl l (by simp)
          have l3 := hpl m (by simp)
          refine q_when (b := false) (et_is (et_and (a := false) (b := false) (et_is (et_test (ev_op (ev_len (ev_var rfl) (sq_of hpl2)) ev_c rv_eqI)) (decide_eq_false (by show ¬ (4 : Int) = 3; decide))) fun z => nomatch z) rfl) (fun z => nomatch z) fun _ H3 e3 => ?_
          refine q_when (b := !isN4 a) (et_is (et_or (a := false) (b := !isN4 a) (et_is (et_ninT (ev_len (ev_var rfl) (sq_of (e3 _ _ hpl2))) (eu_tup (ea_cons ev_c (ea_cons ev_c ea_nil)) (by show 2 ≤ 100000; decide)) rfl rfl) (by show (!inV (.int 4) [.int 2, .int 4]) = false; decide)) fun _ => et_not (et_B (ev_call (dvs := []) (ea_cons (ix (i := 1) e3 rfl) ea_nil) fun H4 e4 Q q E => ⟨a, rfl, by omega, q⟩))) (Bool.false_or _)) (fun hb H4 e4 => ?_) fun hb H4 e4 => ?_
          · exact s_ret (v := .bl false) ev_c fun H5 e5 => qn (hr3.trans (if_neg (by rw [nb hb]; exact Bool.false_ne_true))) H5 (((e12.trans e3).trans e4).trans e5)
          have hn := nf hb
          have hr4 := hr3.trans (if_pos hn)
          obtain ⟨hd1, hd2, hd3⟩ := isN4_dig hn
          have hv := dv_lt hn
          have e24 := e3.trans e4
          refine q_asg (v := .int ((dv a : Nat) : Int)) (ev_intS (ix (i := 1) e24 rfl) (intS hd1 hd2 (by omega)) (by omega)) fun H5 e5 => ?_
          have e25 := e24.trans e5
          refine q_when (b := decide (rLn (dv a) l m = line)) (et_is (et_and (a := true) (b := decide (rLn (dv a) l m = line)) (et_is (et_test (ev_op (ev_len (ev_var rfl) (sq_of (e25 _ _ hpl2))) ev_c rv_eqI)) (decide_eq_true rfl)) fun _ => et_test (ev_op (ev_call (dvs := []) (ea_cons (ev_var rfl) (ea_cons (ix (i := 2) e25 rfl) (ea_cons (ix (i := 3) e25 rfl) ea_nil))) fun H6 e6 Q q E => ⟨dv a, l, m, rfl, by omega, ⟨by omega, by omega⟩, q⟩) (ev_var rfl) rv_eqS)) (Bool.true_and _)) (fun hb H6 e6 => ?_) fun hb H6 e6 => ?_
          · have hr5 := hr4.trans (if_pos (of_decide_eq_true hb))
            have e26 := e25.trans e6
            have e16 := e12.trans e26
            refine ⟨_, rfl, p, dx, _, rfl, e16 _ _ hp, hfld (by decide +kernel) (by decide +kernel) (by decide +kernel) (by decide +kernel) (by decide +kernel), ?_⟩
            refine ea_cons (ev_var rfl) (ea_cons (ix (i := 2) e26 rfl) (ea_cons (ix (i := 3) e26 rfl) ea_nil)) H6 (Ex.refl _) _ fun H7 e7 => ?_
            exact ⟨p, dt, dr, _, ls, dv a, l, m, rfl, RI.mono (e16.trans e7), I, hz2, by omega, by omega, fun hz H' e' => qn (hr5.trans hz) H' ((e16.trans e7).trans e'), fun s' hz H' R' k => qs s' (hr5.trans hz) H' R' (k.pre (e16.trans e7))⟩
          replace hr4 := hr4.trans (if_neg (of_decide_eq_false hb))
          have e26 := e25.trans e6
          have e16 := e12.trans e26
          refine (ev_op (ev_call (dvs := []) (vs := [.int ((dv a : Nat) : Int)]) (z := .str (S (nLn (dv a)))) (ea_cons (ev_var rfl) ea_nil) fun H7 e7 Q q E => ⟨dv a, rfl, by omega, q⟩) (ev_var rfl) rv_eqS) H6 (Ex.refl _) _ fun H7 e7 => ⟨decide (nLn (dv a) = line), rfl, ?_⟩
          have e17 := e16.trans e7
          by_cases hb2 : nLn (dv a) = line
          · rw [decide_eq_true hb2]
            have hr5 := hr4.trans (if_pos hb2)
            refine ⟨_, rfl, p, dx, _, rfl, e17 _ _ hp, hfld (by decide +kernel) (by decide +kernel) (by decide +kernel) (by decide +kernel) (by decide +kernel), ?_⟩
            refine ea_cons (ev_var rfl) ea_nil H7 (Ex.refl _) _ fun H8 e8 => ?_
            exact ⟨p, dt, dr, _, dv a, rfl, RI.mono (e17.trans e8), fun hz H' e' => qn (hr5.trans hz) H' ((e17.trans e8).trans e'), fun s' hz H' R' k => qs s' (hr5.trans hz) H' R' (k.pre (e17.trans e8))⟩
          · rw [decide_eq_false hb2]
            exact qn (hr4.trans (if_neg hb2)) H7 e17
      · refine q_when (b := false) (et_is (et_and (a := false) (b := false) (et_is (et_test (ev_op (ev_len (ev_var rfl) (sq_of hpl2)) ev_c rv_eqI)) (decide_eq_false (by rw [sl]; omega))) fun z => nomatch z) rfl) (fun z => nomatch z) fun _ H3 e3 => ?_
        refine q_when (b := true) (et_is (et_or (a := true) (b := true) (et_is (et_ninT (ev_len (ev_var rfl) (sq_of (e3 _ _ hpl2))) (eu_tup (ea_cons ev_c (ea_cons ev_c ea_nil)) (by show 2 ≤ 100000; decide)) rfl rfl) (by rw [sl]; exact nin24 h2 h4)) fun z => nomatch z) rfl) (fun _ H4 e4 => ?_) fun z => nomatch z
        exact s_ret (v := .bl false) ev_c fun H5 e5 => qn (hrd.trans (stepP_other h2 h3 h4)) H5 (((e12.trans e3).trans e4).trans e5)
end

--SPLIT
section
variable {P : Program} {w : World} {K : PySem.W.Frag} {mg : Str → Option Value} {base : Heap}
/-! ### loading a store from any text -/
def goS : SR → List (List Nat) → Nat → SR ⊕ Nat
  | s, [], _ => .inl s
  | s, x :: r, n => match stepL s x with
    | none => .inr n
    | some s' => goS s' r (n + 1)
def errR (len : Nat) : SR ⊕ Nat → Option Nat
  | .inr n => some n
  | .inl s => match s.ct with
    | none => some (len + 1)
    | some _ => none
def errS (ls : List (List Nat)) : Option Nat := errR ls.length (goS SR0 ls 1)
theorem SI.len {s : SR} {ls : List (List Nat)} (I : SI s ls) : s.tx.length + s.es.length ≤ ls.length := by
  have z := congrArg List.length I.ls
  rw [List.length_append, List.length_append, List.length_map, List.length_map] at z
  omega
def mkR : List Ie → Nat → Nat → Rw2
  | _, _, 0 => []
  | [], i, k + 1 => none :: mkR [] (i + 1) k
  | (j, x) :: r, i, k + 1 => if j = i then some x :: mkR r (i + 1) k else none :: mkR ((j, x) :: r) (i + 1) k
theorem mkR_len : ∀ (k i : Nat) (es : List Ie), (mkR es i k).length = k
  | 0, _, es => by cases es <;> rfl
  | k + 1, i, [] => congrArg (· + 1) (mkR_len k (i + 1) [])
  | k + 1, i, (j, x) :: r => by
    unfold mkR
    split
    · exact congrArg (· + 1) (mkR_len k (i + 1) r)
    · exact congrArg (· + 1) (mkR_len k (i + 1) _)
theorem mkR_idx : ∀ (k i : Nat) (es : List Ie), (es.map (·.1)).Pairwise (· < ·) → (∀ e ∈ es, i ≤ e.1 ∧ e.1 < i + k) → idxL (mkR es i k) i = es
  | 0, i, es, _, h => by
    cases es with
    | nil => rfl
    | cons e r =>
      have := h e List.mem_cons_self
      omega
  | k + 1, i, [], hp, h => mkR_idx k (i + 1) [] .nil fun _ h => nomatch h
  | k + 1, i, (j, x) :: r, hp, h => by
    have hp' := List.pairwise_cons.mp hp
    have h0 := h (j, x) List.mem_cons_self
    have h0 : i ≤ j ∧ j < i + (k + 1) := h0
    have hr : ∀ e ∈ r, j < e.1 := fun e he => hp'.1 e.1 (List.mem_map.mpr ⟨e, he, rfl⟩)
    unfold mkR
    split
    · next e =>
      subst e
      show (j, x.1, x.2) :: idxL (mkR r (j + 1) k) (j + 1) = (j, x) :: r
      rw [mkR_idx k (j + 1) r hp'.2 fun e he => ?_]
      have a := hr e he
      have b := (h e (List.mem_cons_of_mem _ he)).2
      exact ⟨by omega, by omega⟩
    · next e =>
      refine mkR_idx k (i + 1) ((j, x) :: r) hp fun e' he => ?_
      have b := (h e' he).2
      rcases List.mem_cons.mp he with rfl | he
      · exact ⟨by show i + 1 ≤ j; omega, by omega⟩
      · have a := hr e' he
        exact ⟨by omega, by omega⟩
def Sz3 (l : List Nat) : Prop := l.length ≤ 680 ∧ (linesL l).length < 59
def sp_load_store (C CD : Addr) (G : Gx K mg) : Sp := fun vs H Q E => ∃ l : List Nat, vs = [.str (S l)] ∧ Sz3 l ∧ (∀ n, errS (linesL l) = some n → Rzv H E G.c_InvalidSave "line" (.int (n : Int))) ∧
  (errS (linesL l) = none → ∀ (tx : Tx2) (ys : Rw2), TxOk tx → RwOk ys → svL tx ys = linesL l → ∀ (p d r : Addr) (xs : List V) (H' : Hp), H p = none → H d = none → H r = none → Sto C H' p d r (kvO tx) xs → Paired (RwO H') xs ys → Ex H H' → Q (.ref p) H')
theorem ok_load_store {f : Addr} {C_Tree C_Store C_StoreReader : Addr} {fd : FuncData} (F : Fun K "load_store" "load_store" s_load_store f fd) (T : Tx mg) (G : Gx K mg) (TC_Tree : Tc_Tree K C_Tree) (TC_Store : Tc_Store K C_Store) (TC_StoreReader : Tc_StoreReader K C_StoreReader) (M_StoreReader : Kn.Mkr P w K mg base 1 "StoreReader" C_StoreReader (sp_StoreReader___init__ C_StoreReader K)) (C_lines_of : Kn.Cl P w K mg base 1 "lines_of" (sp_lines_of K)) (M_StoreReader_read : Kn.Mt P w K mg base 8 C_StoreReader "read" (sp_StoreReader_read C_StoreReader G)) (M_Store : Kn.MkrD P w K mg base 1 "Store" C_Store (sp_Store___init__ C_Store K) [.non]) (M_Store_fill_from : Kn.Mt P w K mg base 1 C_Store "fill_from" (sp_Store_fill_from C_Store K)) (Z_InvalidSave : Kn.Xk P w K mg base 1 "InvalidSave" G.c_InvalidSave (sp_I1z "line" K)) : FnOk P w K mg base (L2.CX P w) 9 f fd ["text"] (sp_load_store C_Store C_StoreReader G) := by
  refine F.okX sc_load_store (fun vs H Q E h => ?_) (fun cdv A outer s H vs Q E hr h => ?_)
  · obtain ⟨l, rfl, _⟩ := h
    rfl
  · obtain ⟨l, rfl, ⟨hl, hn⟩, qe, q⟩ := h
    refine ⟨_, (pss_cons (ps_set (i := 1) sc_load_store.nd rfl (Or.inr rfl) (Kn.pe_mkr0 M_StoreReader hr (by decide) (by rfl)))
      (pss_cons (ps_set (i := 2) sc_load_store.nd rfl (Or.inl rfl) (Kn.pe_cl C_lines_of hr (by decide) (by rfl) (pa_cons (pv 0) pa_nil)))
      (pss_cons (ps_for (passes_of rfl) rfl (Kw.pi_enum1 (by rfl) T.b_enumerate (pa_cons (pv 2) pa_nil) (pk_cons pe_int pk_nil)) (pg_tup rfl (pgs_cons (pg_name (i := 3) sc_load_store.nd rfl (Or.inl rfl)) (pgs_cons (pg_name (i := 4) sc_load_store.nd rfl (Or.inl rfl)) pgs_nil))) (pss_one (ps_if (pt_not (pt_val (Kn.pe_mt M_StoreReader_read hr (by decide) (pv 1) (pa_cons (pv 4) pa_nil)))) (pss_one (Kn.ps_xk Z_InvalidSave hr (by decide) rfl (takes_of rfl rfl rfl rfl) (by rfl) (pa_cons (pv 3) pa_nil))) pss_nil)))
      (pss_cons (ps_if (pt_cmpR op_isN1 (pe_fld (pv 1) rfl) pe_non (nomark _)) (pss_one (Kn.ps_xk Z_InvalidSave hr (by decide) rfl (takes_of rfl rfl rfl rfl) (by rfl) (pa_cons (pe_op op_add (pe_callB Kn.cr_lenSeq (by rfl) T.b_len PySem.boot_len (pa_cons (pv 2) pa_nil)) pe_int) pa_nil))) pss_nil)
      (pss_cons (ps_set (i := 5) sc_load_store.nd rfl (Or.inl rfl) (Kn.pe_mkrD0 M_Store hr (by decide) (by rfl)))
      (pss_cons (ps_expr (Kn.pe_mt M_Store_fill_from hr (by decide) (pv 5) (pa_cons (pe_fld (pv 1) rfl) (pa_cons (pe_lc (own := [("index", 6)]) rfl sc_load_store.nd (pi_range1 rfl T.b_range (pa_cons (pe_fld (pv 1) rfl) pa_nil)) (blkOk_by (own := [("index", 6)]) (N := N_load_store) (sc := defScope s_load_store) (by decide +kernel)) (fun _ _ _ _ _ => pg_name (i := 6) sc_load_store.nd rfl (Or.inl rfl)) (fun _ _ _ _ _ => pts_nil) (fun _ _ _ _ _ => (by (refine pe_dget1 (td := tFld K (tVar 1) "rows") (ty := tVar 6) (hu_of hr) ?_ ?_ ?_); (exact pe_fld (pv 1) rfl); (exact (pv 6)); exact ⟨rfl, rfl, rfl, rfl⟩))) pa_nil))))
      (pss_one (ps_ret (pv 5))))))))), ?_⟩
    intro rp dx1 np1 nx1 ne1
    refine ⟨rp, dx1, rfl, upd_same, fun dt dr H1 ndt ndr R1 k1 => ⟨rfl, ?_⟩⟩
    have e01 : Ex H H1 := fun b o hb => k1 b o (by rw [upd_ne (ne_of_none hb np1), upd_ne (ne_of_none hb nx1)]; exact hb) (ne_of_none hb np1)
    have ndt0 : H dt = none := upd_none (upd_none ndt)
    have ndr0 : H dr = none := upd_none (upd_none ndr)
    refine q_asgL (xs := strsV (linesL l)) (el_call' (ea_cons (ev_var rfl) ea_nil) fun H2 e2 Q q E => ⟨l, rfl, by omega, q⟩) fun ll H2 nll e2 hll => ?_
    have sl : (strsV (linesL l)).length = (linesL l).length := by unfold strsV; rw [List.length_map]
    have hlrp : ll ≠ rp := fun z => by obtain ⟨_, h⟩ := R1.ob; rw [z, h] at nll; cases nll
    have hldt : ll ≠ dt := fun z => by rw [z, R1.t] at nll; cases nll
    have hldr : ll ≠ dr := fun z => by rw [z, R1.r] at nll; cases nll
    have fin : ∀ {H5 H6 H' : Hp}, Ex H H5 → Ex H5 H6 → H5 ll = some (.lst (strsV (linesL l))) → Kp3 H6 H' rp dt dr → Ex H H' ∧ H' ll = some (.lst (strsV (linesL l))) := fun e5 e6 hl k => ⟨fun b o hb => k b o (e6 _ _ (e5 _ _ hb)) (ne_of_none hb np1) (ne_of_none hb ndt0) (ne_of_none hb ndr0), k _ _ (e6 _ _ hl) hlrp hldt hldr⟩
    refine q_forEn1V (ev_var rfl) (sq_of hll) (fun H3 => ea_cons ev_c ea_nil) (fun n σ' H' => ∃ (y3 y4 : Option V) (s : SR), σ' = [some (.str (S l)), some (.ref rp), some (.ref ll), y3, y4, none, none] ∧ Ex H H' ∧ H' ll = some (.lst (strsV (linesL l))) ∧ RdI C_StoreReader H' rp dt dr s ∧ SI s ((linesL l).take n) ∧ goS SR0 (linesL l) 1 = goS s ((linesL l).drop n) (n + 1)) (fun H3 e3 => ⟨_, _, SR0, rfl, (e01.trans e2).trans e3, e3 _ _ hll, ⟨_, (R1.mono e2).mono e3, .nil⟩, SI.zero, by rw [List.drop_zero]⟩) (fun _ _ _ _ ⟨_, _, _, _, _, h, _⟩ => sq_of h) ?_ ?_
    · rintro n x σ' H' H5 hxn ⟨y3, y4, s, rfl, e4, hl4, R4, I4, hg⟩ e5
      unfold strsV at hxn
      rw [List.getElem?_map] at hxn
      obtain ⟨v, hv, rfl⟩ := Option.map_eq_some_iff.mp hxn
      have hn2 := (List.getElem?_eq_some_iff.mp hv).1
      have hvl := lines_len (List.mem_of_getElem? hv)
      have hsl := I4.len
      rw [List.length_take] at hsl
      rw [drop_cons hv] at hg
      obtain ⟨rs, R5, _⟩ := id (R4.mono e5)
      obtain ⟨dxr, hr5⟩ := R5.ob
      refine s_notB ?_
      refine ⟨_, rfl, rp, dxr, _, rfl, hr5, fd_no dt dr s.lk s.li (ctV s.ct) (by decide +kernel) (by decide +kernel) (by decide +kernel) (by decide +kernel) (by decide +kernel), ?_⟩
      refine ea_cons (ev_var rfl) ea_nil H5 (Ex.refl _) _ fun H6 e6 => ?_
      have e56 := e5.trans e6
      refine ⟨rp, dt, dr, s, _, v, rfl, R4.mono e56, I4, by omega, by omega, by omega, fun hz H7 e7 => ⟨false, rfl, ?_⟩, fun s' hz H7 R7 k7 => ⟨true, rfl, ?_⟩⟩
      · have he : errS (linesL l) = some (n + 1) := by
          unfold errS
          rw [hg]
          show errR _ (match stepL s v with | none => .inr (n + 1) | some s' => _) = _
          rw [hz]
          rfl
        exact raise1z (W := fun cls d _ H => E cls d H) G.x_InvalidSave.oe G.n_InvalidSave_line (sm_I (by omega) (by omega)) (ev_var rfl) fun d H' e hd => qe (n + 1) he d H' (((e4.trans e56).trans e7).trans e) hd
      · obtain ⟨f1, f2⟩ := fin e4 e56 hl4 k7
        refine ⟨_, _, s', rfl, f1, f2, R7, ?_, ?_⟩
        · have z := I4.step (by omega) hz
          rw [List.take_add_one, hv]
          exact z
        · rw [hg]
          show (match stepL s v with | none => Sum.inr (n + 1) | some s' => goS s' ((linesL l).drop (n + 1)) (n + 1 + 1)) = _
          rw [hz]
    · rintro σ' H3 ⟨y3, y4, s, rfl, e3, hl3, ⟨rs, R3, b⟩, I, hg⟩
      rw [sl] at I hg
      rw [List.drop_length] at hg
      rw [List.take_length] at I
      obtain ⟨dxr, hr3⟩ := R3.ob
      obtain ⟨tx, es, lk, li, ct⟩ := s
      cases ct with
      | none =>
        refine q_when (b := true) (et_is (et_isN (ev_fld (ev_var rfl) hr3 TC_StoreReader.cl TC_StoreReader.na_count (fd_c dt dr lk li (ctV none)))) rfl) (fun _ H4 e4 => ?_) fun z => nomatch z
        have he : errS (linesL l) = some ((linesL l).length + 1) := by
          unfold errS
          rw [hg]
          rfl
        exact raise1z (W := fun cls d _ H => E cls d H) G.x_InvalidSave.oe G.n_InvalidSave_line (i := (((linesL l).length + 1 : Nat) : Int)) (sm_I (by omega) (by omega)) (ev_addN (m := 1) (ev_is (ev_len (ev_var rfl) (sq_of (e4 _ _ hl3))) (by rw [sl])) rfl) fun d H' e hd => qe ((linesL l).length + 1) he d H' ((e3.trans e4).trans e) hd
      | some N =>
        obtain ⟨hli, hN⟩ := I.ct N rfl
        have hli : li < (N : Int) := hli
        have IL := I.len
        have IL : tx.length + es.length ≤ (linesL l).length := IL
        have I1 : (es.map (·.1)).Pairwise (· < ·) := I.ep
        have iel : ∀ e ∈ es, (e.1 : Int) ≤ li := I.el
        have hidx : idxL (mkR es 0 N) 0 = es := mkR_idx N 0 es I1 fun e he => by
          have := iel e he
          exact ⟨Nat.zero_le _, by omega⟩
        have hyl : (mkR es 0 N).length = N := mkR_len N 0 es
        have hrow : rowL (mkR es 0 N) 0 = es.map fun e : Ie => rLn e.1 e.2.1 e.2.2 := by rw [rowL_idx, hidx]
        have IM := idxL_mem (mkR es 0 N) 0
        have IN := idxL_in (mkR es 0 N) 0
        rw [hidx] at IM
        rw [hidx] at IN
        have hx : TxOk tx := ⟨I.tk, I.tp, by omega⟩
        have hy : RwOk (mkR es 0 N) := ⟨fun l' m' hm => by
          obtain ⟨i, hi⟩ := List.mem_iff_getElem?.mp hm
          exact I.ek _ (IN i l' m' hi), by rw [hyl]; omega, by rw [hrow, List.length_map]; omega⟩
        have hsv : svL tx (mkR es 0 N) = linesL l := by
          rw [I.ls]
          unfold svL
          rw [hrow, hyl]
        have he : errS (linesL l) = none := by
          unfold errS
          rw [hg]
          rfl
        generalize mkR es 0 N = ys at hidx hyl hrow IM IN hx hy hsv
        have qf := q he tx ys hx hy hsv
        refine q_when (b := false) (et_is (et_isN (ev_fld (ev_var rfl) hr3 TC_StoreReader.cl TC_StoreReader.na_count (fd_c dt dr lk li (ctV (some N))))) rfl) (fun z => nomatch z) fun _ H4 e4 => ?_
        intro p1 dxs np nx ne
        refine ⟨p1, dxs, rfl, upd_same, fun d1 r1 H5 nd nr S5 k5 => ⟨rfl, ?_⟩⟩
        have e45 : Ex H4 H5 := fun b o hb => k5 b o (by rw [upd_ne (ne_of_none hb np), upd_ne (ne_of_none hb nx)]; exact hb) (ne_of_none hb np)
        have e35 := e4.trans e45
        have e05 := e3.trans e35
        have np0 : H p1 = none := fresh_back (e3.trans e4) np
        obtain ⟨dxs', hs5⟩ := S5.ob
        have R5 := R3.mono e35
        have hr5 := e35 _ _ hr3
        have b : RsO H3 rs es := b
        have hv : ∀ i : Nat, RwO H3 ((valV rs (Sum.inl (i : Int) : Key)).getD .non) ((ys[i]?).getD none) := fun i => by
          cases hyi : ys[i]? with
          | none =>
            rw [b.non i fun hm => by
              obtain ⟨e, he, rfl⟩ := List.mem_map.mp hm
              have := (IM e he).2.2
              rw [Nat.sub_zero, hyi] at this
              cases this]
            rfl
          | some y =>
            cases y with
            | none =>
              rw [b.non i fun hm => by
                obtain ⟨e, he, rfl⟩ := List.mem_map.mp hm
                have := (IM e he).2.2
                rw [Nat.sub_zero, hyi] at this
                cases this]
              rfl
            | some lm =>
              have z := IN i lm.1 lm.2 hyi
              rw [Nat.zero_add] at z
              obtain ⟨v, h1, h2⟩ := b.val I1 _ z
              rw [h1]
              exact h2
        have hP : Paired (RwO H3) ((List.range ys.length).map fun i : Nat => (valV rs (Sum.inl (i : Int) : Key)).getD .non) ys := by
          refine pair_of (by rw [List.length_map, List.length_range]) fun i a' b' h1 h2 => ?_
          have hi := (List.getElem?_eq_some_iff.mp h2).1
          rw [List.getElem?_map, List.getElem?_range hi] at h1
          cases h1
          have z := hv i
          rw [h2] at z
          exact z
        rw [hyl] at hP
        have pm : ∀ {H6 : Hp}, Ex H3 H6 → Paired (RwO H6) ((List.range N).map fun i : Nat => (valV rs (Sum.inl (i : Int) : Key)).getD .non) ys := fun e => Paired.mapP hP fun _ _ z => z.mono e
        refine ⟨_, rfl, p1, dxs', _, rfl, hs5, fld_no d1 r1 (by decide +kernel) (by decide +kernel) (by decide +kernel), ?_⟩
        refine ev_fld (ev_var rfl) hr5 TC_StoreReader.cl TC_StoreReader.na_texts (fd_t dt dr lk li _) H5 (Ex.refl _) _ fun H6 e6 => ?_
        refine (el_lcR (n := (N : Int)) (f := fun i : Nat => (valV rs (Sum.inl (i : Int) : Key)).getD .non) (ea_cons (ev_fld (ev_var rfl) (e6 _ _ hr5) TC_StoreReader.cl TC_StoreReader.na_count (fd_c dt dr lk li (ctV (some N)))) ea_nil) ⟨by omega, by omega⟩ (fun _ => rfl) fun i H7 e7 hi => ev_dget1I (ev_fld (ev_var rfl) (e7 _ _ (e6 _ _ hr5)) TC_StoreReader.cl TC_StoreReader.na_rows (fd_r dt dr lk li _)) (ev_var rfl) (e7 _ _ (e6 _ _ R5.r))) H6 (Ex.refl _) _ fun bl H7 nbl e7 hbl => ?_
        have e57 := e6.trans e7
        refine ⟨p1, dxs', d1, r1, dt, bl, kvO tx, _, rfl, e57 _ _ hs5, e57 _ _ R5.t, hbl, fun x hx' => ?_, fun d' r' H8 nd' nr' S8 k8 => ?_⟩
        · obtain ⟨i, hi⟩ := List.mem_iff_getElem?.mp hx'
          obtain ⟨y, hyi, hR⟩ := pair_at (pm (e35.trans e57)) i x hi
          cases y with
          | none => exact .inl hR
          | some lm =>
            obtain ⟨a', h1, h2⟩ := hR
            have ht := hy.a lm.1 lm.2 (List.mem_of_getElem? hyi)
            exact .inr ⟨a', lm.1, lm.2, h1, h2, ht.1, ht.2⟩
        · have e08 : Ex H H8 := fun b' o hb => k8 b' o (e57 _ _ (e05 _ _ hb)) (ne_of_none hb np0)
          have k38 : ∀ b' xs', H7 b' = some (.tup xs') → H8 b' = some (.tup xs') := fun b' xs' hb => k8 b' _ hb (ne_of hb (e57 _ _ hs5) (by intro z; cases z))
          refine s_ret (v := .ref p1) (ev_var rfl) fun H9 e9 => qf p1 d' r' _ H9 np0 (fresh_back (e05.trans e57) nd') (fresh_back (e05.trans e57) nr') (S8.mono e9) (Paired.mapP (pm (e35.trans e57)) fun v y z => ?_) (e08.trans e9)
          cases y with
          | none => exact z
          | some lm =>
            obtain ⟨a', h1, h2⟩ := z
            exact ⟨a', h1, e9 _ _ (k38 _ _ h2)⟩
end

--SPLIT
section
variable {P : Program} {w : World} {K : PySem.W.Frag} {mg : Str → Option Value} {base : Heap}
/-! ### the lines that the law builds -/
def sgL : List Nat := lit "0123456789ab"
def ends4 : List (List Nat) := [[], [92, 110], [92, 34], [32]]
def fols : List (List Nat) := [lit "/z person ", lit " build "]
def wdP (a b : Nat) : List Nat := (([34] ++ List.replicate a 120) ++ ends4.getD b []) ++ [34]
def nmk (k : Nat) : List Nat := [110] ++ [sgL.getD k 0]
def ln1 (k a b : Nat) : List Nat := ((lit "setting " ++ nmk k) ++ [32]) ++ wdP a b
def ln2 (k a b : Nat) : List Nat := ((lit "record " ++ TL.numL (2 * k)) ++ lit " \"a b\" ") ++ wdP a b
def lnK (k : Nat) : List Nat := (lit "link " ++ nmk k) ++ lit " a/b"
def lnF (k w a b : Nat) : List Nat := ((lit "file " ++ nmk k) ++ fols.getD w []) ++ wdP a b
def nm0 (k w : Nat) : List Nat := nmk k ++ (if w = 0 then [47, 122] else [])
def ends4' : List (List Nat) := [[], [10], [34], [32]]
def wv (a b : Nat) : List Nat := List.replicate a 120 ++ ends4'.getD b []
theorem V1 : ∀ k < 12, ∀ a < 3, ∀ b < 4, nmS (ln1 k a b) = some (nmk k) := by decide +kernel
theorem VK : ∀ k < 12, nmE (lnK k) = some (nmk k) := by decide +kernel
theorem VF : ∀ k < 12, ∀ w < 2, ∀ a < 3, ∀ b < 4, nmE (lnF k w a b) = some (nm0 k w) := by decide +kernel
theorem V2 : ∀ k < 12, ∀ a < 3, ∀ b < 4, PT (ln2 k a b) = [lit "record", TL.numL (2 * k), [97,32,98], wv a b] := by decide +kernel
theorem V2b : ∀ k < 12, ∀ a < 3, ∀ b < 4, rLn (2 * k) [97, 32, 98] (wv a b) = ln2 k a b := by decide +kernel
theorem V2c : ∀ a < 3, ∀ b < 4, okText (wv a b) = true := by decide +kernel
theorem VN : ∀ n < 26, PT (nLn n) = [lit "records", TL.numL n] ∧ isN4 (TL.numL n) = true ∧ dv (TL.numL n) = n := by decide +kernel
def c0 : List Nat := lit "content \"\" \"\""
def c1 : List Nat := lit "content \"a\" \"b\""
theorem VC : PT c0 = [lit "content", [], []] ∧ PT c1 = [lit "content", [97], [98]] ∧ cLn [] [] = c0 ∧ cLn [97] [98] = c1 ∧ key [] < key [97] ∧ okText [] = true ∧ okText [97] = true ∧ okText [98] = true ∧ okText [97,32,98] = true := by decide +kernel
def inss : List (List Nat) := [[], lit "end", lit "records 0", lit "file zz", [35]]
theorem VI : ∀ i < 5, nmE (inss.getD i []) = none ∧ nmS (inss.getD i []) = none := by decide +kernel
theorem VJ : ∀ i < 5, i ≠ 2 → (PT (inss.getD i [])).length ≤ 1 ∨ (PT (inss.getD i []) = [lit "file", lit "zz"] ∧ isN4 (lit "zz") = false) := by decide +kernel
theorem NL : (∀ k < 12, ∀ a < 3, ∀ b < 4, 10 ∉ ln1 k a b) ∧ (∀ k < 12, ∀ a < 3, ∀ b < 4, 10 ∉ ln2 k a b) := by decide +kernel
theorem NLb : (∀ k < 12, 10 ∉ lnK k) ∧ (∀ k < 12, ∀ w < 2, ∀ a < 3, ∀ b < 4, 10 ∉ lnF k w a b) := by decide +kernel
theorem NLc : (∀ n < 26, 10 ∉ nLn n) ∧ (10 ∉ c0 ∧ 10 ∉ c1) ∧ (∀ i < 5, 10 ∉ inss.getD i []) := by decide +kernel
def sp__law_cell (K : PySem.W.Frag) : Sp := sp3 (fun (a : Addr) (_ : List Int) (k : Nat) => [.ref a, .int (k : Int)]) (fun a ns _ H => SqL K H a (ns.map V.int)) (fun _ ns k => .int (L2.cellOf ns k))
theorem ok__law_cell {f : Addr} {C_Tree C_Store C_StoreReader : Addr} {fd : FuncData} (F : Fun K "_law_cell" "_law_cell" s__law_cell f fd) (T : Tx mg) (G : Gx K mg) (TC_Tree : Tc_Tree K C_Tree) (TC_Store : Tc_Store K C_Store) (TC_StoreReader : Tc_StoreReader K C_StoreReader)  : FnOk P w K mg base CX0 1 f fd ["script", "k"] (sp__law_cell K) := by
  refine F.ok sc__law_cell (fun vs H Q E h => ?_) (fun cdv A outer s H vs Q E hr h => ?_)
  · obtain ⟨a, ns, k, rfl, _⟩ := h
    rfl
  · obtain ⟨a, ns, k, rfl, hS, q⟩ := h
    refine ⟨_, (pss_cons (ps_if (pt_cmpR op_lt (pv 1) (pe_callB Kn.cr_lenSeq (by rfl) T.b_len PySem.boot_len (pa_cons (pv 0) pa_nil)) (nomark _)) (pss_one (ps_ret (pe_callTy Kn.cr_int1 (by rfl) T.b_int (by decide +kernel) (pa_cons (pe_ix ix_list (pv 0) (pv 1) (fun _ _ => rfl)) pa_nil)))) pss_nil)
      (pss_one (ps_ret pe_int))), ?_⟩
    refine q_when (et_test (ev_op (ev_var rfl) (ev_len (ev_var rfl) hS) rv_lt)) (fun hb H1 e1 => ?_) (fun hb H1 e1 => ?_)
    · have hk : k < ns.length := by
        rw [List.length_map, decide_eq_true_eq] at hb
        omega
      exact s_ret (ev_cb (ea_cons (ev_op (ev_var rfl) (ev_var rfl) (rv_ixL (ex_l e1 hS) (atI_cell hk))) ea_nil) rc_int) fun H2 e2 => q H2 (e1.trans e2)
    · have hk : ¬ k < ns.length := by
        rw [List.length_map, decide_eq_false_iff_not] at hb
        omega
      refine s_ret ev_c fun H2 e2 => ?_
      have z : Q (.int (L2.cellOf ns k)) H2 := q H2 (e1.trans e2)
      rw [cell_out hk] at z
      exact z
theorem ev_cellA {σ : L2.St} {H : Hp} {a : Addr} {ns : List Int} {c : Nat} {ta : TA} (h : EvA ta σ H [.ref a, .int (c : Int)]) (hS : SqL K H a (ns.map V.int)) : Ev (tCB rAbs (tCons (tCall (sp__law_cell K) [] E0 ta) tNil)) σ H (.int (((L2.cellOf ns c).natAbs : Nat) : Int)) :=
  ev_cb (ea_cons (ev_c3 (a := a) (b := ns) (c := c) h fun H1 e1 => ex_l e1 hS) ea_nil) rc_abs

def aK (c k : Nat) : Nat := c / (10 + k) % 3
def bK (c k : Nat) : Nat := c / (20 + k) % 4
def fK (c k : Nat) : Nat := c / (30 + k) % 3
def wK (c k : Nat) : Nat := c / (40 + k) % 2
theorem aK_lt (c k : Nat) : aK c k < 3 := Nat.mod_lt _ (by decide)
theorem bK_lt (c k : Nat) : bK c k < 4 := Nat.mod_lt _ (by decide)
theorem wK_lt (c k : Nat) : wK c k < 2 := Nat.mod_lt _ (by decide)
def lnL (kind c k : Nat) : List Nat := if kind = 1 then ln1 k (aK c k) (bK c k) else if kind = 2 then ln2 k (aK c k) (bK c k) else if fK c k = 0 then lnK k else lnF k (wK c k) (aK c k) (bK c k)
def cnt (c : Nat) : Nat := 3 + c % 10
def bodyL (kind c : Nat) : List (List Nat) := (List.range (cnt c)).map (lnL kind c)
def uL (kind c : Nat) : List (List Nat) := if kind = 2 then ([c0, c1] ++ bodyL kind c) ++ [nLn (2 * cnt c)] else bodyL kind c
theorem el_catR {σ : L2.St} {H : Hp} {ta tb : TE} {p : Addr} {xs ys : List V} (h1 : EvL ta σ H xs) (h2 : Ev tb σ H (.ref p)) (hp : H p = some (.lst ys)) (hz : xs.length + ys.length ≤ 100000) : EvL (tOp rCat ta tb) σ H (xs ++ ys) := fun H1 e Q q =>
  h1 H1 e _ fun a H2 na e2 ha => h2 H2 (e.trans e2) _ fun H3 e3 => ⟨a, p, xs, ys, rfl, rfl, e3 _ _ ha, ((e.trans e2).trans e3) _ _ hp, sz_of hz, fun l hl => q _ _ (fresh_back (e2.trans e3) hl) ((e2.trans e3).trans (Ex.new hl)) upd_same⟩
theorem lit_at {ls : List (List Nat)} {i : Nat} (h : i < ls.length) : (ls.map fun l => V.str (S l))[i]? = some (V.str (S (ls.getD i []))) := by
  rw [List.getElem?_map, List.getElem?_eq_getElem h, List.getD_eq_getElem?_getD, List.getElem?_eq_getElem h]
  rfl
theorem ids (c a m k : Nat) : ((c : Int) / ((a : Int) + (k : Int))) % (m : Int) = ((c / (a + k) % m : Nat) : Int) := by
  rw [Int.natCast_emod, Int.natCast_ediv, Int.natCast_add]
theorem wd_len {a b : Nat} (ha : a < 3) (hb : b < 4) : (wdP a b).length ≤ 6 := by
  have z : ∀ a < 3, ∀ b < 4, (wdP a b).length ≤ 6 := by decide +kernel
  exact z a ha b hb
theorem lits_len : (lit "setting ").length = 8 ∧ (lit "record ").length = 7 ∧ (lit " \"a b\" ").length = 7 ∧ (lit "link ").length = 5 ∧ (lit " a/b").length = 4 ∧ (lit "file ").length = 5 ∧ (lit "records ").length = 8 ∧ ∀ i < 2, (fols.getD i []).length ≤ 10 := by decide +kernel
theorem num_le {n : Nat} (h : n < 26) : (TL.numL n).length ≤ 9 := num_len (by omega)
theorem nLn_eq (n : Nat) : lit "records " ++ TL.numL n = nLn n := by
  show _ = lit "records" ++ ([32] ++ TL.numL n)
  rw [show lit "records " = lit "records" ++ [32] by decide +kernel, List.append_assoc]
def sp__law_lines (_ : PySem.W.Frag) : Sp := fun vs H Q _ => ∃ kind c : Nat, vs = [.int (kind : Int), .int (c : Int)] ∧ Rl H (strsV (uL kind c)) Q
theorem ok__law_lines {f : Addr} {C_Tree C_Store C_StoreReader : Addr} {fd : FuncData} (F : Fun K "_law_lines" "_law_lines" s__law_lines f fd) (T : Tx mg) (G : Gx K mg) (TC_Tree : Tc_Tree K C_Tree) (TC_Store : Tc_Store K C_Store) (TC_StoreReader : Tc_StoreReader K C_StoreReader)  : FnOk P w K mg base CX0 1 f fd ["kind", "cell"] (sp__law_lines K) := by
  refine F.ok sc__law_lines (fun vs H Q E h => ?_) (fun cdv A outer s H vs Q E hr h => ?_)
  · obtain ⟨kind, c, rfl, _⟩ := h
    rfl
  · obtain ⟨kind, c, rfl, q⟩ := h
    refine ⟨_, (pss_cons (ps_set (i := 2) sc__law_lines.nd rfl (Or.inl rfl) (pe_lst pa_nil))
      (pss_cons (ps_set (i := 3) sc__law_lines.nd rfl (Or.inl rfl) (pe_op op_add pe_int (pe_op op_mod (pv 1) pe_int)))
      (pss_cons (ps_for PassesOwn.never rfl (pi_range1 rfl T.b_range (pa_cons (pv 3) pa_nil)) (pg_name (i := 4) sc__law_lines.nd rfl (Or.inl rfl)) (pss_cons (ps_set (i := 5) sc__law_lines.nd rfl (Or.inl rfl) (pe_op Kn.op_addS pe_str (pe_ix ix_str pe_str (pv 4) (fun _ _ => rfl))))
      (pss_cons (ps_set (i := 6) sc__law_lines.nd rfl (Or.inl rfl) (pe_op Kn.op_addS (pe_op Kn.op_addS (pe_op Kn.op_addS pe_str (pe_op Kn.op_mulS pe_str (pe_op op_mod (pe_op op_fdiv (pv 1) (pe_op op_add pe_int (pv 4))) pe_int))) (pe_ix ix_list (pe_lst (pa_cons pe_str (pa_cons pe_str (pa_cons pe_str (pa_cons pe_str pa_nil))))) (pe_op op_mod (pe_op op_fdiv (pv 1) (pe_op op_add pe_int (pv 4))) pe_int) (fun _ _ => rfl))) pe_str))
      (pss_one (ps_if (pt_cmpR op_eq (pv 0) pe_int (nomark _)) (pss_one (ps_expr (pe_bm PySem.F.plainAttrs_list PySem.F.slot_list_append PySem.F.type_list_append mt_append (pv 2) (pa_cons (pe_op Kn.op_addS (pe_op Kn.op_addS (pe_op Kn.op_addS pe_str (pv 5)) pe_str) (pv 6)) pa_nil)))) (pss_one (ps_if (pt_cmpR op_eq (pv 0) pe_int (nomark _)) (pss_one (ps_expr (pe_bm PySem.F.plainAttrs_list PySem.F.slot_list_append PySem.F.type_list_append mt_append (pv 2) (pa_cons (pe_op Kn.op_addS (pe_op Kn.op_addS (pe_op Kn.op_addS pe_str (pe_callTy Kn.cr_strInt (by rfl) T.b_str (by decide +kernel) (pa_cons (pe_op op_mul (pv 4) pe_int) pa_nil))) pe_str) (pv 6)) pa_nil)))) (pss_one (ps_if (pt_cmpR op_eq (pe_op op_mod (pe_op op_fdiv (pv 1) (pe_op op_add pe_int (pv 4))) pe_int) pe_int (nomark _)) (pss_one (ps_expr (pe_bm PySem.F.plainAttrs_list PySem.F.slot_list_append PySem.F.type_list_append mt_append (pv 2) (pa_cons (pe_op Kn.op_addS (pe_op Kn.op_addS pe_str (pv 5)) pe_str) pa_nil)))) (pss_one (ps_expr (pe_bm PySem.F.plainAttrs_list PySem.F.slot_list_append PySem.F.type_list_append mt_append (pv 2) (pa_cons (pe_op Kn.op_addS (pe_op Kn.op_addS (pe_op Kn.op_addS pe_str (pv 5)) (pe_ix ix_list (pe_lst (pa_cons pe_str (pa_cons pe_str pa_nil))) (pe_op op_mod (pe_op op_fdiv (pv 1) (pe_op op_add pe_int (pv 4))) pe_int) (fun _ _ => rfl))) (pv 6)) pa_nil)))))))))))))
      (pss_cons (ps_if (pt_cmpR op_eq (pv 0) pe_int (nomark _)) (pss_one (ps_set (i := 2) sc__law_lines.nd rfl (Or.inl rfl) (pe_op op_cat (pe_op op_cat (pe_lst (pa_cons pe_str (pa_cons pe_str pa_nil))) (pv 2)) (pe_lst (pa_cons (pe_op Kn.op_addS pe_str (pe_callTy Kn.cr_strInt (by rfl) T.b_str (by decide +kernel) (pa_cons (pe_op op_mul pe_int (pv 3)) pa_nil))) pa_nil))))) pss_nil)
      (pss_one (ps_ret (pv 2))))))), ?_⟩
    have hc : cnt c ≤ 12 := by unfold cnt; omega
    obtain ⟨l1, l2, l3, l4, l5, l6, l7, l8⟩ := lits_len
    refine q_asgL (el_lst ea_nil (by decide)) fun p H1 np e1 hp => ?_
    refine q_asg (v := .int ((cnt c : Nat) : Int)) (ev_is (ev_op ev_c (ev_op (ev_var rfl) ev_c (rv_mod (by decide))) rv_I0) (congrArg V.int (by unfold cnt; omega))) fun H2 e2 => ?_
    refine q_forR1 (n := ((cnt c : Nat) : Int)) (ea_cons (ev_var rfl) ea_nil) ⟨by omega, by omega⟩ (fun i σ' H' => ∃ x4 x5 x6, σ' = [some (.int (kind : Int)), some (.int (c : Int)), some (.ref p), some (.int ((cnt c : Nat) : Int)), x4, x5, x6] ∧ Ex H H' ∧ H' p = some (.lst (strsV ((List.range i).map (lnL kind c))))) (fun H3 e3 => ⟨_, _, _, rfl, (e1.trans e2).trans e3, e3 _ _ (e2 _ _ hp)⟩) ?_ ?_
    · rintro (i : Nat) σ' H3 hi ⟨x4, x5, x6, rfl, e3, hl⟩
      have hi : i < 12 := by omega
      have h26 : 2 * i < 26 := by omega
      have hn := num_le h26
      have hz : (strsV ((List.range i).map (lnL kind c))).length < 100000 := by
        unfold strsV
        rw [List.length_map, List.length_map, List.length_range]
        omega
      have ha := aK_lt c i
      have hb := bK_lt c i
      have hw := wK_lt c i
      have wl := wd_len ha hb
      have nl : (nmk i).length = 2 := rfl
      have fl := l8 _ hw
      have hsg : atI sgL (i : Int) = some (sgL.getD i 0) := by
        have z : ∀ i : Nat, i < 12 → atI sgL (i : Int) = some (sgL.getD i 0) := by decide +kernel
        exact z i hi
      refine q_asg (v := .str (S (nmk i))) (ev_op (ev_cS (l := [110]) rfl) (ev_idxS (l := sgL) (ev_cS rfl) (ev_var rfl) (by decide +kernel) hsg) (rv_addS (by show 1 + 1 ≤ 100000; decide))) fun H4 e4 => ?_
      have edv : ∀ {σ : L2.St} {H : Hp} (a m : Nat), 0 < m → σ[1]? = some (some (.int (c : Int))) → σ[4]? = some (some (.int (i : Int))) → 0 < a → a < 100 → Ev (tOp (rI (fun _ j => 0 < j) fun i j => .int (i % j)) (tOp (rI CDiv fun i j => .int (i / j)) (tVar 1) (tOp (rI0 fun i j => .int (i + j)) (tC (.int (a : Int))) (tVar 4))) (tC (.int (m : Int)))) σ H (.int ((c / (a + i) % m : Nat) : Int)) := fun a m hm s1 s4 h0 h1 => ev_is (ev_op (ev_op (ev_var s1) (ev_op ev_c (ev_var s4) rv_I0) (rv_fdiv ⟨by omega, by omega⟩)) ev_c (rv_mod (by omega))) (congrArg V.int (ids c a m i))
      refine q_asg (v := .str (S (wdP (aK c i) (bK c i)))) (ev_op (ev_op (ev_op (ev_cS (l := [34]) rfl) (ev_is (ev_op (ev_cS (l := [120]) rfl) (edv 10 3 (by decide) rfl rfl (by decide) (by decide)) (rv_mulS (n := aK c i) (by omega) (by decide))) (by rw [show (List.replicate (aK c i) [120]).flatten = List.replicate (aK c i) 120 from by induction aK c i with | zero => rfl | succ n ih => rw [List.replicate_succ, List.replicate_succ, List.flatten_cons, ih]; rfl])) (rv_addS ?_)) (ev_ixLit (i := bK c i) (xs := ends4.map fun l => V.str (S l)) (el_lst (ea_cons (ev_cS rfl) (ea_cons (ev_cS rfl) (ea_cons (ev_cS rfl) (ea_cons (ev_cS rfl) ea_nil)))) (by decide)) (edv 20 4 (by decide) rfl rfl (by decide) (by decide)) rfl (lit_at hb)) (rv_addS ?_)) (ev_cS (l := [34]) rfl) (rv_addS ?_)) fun H5 e5 => ?_
      · unfold wdP at wl
        simp only [List.length_append, List.length_singleton] at wl ⊢
        omega
      · unfold wdP at wl
        simp only [List.length_append, List.length_singleton] at wl ⊢
        omega
      · unfold wdP at wl
        simp only [List.length_append, List.length_singleton] at wl ⊢
        omega
      have e35 := e4.trans e5
      have hl5 := e35 _ _ hl
      have done : ∀ {H6 H7 : Hp} {y : List Nat}, Ex H5 H6 → Ex H6 H7 → lnL kind c i = y → ∃ x4 x5 x6, ([some (.int (kind : Int)), some (.int (c : Int)), some (.ref p), some (.int ((cnt c : Nat) : Int)), some (.int (i : Int)), some (.str (S (nmk i))), some (.str (S (wdP (aK c i) (bK c i))))] : L2.St) = [some (.int (kind : Int)), some (.int (c : Int)), some (.ref p), some (.int ((cnt c : Nat) : Int)), x4, x5, x6] ∧ Ex H (upd H7 p (.lst (strsV ((List.range i).map (lnL kind c)) ++ [V.str (S y)]))) ∧ (upd H7 p (.lst (strsV ((List.range i).map (lnL kind c)) ++ [V.str (S y)]))) p = some (.lst (strsV ((List.range (i + 1)).map (lnL kind c)))) := fun {H6 H7 y} e6 e7 hy => ⟨_, _, _, rfl, Ex.mut (((e3.trans e35).trans e6).trans e7) np, by
        rw [upd_same, List.range_succ, List.map_append]
        unfold strsV
        rw [List.map_append, ← hy]
        rfl⟩
      refine s_if (b := decide (kind = 1)) (et_is (et_test (ev_op (ev_var rfl) ev_c rv_eqI)) (decide_eq_decide.mpr (by omega))) (fun hk H6 e6 => ?_) fun hk H6 e6 => ?_
      · have hk := of_decide_eq_true hk
        refine s_app (v := .str (S (ln1 i (aK c i) (bK c i)))) (e6 _ _ hl5) (ev_var rfl) (ev_op (ev_op (ev_op (ev_cS (l := lit "setting ") rfl) (ev_var rfl) (rv_addS ?_)) (ev_cS (l := [32]) rfl) (rv_addS ?_)) (ev_var rfl) (rv_addS ?_)) hz fun H7 e7 => done e6 e7 (by unfold lnL; rw [if_pos hk])
        all_goals (try simp only [List.length_append, List.length_singleton]); omega
      have hk1 := of_decide_eq_false hk
      refine s_if (b := decide (kind = 2)) (et_is (et_test (ev_op (ev_var rfl) ev_c rv_eqI)) (decide_eq_decide.mpr (by omega))) (fun hk H7 e7 => ?_) fun hk H7 e7 => ?_
      · have hk := of_decide_eq_true hk
        refine s_app (v := .str (S (ln2 i (aK c i) (bK c i)))) (e7 _ _ (e6 _ _ hl5)) (ev_var rfl) (ev_op (ev_op (ev_op (ev_cS (l := lit "record ") rfl) (ev_strInt (n := 2 * i) (ev_is (ev_op (ev_var rfl) ev_c (rv_mul (.inr ⟨by decide, by decide⟩))) (congrArg V.int (by omega))) (by omega)) (rv_addS ?_)) (ev_cS (l := lit " \"a b\" ") rfl) (rv_addS ?_)) (ev_var rfl) (rv_addS ?_)) hz fun H8 e8 => done (e6.trans e7) e8 (by unfold lnL; rw [if_neg hk1, if_pos hk])
        all_goals (try simp only [List.length_append, List.length_singleton]); omega
      have hk2 := of_decide_eq_false hk
      refine s_if (b := decide (fK c i = 0)) (et_is (et_test (ev_op (edv 30 3 (by decide) rfl rfl (by decide) (by decide)) ev_c rv_eqI)) (decide_eq_decide.mpr (by unfold fK; omega))) (fun hk H8 e8 => ?_) fun hk H8 e8 => ?_
      · have hk := of_decide_eq_true hk
        refine s_app (v := .str (S (lnK i))) (e8 _ _ (e7 _ _ (e6 _ _ hl5))) (ev_var rfl) (ev_op (ev_op (ev_cS (l := lit "link ") rfl) (ev_var rfl) (rv_addS ?_)) (ev_cS (l := lit " a/b") rfl) (rv_addS ?_)) hz fun H9 e9 => done ((e6.trans e7).trans e8) e9 (by unfold lnL; rw [if_neg hk1, if_neg hk2, if_pos hk])
        all_goals (try simp only [List.length_append, List.length_singleton]); omega
      · have hk := of_decide_eq_false hk
        refine s_app (v := .str (S (lnF i (wK c i) (aK c i) (bK c i)))) (e8 _ _ (e7 _ _ (e6 _ _ hl5))) (ev_var rfl) (ev_op (ev_op (ev_op (ev_cS (l := lit "file ") rfl) (ev_var rfl) (rv_addS ?_)) (ev_ixLit (i := wK c i) (xs := fols.map fun l => V.str (S l)) (el_lst (ea_cons (ev_cS rfl) (ea_cons (ev_cS rfl) ea_nil)) (by decide)) (edv 40 2 (by decide) rfl rfl (by decide) (by decide)) rfl (lit_at hw)) (rv_addS ?_)) (ev_var rfl) (rv_addS ?_)) hz fun H9 e9 => done ((e6.trans e7).trans e8) e9 (by unfold lnL; rw [if_neg hk1, if_neg hk2, if_neg hk])
        all_goals (try simp only [List.length_append, List.length_singleton]); omega
    · rintro σ' H3 ⟨x4, x5, x6, rfl, e3, hl⟩
      have hl : H3 p = some (.lst (strsV (bodyL kind c))) := hl
      have hbl : (strsV (bodyL kind c)).length ≤ 12 := by
        unfold strsV bodyL
        rw [List.length_map, List.length_map, List.length_range]
        exact hc
      refine q_when (b := decide (kind = 2)) (et_is (et_test (ev_op (ev_var rfl) ev_c rv_eqI)) (decide_eq_decide.mpr (by omega))) (fun hk H4 e4 => ?_) fun hk H4 e4 => ?_
      · have hk := of_decide_eq_true hk
        have hn := num_le (n := 2 * cnt c) (by omega)
        refine s_asgL (xs := strsV (uL kind c)) (by
          have z := el_cat (σ := [some (.int (kind : Int)), some (.int (c : Int)), some (.ref p), some (.int ((cnt c : Nat) : Int)), x4, x5, x6]) (H := H4) (el_catR (el_lst (ea_cons (ev_cS (x := "content \"\" \"\"") (l := c0) rfl) (ea_cons (ev_cS (x := "content \"a\" \"b\"") (l := c1) rfl) ea_nil)) (by decide)) (ev_var (i := 2) rfl) (e4 _ _ hl) (by show 2 + _ ≤ _; omega)) (el_lst (ea_cons (ev_op (ev_cS (x := "records ") (l := lit "records ") rfl) (ev_strInt (n := 2 * cnt c) (ev_is (ev_op (ev_c (v := .int 2)) (ev_var (i := 3) rfl) (rv_mul (.inl ⟨by decide, by decide⟩))) (congrArg V.int (by omega))) (by omega)) (rv_addS (by omega))) ea_nil) (by show 1 ≤ 100000; decide)) (by rw [List.length_append]; show 2 + _ + 1 ≤ _; omega)
          rw [nLn_eq] at z
          unfold uL
          rw [if_pos hk]
          unfold strsV at z ⊢
          rw [List.map_append, List.map_append]
          exact z) fun p2 H5 np2 e5 hp2 => ?_
        exact s_ret (ev_var rfl) fun H6 e6 => q p2 H6 (fresh_back (e3.trans e4) np2) (((e3.trans e4).trans e5).trans e6) (e6 _ _ hp2)
      · have hk := of_decide_eq_false hk
        refine s_ret (ev_var rfl) fun H6 e6 => q p H6 np ((e3.trans e4).trans e6) (e6 _ _ (e4 _ _ ?_))
        rw [hl]
        unfold uL
        rw [if_neg hk]
end

--SPLIT
section
variable {P : Program} {w : World} {K : PySem.W.Frag} {mg : Str → Option Value} {base : Heap}
/-! ### the spoilt lines -/
def putS (u : List (List Nat)) (a : Nat) (x : List Nat) : List (List Nat) := (u.take a ++ [x]) ++ u.drop (a + 1)
def insS (u : List (List Nat)) (a : Nat) (x : List Nat) : List (List Nat) := (u.take a ++ [x]) ++ u.drop a
def chL : List Nat := lit "A\"/0z "
def plc (l : List Nat) (c : Nat) : Nat := c % (l.length + 1)
def cut0 (l : List Nat) (c : Nat) : List Nat := l.take (plc l c) ++ l.drop (plc l c + 1)
def cut1' (l : List Nat) (c : Nat) : List Nat := (l.take (plc l c) ++ [32, 32]) ++ l.drop (plc l c)
def cut2 (l : List Nat) (c : Nat) : List Nat := (l.take (plc l c) ++ [chL.getD (c / 100 % 6) 0]) ++ l.drop (plc l c + 1)
def spL (u : List (List Nat)) (way a c : Nat) : List (List Nat) :=
  if way = 0 then putS u a (cut0 (u.getD a []) c) else if way = 1 then putS u a (cut1' (u.getD a []) c) else if way = 2 then putS u a (cut2 (u.getD a []) c) else
  if way = 3 then putS u a (u.getD ((a + 1) % u.length) []) else if way = 4 then insS u a (u.getD a []) else if way = 5 then insS u a (inss.getD (c / 100 % 5) []) else u.take (u.length - 1)
theorem el_slFrom {τ : Type} {σ : L2.St} {H : Hp} {te : TE} {g : τ → V} {ns : List τ} {j : Int} {p : Addr} {to tp : TO} (h : Ev te σ H (.ref p)) (h1 : EvO to σ H (some j)) (h2 : EvO tp σ H none) (hs : SqL K H p (ns.map g)) (b : Nat) (hj : j = (b : Int)) :
    EvL (tSl (rSlL K) te to tp) σ H ((ns.drop b).map g) := by
  have e : cutV (ns.map g) (some j) none = (ns.drop b).map g := by
    subst hj
    unfold cutV
    rw [HT.sIx_none, HT.sIx_nat, List.length_map, List.map_drop]
    by_cases hb : b ≤ ns.length
    · rw [Nat.min_eq_left hb, List.take_of_length_le]
      rw [List.length_drop, List.length_map]
      omega
    · rw [Nat.min_eq_right (by omega), List.drop_of_length_le (by rw [List.length_map]; omega), List.drop_of_length_le (by rw [List.length_map]; omega)]
      exact List.take_nil
  rw [← e]
  exact el_sl h h1 h2 hs
theorem strsV_app (a b : List (List Nat)) : strsV (a ++ b) = strsV a ++ strsV b := List.map_append
theorem el_3 {σ : L2.St} {H : Hp} {t2 tx : TE} {p : Addr} {u : List (List Nat)} {a b : Nat} {x : List Nat} (h0 : ∀ H1, Ex H H1 → Ev (tVar 0) σ H1 (.ref p)) (h2 : Ev (tVar 2) σ H (.int (a : Int))) (hb : Ev t2 σ H (.int (b : Int))) (hp : H p = some (.lst (strsV u))) (hu : u.length ≤ 1000) (hx : Ev tx σ H (.str (S x))) :
    EvL (tOp rCat (tOp rCat (tSl (rSlL K) (tVar 0) tNoPart (tPart (tVar 2))) (tLst (tCons tx tNil))) (tSl (rSlL K) (tVar 0) (tPart t2) tNoPart)) σ H (strsV ((u.take a ++ [x]) ++ u.drop b)) := by
  have z := el_cat (el_cat (el_slTo (K := K) (g := fun l => V.str (S l)) (ns := u) (h0 H (Ex.refl _)) eo_none (eo_some h2) (sq_of hp) a rfl) (el_lst (ea_cons hx ea_nil) (by show 1 ≤ 100000; decide)) (by rw [List.length_map, List.length_take]; show _ + 1 ≤ _; omega)) (el_slFrom (K := K) (g := fun l => V.str (S l)) (ns := u) (h0 H (Ex.refl _)) (eo_some hb) eo_none (sq_of hp) b rfl) (by rw [List.length_append, List.length_map, List.length_take, List.length_map, List.length_drop]; show _ + 1 + _ ≤ _; omega)
  rw [strsV_app, strsV_app]
  exact z
def sp__law_spoilt (_ : PySem.W.Frag) : Sp := fun vs H Q _ => ∃ (p : Addr) (u : List (List Nat)) (way a c : Nat), vs = [.ref p, .int (way : Int), .int (a : Int), .int (c : Int)] ∧ H p = some (.lst (strsV u)) ∧ a < u.length ∧ u.length ≤ 1000 ∧ (∀ l ∈ u, l.length ≤ 1000) ∧ Rl H (strsV (spL u way a c)) Q
theorem ok__law_spoilt {f : Addr} {C_Tree C_Store C_StoreReader : Addr} {fd : FuncData} (F : Fun K "_law_spoilt" "_law_spoilt" s__law_spoilt f fd) (T : Tx mg) (G : Gx K mg) (TC_Tree : Tc_Tree K C_Tree) (TC_Store : Tc_Store K C_Store) (TC_StoreReader : Tc_StoreReader K C_StoreReader)  : FnOk P w K mg base CX0 1 f fd ["lines", "way", "at", "cell"] (sp__law_spoilt K) := by
  refine F.ok sc__law_spoilt (fun vs H Q E h => ?_) (fun cdv A outer s H vs Q E hr h => ?_)
  · obtain ⟨p, u, way, a, c, rfl, _⟩ := h
    rfl
  · obtain ⟨p, u, way, a, c, rfl, hp, ha, hu, hls, q⟩ := h
    refine ⟨_, (pss_cons (ps_set (i := 4) sc__law_spoilt.nd rfl (Or.inl rfl) (pe_ix ix_list (pv 0) (pv 2) (fun _ _ => rfl)))
      (pss_cons (ps_set (i := 5) sc__law_spoilt.nd rfl (Or.inl rfl) (pe_op op_mod (pv 3) (pe_op op_add (pe_callB Kn.cr_lenStr (by rfl) T.b_len PySem.boot_len (pa_cons (pv 4) pa_nil)) pe_int)))
      (pss_cons (ps_if (pt_cmpR op_eq (pv 1) pe_int (nomark _)) (pss_one (ps_ret (pe_op op_cat (pe_op op_cat (pe_slice sl_list (pv 0) po_none (po_some (pv 2))) (pe_lst (pa_cons (pe_op Kn.op_addS (pe_slice sl_str (pv 4) po_none (po_some (pv 5))) (pe_slice sl_str (pv 4) (po_some (pe_op op_add (pv 5) pe_int)) po_none)) pa_nil))) (pe_slice sl_list (pv 0) (po_some (pe_op op_add (pv 2) pe_int)) po_none)))) pss_nil)
      (pss_cons (ps_if (pt_cmpR op_eq (pv 1) pe_int (nomark _)) (pss_one (ps_ret (pe_op op_cat (pe_op op_cat (pe_slice sl_list (pv 0) po_none (po_some (pv 2))) (pe_lst (pa_cons (pe_op Kn.op_addS (pe_op Kn.op_addS (pe_slice sl_str (pv 4) po_none (po_some (pv 5))) pe_str) (pe_slice sl_str (pv 4) (po_some (pv 5)) po_none)) pa_nil))) (pe_slice sl_list (pv 0) (po_some (pe_op op_add (pv 2) pe_int)) po_none)))) pss_nil)
      (pss_cons (ps_if (pt_cmpR op_eq (pv 1) pe_int (nomark _)) (pss_one (ps_ret (pe_op op_cat (pe_op op_cat (pe_slice sl_list (pv 0) po_none (po_some (pv 2))) (pe_lst (pa_cons (pe_op Kn.op_addS (pe_op Kn.op_addS (pe_slice sl_str (pv 4) po_none (po_some (pv 5))) (pe_ix ix_str pe_str (pe_op op_mod (pe_op op_fdiv (pv 3) pe_int) pe_int) (fun _ _ => rfl))) (pe_slice sl_str (pv 4) (po_some (pe_op op_add (pv 5) pe_int)) po_none)) pa_nil))) (pe_slice sl_list (pv 0) (po_some (pe_op op_add (pv 2) pe_int)) po_none)))) pss_nil)
      (pss_cons (ps_if (pt_cmpR op_eq (pv 1) pe_int (nomark _)) (pss_one (ps_ret (pe_op op_cat (pe_op op_cat (pe_slice sl_list (pv 0) po_none (po_some (pv 2))) (pe_lst (pa_cons (pe_ix ix_list (pv 0) (pe_op op_mod (pe_op op_add (pv 2) pe_int) (pe_callB Kn.cr_lenSeq (by rfl) T.b_len PySem.boot_len (pa_cons (pv 0) pa_nil))) (fun _ _ => rfl)) pa_nil))) (pe_slice sl_list (pv 0) (po_some (pe_op op_add (pv 2) pe_int)) po_none)))) pss_nil)
      (pss_cons (ps_if (pt_cmpR op_eq (pv 1) pe_int (nomark _)) (pss_one (ps_ret (pe_op op_cat (pe_op op_cat (pe_slice sl_list (pv 0) po_none (po_some (pv 2))) (pe_lst (pa_cons (pv 4) pa_nil))) (pe_slice sl_list (pv 0) (po_some (pv 2)) po_none)))) pss_nil)
      (pss_cons (ps_if (pt_cmpR op_eq (pv 1) pe_int (nomark _)) (pss_one (ps_ret (pe_op op_cat (pe_op op_cat (pe_slice sl_list (pv 0) po_none (po_some (pv 2))) (pe_lst (pa_cons (pe_ix ix_list (pe_lst (pa_cons pe_str (pa_cons pe_str (pa_cons pe_str (pa_cons pe_str (pa_cons pe_str pa_nil)))))) (pe_op op_mod (pe_op op_fdiv (pv 3) pe_int) pe_int) (fun _ _ => rfl)) pa_nil))) (pe_slice sl_list (pv 0) (po_some (pv 2)) po_none)))) pss_nil)
      (pss_one (ps_ret (pe_slice sl_list (pv 0) po_none (po_some (pe_op op_sub (pe_callB Kn.cr_lenSeq (by rfl) T.b_len PySem.boot_len (pa_cons (pv 0) pa_nil)) pe_int))))))))))))), ?_⟩
    have hat : ∀ i < u.length, (strsV u)[i]? = some (.str (S (u.getD i []))) := fun i hi => lit_at hi
    have hl : (u.getD a []).length ≤ 1000 := by
      rw [List.getD_eq_getElem?_getD, List.getElem?_eq_getElem ha]
      exact hls _ (List.getElem_mem ha)
    refine q_asg (v := .str (S (u.getD a []))) (ev_op (ev_var rfl) (ev_var rfl) (rv_ixL (sq_of hp) (atI_nat (hat a ha)))) fun H1 e1 => ?_
    have hsp : spL u way a c = spL u way a c := rfl
    conv at hsp => rhs; unfold spL
    generalize u.getD a [] = l at hl hsp
    have hpl : plc l c ≤ l.length := by
      unfold plc
      have := Nat.mod_lt c (show 0 < l.length + 1 by omega)
      omega
    refine q_asg (v := .int ((plc l c : Nat) : Int)) (ev_is (ev_op (ev_var rfl) (ev_addN (m := 1) (ev_cb (ea_cons (ev_var rfl) ea_nil) (rc_lenS (by omega))) rfl) (rv_mod (by omega))) (congrArg V.int (by unfold plc; rw [Int.natCast_emod]))) fun H2 e2 => ?_
    have e12 := e1.trans e2
    have hp2 := e12 _ _ hp
    have fin : ∀ {H3 H4 : Hp} {p2 : Addr} {xs : List (List Nat)}, Ex H2 H3 → H3 p2 = none → Ex H3 H4 → H4 p2 = some (.lst (strsV xs)) → spL u way a c = xs → Q (.ref p2) H4 := fun {H3 H4 p2 xs} e3 np e4 hp2 he => q p2 H4 (fresh_back (e12.trans e3) np) ((e12.trans e3).trans e4) (by rw [he]; exact hp2)
    have slA : ∀ {H3 : Hp} {σ : L2.St}, σ[4]? = some (some (.str (S l))) → σ[5]? = some (some (.int ((plc l c : Nat) : Int))) → Ev (tSl rSlS (tVar 4) tNoPart (tPart (tVar 5))) σ H3 (.str (S (l.take (plc l c)))) := fun h4 h5 => ev_is (ev_slTo (ev_var h4) eo_none (eo_some (ev_var h5)) (by omega) (by omega)) (by rw [Int.toNat_natCast])
    have slB : ∀ {H3 : Hp} {σ : L2.St}, σ[4]? = some (some (.str (S l))) → σ[5]? = some (some (.int ((plc l c : Nat) : Int))) → Ev (tSl rSlS (tVar 4) (tPart (tVar 5)) tNoPart) σ H3 (.str (S (l.drop (plc l c)))) := fun h4 h5 => ev_is (ev_slFrom (ev_var h4) (eo_some (ev_var h5)) eo_none (by omega) (by omega)) (by rw [Int.toNat_natCast])
    have slC : ∀ {H3 : Hp} {σ : L2.St}, σ[4]? = some (some (.str (S l))) → σ[5]? = some (some (.int ((plc l c : Nat) : Int))) → Ev (tSl rSlS (tVar 4) (tPart (tOp (rI0 fun i j => .int (i + j)) (tVar 5) (tC (.int 1)))) tNoPart) σ H3 (.str (S (l.drop (plc l c + 1)))) := fun h4 h5 => ev_is (ev_slFrom (ev_var h4) (eo_some (ev_addN (m := 1) (ev_var h5) rfl)) eo_none (by omega) (by omega)) (by rw [Int.toNat_natCast])
    have lt : (l.take (plc l c)).length ≤ 1000 := by rw [List.length_take]; omega
    have ld : ∀ n, (l.drop n).length ≤ 1000 := fun n => by rw [List.length_drop]; omega
    have ld0 := ld (plc l c)
    have ld1 := ld (plc l c + 1)
    refine q_when (b := decide (way = 0)) (et_is (et_test (ev_op (ev_var rfl) ev_c rv_eqI)) (decide_eq_decide.mpr (by omega))) (fun hk H3 e3 => ?_) fun hk H3 e3 => ?_
    · rw [if_pos (of_decide_eq_true hk)] at hsp
      exact s_retL (el_3 (b := a + 1) (x := cut0 l c) (fun _ _ => ev_var rfl) (ev_var rfl) (ev_addN (m := 1) (ev_var rfl) rfl) (e3 _ _ hp2) hu (ev_op (slA rfl rfl) (slC rfl rfl) (rv_addS (by omega)))) fun p2 H4 np e4 h4 => fin e3 np e4 h4 hsp
    have k0 := of_decide_eq_false hk
    rw [if_neg k0] at hsp
    refine q_when (b := decide (way = 1)) (et_is (et_test (ev_op (ev_var rfl) ev_c rv_eqI)) (decide_eq_decide.mpr (by omega))) (fun hk H4 e4 => ?_) fun hk H4 e4 => ?_
    · rw [if_pos (of_decide_eq_true hk)] at hsp
      refine s_retL (el_3 (b := a + 1) (x := cut1' l c) (fun _ _ => ev_var rfl) (ev_var rfl) (ev_addN (m := 1) (ev_var rfl) rfl) (e4 _ _ (e3 _ _ hp2)) hu (ev_op (ev_op (slA rfl rfl) (ev_cS (l := [32, 32]) rfl) (rv_addS ?_)) (slB rfl rfl) (rv_addS ?_))) fun p2 H5 np e5 h5 => fin (e3.trans e4) np e5 h5 hsp
      · show _ + 2 ≤ _
        omega
      · rw [List.length_append]
        show _ + 2 + _ ≤ _
        omega
    have k1 := of_decide_eq_false hk
    rw [if_neg k1] at hsp
    have e34 := e3.trans e4
    have hch : atI chL ((c / 100 % 6 : Nat) : Int) = some (chL.getD (c / 100 % 6) 0) := by
      have z : ∀ i : Nat, i < 6 → atI chL (i : Int) = some (chL.getD i 0) := by decide +kernel
      exact z _ (Nat.mod_lt _ (by decide))
    refine q_when (b := decide (way = 2)) (et_is (et_test (ev_op (ev_var rfl) ev_c rv_eqI)) (decide_eq_decide.mpr (by omega))) (fun hk H5 e5 => ?_) fun hk H5 e5 => ?_
    · rw [if_pos (of_decide_eq_true hk)] at hsp
      refine s_retL (el_3 (b := a + 1) (x := cut2 l c) (fun _ _ => ev_var rfl) (ev_var rfl) (ev_addN (m := 1) (ev_var rfl) rfl) (e5 _ _ (e34 _ _ hp2)) hu (ev_op (ev_op (slA rfl rfl) (ev_idxS (l := chL) (ev_cS rfl) (ev_is (ev_op (ev_op (ev_var rfl) ev_c (rv_fdiv ⟨by decide, by decide⟩)) ev_c (rv_mod (by decide))) (congrArg V.int (by rw [Int.natCast_emod, Int.natCast_ediv]; rfl))) (by decide +kernel) hch) (rv_addS ?_)) (slC rfl rfl) (rv_addS ?_))) fun p2 H6 np e6 h6 => fin (e34.trans e5) np e6 h6 hsp
      · show _ + 1 ≤ _
        omega
      · rw [List.length_append]
        show _ + 1 + _ ≤ _
        omega
    have k2 := of_decide_eq_false hk
    rw [if_neg k2] at hsp
    have e35 := e34.trans e5
    have hm : (a + 1) % u.length < u.length := Nat.mod_lt _ (by omega)
    refine q_when (b := decide (way = 3)) (et_is (et_test (ev_op (ev_var rfl) ev_c rv_eqI)) (decide_eq_decide.mpr (by omega))) (fun hk H6 e6 => ?_) fun hk H6 e6 => ?_
    · rw [if_pos (of_decide_eq_true hk)] at hsp
      have hp6 := e6 _ _ (e35 _ _ hp2)
      refine s_retL (el_3 (b := a + 1) (x := u.getD ((a + 1) % u.length) []) (fun _ _ => ev_var rfl) (ev_var rfl) (ev_addN (m := 1) (ev_var rfl) rfl) hp6 hu (ev_op (ev_var rfl) (ev_is (ev_op (ev_addN (m := 1) (ev_var rfl) rfl) (ev_is (ev_len (ev_var rfl) (sq_of hp6)) (w := .int ((u.length : Nat) : Int)) (by unfold strsV; rw [List.length_map])) (rv_mod (by omega))) (w := .int (((a + 1) % u.length : Nat) : Int)) (by rw [Int.natCast_emod])) (rv_ixL (sq_of hp6) (atI_nat (hat _ hm))))) fun p2 H7 np e7 h7 => fin (e35.trans e6) np e7 h7 hsp
    have k3 := of_decide_eq_false hk
    rw [if_neg k3] at hsp
    have e36 := e35.trans e6
    refine q_when (b := decide (way = 4)) (et_is (et_test (ev_op (ev_var rfl) ev_c rv_eqI)) (decide_eq_decide.mpr (by omega))) (fun hk H7 e7 => ?_) fun hk H7 e7 => ?_
    · rw [if_pos (of_decide_eq_true hk)] at hsp
      exact s_retL (el_3 (b := a) (x := l) (fun _ _ => ev_var rfl) (ev_var rfl) (ev_var rfl) (e7 _ _ (e36 _ _ hp2)) hu (ev_var rfl)) fun p2 H8 np e8 h8 => fin (e36.trans e7) np e8 h8 hsp
    have k4 := of_decide_eq_false hk
    rw [if_neg k4] at hsp
    have e37 := e36.trans e7
    refine q_when (b := decide (way = 5)) (et_is (et_test (ev_op (ev_var rfl) ev_c rv_eqI)) (decide_eq_decide.mpr (by omega))) (fun hk H8 e8 => ?_) fun hk H8 e8 => ?_
    · rw [if_pos (of_decide_eq_true hk)] at hsp
      exact s_retL (el_3 (b := a) (x := inss.getD (c / 100 % 5) []) (fun _ _ => ev_var rfl) (ev_var rfl) (ev_var rfl) (e8 _ _ (e37 _ _ hp2)) hu (ev_ixLit (i := c / 100 % 5) (xs := inss.map fun l => V.str (S l)) (el_lst (ea_cons (ev_cS rfl) (ea_cons (ev_cS rfl) (ea_cons (ev_cS rfl) (ea_cons (ev_cS rfl) (ea_cons (ev_cS rfl) ea_nil))))) (by decide)) (ev_op (ev_op (ev_var rfl) ev_c (rv_fdiv ⟨by decide, by decide⟩)) ev_c (rv_mod (by decide))) (by rw [Int.natCast_emod, Int.natCast_ediv]; rfl) (lit_at (Nat.mod_lt _ (by decide))))) fun p2 H9 np e9 h9 => fin (e37.trans e8) np e9 h9 hsp
    have k5 := of_decide_eq_false hk
    rw [if_neg k5] at hsp
    have e38 := e37.trans e8
    have hp8 := e38 _ _ hp2
    exact s_retL (xs := strsV (u.take (u.length - 1))) (el_slTo (g := fun l => V.str (S l)) (ns := u) (ev_var rfl) eo_none (eo_some (ev_is (ev_op (ev_is (ev_len (ev_var rfl) (sq_of hp8)) (w := .int ((u.length : Nat) : Int)) (by unfold strsV; rw [List.length_map])) ev_c rv_I0) (w := .int ((u.length - 1 : Nat) : Int)) (congrArg V.int (by omega)))) (sq_of hp8) (u.length - 1) rfl) fun p2 H9 np e9 h9 => fin e38 np e9 h9 hsp
end

--SPLIT
section
variable {P : Program} {w : World} {K : PySem.W.Frag} {mg : Str → Option Value} {base : Heap}
/-! ### what is loaded and saved again -/
theorem spl_ne : ∀ (l acc : List Nat), TL.spl [10] 0 acc l ≠ []
  | [], _ => List.cons_ne_nil _ _
  | d :: r, acc => by
    by_cases e : d = 10
    · have h1 : TL.pre [10] (d :: r) = true := by
        subst e
        exact TL.pre_self [10] r
      rw [TL.spl_hit h1]
      exact List.cons_ne_nil _ _
    · rw [TL.spl_miss (TL.pre_of_head [] r e)]
      exact spl_ne r _
theorem join_spl : ∀ (l acc : List Nat), TL.joinL [10] (TL.spl [10] 0 acc l) = acc ++ l
  | [], acc => (List.append_nil acc).symm
  | d :: r, acc => by
    by_cases e : d = 10
    · have h1 : TL.pre [10] (d :: r) = true := by
        subst e
        exact TL.pre_self [10] r
      rw [TL.spl_hit h1]
      have ih := join_spl r []
      have ne := spl_ne r []
      show TL.joinL [10] (acc :: TL.spl [10] 0 [] r) = _
      cases h : TL.spl [10] 0 [] r with
      | nil => exact absurd h ne
      | cons x y =>
        rw [h] at ih
        show acc ++ ([10] ++ TL.joinL [10] (x :: y)) = _
        rw [ih, e]
        rfl
    · rw [TL.spl_miss (TL.pre_of_head [] r e), join_spl r (acc ++ [d]), List.append_assoc]
      rfl
theorem join_lines (l : List Nat) : TL.joinL [10] (linesL l) = l := by
  unfold linesL
  split
  · next h =>
    rw [h]
    rfl
  · exact join_spl l []
def errK (kind : Nat) (ls : List (List Nat)) : Option Nat := if kind = 0 then goR nmE ls 1 [] else if kind = 1 then goR nmS ls 1 [] else errS ls
def wSaved : List Nat := lit "saved"
def wInv : List Nat := lit "invalid"
def resV (l : List Nat) : Option Nat → List V
  | none => [.str (S wSaved), .str (S l)]
  | some n => [.str (S wInv), .int (n : Int), .bl true, .bl false]
theorem saved_ret {sp1 sp2 : Sp} {W : WX} {σ : L2.St} {H : Hp} {D : Ends} {word : Str} {v : V} (hv : σ[1]? = some (some v))
    (hs : sp1 [v] H (fun x H2 => sp2 [x] H2 (fun y H3 => [V.str word, y].length ≤ sizeLine ∧ ∀ q, H3 q = none → D.rt (.ref q) (L2.upd H3 q (.tup [.str word, y]))) E0) (WE W σ)) :
    tRet (tTup (tCons (tC (.str word)) (tCons (tCall sp2 [] E0 (tCons (tCallS sp1 (WE W) (tCons (tVar 1) tNil)) tNil)) tNil))) D σ H := ⟨v, hv, hs⟩
def sp__law_loaded (_ : Gx K mg) : Sp := fun vs H Q _ => ∃ (kind : Nat) (l : List Nat), vs = [.int (kind : Int), .str (S l)] ∧ Sz3 l ∧ (∀ p H', H p = none → Ex H H' → H' p = some (.tup (resV l (errK kind (linesL l)))) → Q (.ref p) H')
theorem ok__law_loaded {f : Addr} {C_Tree C_Store C_StoreReader : Addr} {fd : FuncData} (F : Fun K "_law_loaded" "_law_loaded" s__law_loaded f fd) (T : Tx mg) (G : Gx K mg) (TC_Tree : Tc_Tree K C_Tree) (TC_Store : Tc_Store K C_Store) (TC_StoreReader : Tc_StoreReader K C_StoreReader) (C_save_tree : Kn.Cl P w K mg base 4 "save_tree" (sp_save_tree C_Tree K)) (C_load_tree : Kn.ClX P w K mg base 10 "load_tree" (sp_load_tree C_Tree G)) (C_save_settings : Kn.Cl P w K mg base 3 "save_settings" (sp_save_settings K)) (C_load_settings : Kn.ClX P w K mg base 10 "load_settings" (sp_load_settings G)) (C_save_store : Kn.Cl P w K mg base 4 "save_store" (sp_save_store C_Store K)) (C_load_store : Kn.ClX P w K mg base 9 "load_store" (sp_load_store C_Store C_StoreReader G)) : FnOk P w K mg base CX0 11 f fd ["kind", "text"] (sp__law_loaded G) := by
  refine F.ok sc__law_loaded (fun vs H Q E h => ?_) (fun cdv A outer s H vs Q E hr h => ?_)
  · obtain ⟨kind, l, rfl, _⟩ := h
    rfl
  · obtain ⟨kind, l, rfl, ⟨hl, hn⟩, q⟩ := h
    refine ⟨_, (pss_one (ps_try_as (i := 2) (tb := fun W => (tSeq (tIfS (tTest (tOp rEq (tVar 0) (tC (.int 0)))) (tRet (tTup (tCons (tC (.str (Str.ofString "saved"))) (tCons (tCall (sp_save_tree C_Tree K) [] E0 (tCons (tCallS (sp_load_tree C_Tree G) (WE W) (tCons (tVar 1) tNil)) tNil)) tNil)))) tNext) (tSeq (tIfS (tTest (tOp rEq (tVar 0) (tC (.int 1)))) (tRet (tTup (tCons (tC (.str (Str.ofString "saved"))) (tCons (tCall (sp_save_settings K) [] E0 (tCons (tCallS (sp_load_settings G) (WE W) (tCons (tVar 1) tNil)) tNil)) tNil)))) tNext) (tRet (tTup (tCons (tC (.str (Str.ofString "saved"))) (tCons (tCall (sp_save_store C_Store K) [] E0 (tCons (tCallS (sp_load_store C_Store C_StoreReader G) (WE W) (tCons (tVar 1) tNil)) tNil)) tNil))))))) (ts := fun a cls d => (tRet (tTup (tCons (tC (.str (Str.ofString "invalid"))) (tCons (tXf a cls d G.c_InvalidSave "line" (tVar 2)) (tCons (tCB (rIsX K a cls d) (tCons (tVar 2) (tCons (tC (.ref G.c_BuildError)) tNil))) (tCons (tCB (rIsX K a cls d) (tCons (tVar 2) (tCons (tC (.ref G.c_InvalidRecipe)) tNil))) tNil))))))) (Wout := (fun _ _ _ _ => False)) rfl rfl sc__law_loaded.nd rfl rfl ⟨rfl, by decide, Or.inl G.g_InvalidSave⟩ takes0
      (fun W pn xe tk po => (pss_cons (ps_if (pt_cmpR op_eq (pv 0) pe_int (nomark _)) (pss_one (ps_ret (pe_tup (pa_cons pe_str (pa_cons (Kn.pe_cl C_save_tree hr (by decide) (by rfl) (pa_cons (Kn.pe_clX C_load_tree hr (by decide) (by rfl) tk (pa_cons (pv 1) pa_nil)) pa_nil)) pa_nil))))) pss_nil)
      (pss_cons (ps_if (pt_cmpR op_eq (pv 0) pe_int (nomark _)) (pss_one (ps_ret (pe_tup (pa_cons pe_str (pa_cons (Kn.pe_cl C_save_settings hr (by decide) (by rfl) (pa_cons (Kn.pe_clX C_load_settings hr (by decide) (by rfl) tk (pa_cons (pv 1) pa_nil)) pa_nil)) pa_nil))))) pss_nil)
      (pss_one (ps_ret (pe_tup (pa_cons pe_str (pa_cons (Kn.pe_cl C_save_store hr (by decide) (by rfl) (pa_cons (Kn.pe_clX C_load_store hr (by decide) (by rfl) tk (pa_cons (pv 1) pa_nil)) pa_nil)) pa_nil))))))))
      (fun a oe cls d pn hz hf => (pss_one (ps_ret (pe_tup (pa_cons pe_str (pa_cons (pe_xf G.x_InvalidSave.xf G.n_InvalidSave_line hz hf (pv 2)) (pa_cons (pe_callB (Kn.cr_isX hz hf) rfl T.b_isinstance (by decide +kernel) (pa_cons (pv 2) (pa_cons (pe_glob rfl G.g_BuildError rfl) pa_nil))) (pa_cons (pe_callB (Kn.cr_isX hz hf) rfl T.b_isinstance (by decide +kernel) (pa_cons (pv 2) (pa_cons (pe_glob rfl G.g_InvalidRecipe rfl) pa_nil))) pa_nil)))))))))), ?_⟩
    have sv : ∀ {H1 H2 : Hp} {t : List Nat}, Ex H H1 → Ex H1 H2 → errK kind (linesL l) = none → t = l → [V.str (Str.ofString "saved"), V.str (S t)].length ≤ sizeLine ∧ ∀ q, H2 q = none → Q (.ref q) (L2.upd H2 q (.tup [.str (Str.ofString "saved"), .str (S t)])) := fun {H1 H2 t} e1 e2 he ht =>
      ⟨sz_of (by show 2 ≤ 100000; decide), fun p hp => q p _ (fresh_back (e1.trans e2) hp) ((e1.trans e2).trans (Ex.new hp)) (by rw [he, upd_same, ht, S1 (Str.ofString "saved") (l := wSaved) rfl]; rfl)⟩
    have bad : ∀ {H1 : Hp} {n : Nat} {σ : L2.St} {D : Ends} {a dd : Addr}, Ex H H1 → errK kind (linesL l) = some n → D.rt = Q → σ.length = 3 → H1 dd = some (.xd [("line", .int (n : Int))]) →
        tRet (tTup (tCons (tC (.str (Str.ofString "invalid"))) (tCons (tXf a (.ref G.c_InvalidSave) (some dd) G.c_InvalidSave "line" (tVar 2)) (tCons (tCB (rIsX K a (.ref G.c_InvalidSave) (some dd)) (tCons (tVar 2) (tCons (tC (.ref G.c_BuildError)) tNil))) (tCons (tCB (rIsX K a (.ref G.c_InvalidSave) (some dd)) (tCons (tVar 2) (tCons (tC (.ref G.c_InvalidRecipe)) tNil))) tNil))))) D (σ.set 2 (some (.ref a))) H1 := fun {H1 n σ D a dd} e1 h0 hD hσ hd => by
      have hs : (σ.set 2 (some (V.ref a)))[2]? = some (some (.ref a)) := by rw [List.getElem?_set_self (by omega)]
      refine ⟨_, hs, rfl, rfl, dd, _, .int (n : Int), rfl, hd, by simp [List.lookup], ?_⟩
      refine ⟨_, hs, _, dd, _, .ref G.c_BuildError, _, true, rfl, rfl, G.x_InvalidSave.xc, hd, rfl, fun u h => h, G.x_InvalidSave.kB, ?_⟩
      refine ⟨_, hs, _, dd, _, .ref G.c_InvalidRecipe, _, false, rfl, rfl, G.x_InvalidSave.xc, hd, rfl, fun u h => h, G.k_InvalidSave_InvalidRecipe, ?_⟩
      refine ⟨sz_of (by show 4 ≤ 100000; decide), fun p hp => ?_⟩
      rw [hD]
      exact q p _ (fresh_back e1 hp) (e1.trans (Ex.new hp)) (by rw [h0, upd_same, S1 (Str.ofString "invalid") (l := wInv) rfl]; rfl)
    refine q_when (b := decide (kind = 0)) (et_is (et_test (ev_op (ev_var rfl) ev_c rv_eqI)) (decide_eq_decide.mpr (by omega))) (fun hk H1 e1 => ?_) fun hk H1 e1 => ?_
    · have hk := of_decide_eq_true hk
      have hr : errK kind (linesL l) = goR nmE (linesL l) 1 [] := by unfold errK; rw [if_pos hk]
      refine saved_ret rfl ?_
      refine ⟨l, rfl, ⟨by omega, hn⟩, fun n hg d H' e hd => as_hit G.x_InvalidSave.me fun a na => bad (e1.trans e) (hr.trans hg) rfl rfl hd, fun hg p d es H' np nd e T hes ha hle hls => ?_⟩
      refine ⟨p, d, es, rfl, T, by omega, ha, hle, fun H2 e2 => sv (e1.trans e) e2 (hr.trans hg) ?_⟩
      rw [hls]
      exact join_lines l
    have k0 := of_decide_eq_false hk
    refine q_when (b := decide (kind = 1)) (et_is (et_test (ev_op (ev_var rfl) ev_c rv_eqI)) (decide_eq_decide.mpr (by omega))) (fun hk H2 e2 => ?_) fun hk H2 e2 => ?_
    · have hk := of_decide_eq_true hk
      have e12 := e1.trans e2
      have hr : errK kind (linesL l) = goR nmS (linesL l) 1 [] := by unfold errK; rw [if_neg k0, if_pos hk]
      refine saved_ret rfl ?_
      refine ⟨l, rfl, ⟨by omega, hn⟩, fun n hg d H' e hd => as_hit G.x_InvalidSave.me fun a na => bad (e12.trans e) (hr.trans hg) rfl rfl hd, fun hg d kvs es H' nd e hd L hes ha hle hls => ?_⟩
      refine ⟨d, kvs, es, rfl, hd, L, by omega, ha, hle, fun H3 e3 => sv (e12.trans e) e3 (hr.trans hg) ?_⟩
      rw [hls]
      exact join_lines l
    have k1 := of_decide_eq_false hk
    have e12 := e1.trans e2
    have hr : errK kind (linesL l) = errS (linesL l) := by unfold errK; rw [if_neg k0, if_neg k1]
    refine saved_ret rfl ?_
    refine ⟨l, rfl, ⟨hl, hn⟩, fun n hg d H' e hd => as_hit G.x_InvalidSave.me fun a na => bad (e12.trans e) (hr.trans hg) rfl rfl hd, fun hg tx ys hx hy hls p d r xs H' np nd nr T hP e => ?_⟩
    refine ⟨p, d, r, tx, xs, ys, rfl, T, hx, hy, hP, fun H3 e3 => sv (e12.trans e) e3 (hr.trans hg) ?_⟩
    unfold svT
    rw [hls]
    exact join_lines l
end

--SPLIT
/-! ### where the first error is -/
section
variable {rd : List Nat → Option (List Nat)}
def lastR (rd : List Nat → Option (List Nat)) : List (List Nat) → List Nat → List Nat
  | [], last => last
  | x :: r, last => match rd x with
    | none => last
    | some k => lastR rd r k
theorem goR_none {x : List Nat} {r : List (List Nat)} {n : Nat} {last : List Nat} : goR rd (x :: r) n last = none ↔ ∃ k, rd x = some k ∧ last < k ∧ goR rd r (n + 1) k = none := by
  have e : goR rd (x :: r) n last = match rd x with
    | none => some n
    | some k => if last < k then goR rd r (n + 1) k else some n := rfl
  rw [e]
  cases h : rd x with
  | none => exact ⟨(fun z => nomatch z), fun ⟨k, z, _⟩ => nomatch z⟩
  | some k =>
    dsimp only
    by_cases hl : last < k
    · rw [if_pos hl]
      exact ⟨fun z => ⟨k, rfl, hl, z⟩, fun ⟨k', z, _, y⟩ => by cases z; exact y⟩
    · rw [if_neg hl]
      exact ⟨(fun z => nomatch z), fun ⟨k', z, y, _⟩ => by cases z; exact absurd y hl⟩
theorem goR_go {x : List Nat} {r : List (List Nat)} {n : Nat} {last k : List Nat} (h : rd x = some k) (hl : last < k) : goR rd (x :: r) n last = goR rd r (n + 1) k := by
  show (match rd x with | none => some n | some k => if last < k then goR rd r (n + 1) k else some n) = _
  rw [h]
  exact if_pos hl
theorem goR_app : ∀ (xs ys : List (List Nat)) (n : Nat) (last : List Nat), goR rd xs n last = none → goR rd (xs ++ ys) n last = goR rd ys (n + xs.length) (lastR rd xs last)
  | [], _, _, _, _ => rfl
  | x :: r, ys, n, last, h => by
    obtain ⟨k, h1, h2, h3⟩ := goR_none.mp h
    rw [List.cons_append, goR_go h1 h2, goR_app r ys (n + 1) k h3, List.length_cons]
    have e : lastR rd (x :: r) last = lastR rd r k := by
      show (match rd x with | none => last | some k => lastR rd r k) = _
      rw [h1]
    rw [e, show n + 1 + r.length = n + (r.length + 1) by omega]
theorem goR_pre : ∀ (xs ys : List (List Nat)) (n : Nat) (last : List Nat), goR rd (xs ++ ys) n last = none → goR rd xs n last = none
  | [], _, _, _, _ => rfl
  | x :: r, ys, n, last, h => by
    obtain ⟨k, h1, h2, h3⟩ := goR_none.mp h
    exact goR_none.mpr ⟨k, h1, h2, goR_pre r ys _ _ h3⟩
theorem goR_bd : ∀ (xs : List (List Nat)) (n : Nat) (last : List Nat) (m : Nat), goR rd xs n last = some m → n ≤ m ∧ m < n + xs.length
  | [], _, _, _, h => nomatch h
  | x :: r, n, last, m, h => by
    have e : goR rd (x :: r) n last = match rd x with
      | none => some n
      | some k => if last < k then goR rd r (n + 1) k else some n := rfl
    rw [e] at h
    rw [List.length_cons]
    split at h
    · cases h
      omega
    · split at h
      · have := goR_bd r (n + 1) _ m h
        omega
      · cases h
        omega
theorem lastR_app : ∀ (xs ys : List (List Nat)) (n : Nat) (last : List Nat), goR rd xs n last = none → lastR rd (xs ++ ys) last = lastR rd ys (lastR rd xs last)
  | [], _, _, _, _ => rfl
  | x :: r, ys, n, last, h => by
    obtain ⟨k, h1, h2, h3⟩ := goR_none.mp h
    have e : ∀ z, lastR rd (x :: z) last = lastR rd z k := fun z => by
      show (match rd x with | none => last | some k => lastR rd z k) = _
      rw [h1]
    rw [List.cons_append, e, e, lastR_app r ys (n + 1) k h3]
theorem goR_twice {xs ys : List (List Nat)} {x : List Nat} {n : Nat} {last : List Nat} (h : goR rd (xs ++ [x]) n last = none) : goR rd ((xs ++ [x]) ++ (x :: ys)) n last = some (n + xs.length + 1) := by
  have h0 := goR_pre xs [x] n last h
  have h1 := h
  rw [goR_app xs [x] n last h0] at h1
  obtain ⟨k, k1, k2, _⟩ := goR_none.mp h1
  have e : lastR rd (xs ++ [x]) last = k := by
    rw [lastR_app xs [x] n last h0]
    show (match rd x with | none => _ | some k => k) = k
    rw [k1]
  rw [goR_app _ _ _ _ h, e, List.length_append]
  show (match rd x with | none => some _ | some k' => if k < k' then _ else some _) = _
  rw [k1]
  dsimp only
  rw [if_neg (List.lt_irrefl k)]
  rfl
theorem goR_bad {xs ys : List (List Nat)} {x : List Nat} {n : Nat} {last : List Nat} (h : goR rd xs n last = none) (hx : rd x = none) : goR rd (xs ++ (x :: ys)) n last = some (n + xs.length) := by
  rw [goR_app _ _ _ _ h]
  show (match rd x with | none => some _ | some k' => _) = _
  rw [hx]
theorem goR_rng {f g : Nat → List Nat} : ∀ m : Nat, (∀ k < m, rd (f k) = some (g k)) → (∀ k, k + 1 < m → g k < g (k + 1)) → (0 < m → [] < g 0) → goR rd ((List.range m).map f) 1 [] = none ∧ lastR rd ((List.range m).map f) [] = if m = 0 then [] else g (m - 1)
  | 0, _, _, _ => ⟨rfl, rfl⟩
  | m + 1, h1, h2, h3 => by
    obtain ⟨i1, i2⟩ := goR_rng m (fun k hk => h1 k (by omega)) (fun k hk => h2 k (by omega)) (fun _ => h3 (by omega))
    have hm := h1 m (by omega)
    have hlt : lastR rd ((List.range m).map f) [] < g m := by
      rw [i2]
      split
      · next e =>
        subst e
        exact h3 (by omega)
      · have z := h2 (m - 1) (by omega)
        rw [show m - 1 + 1 = m by omega] at z
        exact z
    rw [List.range_succ, List.map_append, List.map_singleton]
    refine ⟨?_, ?_⟩
    · rw [goR_app _ _ _ _ i1, goR_go hm hlt]
      rfl
    · rw [lastR_app _ _ 1 _ i1, if_neg (by omega)]
      show (match rd (f m) with | none => _ | some k => k) = _
      rw [hm]
      rfl
end
theorem goS_go {s s' : SR} {x : List Nat} {r : List (List Nat)} {n : Nat} (h : stepL s x = some s') : goS s (x :: r) n = goS s' r (n + 1) := by
  show (match stepL s x with | none => Sum.inr n | some s' => goS s' r (n + 1)) = _
  rw [h]
theorem goS_no {s : SR} {x : List Nat} {r : List (List Nat)} {n : Nat} (h : stepL s x = none) : goS s (x :: r) n = .inr n := by
  show (match stepL s x with | none => Sum.inr n | some s' => goS s' r (n + 1)) = _
  rw [h]
theorem goS_app : ∀ (xs ys : List (List Nat)) (n : Nat) (s s' : SR), goS s xs n = .inl s' → goS s (xs ++ ys) n = goS s' ys (n + xs.length)
  | [], _, _, _, _, h => by cases h; rfl
  | x :: r, ys, n, s, s', h => by
    cases hx : stepL s x with
    | none => rw [goS_no hx] at h; cases h
    | some s1 =>
      rw [goS_go hx] at h
      rw [List.cons_append, goS_go hx, goS_app r ys (n + 1) s1 s' h, List.length_cons, show n + 1 + r.length = n + (r.length + 1) by omega]
theorem goS_pre : ∀ (xs ys : List (List Nat)) (n : Nat) (s s' : SR), goS s (xs ++ ys) n = .inl s' → ∃ s1, goS s xs n = .inl s1
  | [], _, _, s, _, _ => ⟨s, rfl⟩
  | x :: r, ys, n, s, s', h => by
    cases hx : stepL s x with
    | none => rw [List.cons_append, goS_no hx] at h; cases h
    | some s1 =>
      rw [List.cons_append, goS_go hx] at h
      obtain ⟨s2, h2⟩ := goS_pre r ys (n + 1) s1 s' h
      exact ⟨s2, by rw [goS_go hx]; exact h2⟩
theorem goS_bd : ∀ (xs : List (List Nat)) (n : Nat) (s : SR) (m : Nat), goS s xs n = .inr m → n ≤ m ∧ m < n + xs.length
  | [], _, _, _, h => nomatch h
  | x :: r, n, s, m, h => by
    rw [List.length_cons]
    cases hx : stepL s x with
    | none =>
      rw [goS_no hx] at h
      cases h
      omega
    | some s1 =>
      rw [goS_go hx] at h
      have := goS_bd r (n + 1) s1 m h
      omega
theorem step_r {s : SR} {k a b : Nat} (hk : k < 12) (ha : a < 3) (hb : b < 4) (hc : s.ct = none) (hl : s.li < ((2 * k : Nat) : Int)) : stepL s (ln2 k a b) = some ⟨s.tx, s.es ++ [(2 * k, [97, 32, 98], wv a b)], s.lk, ((2 * k : Nat) : Int), s.ct⟩ := by
  have v1 := V2 k hk a ha b hb
  have v2 := V2b k hk a ha b hb
  have v3 := V2c a ha b hb
  have v4 := (VN (2 * k) (by omega)).2
  have v5 := VC.2.2.2.2.2.2.2.2
  unfold stepL
  rw [hc, v1]
  show (if isN4 (TL.numL (2 * k)) = true then (if rLn (dv (TL.numL (2 * k))) [97, 32, 98] (wv a b) = ln2 k a b then rcO s (dv (TL.numL (2 * k))) [97, 32, 98] (wv a b) else _) else none) = _
  rw [if_pos v4.1, v4.2, if_pos v2]
  unfold rcO
  rw [v5, v3, if_neg, hc]
  rw [Bool.not_eq_true, decide_eq_false (by omega)]
  rfl
theorem step_n {s : SR} {n : Nat} (hn : n < 26) (hc : s.ct = none) : stepL s (nLn n) = cnO s n := by
  obtain ⟨v1, v2, v3⟩ := VN n hn
  unfold stepL
  rw [hc, v1]
  show (if isN4 (TL.numL n) = true then (if nLn (dv (TL.numL n)) = nLn n then cnO s (dv (TL.numL n)) else none) else none) = _
  rw [if_pos v2, v3, if_pos rfl]
theorem step_i {s : SR} {i : Nat} (hi : i < 5) (h2 : i ≠ 2) : stepL s (inss.getD i []) = none := by
  unfold stepL
  split
  · rfl
  · rcases VJ i hi h2 with h | ⟨h, h3⟩
    · exact stepP_other (by omega) (by omega) (by omega)
    · rw [h]
      show (if isN4 (lit "zz") = true then _ else none) = _
      rw [h3]
      rfl
theorem goS_rng {f : Nat → List Nat} (hf : ∀ k < 12, ∃ a b, a < 3 ∧ b < 4 ∧ f k = ln2 k a b) {s : SR} (hc : s.ct = none) (hl : s.li < 0) {n : Nat} : ∀ m ≤ 12, ∃ s', goS s ((List.range m).map f) n = .inl s' ∧ s'.ct = none ∧ s'.li < ((2 * m : Nat) : Int)
  | 0, _ => ⟨s, rfl, hc, by omega⟩
  | m + 1, hm => by
    obtain ⟨s', h1, h2, h3⟩ := goS_rng hf hc hl m (by omega)
    obtain ⟨a, b, ha, hb, e⟩ := hf m (by omega)
    rw [List.range_succ, List.map_append, List.map_singleton, goS_app _ _ _ _ _ h1, e, goS_go (step_r (by omega) ha hb h2 h3)]
    exact ⟨_, rfl, h2, by show ((2 * m : Nat) : Int) < _; omega⟩
theorem cont2 : ∃ s, (∀ n, goS SR0 [c0, c1] n = .inl s) ∧ s.ct = none ∧ s.li < 0 := by
  obtain ⟨v1, v2, v3, v4, v5, v6, v7, v8, _⟩ := VC
  have kp := Kn.Rp.key_pos []
  have s1 : stepL SR0 c0 = some ⟨[([], [])], [], ((key [] : Nat) : Int), -1, none⟩ := by
    unfold stepL
    show stepP SR0 c0 (PT c0) = _
    rw [v1]
    show (if cLn [] [] = c0 then ctO SR0 [] [] else none) = _
    rw [if_pos v3]
    unfold ctO
    rw [v6, if_neg (by decide), if_neg (by show ¬ ((key [] : Nat) : Int) ≤ 0; omega)]
    rfl
  have s2 : stepL ⟨[([], [])], [], ((key [] : Nat) : Int), -1, none⟩ c1 = some ⟨[([], []), ([97], [98])], [], ((key [97] : Nat) : Int), -1, none⟩ := by
    unfold stepL
    show stepP ⟨[([], [])], [], ((key [] : Nat) : Int), -1, none⟩ c1 (PT c1) = _
    rw [v2]
    show (if cLn [97] [98] = c1 then ctO ⟨[([], [])], [], ((key [] : Nat) : Int), -1, none⟩ [97] [98] else none) = _
    rw [if_pos v4]
    unfold ctO
    rw [v7, v8, if_neg (by decide), if_neg (by show ¬ ((key [97] : Nat) : Int) ≤ ((key [] : Nat) : Int); omega)]
    rfl
  exact ⟨_, fun n => by rw [goS_go s1, goS_go s2]; rfl, rfl, by show (-1 : Int) < 0; decide⟩
theorem ORD : ∀ k < 11, ∀ v < 2, ∀ w < 2, nm0 k v < nm0 (k + 1) w := by decide +kernel
theorem ORD0 : ∀ w < 2, ([] : List Nat) < nm0 0 w := by decide +kernel
theorem NK : ∀ k < 12, nm0 k 1 = nmk k := by decide +kernel
def rdK (kind : Nat) : List Nat → Option (List Nat) := if kind = 0 then nmE else nmS
def gV (kind c k : Nat) : Nat := if kind = 1 then 1 else if fK c k = 0 then 1 else wK c k
theorem gV_lt (kind c k : Nat) : gV kind c k < 2 := by
  have := wK_lt c k
  unfold gV
  split
  · omega
  · split <;> omega
theorem cnt_le (c : Nat) : cnt c ≤ 12 ∧ 3 ≤ cnt c := by unfold cnt; omega
theorem rdK0 : rdK 0 = nmE := if_pos rfl
theorem rdK1 : rdK 1 = nmS := if_neg (by decide)
theorem lnL0 (c k : Nat) : lnL 0 c k = if fK c k = 0 then lnK k else lnF k (wK c k) (aK c k) (bK c k) := by
  unfold lnL
  rw [if_neg (by decide), if_neg (by decide)]
theorem lnL1 (c k : Nat) : lnL 1 c k = ln1 k (aK c k) (bK c k) := by
  unfold lnL
  rw [if_pos rfl]
theorem gV0 (c k : Nat) : gV 0 c k = if fK c k = 0 then 1 else wK c k := by
  unfold gV
  rw [if_neg (by decide)]
theorem gV1 (c k : Nat) : gV 1 c k = 1 := by
  unfold gV
  rw [if_pos rfl]
theorem rd_ln {kind c k : Nat} (hk : kind = 0 ∨ kind = 1) (h : k < 12) : rdK kind (lnL kind c k) = some (nm0 k (gV kind c k)) := by
  have v1 := V1 k h _ (aK_lt c k) _ (bK_lt c k)
  have vk := VK k h
  have vf := VF k h _ (wK_lt c k) _ (aK_lt c k) _ (bK_lt c k)
  have nk := NK k h
  rcases hk with rfl | rfl
  · rw [rdK0, lnL0, gV0]
    by_cases hf : fK c k = 0
    · rw [if_pos hf, if_pos hf, nk]
      exact vk
    · rw [if_neg hf, if_neg hf]
      exact vf
  · rw [rdK1, lnL1, gV1, nk]
    exact v1
theorem val01 {kind c : Nat} (hk : kind = 0 ∨ kind = 1) : goR (rdK kind) (uL kind c) 1 [] = none := by
  have hc := cnt_le c
  have e : uL kind c = bodyL kind c := by unfold uL; exact if_neg (by omega)
  rw [e]
  exact (goR_rng (g := fun k => nm0 k (gV kind c k)) (cnt c) (fun k h => rd_ln hk (by omega)) (fun k h => ORD k (by omega) _ (gV_lt _ _ _) _ (gV_lt _ _ _)) fun _ => ORD0 _ (gV_lt _ _ _)).1
theorem errK01 {kind : Nat} (hk : kind = 0 ∨ kind = 1) (ls : List (List Nat)) : errK kind ls = goR (rdK kind) ls 1 [] := by
  unfold errK rdK
  rcases hk with rfl | rfl
  · rfl
  · rfl
theorem val2 (c : Nat) : ∃ s, goS SR0 ([c0, c1] ++ bodyL 2 c) 1 = .inl s ∧ s.ct = none ∧ s.li < ((2 * cnt c : Nat) : Int) := by
  obtain ⟨s0, h0, hc, hl⟩ := cont2
  rw [goS_app _ _ _ _ _ (h0 1)]
  have hcn := cnt_le c
  exact goS_rng (f := lnL 2 c) (fun k hk => ⟨aK c k, bK c k, aK_lt c k, bK_lt c k, rfl⟩) hc hl (cnt c) (by omega)
theorem uL2 (c : Nat) : uL 2 c = ([c0, c1] ++ bodyL 2 c) ++ [nLn (2 * cnt c)] := rfl
theorem val2b (c : Nat) : ∃ s, goS SR0 (uL 2 c) 1 = .inl s ∧ s.ct ≠ none := by
  obtain ⟨s, h1, h2, h3⟩ := val2 c
  have hc := cnt_le c
  rw [uL2, goS_app _ _ _ _ _ h1]
  have z : stepL s (nLn (2 * cnt c)) = some ⟨s.tx, s.es, s.lk, s.li, some (2 * cnt c)⟩ := by
    rw [step_n (by omega) h2]
    unfold cnO
    exact if_neg (by omega)
  rw [goS_go z]
  exact ⟨_, rfl, fun y => nomatch y⟩
structure Fine (kind way a c : Nat) (sp : List (List Nat)) (n : Nat) : Prop where
  hi : n ≤ sp.length + 1
  lo : a + 1 ≤ n
  w4 : way = 4 → kind ≠ 2 → n = a + 2
  w5 : way = 5 → (kind ≠ 2 ∨ c / 100 % 5 ≠ 2) → n = a + 1
  w6 : way = 6 → kind = 2 → n = sp.length + 1
  w3 : way < 3 → n ≤ a + 2 ∨ n ≤ sp.length
theorem sp_form (u : List (List Nat)) {way a c : Nat} (hw : way < 7) : (∃ rest, spL u way a c = u.take a ++ rest) ∨ (way = 6 ∧ spL u way a c = u.take (u.length - 1)) := by
  have p : ∀ x, putS u a x = u.take a ++ ([x] ++ u.drop (a + 1)) := fun x => List.append_assoc _ _ _
  have i : ∀ x, insS u a x = u.take a ++ ([x] ++ u.drop a) := fun x => List.append_assoc _ _ _
  unfold spL
  split
  · exact .inl ⟨_, p _⟩
  · split
    · exact .inl ⟨_, p _⟩
    · split
      · exact .inl ⟨_, p _⟩
      · split
        · exact .inl ⟨_, p _⟩
        · split
          · exact .inl ⟨_, i _⟩
          · split
            · exact .inl ⟨_, i _⟩
            · exact .inr ⟨by omega, rfl⟩
theorem sp4 (u : List (List Nat)) (a c : Nat) : spL u 4 a c = insS u a (u.getD a []) := rfl
theorem sp5 (u : List (List Nat)) (a c : Nat) : spL u 5 a c = insS u a (inss.getD (c / 100 % 5) []) := rfl
theorem sp6 (u : List (List Nat)) (a c : Nat) : spL u 6 a c = u.take (u.length - 1) := rfl
theorem sp3 (u : List (List Nat)) {way a c : Nat} (h : way < 3) : ∃ x, spL u way a c = putS u a x := by
  unfold spL
  split
  · exact ⟨_, rfl⟩
  · split
    · exact ⟨_, rfl⟩
    · split
      · exact ⟨_, rfl⟩
      · omega
theorem at_getD {u : List (List Nat)} {a : Nat} (h : a < u.length) : u[a]? = some (u.getD a []) := by
  rw [List.getD_eq_getElem?_getD, List.getElem?_eq_getElem h]
  rfl
theorem fine01 {kind cc way a c n : Nat} (hk : kind = 0 ∨ kind = 1) (hw : way < 7) (ha : a < (uL kind cc).length) (h : errK kind (spL (uL kind cc) way a c) = some n) : Fine kind way a c (spL (uL kind cc) way a c) n := by
  have V := val01 (c := cc) hk
  rw [errK01 hk] at h
  generalize uL kind cc = u at V ha h
  have Vt : ∀ m, goR (rdK kind) (u.take m) 1 [] = none := fun m => goR_pre _ (u.drop m) _ _ (by rw [List.take_append_drop]; exact V)
  have lt : (u.take a).length = a := by rw [List.length_take]; omega
  have bd : a + 1 ≤ n ∧ n ≤ (spL u way a c).length := by
    rcases sp_form u (a := a) (c := c) hw with ⟨rest, e⟩ | ⟨_, e⟩
    · rw [e] at h ⊢
      rw [goR_app _ _ _ _ (Vt a)] at h
      have := goR_bd _ _ _ _ h
      rw [List.length_append]
      omega
    · rw [e, Vt] at h
      cases h
  refine ⟨by omega, bd.1, fun z _ => ?_, fun z _ => ?_, fun _ z => by omega, fun _ => .inr bd.2⟩
  · subst z
    rw [sp4] at h
    unfold insS at h
    have e := drop_cons (at_getD ha)
    have e2 : u.take (a + 1) = u.take a ++ [u.getD a []] := by rw [List.take_add_one, at_getD ha]; rfl
    rw [e, goR_twice (by rw [← e2]; exact Vt _)] at h
    cases h
    omega
  · subst z
    rw [sp5] at h
    unfold insS at h
    have hi : c / 100 % 5 < 5 := Nat.mod_lt _ (by decide)
    have hz := VI _ hi
    have hb : rdK kind (inss.getD (c / 100 % 5) []) = none := by
      unfold rdK
      split
      · exact hz.1
      · exact hz.2
    rw [List.append_assoc, List.singleton_append, goR_bad (Vt a) hb] at h
    cases h
    omega
theorem fine2 {cc way a c n : Nat} (hw : way < 7) (ha : a < (uL 2 cc).length) (h : errK 2 (spL (uL 2 cc) way a c) = some n) : Fine 2 way a c (spL (uL 2 cc) way a c) n := by
  obtain ⟨sv, V, _⟩ := val2b cc
  obtain ⟨s6, V6, c6, _⟩ := val2 cc
  have hcn := cnt_le cc
  have ul : (uL 2 cc).length = 2 + cnt cc + 1 := by
    rw [uL2, List.length_append, List.length_append]
    unfold bodyL
    rw [List.length_map, List.length_range]
    rfl
  have h : errR (spL (uL 2 cc) way a c).length (goS SR0 (spL (uL 2 cc) way a c) 1) = some n := h
  have u6 : (uL 2 cc).take ((uL 2 cc).length - 1) = [c0, c1] ++ bodyL 2 cc := by
    rw [ul, uL2]
    have e : ([c0, c1] ++ bodyL 2 cc).length = 2 + cnt cc := by
      rw [List.length_append]
      unfold bodyL
      rw [List.length_map, List.length_range]
      rfl
    rw [List.take_append_of_le_length (by omega), List.take_of_length_le (by omega)]
  obtain ⟨s1, h1⟩ : ∃ s1, goS SR0 ((uL 2 cc).take a) 1 = .inl s1 := goS_pre _ ((uL 2 cc).drop a) _ _ sv (by rw [List.take_append_drop]; exact V)
  have lt : ((uL 2 cc).take a).length = a := by rw [List.length_take]; omega
  have g6 : way = 6 → n = (spL (uL 2 cc) way a c).length + 1 := fun z => by
    subst z
    rw [sp6, u6, V6] at h
    rw [sp6, u6]
    have h : (match s6.ct with | none => some (([c0, c1] ++ bodyL 2 cc).length + 1) | some _ => none) = some n := h
    rw [c6] at h
    exact (Option.some.inj h).symm
  have bd : a + 1 ≤ n ∧ n ≤ (spL (uL 2 cc) way a c).length + 1 := by
    rcases sp_form (uL 2 cc) (a := a) (c := c) hw with ⟨rest, e⟩ | ⟨hw6, _⟩
    · rw [e] at h ⊢
      rw [goS_app _ _ _ _ _ h1] at h
      rw [List.length_append] at h ⊢
      cases hg : goS s1 rest (1 + ((uL 2 cc).take a).length) with
      | inr m =>
        rw [hg] at h
        cases h
        have := goS_bd _ _ _ _ hg
        omega
      | inl s2 =>
        rw [hg] at h
        have h : (match s2.ct with | none => some (((uL 2 cc).take a).length + rest.length + 1) | some _ => none) = some n := h
        split at h
        · cases h
          omega
        · cases h
    · have z := g6 hw6
      rw [z]
      subst hw6
      rw [sp6, List.length_take]
      omega
  refine ⟨bd.2, bd.1, fun _ z => absurd rfl z, fun z hz => ?_, fun z _ => g6 z, fun z => ?_⟩
  · subst z
    have hi : c / 100 % 5 < 5 := Nat.mod_lt _ (by decide)
    rw [sp5] at h
    unfold insS at h
    rw [List.append_assoc, List.singleton_append, goS_app _ _ _ _ _ h1, goS_no (step_i hi (by omega))] at h
    cases h
    omega
  · obtain ⟨x, hx⟩ := sp3 (uL 2 cc) (a := a) (c := c) z
    rw [hx] at h ⊢
    have hl : (putS (uL 2 cc) a x).length = (uL 2 cc).length := by
      unfold putS
      rw [List.length_append, List.length_append, lt, List.length_drop]
      show a + 1 + _ = _
      omega
    by_cases hlast : a + 1 = (uL 2 cc).length
    · left
      rw [hx] at bd
      omega
    · right
      have e : putS (uL 2 cc) a x = ((uL 2 cc).take a ++ [x] ++ ([c0, c1] ++ bodyL 2 cc).drop (a + 1)) ++ [nLn (2 * cnt cc)] := by
        unfold putS
        rw [List.append_assoc _ _ [nLn _]]
        refine congrArg (fun z => ((uL 2 cc).take a ++ [x]) ++ z) ?_
        rw [uL2, List.drop_append_of_le_length]
        have e : ([c0, c1] ++ bodyL 2 cc).length = 2 + cnt cc := by
          rw [List.length_append]
          unfold bodyL
          rw [List.length_map, List.length_range]
          rfl
        omega
      cases hg : goS SR0 (putS (uL 2 cc) a x) 1 with
      | inr m =>
        rw [hg] at h
        cases h
        have := goS_bd _ _ _ _ hg
        omega
      | inl s2 =>
        exfalso
        rw [hg] at h
        have h : (match s2.ct with | none => some ((putS (uL 2 cc) a x).length + 1) | some _ => none) = some n := h
        rw [e] at hg
        obtain ⟨s3, h3⟩ := goS_pre _ _ _ _ _ hg
        rw [goS_app _ _ _ _ _ h3] at hg
        cases hs : stepL s3 (nLn (2 * cnt cc)) with
        | none => rw [goS_no hs] at hg; cases hg
        | some s4 =>
          rw [goS_go hs] at hg
          cases hg
          cases hc3 : s3.ct with
          | some k =>
            unfold stepL at hs
            rw [hc3] at hs
            cases hs
          | none =>
            rw [step_n (by omega) hc3] at hs
            unfold cnO at hs
            split at hs
            · cases hs
            · cases hs
              cases h
theorem fine {kind cc way a c n : Nat} (hk : kind < 3) (hw : way < 7) (ha : a < (uL kind cc).length) (h : errK kind (spL (uL kind cc) way a c) = some n) : Fine kind way a c (spL (uL kind cc) way a c) n := by
  by_cases h2 : kind = 2
  · subst h2
    exact fine2 hw ha h
  · exact fine01 (by omega) hw ha h
theorem valid {kind cc : Nat} (hk : kind < 3) : errK kind (uL kind cc) = none := by
  by_cases h2 : kind = 2
  · subst h2
    obtain ⟨s, h1, h3⟩ := val2b cc
    show errR _ (goS SR0 (uL 2 cc) 1) = none
    rw [h1]
    show (match s.ct with | none => some _ | some _ => none) = none
    cases hs : s.ct with
    | none => exact absurd hs h3
    | some k => rfl
  · rw [errK01 (by omega)]
    exact val01 (by omega)

--SPLIT
section
variable {P : Program} {w : World} {K : PySem.W.Frag} {mg : Str → Option Value} {base : Heap}
/-! ### sizes -/
theorem sz1 : (∀ k < 12, ∀ a < 3, ∀ b < 4, (ln1 k a b).length ≤ 24) ∧ (∀ k < 12, ∀ a < 3, ∀ b < 4, (ln2 k a b).length ≤ 24) := by decide +kernel
theorem sz2 : (∀ k < 12, (lnK k).length ≤ 24) ∧ (∀ k < 12, ∀ w < 2, ∀ a < 3, ∀ b < 4, (lnF k w a b).length ≤ 24) := by decide +kernel
theorem sz3 : (∀ n < 26, (nLn n).length ≤ 24) ∧ (c0.length ≤ 24 ∧ c1.length ≤ 24) ∧ (∀ i < 5, (inss.getD i []).length ≤ 24) := by decide +kernel
theorem ok1 : (∀ k < 12, ∀ a < 3, ∀ b < 4, okS (ln1 k a b) = true) ∧ (∀ k < 12, ∀ a < 3, ∀ b < 4, okS (ln2 k a b) = true) := by decide +kernel
theorem ok2 : (∀ k < 12, okS (lnK k) = true) ∧ (∀ k < 12, ∀ w < 2, ∀ a < 3, ∀ b < 4, okS (lnF k w a b) = true) := by decide +kernel
theorem ok3 : (∀ n < 26, okS (nLn n) = true) ∧ (okS c0 = true ∧ okS c1 = true) := by decide +kernel
def Fit (x : List Nat) : Prop := (10 ∉ x ∧ x.length ≤ 24) ∧ okS x = true
theorem fit_ln {kind c k : Nat} (h : k < 12) : Fit (lnL kind c k) := by
  have ha := aK_lt c k
  have hb := bK_lt c k
  have hw := wK_lt c k
  unfold lnL
  split
  · exact ⟨⟨NL.1 k h _ ha _ hb, sz1.1 k h _ ha _ hb⟩, ok1.1 k h _ ha _ hb⟩
  · split
    · exact ⟨⟨NL.2 k h _ ha _ hb, sz1.2 k h _ ha _ hb⟩, ok1.2 k h _ ha _ hb⟩
    · split
      · exact ⟨⟨NLb.1 k h, sz2.1 k h⟩, ok2.1 k h⟩
      · exact ⟨⟨NLb.2 k h _ hw _ ha _ hb, sz2.2 k h _ hw _ ha _ hb⟩, ok2.2 k h _ hw _ ha _ hb⟩
theorem fit_u {kind c : Nat} : ∀ x ∈ uL kind c, Fit x := by
  have hc := cnt_le c
  have hb : ∀ x ∈ bodyL kind c, Fit x := fun x hx => by
    obtain ⟨k, hk, rfl⟩ := List.mem_map.mp hx
    have := List.mem_range.mp hk
    exact fit_ln (by omega)
  intro x hx
  unfold uL at hx
  split at hx
  · rcases List.mem_append.mp hx with hx | hx
    · rcases List.mem_append.mp hx with hx | hx
      · rcases List.mem_cons.mp hx with rfl | hx
        · exact ⟨⟨NLc.2.1.1, sz3.2.1.1⟩, ok3.2.1⟩
        · rw [List.mem_singleton.mp hx]
          exact ⟨⟨NLc.2.1.2, sz3.2.1.2⟩, ok3.2.2⟩
      · exact hb x hx
    · rw [List.mem_singleton.mp hx]
      exact ⟨⟨NLc.1 _ (by omega), sz3.1 _ (by omega)⟩, ok3.1 _ (by omega)⟩
  · exact hb x hx
theorem u_len (kind c : Nat) : 3 ≤ (uL kind c).length ∧ (uL kind c).length ≤ 15 := by
  have hc := cnt_le c
  have hb : (bodyL kind c).length = cnt c := by
    unfold bodyL
    rw [List.length_map, List.length_range]
  unfold uL
  split
  · rw [List.length_append, List.length_append, hb]
    show 3 ≤ 2 + _ + 1 ∧ 2 + _ + 1 ≤ 15
    omega
  · omega
def Fit2 (x : List Nat) : Prop := 10 ∉ x ∧ x.length ≤ 26
theorem Fit.two {x : List Nat} (h : Fit x) : Fit2 x := ⟨h.1.1, by have := h.1.2; omega⟩
theorem fit_cut {l : List Nat} (h : Fit l) (c : Nat) : Fit2 (cut0 l c) ∧ Fit2 (cut1' l c) ∧ Fit2 (cut2 l c) := by
  obtain ⟨⟨h1, h2⟩, _⟩ := h
  have ht : ∀ n, 10 ∉ l.take n := fun n z => h1 (List.mem_of_mem_take z)
  have hd : ∀ n, 10 ∉ l.drop n := fun n z => h1 (List.mem_of_mem_drop z)
  have hch : ∀ i < 6, chL.getD i 0 ≠ 10 := by decide +kernel
  have hc := hch (c / 100 % 6) (Nat.mod_lt _ (by decide))
  refine ⟨⟨fun z => ?_, ?_⟩, ⟨fun z => ?_, ?_⟩, ⟨fun z => ?_, ?_⟩⟩
  · rcases List.mem_append.mp z with z | z
    · exact ht _ z
    · exact hd _ z
  · unfold cut0
    rw [List.length_append, List.length_take, List.length_drop]
    omega
  · rcases List.mem_append.mp z with z | z
    · rcases List.mem_append.mp z with z | z
      · exact ht _ z
      · exact absurd z (by decide)
    · exact hd _ z
  · unfold cut1'
    rw [List.length_append, List.length_append, List.length_take, List.length_drop]
    show _ + 2 + _ ≤ 26
    omega
  · rcases List.mem_append.mp z with z | z
    · rcases List.mem_append.mp z with z | z
      · exact ht _ z
      · exact hc (List.mem_singleton.mp z).symm
    · exact hd _ z
  · unfold cut2
    rw [List.length_append, List.length_append, List.length_take, List.length_drop]
    show _ + 1 + _ ≤ 26
    omega
theorem fit_sp {u : List (List Nat)} {way a c : Nat} (hu : ∀ x ∈ u, Fit x) (h3 : 3 ≤ u.length) (ha : a < u.length) : (∀ x ∈ spL u way a c, Fit2 x) ∧ 2 ≤ (spL u way a c).length ∧ (spL u way a c).length ≤ u.length + 1 := by
  have hg : ∀ i < u.length, Fit (u.getD i []) := fun i hi => hu _ (List.mem_of_getElem? (at_getD hi))
  have p : ∀ x, Fit2 x → (∀ y ∈ putS u a x, Fit2 y) ∧ 2 ≤ (putS u a x).length ∧ (putS u a x).length ≤ u.length + 1 := fun x hx => ⟨fun y hy => by
    rcases List.mem_append.mp hy with hy | hy
    · rcases List.mem_append.mp hy with hy | hy
      · exact (hu _ (List.mem_of_mem_take hy)).two
      · rw [List.mem_singleton.mp hy]
        exact hx
    · exact (hu _ (List.mem_of_mem_drop hy)).two, by
    unfold putS
    rw [List.length_append, List.length_append, List.length_take, List.length_drop, List.length_singleton]
    omega⟩
  have i : ∀ x, Fit2 x → (∀ y ∈ insS u a x, Fit2 y) ∧ 2 ≤ (insS u a x).length ∧ (insS u a x).length ≤ u.length + 1 := fun x hx => ⟨fun y hy => by
    rcases List.mem_append.mp hy with hy | hy
    · rcases List.mem_append.mp hy with hy | hy
      · exact (hu _ (List.mem_of_mem_take hy)).two
      · rw [List.mem_singleton.mp hy]
        exact hx
    · exact (hu _ (List.mem_of_mem_drop hy)).two, by
    unfold insS
    rw [List.length_append, List.length_append, List.length_take, List.length_drop, List.length_singleton]
    omega⟩
  have fc := fit_cut (hg a ha) c
  unfold spL
  split
  · exact p _ fc.1
  · split
    · exact p _ fc.2.1
    · split
      · exact p _ fc.2.2
      · split
        · exact p _ (hg _ (Nat.mod_lt _ (by omega))).two
        · split
          · exact i _ (hg a ha).two
          · split
            · have hi : c / 100 % 5 < 5 := Nat.mod_lt _ (by decide)
              exact i _ ⟨NLc.2.2 _ hi, by have := sz3.2.2 _ hi; omega⟩
            · refine ⟨fun y hy => (hu _ (List.mem_of_mem_take hy)).two, ?_⟩
              rw [List.length_take]
              omega
theorem join_ne2 {ps : List (List Nat)} (h : 2 ≤ ps.length) : TL.joinL [10] ps ≠ [] := by
  match ps, h with
  | p :: q :: r, _ =>
    show p ++ ([10] ++ TL.joinL [10] (q :: r)) ≠ []
    intro z
    exact List.cons_ne_nil _ _ (List.append_eq_nil_iff.mp z).2
theorem lines_join2 {ps : List (List Nat)} (h : ∀ p ∈ ps, 10 ∉ p) (h2 : 2 ≤ ps.length) : linesL (TL.joinL [10] ps) = ps := by
  unfold linesL
  rw [if_neg (join_ne2 h2)]
  exact Kn.Rp.cut_join (fun z => by rw [z] at h2; exact absurd h2 (by decide)) h
theorem join_len1 : ∀ (ls : List (List Nat)), (TL.joinL [10] ls).length ≤ (ls.map (·.length)).sum + ls.length
  | [] => Nat.zero_le _
  | [p] => by
    show p.length ≤ (p.length + 0) + 1
    omega
  | p :: q :: r => by
    have ih := join_len1 (q :: r)
    show (p ++ ([10] ++ TL.joinL [10] (q :: r))).length ≤ (p.length + ((q :: r).map (·.length)).sum) + ((q :: r).length + 1)
    rw [List.length_append, List.length_append, List.length_singleton]
    omega
theorem okS_join : ∀ {ls : List (List Nat)}, (∀ l ∈ ls, okS l = true) → okS (TL.joinL [10] ls) = true
  | [], _ => rfl
  | [p], h => h p List.mem_cons_self
  | p :: q :: r, h => by
    have ih := okS_join (ls := q :: r) fun l hl => h l (List.mem_cons_of_mem _ hl)
    have hp := h p List.mem_cons_self
    show okS (p ++ ([10] ++ TL.joinL [10] (q :: r))) = true
    unfold okS at ih hp ⊢
    rw [List.all_append, List.all_append, hp, ih]
    rfl
structure TextOk (ls : List (List Nat)) : Prop where
  ln : linesL (TL.joinL [10] ls) = ls
  sz : Sz3 (TL.joinL [10] ls)
  sm : (ls.map (·.length)).sum + ls.length * 1 ≤ 16777216
theorem text_ok {ls : List (List Nat)} (h : ∀ x ∈ ls, Fit2 x) (h2 : 2 ≤ ls.length) (h3 : ls.length ≤ 16) : TextOk ls := by
  have e := lines_join2 (fun p hp => (h p hp).1) h2
  have s := sum_le' (n := 26) fun l hl => (h l hl).2
  have j := join_len1 ls
  refine ⟨e, ⟨by omega, by rw [e]; omega⟩, by omega⟩
theorem eu_loaded {G : Gx K mg} {σ : L2.St} {H : Hp} {ta : TA} {kind : Nat} {l : List Nat} (h : EvA ta σ H [.int (kind : Int), .str (S l)]) (hz : Sz3 l) : EvU (tCall (sp__law_loaded G) [] E0 ta) σ H (resV l (errK kind (linesL l))) := fun H1 e Q q => h H1 e _ fun H2 e2 => ⟨kind, l, rfl, hz, fun p H' np e' hp => q p H' (fresh_back e2 np) (e2.trans e') hp⟩
theorem evd_u2 {σ : L2.St} {H : Hp} {te : TE} {a b : List Nat} (h : EvU te σ H [.str (S a), .str (S b)]) : EvD te σ H (.tuple [.str (S a), .str (S b)]) := fun H1 e Q q => h H1 e Q fun p H2 _ e2 hp => q _ _ e2 (.tup hp (.cons (.str _) (.cons (.str _) .nil)))
theorem evd_ub {σ : L2.St} {H : Hp} {te : TE} {a b : Bool} (h : EvU te σ H [.bl a, .bl b]) : EvD te σ H (.tuple [.bool a, .bool b]) := fun H1 e Q q => h H1 e Q fun p H2 _ e2 hp => q _ _ e2 (.tup hp (.cons (.bl _) (.cons (.bl _) .nil)))
theorem eqv_u2 (a b : Str) : PyData.eqv (.tuple [.str a, .str b]) (.tuple [.str a, .str b]) = true := by
  simp [PyData.eqv, PyData.eqvAll]
theorem ok_saved : okS wSaved = true := by decide +kernel
theorem inv_ne : ¬ wInv = wSaved := by decide +kernel
end

--SPLIT
section
variable {P : Program} {w : World} {K : PySem.W.Frag} {mg : Str → Option Value} {base : Heap}
def sp_law (K : PySem.W.Frag) : Sp := sp2 (fun (a : Addr) (_ : List Int) => [.ref a]) (fun a ns H => SqL K H a (ns.map V.int) ∧ ns.length ≤ 63) (fun _ _ => .bl true)
theorem ok_law {f : Addr} {C_Tree C_Store C_StoreReader : Addr} {fd : FuncData} (F : Fun K "law" "law" s_law f fd) (T : Tx mg) (G : Gx K mg) (TC_Tree : Tc_Tree K C_Tree) (TC_Store : Tc_Store K C_Store) (TC_StoreReader : Tc_StoreReader K C_StoreReader) (C__law_cell : Kn.Cl P w K mg base 1 "_law_cell" (sp__law_cell K)) (C__law_lines : Kn.Cl P w K mg base 1 "_law_lines" (sp__law_lines K)) (C__law_loaded : Kn.Cl P w K mg base 11 "_law_loaded" (sp__law_loaded G)) (C__law_spoilt : Kn.Cl P w K mg base 1 "_law_spoilt" (sp__law_spoilt K)) : FnOk P w K mg base CX0 12 f fd ["script"] (sp_law K) := by
  refine F.ok sc_law (fun vs H Q E h => ?_) (fun cdv A outer s H vs Q E hr h => ?_)
  · obtain ⟨a, ns, rfl, _⟩ := h
    rfl
  · obtain ⟨a, ns, rfl, ⟨hS, hl⟩, q⟩ := h
    refine ⟨_, (pss_cons (ps_set (i := 1) sc_law.nd rfl (Or.inl rfl) (pe_callB Kn.cr_abs (by rfl) T.b_abs (by decide +kernel) (pa_cons (Kn.pe_cl C__law_cell hr (by decide) (by rfl) (pa_cons (pv 0) (pa_cons pe_int pa_nil))) pa_nil)))
      (pss_cons (ps_set (i := 2) sc_law.nd rfl (Or.inl rfl) (pe_op op_mod (pv 1) pe_int))
      (pss_cons (ps_set (i := 3) sc_law.nd rfl (Or.inl rfl) (Kn.pe_cl C__law_lines hr (by decide) (by rfl) (pa_cons (pv 2) (pa_cons (pe_callB Kn.cr_abs (by rfl) T.b_abs (by decide +kernel) (pa_cons (Kn.pe_cl C__law_cell hr (by decide) (by rfl) (pa_cons (pv 0) (pa_cons pe_int pa_nil))) pa_nil)) pa_nil))))
      (pss_cons (ps_if (pt_cmpR (op_neD hr.units) (Kn.pe_cl C__law_loaded hr (by decide) (by rfl) (pa_cons (pv 2) (pa_cons (Kn.pe_joinN (pe_join pe_str (pv 3))) pa_nil))) (pe_tup (pa_cons pe_str (pa_cons (Kn.pe_joinN (pe_join pe_str (pv 3))) pa_nil))) (nomark _)) (pss_one (ps_ret pe_bl)) pss_nil)
      (pss_cons (ps_set (i := 4) sc_law.nd rfl (Or.inl rfl) (pe_callB Kn.cr_abs (by rfl) T.b_abs (by decide +kernel) (pa_cons (Kn.pe_cl C__law_cell hr (by decide) (by rfl) (pa_cons (pv 0) (pa_cons pe_int pa_nil))) pa_nil)))
      (pss_cons (ps_set (i := 5) sc_law.nd rfl (Or.inl rfl) (pe_op op_mod (pe_op op_fdiv (pv 4) pe_int) (pe_callB Kn.cr_lenSeq (by rfl) T.b_len PySem.boot_len (pa_cons (pv 3) pa_nil))))
      (pss_cons (ps_set (i := 6) sc_law.nd rfl (Or.inl rfl) (pe_op op_mod (pe_op op_fdiv (pv 1) pe_int) pe_int))
      (pss_cons (ps_set (i := 7) sc_law.nd rfl (Or.inl rfl) (Kn.pe_cl C__law_spoilt hr (by decide) (by rfl) (pa_cons (pv 3) (pa_cons (pv 6) (pa_cons (pv 5) (pa_cons (pe_op op_fdiv (pv 4) pe_int) pa_nil))))))
      (pss_cons (ps_set (i := 8) sc_law.nd rfl (Or.inl rfl) (Kn.pe_joinN (pe_join pe_str (pv 7))))
      (pss_cons (ps_set (i := 9) sc_law.nd rfl (Or.inl rfl) (Kn.pe_cl C__law_loaded hr (by decide) (by rfl) (pa_cons (pv 2) (pa_cons (pv 8) pa_nil))))
      (pss_cons (ps_if (pt_cmpR op_eq (pe_ix ix_tup (pv 9) pe_int (fun _ _ => rfl)) pe_str (nomark _)) (pss_one (ps_ret (pe_cmpR op_eq (pe_ix ix_tup (pv 9) pe_int (fun _ _ => rfl)) (pv 8) (nomark _)))) pss_nil)
      (pss_cons (ps_if (PW.pt (pw_or (pt_cmpR (op_neD hr.units) (pe_slice sl_tup (pv 9) (po_some pe_int) po_none) (pe_tup (pa_cons pe_bl (pa_cons pe_bl pa_nil))) (nomark _)) (pw_or (pt_val (pe_callB Kn.cr_isi (by rfl) T.b_isinstance (by decide +kernel) (pa_cons (pe_ix ix_tup (pv 9) pe_int (fun _ _ => rfl)) (pa_cons (pe_bltn (v := .ty "bool") (by rfl) T.b_bool (by decide +kernel) rfl) pa_nil)))) (pw_or (pt_cmpR op_lt (pe_ix ix_tup (pv 9) pe_int (fun _ _ => rfl)) pe_int (nomark _)) (pw_or1 (pt_cmpR op_gt (pe_ix ix_tup (pv 9) pe_int (fun _ _ => rfl)) (pe_op op_add (pe_callB Kn.cr_lenSeq (by rfl) T.b_len PySem.boot_len (pa_cons (pv 7) pa_nil)) pe_int) (nomark _))))))) (pss_one (ps_ret pe_bl)) pss_nil)
      (pss_cons (ps_if (PW.pt (pw_and (pt_cmpR op_eq (pv 6) pe_int (nomark _)) (pw_and1 (pt_cmpR op_ne (pv 2) pe_int (nomark _))))) (pss_one (ps_ret (pe_cmpR op_eq (pe_ix ix_tup (pv 9) pe_int (fun _ _ => rfl)) (pe_op op_add (pv 5) pe_int) (nomark _)))) pss_nil)
      (pss_cons (ps_if (pt_cmpR op_eq (pv 6) pe_int (nomark _)) (pss_one (ps_ret (pe_or (pe_cmpR op_eq (pe_ix ix_tup (pv 9) pe_int (fun _ _ => rfl)) (pe_op op_add (pv 5) pe_int) (nomark _)) (pe_one (pe_and (pe_cmpR op_eq (pv 2) pe_int (nomark _)) (pe_one (pe_cmpR op_eq (pe_op op_mod (pe_op op_fdiv (pv 4) pe_int) pe_int) pe_int (nomark _)))))))) pss_nil)
      (pss_cons (ps_if (PW.pt (pw_and (pt_cmpR op_eq (pv 6) pe_int (nomark _)) (pw_and1 (pt_cmpR op_eq (pv 2) pe_int (nomark _))))) (pss_one (ps_ret (pe_cmpR op_eq (pe_ix ix_tup (pv 9) pe_int (fun _ _ => rfl)) (pe_op op_add (pe_callB Kn.cr_lenSeq (by rfl) T.b_len PySem.boot_len (pa_cons (pv 7) pa_nil)) pe_int) (nomark _)))) pss_nil)
      (pss_cons (ps_if (pt_cmpR op_lt (pv 6) pe_int (nomark _)) (pss_one (ps_ret (pe_and (pe_cmpR op_ge (pe_ix ix_tup (pv 9) pe_int (fun _ _ => rfl)) (pe_op op_add (pv 5) pe_int) (nomark _)) (pe_one (pe_cmpR op_le (pe_ix ix_tup (pv 9) pe_int (fun _ _ => rfl)) (pe_callB (Kn.cr_max2 rfl) (by rfl) T.b_max (by decide +kernel) (pa_cons (pe_op op_add (pv 5) pe_int) (pa_cons (pe_callB Kn.cr_lenSeq (by rfl) T.b_len PySem.boot_len (pa_cons (pv 7) pa_nil)) pa_nil))) (nomark _)))))) pss_nil)
      (pss_one (ps_ret (pe_cmpR op_ge (pe_ix ix_tup (pv 9) pe_int (fun _ _ => rfl)) (pe_op op_add (pv 5) pe_int) (nomark _)))))))))))))))))))), ?_⟩
    refine q_asg (ev_cellA (a := a) (ns := ns) (c := 0) (ea_cons (ev_var rfl) (ea_cons ev_c ea_nil)) hS) fun H1 e1 => ?_
    generalize (L2.cellOf ns 0).natAbs = f0
    refine q_asg (v := .int ((f0 % 3 : Nat) : Int)) (ev_is (ev_op (ev_var rfl) ev_c (rv_mod (by decide))) (congrArg V.int (by omega))) fun H2 e2 => ?_
    have hk : f0 % 3 < 3 := Nat.mod_lt _ (by decide)
    have e12 := e1.trans e2
    refine q_asgL (xs := strsV (uL (f0 % 3) (L2.cellOf ns 1).natAbs)) (el_call' (ea_cons (ev_var rfl) (ea_cons (ev_cellA (a := a) (ns := ns) (c := 1) (ea_cons (ev_var rfl) (ea_cons ev_c ea_nil)) (ex_l e12 hS)) ea_nil)) fun H3 e3 Q q E => ⟨f0 % 3, _, rfl, q⟩) fun up H3 nup e3 hup => ?_
    have e13 := e12.trans e3
    generalize (L2.cellOf ns 1).natAbs = cc at hup
    have hfu : ∀ x ∈ uL (f0 % 3) cc, Fit x := fit_u
    have hul := u_len (f0 % 3) cc
    have hval := valid (cc := cc) hk
    have hfin := fun way a c n hw ha h => fine (kind := f0 % 3) (cc := cc) (way := way) (a := a) (c := c) (n := n) hk hw ha h
    generalize uL (f0 % 3) cc = u at hup hfu hul hval hfin
    have tu := text_ok (ls := u) (fun x hx => (hfu x hx).two) (by omega) (by omega)
    have oku : okS (TL.joinL [10] u) = true := okS_join fun l hl => (hfu l hl).2
    have shu : SeqAt.shaped (.tuple [.str (S wSaved), .str (S (TL.joinL [10] u))]) = true := shaped_tup (can_cons (canS ok_saved) (can_cons (canS oku) can_nil)) (by show (1 : Nat) ≤ 64; decide)
    generalize f0 % 3 = kind at hk hval hfin
    have ej : ∀ {Hx : Hp} {σ : L2.St}, Ex H3 Hx → σ[3]? = some (some (.ref up)) → Ev (tM1 (rJoin K) (tC (.str (Str.ofString "\n"))) (tVar 3)) σ Hx (.str (S (TL.joinL [10] u))) := fun ex h => ev_joinV (s := [10]) (ev_cS rfl) (ev_var h) (sq_of (ex _ _ hup)) tu.sm
    refine q_when (b := false) (et_is (et_test (ev_neD (d := .tuple [.str (S wSaved), .str (S (TL.joinL [10] u))]) (e' := .tuple [.str (S wSaved), .str (S (TL.joinL [10] u))]) (evd_u2 (by
      have z := eu_loaded (σ := [some (.ref a), some (.int (f0 : Int)), some (.int (kind : Int)), some (.ref up), none, none, none, none, none, none]) (H := H3) (kind := kind) (l := TL.joinL [10] u) (G := G) (ea_cons (ev_var (i := 2) rfl) (ea_cons (ej (Ex.refl _) rfl) ea_nil)) tu.sz
      rw [tu.ln, hval] at z
      exact z)) (evd_u2 (eu_tup (ea_cons (ev_cS (l := wSaved) rfl) (ea_cons (ej (Ex.refl _) rfl) ea_nil)) (by show 2 ≤ 100000; decide))) shu shu)) (by rw [eqv_u2]; rfl)) (fun z => nomatch z) fun _ H4 e4 => ?_
    have e14 := e13.trans e4
    refine q_asg (ev_cellA (a := a) (ns := ns) (c := 2) (ea_cons (ev_var rfl) (ea_cons ev_c ea_nil)) (ex_l e14 hS)) fun H5 e5 => ?_
    generalize (L2.cellOf ns 2).natAbs = c2
    have hup5 := e5 _ _ (e4 _ _ hup)
    have lnu : ∀ {Hx : Hp} {σ : L2.St} {p : Addr} {i : Nat} {ls : List (List Nat)}, σ[i]? = some (some (.ref p)) → Hx p = some (.lst (strsV ls)) → Ev (tCB (rLenS K) (tCons (tVar i) tNil)) σ Hx (.int ((ls.length : Nat) : Int)) := fun h1 h2 => ev_is (ev_len (ev_var h1) (sq_of h2)) (by unfold strsV; rw [List.length_map])
    refine q_asg (v := .int ((c2 / 7 % u.length : Nat) : Int)) (ev_is (ev_op (ev_op (ev_var rfl) ev_c (rv_fdiv ⟨by decide, by decide⟩)) (lnu rfl hup5) (rv_mod (by omega))) (congrArg V.int (by rw [Int.natCast_emod, Int.natCast_ediv]; rfl))) fun H6 e6 => ?_
    have hat : c2 / 7 % u.length < u.length := Nat.mod_lt _ (by omega)
    generalize c2 / 7 % u.length = at_ at hat
    refine q_asg (v := .int ((f0 / 3 % 7 : Nat) : Int)) (ev_is (ev_op (ev_op (ev_var rfl) ev_c (rv_fdiv ⟨by decide, by decide⟩)) ev_c (rv_mod (by decide))) (congrArg V.int (by rw [Int.natCast_emod, Int.natCast_ediv]; rfl))) fun H7 e7 => ?_
    have hway : f0 / 3 % 7 < 7 := Nat.mod_lt _ (by decide)
    generalize f0 / 3 % 7 = way at hway
    have e57 := e6.trans e7
    have hup7 := e57 _ _ hup5
    refine q_asgL (xs := strsV (spL u way at_ (c2 / 91))) (el_call' (vs := [.ref up, .int (way : Int), .int (at_ : Int), .int ((c2 / 91 : Nat) : Int)]) (ea_cons (ev_var rfl) (ea_cons (ev_var rfl) (ea_cons (ev_var rfl) (ea_cons (ev_is (ev_op (ev_var rfl) ev_c (rv_fdiv ⟨by decide, by decide⟩)) (congrArg V.int (by rw [Int.natCast_ediv]; rfl))) ea_nil)))) fun H8 e8 Q q E => ⟨up, u, way, at_, c2 / 91, rfl, e8 _ _ hup7, hat, by omega, fun l hl => by have := (hfu l hl).1.2; omega, q⟩) fun sp H8 nsp e8 hsp => ?_
    have hdv : c2 / 91 / 100 % 5 = c2 / 9100 % 5 := by rw [Nat.div_div_eq_div_mul]
    have hfs := fit_sp (way := way) (c := c2 / 91) hfu hul.1 hat
    have hfin := fun n h => hfin way at_ (c2 / 91) n hway hat h
    generalize spL u way at_ (c2 / 91) = ls at hsp hfs hfin
    have ts := text_ok (ls := ls) hfs.1 hfs.2.1 (by omega)
    refine q_asg (v := .str (S (TL.joinL [10] ls))) (ev_joinV (s := [10]) (ev_cS rfl) (ev_var rfl) (sq_of hsp) ts.sm) fun H9 e9 => ?_
    have hsp9 := e9 _ _ hsp
    have hres := ts.ln
    refine q_asgU (xs := resV (TL.joinL [10] ls) (errK kind ls)) (by
      have z := eu_loaded (σ := [some (.ref a), some (.int (f0 : Int)), some (.int (kind : Int)), some (.ref up), some (.int (c2 : Int)), some (.int (at_ : Int)), some (.int (way : Int)), some (.ref sp), some (.str (S (TL.joinL [10] ls))), none]) (H := H9) (kind := kind) (l := TL.joinL [10] ls) (G := G) (ea_cons (ev_var (i := 2) rfl) (ea_cons (ev_var (i := 8) rfl) ea_nil)) ts.sz
      rw [ts.ln] at z
      exact z) fun ap H10 nap e10 hap => ?_
    have hsp10 := e10 _ _ hsp9
    have eX : Ex H H10 := ((e14.trans e5).trans e57).trans ((e8.trans e9).trans e10)
    generalize TL.joinL [10] ls = txt at hap
    cases he : errK kind ls with
    | none =>
      rw [he] at hap
      refine q_when (b := true) (et_is (et_test (ev_op (ev_op (ev_var rfl) (ev_c (v := .int ((0 : Nat) : Int))) (rv_ix0 (v := .str (S wSaved)) (st_of hap) rfl)) (ev_cS (l := wSaved) rfl) rv_eqS)) (decide_eq_true rfl)) (fun _ H11 e11 => ?_) fun z => nomatch z
      exact s_ret (ev_is (ev_op (ev_op (ev_var rfl) (ev_c (v := .int ((1 : Nat) : Int))) (rv_ix0 (v := .str (S txt)) (st_of (e11 _ _ hap)) rfl)) (ev_var rfl) rv_eqS) (congrArg V.bl (decide_eq_true rfl))) fun H12 e12 => q H12 ((eX.trans e11).trans e12)
    | some n =>
      rw [he] at hap
      have F := hfin n he
      have ix1 : ∀ {Hx : Hp} {σ : L2.St}, Ex H10 Hx → σ[9]? = some (some (.ref ap)) → Ev (tOp (rIxT K) (tVar 9) (tC (.int 1))) σ Hx (.int (n : Int)) := fun ex h => ev_op (ev_var h) (ev_c (v := .int ((1 : Nat) : Int))) (rv_ix0 (v := .int (n : Int)) (st_of (ex _ _ hap)) rfl)
      refine q_when (b := false) (et_is (et_test (ev_op (ev_op (ev_var rfl) (ev_c (v := .int ((0 : Nat) : Int))) (rv_ix0 (v := .str (S wInv)) (st_of hap) rfl)) (ev_cS (l := wSaved) rfl) rv_eqS)) (decide_eq_false inv_ne)) (fun z => nomatch z) fun _ H11 e11 => ?_
      have hap11 := e11 _ _ hap
      have hsp11 := e11 _ _ hsp10
      have nlo : 1 ≤ n := by have := F.lo; omega
      refine q_when (b := false) (et_is (et_or (a := false) (b := false) (et_is (et_test (ev_neD (d := .tuple [.bool true, .bool false]) (e' := .tuple [.bool true, .bool false]) (evd_ub (by
        have z := eu_sl (K := K) (te := tVar 9) (σ := [some (.ref a), some (.int (f0 : Int)), some (.int (kind : Int)), some (.ref up), some (.int (c2 : Int)), some (.int (at_ : Int)), some (.int (way : Int)), some (.ref sp), some (.str (S txt)), some (.ref ap)]) (H := H11) (lo := some 2) (hi := none) (ev_var rfl) (eo_some (ev_c (v := .int 2))) eo_none hap11 (by show ¬ ((2 : Nat) = 0 ∧ _); omega)
        exact z)) (evd_ub (eu_tup (ea_cons ev_c (ea_cons ev_c ea_nil)) (by show 2 ≤ 100000; decide))) (by decide +kernel) (by decide +kernel))) (by decide +kernel)) fun _ => et_or (a := false) (b := false) (et_B (ev_isi (T := "int") (ix1 e11 rfl) (.base (.int _)) (by decide +kernel) fun _ _ => .base (.int _))) fun _ => et_or (a := false) (b := false) (et_is (et_test (ev_op (ix1 e11 rfl) ev_c rv_lt)) (decide_eq_false (by omega))) fun _ => et_is (et_test (ev_op (ix1 e11 rfl) (ev_addN (m := 1) (lnu rfl hsp11) rfl) rv_gt)) (decide_eq_false (by have := F.hi; omega))) rfl) (fun z => nomatch z) fun _ H12 e12 => ?_
      have e112 := e11.trans e12
      have e012 := eX.trans e112
      refine q_when (b := decide (way = 4) && !decide (kind = 2)) (et_and (a := decide (way = 4)) (b := !decide (kind = 2)) (et_is (et_test (ev_op (ev_var rfl) ev_c rv_eqI)) (decide_eq_decide.mpr (by omega))) fun _ => et_is (et_test (ev_op (ev_var rfl) ev_c rv_neI)) (congrArg (!·) (decide_eq_decide.mpr (by omega)))) (fun hb H13 e13 => ?_) fun hb H13 e13 => ?_
      · rw [Bool.and_eq_true, decide_eq_true_eq, Bool.not_eq_true', decide_eq_false_iff_not] at hb
        have := F.w4 hb.1 hb.2
        exact s_ret (ev_is (ev_op (ix1 (e112.trans e13) rfl) (ev_addN (m := 2) (ev_var rfl) rfl) rv_eqI) (congrArg V.bl (decide_eq_true (by omega)))) fun H14 e14 => q H14 ((e012.trans e13).trans e14)
      have e113 := e112.trans e13
      have e013 := e012.trans e13
      refine q_when (b := decide (way = 5)) (et_is (et_test (ev_op (ev_var rfl) ev_c rv_eqI)) (decide_eq_decide.mpr (by omega))) (fun hb H14 e14 => ?_) fun hb5 H14 e14 => ?_
      · have hb := of_decide_eq_true hb
        refine s_ret (v := .bl true) (ev_is (ev_orV (a := decide (n = at_ + 1)) (b := decide (kind = 2) && decide (c2 / 9100 % 5 = 2)) (ev_is (ev_op (ix1 (e113.trans e14) rfl) (ev_addN (m := 1) (ev_var rfl) rfl) rv_eqI) (congrArg V.bl (decide_eq_decide.mpr (by omega)))) fun _ => ev_andV (a := decide (kind = 2)) (b := decide (c2 / 9100 % 5 = 2)) (ev_is (ev_op (ev_var rfl) ev_c rv_eqI) (congrArg V.bl (decide_eq_decide.mpr (by omega)))) fun _ => ev_is (ev_op (ev_op (ev_op (ev_var rfl) ev_c (rv_fdiv ⟨by decide, by decide⟩)) ev_c (rv_mod (by decide))) ev_c rv_eqI) (congrArg V.bl (decide_eq_decide.mpr (by omega)))) (congrArg V.bl ?_)) fun H15 e15 => q H15 ((e013.trans e14).trans e15)
        have w5 := F.w5 hb
        rw [Bool.or_eq_true, Bool.and_eq_true, decide_eq_true_eq, decide_eq_true_eq, decide_eq_true_eq]
        by_cases h1 : kind = 2
        · by_cases h2 : c2 / 9100 % 5 = 2
          · exact .inr ⟨h1, h2⟩
          · exact .inl (w5 (.inr (by rw [hdv]; exact h2)))
        · exact .inl (w5 (.inl h1))
      have e114 := e113.trans e14
      have e014 := e013.trans e14
      refine q_when (b := decide (way = 6) && decide (kind = 2)) (et_and (a := decide (way = 6)) (b := decide (kind = 2)) (et_is (et_test (ev_op (ev_var rfl) ev_c rv_eqI)) (decide_eq_decide.mpr (by omega))) fun _ => et_is (et_test (ev_op (ev_var rfl) ev_c rv_eqI)) (decide_eq_decide.mpr (by omega))) (fun hb H15 e15 => ?_) fun hb H15 e15 => ?_
      · rw [Bool.and_eq_true, decide_eq_true_eq, decide_eq_true_eq] at hb
        have := F.w6 hb.1 hb.2
        exact s_ret (ev_is (ev_op (ix1 (e114.trans e15) rfl) (ev_addN (m := 1) (lnu rfl ((e114.trans e15) _ _ hsp10)) rfl) rv_eqI) (congrArg V.bl (decide_eq_true (by omega)))) fun H16 e16 => q H16 ((e014.trans e15).trans e16)
      have e115 := e114.trans e15
      have e015 := e014.trans e15
      have hlo := F.lo
      refine q_when (b := decide (way < 3)) (et_is (et_test (ev_op (ev_var rfl) ev_c rv_lt)) (decide_eq_decide.mpr (by omega))) (fun hb H16 e16 => ?_) fun hb H16 e16 => ?_
      · have w3 := F.w3 (of_decide_eq_true hb)
        refine s_ret (v := .bl true) (ev_is (ev_andV (a := true) (b := true) (ev_is (ev_op (ix1 (e115.trans e16) rfl) (ev_addN (m := 1) (ev_var rfl) rfl) rv_ge) (congrArg V.bl (decide_eq_true (by omega)))) fun _ => ev_is (ev_op (ix1 (e115.trans e16) rfl) (ev_max2 (ev_addN (m := 2) (ev_var rfl) rfl) (lnu rfl ((e115.trans e16) _ _ hsp10))) rv_le) (congrArg V.bl (decide_eq_true (by split <;> omega)))) rfl) fun H17 e17 => q H17 ((e015.trans e16).trans e17)
      · exact s_ret (ev_is (ev_op (ix1 (e115.trans e16) rfl) (ev_addN (m := 1) (ev_var rfl) rfl) rv_ge) (congrArg V.bl (decide_eq_true (by omega)))) fun H17 e17 => q H17 ((e015.trans e16).trans e17)
end

--SPLIT
theorem all_mk {l : PySem.W.OpenLaw} {w : World} {K : PySem.W.Frag} {h : Heap} {mg : Str → Option Value} {fa : Addr} (X : K.In h) (G : h.Ns mainGlobals mg) (hfa : mg "law" = some (.ref fa))
    {f0 f1 f2 f3 f4 f5 f6 f7 f8 f9 f10 f11 f12 f13 f14 f15 f16 f17 f18 f19 f20 f21 f22 f23 f24 f25 f26 f27 f28 f29 f30 f31 f32 f33 f34 f35 f36 f37 f38 f39 f40 f41 f42 f43 f44 f45 f46 f47 f48 f49 f50 f51 f52 f53 f54 f55 f56 f57 f58 f59 f60 f61 f62 f63 : Addr} {od0 od1 od2 od3 od4 od5 od6 od7 od8 od9 od10 od11 od12 od13 od14 od15 od16 od17 od18 od19 od20 od21 od22 od23 od24 od25 od26 od27 od28 od29 od30 od31 od32 od33 od34 od35 od36 od37 od38 od39 od40 od41 od42 od43 od44 od45 od46 od47 od48 od49 od50 od51 od52 od53 od54 od55 od56 od57 od58 od59 od60 od61 od62 od63 an0 an1 an2 an3 an4 an5 an6 an7 an8 an9 an10 an11 an12 an13 an14 an15 an16 an17 an18 an19 an20 an21 an22 an23 an24 an25 an26 an27 an28 an29 an30 an31 an32 an33 an34 an35 an36 an37 an38 an39 an40 an41 an42 an43 an44 an45 an46 an47 an48 an49 an50 an51 an52 an53 an54 an55 an56 an57 an58 an59 an60 an61 an62 an63 : Option Addr} {sl0 sl1 sl2 sl3 sl4 sl5 sl6 sl7 sl8 sl9 sl10 sl11 sl12 sl13 sl14 sl15 sl16 sl17 sl18 sl19 sl20 sl21 sl22 sl23 sl24 sl25 sl26 sl27 sl28 sl29 sl30 sl31 sl32 sl33 sl34 sl35 sl36 sl37 sl38 sl39 sl40 sl41 sl42 sl43 sl44 sl45 sl46 sl47 sl48 sl49 sl50 sl51 sl52 sl53 sl54 sl55 sl56 sl57 sl58 sl59 sl60 sl61 sl62 sl63 : Array (Option Value)} {oc0 oc1 oc2 oc3 oc4 oc5 oc6 oc7 oc8 oc9 oc10 oc11 oc12 oc13 oc14 oc15 oc16 oc17 oc18 oc19 oc20 oc21 oc22 oc23 oc24 oc25 oc26 oc27 oc28 oc29 oc30 oc31 oc32 oc33 oc34 oc35 oc36 oc37 oc38 oc39 oc40 oc41 oc42 oc43 oc44 oc45 oc46 oc47 oc48 oc49 oc50 oc51 oc52 oc53 oc54 oc55 oc56 oc57 oc58 oc59 oc60 oc61 oc62 oc63 kV0 kV1 kV2 kV3 kV4 kV5 kV6 kV7 kV8 kV9 kV10 kV11 kV12 kV13 kV14 kV15 kV16 kV17 kV18 kV19 kV20 kV21 kV22 kV23 kV24 kV25 kV26 kV27 kV28 kV29 kV30 kV31 kV32 kV33 kV34 kV35 kV36 kV37 kV38 kV39 kV40 kV41 kV42 kV43 kV44 kV45 kV46 kV47 kV48 kV49 kV50 kV51 kV52 kV53 kV54 kV55 kV56 kV57 kV58 kV59 kV60 kV61 kV62 kV63 dc0 dc1 dc2 dc3 dc4 dc5 dc6 dc7 dc8 dc9 dc10 dc11 dc12 dc13 dc14 dc15 dc16 dc17 dc18 dc19 dc20 dc21 dc22 dc23 dc24 dc25 dc26 dc27 dc28 dc29 dc30 dc31 dc32 dc33 dc34 dc35 dc36 dc37 dc38 dc39 dc40 dc41 dc42 dc43 dc44 dc45 dc46 dc47 dc48 dc49 dc50 dc51 dc52 dc53 dc54 dc55 dc56 dc57 dc58 dc59 dc60 dc61 dc62 dc63 pm0 pm1 pm2 pm3 pm4 pm5 pm6 pm7 pm8 pm9 pm10 pm11 pm12 pm13 pm14 pm15 pm16 pm17 pm18 pm19 pm20 pm21 pm22 pm23 pm24 pm25 pm26 pm27 pm28 pm29 pm30 pm31 pm32 pm33 pm34 pm35 pm36 pm37 pm38 pm39 pm40 pm41 pm42 pm43 pm44 pm45 pm46 pm47 pm48 pm49 pm50 pm51 pm52 pm53 pm54 pm55 pm56 pm57 pm58 pm59 pm60 pm61 pm62 pm63 cd0 cd1 cd2 cd3 cd4 cd5 cd6 cd7 cd8 cd9 cd10 cd11 cd12 cd13 cd14 cd15 cd16 cd17 cd18 cd19 cd20 cd21 cd22 cd23 cd24 cd25 cd26 cd27 cd28 cd29 cd30 cd31 cd32 cd33 cd34 cd35 cd36 cd37 cd38 cd39 cd40 cd41 cd42 cd43 cd44 cd45 cd46 cd47 cd48 cd49 cd50 cd51 cd52 cd53 cd54 cd55 cd56 cd57 cd58 cd59 cd60 cd61 cd62 cd63 ct0 ct1 ct2 ct3 ct4 ct5 ct6 ct7 ct8 ct9 ct10 ct11 ct12 ct13 ct14 ct15 ct16 ct17 ct18 ct19 ct20 ct21 ct22 ct23 ct24 ct25 ct26 ct27 ct28 ct29 ct30 ct31 ct32 ct33 ct34 ct35 ct36 ct37 ct38 ct39 ct40 ct41 ct42 ct43 ct44 ct45 ct46 ct47 ct48 ct49 ct50 ct51 ct52 ct53 ct54 ct55 ct56 ct57 ct58 ct59 ct60 ct61 ct62 ct63 : Value}
    {C_Tree : Addr}
    {C_Store : Addr}
    {C_StoreReader : Addr}
    (aC_Tree : PySem.W.nsIn K mainGlobals "Tree" = some (some (.ref C_Tree)))
    (pg_Tree : PySem.W.plainGet K C_Tree Str.empty = true)
    (hdi_Tree : PySem.W.hasDictIn K C_Tree = true)
    (po_Tree : PySem.W.plainOver K C_Tree = true)
    (sa_Tree : PySem.W.findIn K (.ref C_Tree) "__setattr__" = some (some (.builtin "object.__setattr__")))
    (mk_Tree : PySem.W.makesIn K C_Tree = true)
    (kc_Tree : PySem.W.keepIn K (.ref C_Tree) = true)
    (na_entries_Tree : PySem.W.findIn K (.ref C_Tree) "entries" = some none)
    (aC_Store : PySem.W.nsIn K mainGlobals "Store" = some (some (.ref C_Store)))
    (pg_Store : PySem.W.plainGet K C_Store Str.empty = true)
    (hdi_Store : PySem.W.hasDictIn K C_Store = true)
    (po_Store : PySem.W.plainOver K C_Store = true)
    (sa_Store : PySem.W.findIn K (.ref C_Store) "__setattr__" = some (some (.builtin "object.__setattr__")))
    (mk_Store : PySem.W.makesIn K C_Store = true)
    (kc_Store : PySem.W.keepIn K (.ref C_Store) = true)
    (na_journal_Store : PySem.W.findIn K (.ref C_Store) "journal" = some none)
    (na__texts_Store : PySem.W.findIn K (.ref C_Store) "_texts" = some none)
    (na__rows_Store : PySem.W.findIn K (.ref C_Store) "_rows" = some none)
    (aC_StoreReader : PySem.W.nsIn K mainGlobals "StoreReader" = some (some (.ref C_StoreReader)))
    (pg_StoreReader : PySem.W.plainGet K C_StoreReader Str.empty = true)
    (hdi_StoreReader : PySem.W.hasDictIn K C_StoreReader = true)
    (po_StoreReader : PySem.W.plainOver K C_StoreReader = true)
    (sa_StoreReader : PySem.W.findIn K (.ref C_StoreReader) "__setattr__" = some (some (.builtin "object.__setattr__")))
    (mk_StoreReader : PySem.W.makesIn K C_StoreReader = true)
    (kc_StoreReader : PySem.W.keepIn K (.ref C_StoreReader) = true)
    (na_texts_StoreReader : PySem.W.findIn K (.ref C_StoreReader) "texts" = some none)
    (na_rows_StoreReader : PySem.W.findIn K (.ref C_StoreReader) "rows" = some none)
    (na_last_key_StoreReader : PySem.W.findIn K (.ref C_StoreReader) "last_key" = some none)
    (na_last_index_StoreReader : PySem.W.findIn K (.ref C_StoreReader) "last_index" = some none)
    (na_count_StoreReader : PySem.W.findIn K (.ref C_StoreReader) "count" = some none)
    {XB : Addr}
    {X_InvalidPath N_InvalidPath_ : Addr} {nm_InvalidPath q_InvalidPath : Str} {bs_InvalidPath : List Value} {sn_InvalidPath : List Str} {sub_InvalidPath : List Value} {ab_InvalidPath : Bool} {col_InvalidPath : Option Bool} {dd_InvalidPath : Option Addr} {m0_InvalidPath m1_InvalidPath m2_InvalidPath m3_InvalidPath m5_InvalidPath : Option Value}
    {X_InvalidContent N_InvalidContent_ : Addr} {nm_InvalidContent q_InvalidContent : Str} {bs_InvalidContent : List Value} {sn_InvalidContent : List Str} {sub_InvalidContent : List Value} {ab_InvalidContent : Bool} {col_InvalidContent : Option Bool} {dd_InvalidContent : Option Addr} {m0_InvalidContent m1_InvalidContent m2_InvalidContent m3_InvalidContent m5_InvalidContent : Option Value}
    {X_TreeFull N_TreeFull_ : Addr} {nm_TreeFull q_TreeFull : Str} {bs_TreeFull : List Value} {sn_TreeFull : List Str} {sub_TreeFull : List Value} {ab_TreeFull : Bool} {col_TreeFull : Option Bool} {dd_TreeFull : Option Addr} {m0_TreeFull m1_TreeFull m2_TreeFull m3_TreeFull m5_TreeFull : Option Value}
    {X_InvalidRecipe N_InvalidRecipe_ : Addr} {nm_InvalidRecipe q_InvalidRecipe : Str} {bs_InvalidRecipe : List Value} {sn_InvalidRecipe : List Str} {sub_InvalidRecipe : List Value} {ab_InvalidRecipe : Bool} {col_InvalidRecipe : Option Bool} {dd_InvalidRecipe : Option Addr} {m0_InvalidRecipe m1_InvalidRecipe m2_InvalidRecipe m3_InvalidRecipe m5_InvalidRecipe : Option Value}
    {X_InvalidSave N_InvalidSave_ : Addr} {nm_InvalidSave q_InvalidSave : Str} {bs_InvalidSave : List Value} {sn_InvalidSave : List Str} {sub_InvalidSave : List Value} {ab_InvalidSave : Bool} {col_InvalidSave : Option Bool} {dd_InvalidSave : Option Addr} {m0_InvalidSave m1_InvalidSave m2_InvalidSave m3_InvalidSave m5_InvalidSave : Option Value}
    {dT32 : Addr} {dc_32 : Value} {dod32 : Option Addr} {dn32 : Nat} {dsl32 : Array (Option Value)}
    {tk_CONTENT_LENGTH tk_NEWLINE tk_SPACE tk_PERCENT tk_TILDE tk_SIGNS_BEFORE tk_SIGNS_BEHIND tk_DIGIT_BITS tk_IDENTIFIER_LENGTH tk_LETTERS tk_IDENTIFIER_SIGNS tk_SIGNS tk_QUOTE tk_BACKSLASH tk_WORD_ENDS tk_MOST_NAMES tk_NAME_LENGTH tk_NAME_SIGNS tk_MOST_PERSONS_ENTRIES tk_MOST_DIGITS_saving : Tok}
    {D_ESCAPES : Addr} {es_ESCAPES : Array DictEntry} {n_ESCAPES : Nat} {AW : Addr} {odW : Option Addr} {itW : Array Value} {nW : Nat} {slW : Array (Option Value)}
    (aB : PySem.W.nsIn K mainGlobals "BuildError" = some (some (.ref XB)))
    (bsp : PySem.W.specialIn K (.ref XB) "__getattribute__" = some (some (.builtin "type.__getattribute__")))
    (brd : PySem.W.readsIn K XB (.type "type") = true)
    (bfi : PySem.W.findCls K (.ref XB) (.type "type") "__init__" = some (.val (.builtin "ValueError.__init__")))
    (bhd : PySem.W.hasDictIn K XB = true)
    (bty : PySem.W.typeIn K (.ref XB) = some (.type "type"))
    (xgs : PySem.W.specialIn K (.builtin "object.__class__") "__get__" = some (some (.builtin "getset_descriptor.__get__")))
    (xtk : PySem.W.takesIn K (.builtin "object.__class__") = some true)
    (xa_InvalidPath : PySem.W.nsIn K mainGlobals "InvalidPath" = some (some (.ref X_InvalidPath)))
    (xL_InvalidPath : K.lookup X_InvalidPath = some (excClassObj nm_InvalidPath q_InvalidPath X_InvalidPath N_InvalidPath_ bs_InvalidPath [.ref XB, .type "ValueError", .type "Exception", .type "BaseException", .type "object"] true sn_InvalidPath sub_InvalidPath ab_InvalidPath col_InvalidPath dd_InvalidPath m0_InvalidPath m1_InvalidPath m2_InvalidPath m3_InvalidPath m5_InvalidPath "ValueError.__new__"))
    (xsa_InvalidPath : PySem.W.findIn K (.ref X_InvalidPath) "__setattr__" = some (some (.builtin "object.__setattr__")))
    (xex_InvalidPath : PySem.W.subIn K (.ref X_InvalidPath) (.type "BaseException") = some true)
    (xty_InvalidPath : PySem.W.typeIn K (.ref X_InvalidPath) = some (.type "type"))
    (xkc_InvalidPath : PySem.W.keepIn K (.ref X_InvalidPath) = true)
    (xnpath_InvalidPath : PySem.W.findIn K (.ref X_InvalidPath) "path" = some none)
    (xga_InvalidPath : PySem.W.findIn K (.ref X_InvalidPath) "__getattribute__" = some (some (.builtin "BaseException.__getattribute__")))
    (xgg_InvalidPath : PySem.W.findIn K (.ref X_InvalidPath) "__getattr__" = some none)
    (xhd_InvalidPath : PySem.W.hasDictIn K X_InvalidPath = true)
    (xcl_InvalidPath : PySem.W.findIn K (.ref X_InvalidPath) "__class__" = some (some (.builtin "object.__class__")))
    (xmr_InvalidPath : PySem.W.mroIn K X_InvalidPath (.type "object") = some true)
    (xcc_InvalidPath : PySem.W.subIn K (.ref X_InvalidPath) (.ref X_InvalidPath) = some true)
    (xkB_InvalidPath : PySem.W.subIn K (.ref X_InvalidPath) (.ref XB) = some true)
    (xa_InvalidContent : PySem.W.nsIn K mainGlobals "InvalidContent" = some (some (.ref X_InvalidContent)))
    (xL_InvalidContent : K.lookup X_InvalidContent = some (excClassObj nm_InvalidContent q_InvalidContent X_InvalidContent N_InvalidContent_ bs_InvalidContent [.ref XB, .type "ValueError", .type "Exception", .type "BaseException", .type "object"] true sn_InvalidContent sub_InvalidContent ab_InvalidContent col_InvalidContent dd_InvalidContent m0_InvalidContent m1_InvalidContent m2_InvalidContent m3_InvalidContent m5_InvalidContent "ValueError.__new__"))
    (xsa_InvalidContent : PySem.W.findIn K (.ref X_InvalidContent) "__setattr__" = some (some (.builtin "object.__setattr__")))
    (xex_InvalidContent : PySem.W.subIn K (.ref X_InvalidContent) (.type "BaseException") = some true)
    (xty_InvalidContent : PySem.W.typeIn K (.ref X_InvalidContent) = some (.type "type"))
    (xkc_InvalidContent : PySem.W.keepIn K (.ref X_InvalidContent) = true)
    (xnpath_InvalidContent : PySem.W.findIn K (.ref X_InvalidContent) "path" = some none)
    (xga_InvalidContent : PySem.W.findIn K (.ref X_InvalidContent) "__getattribute__" = some (some (.builtin "BaseException.__getattribute__")))
    (xgg_InvalidContent : PySem.W.findIn K (.ref X_InvalidContent) "__getattr__" = some none)
    (xhd_InvalidContent : PySem.W.hasDictIn K X_InvalidContent = true)
    (xcl_InvalidContent : PySem.W.findIn K (.ref X_InvalidContent) "__class__" = some (some (.builtin "object.__class__")))
    (xmr_InvalidContent : PySem.W.mroIn K X_InvalidContent (.type "object") = some true)
    (xcc_InvalidContent : PySem.W.subIn K (.ref X_InvalidContent) (.ref X_InvalidContent) = some true)
    (xkB_InvalidContent : PySem.W.subIn K (.ref X_InvalidContent) (.ref XB) = some true)
    (xa_TreeFull : PySem.W.nsIn K mainGlobals "TreeFull" = some (some (.ref X_TreeFull)))
    (xL_TreeFull : K.lookup X_TreeFull = some (excClassObj nm_TreeFull q_TreeFull X_TreeFull N_TreeFull_ bs_TreeFull [.ref XB, .type "ValueError", .type "Exception", .type "BaseException", .type "object"] true sn_TreeFull sub_TreeFull ab_TreeFull col_TreeFull dd_TreeFull m0_TreeFull m1_TreeFull m2_TreeFull m3_TreeFull m5_TreeFull "ValueError.__new__"))
    (xsa_TreeFull : PySem.W.findIn K (.ref X_TreeFull) "__setattr__" = some (some (.builtin "object.__setattr__")))
    (xex_TreeFull : PySem.W.subIn K (.ref X_TreeFull) (.type "BaseException") = some true)
    (xty_TreeFull : PySem.W.typeIn K (.ref X_TreeFull) = some (.type "type"))
    (xkc_TreeFull : PySem.W.keepIn K (.ref X_TreeFull) = true)
    (xnpath_TreeFull : PySem.W.findIn K (.ref X_TreeFull) "path" = some none)
    (xga_TreeFull : PySem.W.findIn K (.ref X_TreeFull) "__getattribute__" = some (some (.builtin "BaseException.__getattribute__")))
    (xgg_TreeFull : PySem.W.findIn K (.ref X_TreeFull) "__getattr__" = some none)
    (xhd_TreeFull : PySem.W.hasDictIn K X_TreeFull = true)
    (xcl_TreeFull : PySem.W.findIn K (.ref X_TreeFull) "__class__" = some (some (.builtin "object.__class__")))
    (xmr_TreeFull : PySem.W.mroIn K X_TreeFull (.type "object") = some true)
    (xcc_TreeFull : PySem.W.subIn K (.ref X_TreeFull) (.ref X_TreeFull) = some true)
    (xkB_TreeFull : PySem.W.subIn K (.ref X_TreeFull) (.ref XB) = some true)
    (xa_InvalidRecipe : PySem.W.nsIn K mainGlobals "InvalidRecipe" = some (some (.ref X_InvalidRecipe)))
    (xL_InvalidRecipe : K.lookup X_InvalidRecipe = some (excClassObj nm_InvalidRecipe q_InvalidRecipe X_InvalidRecipe N_InvalidRecipe_ bs_InvalidRecipe [.ref XB, .type "ValueError", .type "Exception", .type "BaseException", .type "object"] true sn_InvalidRecipe sub_InvalidRecipe ab_InvalidRecipe col_InvalidRecipe dd_InvalidRecipe m0_InvalidRecipe m1_InvalidRecipe m2_InvalidRecipe m3_InvalidRecipe m5_InvalidRecipe "ValueError.__new__"))
    (xsa_InvalidRecipe : PySem.W.findIn K (.ref X_InvalidRecipe) "__setattr__" = some (some (.builtin "object.__setattr__")))
    (xex_InvalidRecipe : PySem.W.subIn K (.ref X_InvalidRecipe) (.type "BaseException") = some true)
    (xty_InvalidRecipe : PySem.W.typeIn K (.ref X_InvalidRecipe) = some (.type "type"))
    (xkc_InvalidRecipe : PySem.W.keepIn K (.ref X_InvalidRecipe) = true)
    (xnpath_InvalidRecipe : PySem.W.findIn K (.ref X_InvalidRecipe) "path" = some none)
    (xnline_InvalidRecipe : PySem.W.findIn K (.ref X_InvalidRecipe) "line" = some none)
    (xncolumn_InvalidRecipe : PySem.W.findIn K (.ref X_InvalidRecipe) "column" = some none)
    (xnreason_InvalidRecipe : PySem.W.findIn K (.ref X_InvalidRecipe) "reason" = some none)
    (xga_InvalidRecipe : PySem.W.findIn K (.ref X_InvalidRecipe) "__getattribute__" = some (some (.builtin "BaseException.__getattribute__")))
    (xgg_InvalidRecipe : PySem.W.findIn K (.ref X_InvalidRecipe) "__getattr__" = some none)
    (xhd_InvalidRecipe : PySem.W.hasDictIn K X_InvalidRecipe = true)
    (xcl_InvalidRecipe : PySem.W.findIn K (.ref X_InvalidRecipe) "__class__" = some (some (.builtin "object.__class__")))
    (xmr_InvalidRecipe : PySem.W.mroIn K X_InvalidRecipe (.type "object") = some true)
    (xcc_InvalidRecipe : PySem.W.subIn K (.ref X_InvalidRecipe) (.ref X_InvalidRecipe) = some true)
    (xkB_InvalidRecipe : PySem.W.subIn K (.ref X_InvalidRecipe) (.ref XB) = some true)
    (xa_InvalidSave : PySem.W.nsIn K mainGlobals "InvalidSave" = some (some (.ref X_InvalidSave)))
    (xL_InvalidSave : K.lookup X_InvalidSave = some (excClassObj nm_InvalidSave q_InvalidSave X_InvalidSave N_InvalidSave_ bs_InvalidSave [.ref XB, .type "ValueError", .type "Exception", .type "BaseException", .type "object"] true sn_InvalidSave sub_InvalidSave ab_InvalidSave col_InvalidSave dd_InvalidSave m0_InvalidSave m1_InvalidSave m2_InvalidSave m3_InvalidSave m5_InvalidSave "ValueError.__new__"))
    (xsa_InvalidSave : PySem.W.findIn K (.ref X_InvalidSave) "__setattr__" = some (some (.builtin "object.__setattr__")))
    (xex_InvalidSave : PySem.W.subIn K (.ref X_InvalidSave) (.type "BaseException") = some true)
    (xty_InvalidSave : PySem.W.typeIn K (.ref X_InvalidSave) = some (.type "type"))
    (xkc_InvalidSave : PySem.W.keepIn K (.ref X_InvalidSave) = true)
    (xnline_InvalidSave : PySem.W.findIn K (.ref X_InvalidSave) "line" = some none)
    (xga_InvalidSave : PySem.W.findIn K (.ref X_InvalidSave) "__getattribute__" = some (some (.builtin "BaseException.__getattribute__")))
    (xgg_InvalidSave : PySem.W.findIn K (.ref X_InvalidSave) "__getattr__" = some none)
    (xhd_InvalidSave : PySem.W.hasDictIn K X_InvalidSave = true)
    (xcl_InvalidSave : PySem.W.findIn K (.ref X_InvalidSave) "__class__" = some (some (.builtin "object.__class__")))
    (xmr_InvalidSave : PySem.W.mroIn K X_InvalidSave (.type "object") = some true)
    (xcc_InvalidSave : PySem.W.subIn K (.ref X_InvalidSave) (.ref X_InvalidSave) = some true)
    (xkB_InvalidSave : PySem.W.subIn K (.ref X_InvalidSave) (.ref XB) = some true)
    (xp_InvalidSave_InvalidRecipe : PySem.W.subIn K (.ref X_InvalidSave) (.ref X_InvalidRecipe) = some false)
    (a0 : PySem.W.findIn K (.ref X_InvalidPath) "__init__" = some (some (.ref f0)))
    (i0 : PySem.W.typeIn K (.ref f0) = some (.type "function"))
    (l0 : K.lookup f0 = some ⟨oc0, od0, .func (PySem.W.fnOf "__init__" "InvalidPath.__init__" (defArgs s_InvalidPath___init__) (defBody s_InvalidPath___init__) (defScope s_InvalidPath___init__) .none kV0 dc0 pm0 an0 cd0 ct0), sl0⟩)
    (c0 : PySem.W.codeIn K cd0 "InvalidPath.__init__" = true)
    (k0 : PySem.W.keepIn K (.ref f0) = true)
    (a1 : PySem.W.findIn K (.ref X_InvalidContent) "__init__" = some (some (.ref f1)))
    (i1 : PySem.W.typeIn K (.ref f1) = some (.type "function"))
    (l1 : K.lookup f1 = some ⟨oc1, od1, .func (PySem.W.fnOf "__init__" "InvalidContent.__init__" (defArgs s_InvalidContent___init__) (defBody s_InvalidContent___init__) (defScope s_InvalidContent___init__) .none kV1 dc1 pm1 an1 cd1 ct1), sl1⟩)
    (c1 : PySem.W.codeIn K cd1 "InvalidContent.__init__" = true)
    (k1 : PySem.W.keepIn K (.ref f1) = true)
    (a2 : PySem.W.findIn K (.ref X_TreeFull) "__init__" = some (some (.ref f2)))
    (i2 : PySem.W.typeIn K (.ref f2) = some (.type "function"))
    (l2 : K.lookup f2 = some ⟨oc2, od2, .func (PySem.W.fnOf "__init__" "TreeFull.__init__" (defArgs s_TreeFull___init__) (defBody s_TreeFull___init__) (defScope s_TreeFull___init__) .none kV2 dc2 pm2 an2 cd2 ct2), sl2⟩)
    (c2 : PySem.W.codeIn K cd2 "TreeFull.__init__" = true)
    (k2 : PySem.W.keepIn K (.ref f2) = true)
    (a3 : PySem.W.findIn K (.ref X_InvalidRecipe) "__init__" = some (some (.ref f3)))
    (i3 : PySem.W.typeIn K (.ref f3) = some (.type "function"))
    (l3 : K.lookup f3 = some ⟨oc3, od3, .func (PySem.W.fnOf "__init__" "InvalidRecipe.__init__" (defArgs s_InvalidRecipe___init__) (defBody s_InvalidRecipe___init__) (defScope s_InvalidRecipe___init__) .none kV3 dc3 pm3 an3 cd3 ct3), sl3⟩)
    (c3 : PySem.W.codeIn K cd3 "InvalidRecipe.__init__" = true)
    (k3 : PySem.W.keepIn K (.ref f3) = true)
    (a4 : PySem.W.findIn K (.ref X_InvalidSave) "__init__" = some (some (.ref f4)))
    (i4 : PySem.W.typeIn K (.ref f4) = some (.type "function"))
    (l4 : K.lookup f4 = some ⟨oc4, od4, .func (PySem.W.fnOf "__init__" "InvalidSave.__init__" (defArgs s_InvalidSave___init__) (defBody s_InvalidSave___init__) (defScope s_InvalidSave___init__) .none kV4 dc4 pm4 an4 cd4 ct4), sl4⟩)
    (c4 : PySem.W.codeIn K cd4 "InvalidSave.__init__" = true)
    (k4 : PySem.W.keepIn K (.ref f4) = true)
    (a5 : PySem.W.nsIn K mainGlobals "_is_code" = some (some (.ref f5)))
    (l5 : K.lookup f5 = some ⟨oc5, od5, .func (PySem.W.fnOf "_is_code" "_is_code" (defArgs s__is_code) (defBody s__is_code) (defScope s__is_code) .none kV5 dc5 pm5 an5 cd5 ct5), sl5⟩)
    (c5 : PySem.W.codeIn K cd5 "_is_code" = true)
    (k5 : PySem.W.keepIn K (.ref f5) = true)
    (a6 : PySem.W.nsIn K mainGlobals "is_text" = some (some (.ref f6)))
    (l6 : K.lookup f6 = some ⟨oc6, od6, .func (PySem.W.fnOf "is_text" "is_text" (defArgs s_is_text) (defBody s_is_text) (defScope s_is_text) .none kV6 dc6 pm6 an6 cd6 ct6), sl6⟩)
    (c6 : PySem.W.codeIn K cd6 "is_text" = true)
    (k6 : PySem.W.keepIn K (.ref f6) = true)
    (a7 : PySem.W.nsIn K mainGlobals "is_content" = some (some (.ref f7)))
    (l7 : K.lookup f7 = some ⟨oc7, od7, .func (PySem.W.fnOf "is_content" "is_content" (defArgs s_is_content) (defBody s_is_content) (defScope s_is_content) .none kV7 dc7 pm7 an7 cd7 ct7), sl7⟩)
    (c7 : PySem.W.codeIn K cd7 "is_content" = true)
    (k7 : PySem.W.keepIn K (.ref f7) = true)
    (a8 : PySem.W.nsIn K mainGlobals "content_key" = some (some (.ref f8)))
    (l8 : K.lookup f8 = some ⟨oc8, od8, .func (PySem.W.fnOf "content_key" "content_key" (defArgs s_content_key) (defBody s_content_key) (defScope s_content_key) .none kV8 dc8 pm8 an8 cd8 ct8), sl8⟩)
    (c8 : PySem.W.codeIn K cd8 "content_key" = true)
    (k8 : PySem.W.keepIn K (.ref f8) = true)
    (a9 : PySem.W.nsIn K mainGlobals "_codes" = some (some (.ref f9)))
    (l9 : K.lookup f9 = some ⟨oc9, od9, .func (PySem.W.fnOf "_codes" "_codes" (defArgs s__codes) (defBody s__codes) (defScope s__codes) .none kV9 dc9 pm9 an9 cd9 ct9), sl9⟩)
    (c9 : PySem.W.codeIn K cd9 "_codes" = true)
    (k9 : PySem.W.keepIn K (.ref f9) = true)
    (a10 : PySem.W.nsIn K mainGlobals "_sign" = some (some (.ref f10)))
    (l10 : K.lookup f10 = some ⟨oc10, od10, .func (PySem.W.fnOf "_sign" "_sign" (defArgs s__sign) (defBody s__sign) (defScope s__sign) .none kV10 dc10 pm10 an10 cd10 ct10), sl10⟩)
    (c10 : PySem.W.codeIn K cd10 "_sign" = true)
    (k10 : PySem.W.keepIn K (.ref f10) = true)
    (a11 : PySem.W.nsIn K mainGlobals "key_text" = some (some (.ref f11)))
    (l11 : K.lookup f11 = some ⟨oc11, od11, .func (PySem.W.fnOf "key_text" "key_text" (defArgs s_key_text) (defBody s_key_text) (defScope s_key_text) .none kV11 dc11 pm11 an11 cd11 ct11), sl11⟩)
    (c11 : PySem.W.codeIn K cd11 "key_text" = true)
    (k11 : PySem.W.keepIn K (.ref f11) = true)
    (a12 : PySem.W.nsIn K mainGlobals "format_string" = some (some (.ref f12)))
    (l12 : K.lookup f12 = some ⟨oc12, od12, .func (PySem.W.fnOf "format_string" "format_string" (defArgs s_format_string) (defBody s_format_string) (defScope s_format_string) .none kV12 dc12 pm12 an12 cd12 ct12), sl12⟩)
    (c12 : PySem.W.codeIn K cd12 "format_string" = true)
    (k12 : PySem.W.keepIn K (.ref f12) = true)
    (a13 : PySem.W.nsIn K mainGlobals "_skip_spaces" = some (some (.ref f13)))
    (l13 : K.lookup f13 = some ⟨oc13, od13, .func (PySem.W.fnOf "_skip_spaces" "_skip_spaces" (defArgs s__skip_spaces) (defBody s__skip_spaces) (defScope s__skip_spaces) .none kV13 dc13 pm13 an13 cd13 ct13), sl13⟩)
    (c13 : PySem.W.codeIn K cd13 "_skip_spaces" = true)
    (k13 : PySem.W.keepIn K (.ref f13) = true)
    (a14 : PySem.W.nsIn K mainGlobals "_string_part" = some (some (.ref f14)))
    (l14 : K.lookup f14 = some ⟨oc14, od14, .func (PySem.W.fnOf "_string_part" "_string_part" (defArgs s__string_part) (defBody s__string_part) (defScope s__string_part) .none kV14 dc14 pm14 an14 cd14 ct14), sl14⟩)
    (c14 : PySem.W.codeIn K cd14 "_string_part" = true)
    (k14 : PySem.W.keepIn K (.ref f14) = true)
    (a15 : PySem.W.nsIn K mainGlobals "_string" = some (some (.ref f15)))
    (l15 : K.lookup f15 = some ⟨oc15, od15, .func (PySem.W.fnOf "_string" "_string" (defArgs s__string) (defBody s__string) (defScope s__string) .none kV15 dc15 pm15 an15 cd15 ct15), sl15⟩)
    (c15 : PySem.W.codeIn K cd15 "_string" = true)
    (k15 : PySem.W.keepIn K (.ref f15) = true)
    (a16 : PySem.W.nsIn K mainGlobals "_token" = some (some (.ref f16)))
    (l16 : K.lookup f16 = some ⟨oc16, od16, .func (PySem.W.fnOf "_token" "_token" (defArgs s__token) (defBody s__token) (defScope s__token) .none kV16 dc16 pm16 an16 cd16 ct16), sl16⟩)
    (c16 : PySem.W.codeIn K cd16 "_token" = true)
    (k16 : PySem.W.keepIn K (.ref f16) = true)
    (a17 : PySem.W.nsIn K mainGlobals "scan_line" = some (some (.ref f17)))
    (l17 : K.lookup f17 = some ⟨oc17, od17, .func (PySem.W.fnOf "scan_line" "scan_line" (defArgs s_scan_line) (defBody s_scan_line) (defScope s_scan_line) .none kV17 dc17 pm17 an17 cd17 ct17), sl17⟩)
    (c17 : PySem.W.codeIn K cd17 "scan_line" = true)
    (k17 : PySem.W.keepIn K (.ref f17) = true)
    (a18 : PySem.W.nsIn K mainGlobals "is_identifier" = some (some (.ref f18)))
    (l18 : K.lookup f18 = some ⟨oc18, od18, .func (PySem.W.fnOf "is_identifier" "is_identifier" (defArgs s_is_identifier) (defBody s_is_identifier) (defScope s_is_identifier) .none kV18 dc18 pm18 an18 cd18 ct18), sl18⟩)
    (c18 : PySem.W.codeIn K cd18 "is_identifier" = true)
    (k18 : PySem.W.keepIn K (.ref f18) = true)
    (a19 : PySem.W.nsIn K mainGlobals "_is_name" = some (some (.ref f19)))
    (l19 : K.lookup f19 = some ⟨oc19, od19, .func (PySem.W.fnOf "_is_name" "_is_name" (defArgs s__is_name) (defBody s__is_name) (defScope s__is_name) .none kV19 dc19 pm19 an19 cd19 ct19), sl19⟩)
    (c19 : PySem.W.codeIn K cd19 "_is_name" = true)
    (k19 : PySem.W.keepIn K (.ref f19) = true)
    (a20 : PySem.W.nsIn K mainGlobals "is_path" = some (some (.ref f20)))
    (l20 : K.lookup f20 = some ⟨oc20, od20, .func (PySem.W.fnOf "is_path" "is_path" (defArgs s_is_path) (defBody s_is_path) (defScope s_is_path) .none kV20 dc20 pm20 an20 cd20 ct20), sl20⟩)
    (c20 : PySem.W.codeIn K cd20 "is_path" = true)
    (k20 : PySem.W.keepIn K (.ref f20) = true)
    (a21 : PySem.W.nsIn K mainGlobals "lines_of" = some (some (.ref f21)))
    (l21 : K.lookup f21 = some ⟨oc21, od21, .func (PySem.W.fnOf "lines_of" "lines_of" (defArgs s_lines_of) (defBody s_lines_of) (defScope s_lines_of) .none kV21 dc21 pm21 an21 cd21 ct21), sl21⟩)
    (c21 : PySem.W.codeIn K cd21 "lines_of" = true)
    (k21 : PySem.W.keepIn K (.ref f21) = true)
    (a22 : PySem.W.nsIn K mainGlobals "_is_persons" = some (some (.ref f22)))
    (l22 : K.lookup f22 = some ⟨oc22, od22, .func (PySem.W.fnOf "_is_persons" "_is_persons" (defArgs s__is_persons) (defBody s__is_persons) (defScope s__is_persons) .none kV22 dc22 pm22 an22 cd22 ct22), sl22⟩)
    (c22 : PySem.W.codeIn K cd22 "_is_persons" = true)
    (k22 : PySem.W.keepIn K (.ref f22) = true)
    (a23 : PySem.W.findIn K (.ref C_Tree) "__init__" = some (some (.ref f23)))
    (i23 : PySem.W.isFn K (.ref f23) = true)
    (l23 : K.lookup f23 = some ⟨oc23, od23, .func (PySem.W.fnOf "__init__" "Tree.__init__" (defArgs s_Tree___init__) (defBody s_Tree___init__) (defScope s_Tree___init__) .none kV23 dc23 pm23 an23 cd23 ct23), sl23⟩)
    (c23 : PySem.W.codeIn K cd23 "Tree.__init__" = true)
    (k23 : PySem.W.keepIn K (.ref f23) = true)
    (a24 : PySem.W.findIn K (.ref C_Tree) "kind" = some (some (.ref f24)))
    (i24 : PySem.W.isFn K (.ref f24) = true)
    (l24 : K.lookup f24 = some ⟨oc24, od24, .func (PySem.W.fnOf "kind" "Tree.kind" (defArgs s_Tree_kind) (defBody s_Tree_kind) (defScope s_Tree_kind) .none kV24 dc24 pm24 an24 cd24 ct24), sl24⟩)
    (c24 : PySem.W.codeIn K cd24 "Tree.kind" = true)
    (k24 : PySem.W.keepIn K (.ref f24) = true)
    (a25 : PySem.W.findIn K (.ref C_Tree) "read" = some (some (.ref f25)))
    (i25 : PySem.W.isFn K (.ref f25) = true)
    (l25 : K.lookup f25 = some ⟨oc25, od25, .func (PySem.W.fnOf "read" "Tree.read" (defArgs s_Tree_read) (defBody s_Tree_read) (defScope s_Tree_read) .none kV25 dc25 pm25 an25 cd25 ct25), sl25⟩)
    (c25 : PySem.W.codeIn K cd25 "Tree.read" = true)
    (k25 : PySem.W.keepIn K (.ref f25) = true)
    (a26 : PySem.W.findIn K (.ref C_Tree) "writer" = some (some (.ref f26)))
    (i26 : PySem.W.isFn K (.ref f26) = true)
    (l26 : K.lookup f26 = some ⟨oc26, od26, .func (PySem.W.fnOf "writer" "Tree.writer" (defArgs s_Tree_writer) (defBody s_Tree_writer) (defScope s_Tree_writer) .none kV26 dc26 pm26 an26 cd26 ct26), sl26⟩)
    (c26 : PySem.W.codeIn K cd26 "Tree.writer" = true)
    (k26 : PySem.W.keepIn K (.ref f26) = true)
    (a27 : PySem.W.findIn K (.ref C_Tree) "target" = some (some (.ref f27)))
    (i27 : PySem.W.isFn K (.ref f27) = true)
    (l27 : K.lookup f27 = some ⟨oc27, od27, .func (PySem.W.fnOf "target" "Tree.target" (defArgs s_Tree_target) (defBody s_Tree_target) (defScope s_Tree_target) .none kV27 dc27 pm27 an27 cd27 ct27), sl27⟩)
    (c27 : PySem.W.codeIn K cd27 "Tree.target" = true)
    (k27 : PySem.W.keepIn K (.ref f27) = true)
    (a28 : PySem.W.findIn K (.ref C_Tree) "_has_room" = some (some (.ref f28)))
    (i28 : PySem.W.isFn K (.ref f28) = true)
    (l28 : K.lookup f28 = some ⟨oc28, od28, .func (PySem.W.fnOf "_has_room" "Tree._has_room" (defArgs s_Tree__has_room) (defBody s_Tree__has_room) (defScope s_Tree__has_room) .none kV28 dc28 pm28 an28 cd28 ct28), sl28⟩)
    (c28 : PySem.W.codeIn K cd28 "Tree._has_room" = true)
    (k28 : PySem.W.keepIn K (.ref f28) = true)
    (a29 : PySem.W.findIn K (.ref C_Tree) "paths" = some (some (.ref f29)))
    (i29 : PySem.W.isFn K (.ref f29) = true)
    (l29 : K.lookup f29 = some ⟨oc29, od29, .func (PySem.W.fnOf "paths" "Tree.paths" (defArgs s_Tree_paths) (defBody s_Tree_paths) (defScope s_Tree_paths) .none kV29 dc29 pm29 an29 cd29 ct29), sl29⟩)
    (c29 : PySem.W.codeIn K cd29 "Tree.paths" = true)
    (k29 : PySem.W.keepIn K (.ref f29) = true)
    (a30 : PySem.W.findIn K (.ref C_Tree) "write" = some (some (.ref f30)))
    (i30 : PySem.W.isFn K (.ref f30) = true)
    (l30 : K.lookup f30 = some ⟨oc30, od30, .func (PySem.W.fnOf "write" "Tree.write" (defArgs s_Tree_write) (defBody s_Tree_write) (defScope s_Tree_write) .none kV30 dc30 pm30 an30 cd30 ct30), sl30⟩)
    (c30 : PySem.W.codeIn K cd30 "Tree.write" = true)
    (k30 : PySem.W.keepIn K (.ref f30) = true)
    (a31 : PySem.W.findIn K (.ref C_Tree) "link" = some (some (.ref f31)))
    (i31 : PySem.W.isFn K (.ref f31) = true)
    (l31 : K.lookup f31 = some ⟨oc31, od31, .func (PySem.W.fnOf "link" "Tree.link" (defArgs s_Tree_link) (defBody s_Tree_link) (defScope s_Tree_link) .none kV31 dc31 pm31 an31 cd31 ct31), sl31⟩)
    (c31 : PySem.W.codeIn K cd31 "Tree.link" = true)
    (k31 : PySem.W.keepIn K (.ref f31) = true)
    (a32 : PySem.W.findIn K (.ref C_Store) "__init__" = some (some (.ref f32)))
    (i32 : PySem.W.isFn K (.ref f32) = true)
    (l32 : K.lookup f32 = some ⟨oc32, od32, .func (PySem.W.fnOf "__init__" "Store.__init__" (defArgs s_Store___init__) (defBody s_Store___init__) (defScope s_Store___init__) (.ref dT32) kV32 dc32 pm32 an32 cd32 ct32), sl32⟩)
    (dl32 : K.lookup dT32 = some ⟨dc_32, dod32, .seq #[.none] dn32, dsl32⟩)
    (c32 : PySem.W.codeIn K cd32 "Store.__init__" = true)
    (k32 : PySem.W.keepIn K (.ref f32) = true)
    (a33 : PySem.W.findIn K (.ref C_Store) "record_count" = some (some (.ref f33)))
    (i33 : PySem.W.isFn K (.ref f33) = true)
    (l33 : K.lookup f33 = some ⟨oc33, od33, .func (PySem.W.fnOf "record_count" "Store.record_count" (defArgs s_Store_record_count) (defBody s_Store_record_count) (defScope s_Store_record_count) .none kV33 dc33 pm33 an33 cd33 ct33), sl33⟩)
    (c33 : PySem.W.codeIn K cd33 "Store.record_count" = true)
    (k33 : PySem.W.keepIn K (.ref f33) = true)
    (a34 : PySem.W.findIn K (.ref C_Store) "kept_records" = some (some (.ref f34)))
    (i34 : PySem.W.isFn K (.ref f34) = true)
    (l34 : K.lookup f34 = some ⟨oc34, od34, .func (PySem.W.fnOf "kept_records" "Store.kept_records" (defArgs s_Store_kept_records) (defBody s_Store_kept_records) (defScope s_Store_kept_records) .none kV34 dc34 pm34 an34 cd34 ct34), sl34⟩)
    (c34 : PySem.W.codeIn K cd34 "Store.kept_records" = true)
    (k34 : PySem.W.keepIn K (.ref f34) = true)
    (a35 : PySem.W.findIn K (.ref C_Store) "kept_texts" = some (some (.ref f35)))
    (i35 : PySem.W.isFn K (.ref f35) = true)
    (l35 : K.lookup f35 = some ⟨oc35, od35, .func (PySem.W.fnOf "kept_texts" "Store.kept_texts" (defArgs s_Store_kept_texts) (defBody s_Store_kept_texts) (defScope s_Store_kept_texts) .none kV35 dc35 pm35 an35 cd35 ct35), sl35⟩)
    (c35 : PySem.W.codeIn K cd35 "Store.kept_texts" = true)
    (k35 : PySem.W.keepIn K (.ref f35) = true)
    (a36 : PySem.W.findIn K (.ref C_Store) "content_keys" = some (some (.ref f36)))
    (i36 : PySem.W.isFn K (.ref f36) = true)
    (l36 : K.lookup f36 = some ⟨oc36, od36, .func (PySem.W.fnOf "content_keys" "Store.content_keys" (defArgs s_Store_content_keys) (defBody s_Store_content_keys) (defScope s_Store_content_keys) .none kV36 dc36 pm36 an36 cd36 ct36), sl36⟩)
    (c36 : PySem.W.codeIn K cd36 "Store.content_keys" = true)
    (k36 : PySem.W.keepIn K (.ref f36) = true)
    (a37 : PySem.W.findIn K (.ref C_Store) "fill_from" = some (some (.ref f37)))
    (i37 : PySem.W.isFn K (.ref f37) = true)
    (l37 : K.lookup f37 = some ⟨oc37, od37, .func (PySem.W.fnOf "fill_from" "Store.fill_from" (defArgs s_Store_fill_from) (defBody s_Store_fill_from) (defScope s_Store_fill_from) .none kV37 dc37 pm37 an37 cd37 ct37), sl37⟩)
    (c37 : PySem.W.codeIn K cd37 "Store.fill_from" = true)
    (k37 : PySem.W.keepIn K (.ref f37) = true)
    (a38 : PySem.W.nsIn K mainGlobals "_entry_line" = some (some (.ref f38)))
    (l38 : K.lookup f38 = some ⟨oc38, od38, .func (PySem.W.fnOf "_entry_line" "_entry_line" (defArgs s__entry_line) (defBody s__entry_line) (defScope s__entry_line) .none kV38 dc38 pm38 an38 cd38 ct38), sl38⟩)
    (c38 : PySem.W.codeIn K cd38 "_entry_line" = true)
    (k38 : PySem.W.keepIn K (.ref f38) = true)
    (a39 : PySem.W.nsIn K mainGlobals "_setting_line" = some (some (.ref f39)))
    (l39 : K.lookup f39 = some ⟨oc39, od39, .func (PySem.W.fnOf "_setting_line" "_setting_line" (defArgs s__setting_line) (defBody s__setting_line) (defScope s__setting_line) .none kV39 dc39 pm39 an39 cd39 ct39), sl39⟩)
    (c39 : PySem.W.codeIn K cd39 "_setting_line" = true)
    (k39 : PySem.W.keepIn K (.ref f39) = true)
    (a40 : PySem.W.nsIn K mainGlobals "_content_line" = some (some (.ref f40)))
    (l40 : K.lookup f40 = some ⟨oc40, od40, .func (PySem.W.fnOf "_content_line" "_content_line" (defArgs s__content_line) (defBody s__content_line) (defScope s__content_line) .none kV40 dc40 pm40 an40 cd40 ct40), sl40⟩)
    (c40 : PySem.W.codeIn K cd40 "_content_line" = true)
    (k40 : PySem.W.keepIn K (.ref f40) = true)
    (a41 : PySem.W.nsIn K mainGlobals "_row_line" = some (some (.ref f41)))
    (l41 : K.lookup f41 = some ⟨oc41, od41, .func (PySem.W.fnOf "_row_line" "_row_line" (defArgs s__row_line) (defBody s__row_line) (defScope s__row_line) .none kV41 dc41 pm41 an41 cd41 ct41), sl41⟩)
    (c41 : PySem.W.codeIn K cd41 "_row_line" = true)
    (k41 : PySem.W.keepIn K (.ref f41) = true)
    (a42 : PySem.W.nsIn K mainGlobals "_count_line" = some (some (.ref f42)))
    (l42 : K.lookup f42 = some ⟨oc42, od42, .func (PySem.W.fnOf "_count_line" "_count_line" (defArgs s__count_line) (defBody s__count_line) (defScope s__count_line) .none kV42 dc42 pm42 an42 cd42 ct42), sl42⟩)
    (c42 : PySem.W.codeIn K cd42 "_count_line" = true)
    (k42 : PySem.W.keepIn K (.ref f42) = true)
    (a43 : PySem.W.nsIn K mainGlobals "save_tree" = some (some (.ref f43)))
    (l43 : K.lookup f43 = some ⟨oc43, od43, .func (PySem.W.fnOf "save_tree" "save_tree" (defArgs s_save_tree) (defBody s_save_tree) (defScope s_save_tree) .none kV43 dc43 pm43 an43 cd43 ct43), sl43⟩)
    (c43 : PySem.W.codeIn K cd43 "save_tree" = true)
    (k43 : PySem.W.keepIn K (.ref f43) = true)
    (a44 : PySem.W.nsIn K mainGlobals "save_settings" = some (some (.ref f44)))
    (l44 : K.lookup f44 = some ⟨oc44, od44, .func (PySem.W.fnOf "save_settings" "save_settings" (defArgs s_save_settings) (defBody s_save_settings) (defScope s_save_settings) .none kV44 dc44 pm44 an44 cd44 ct44), sl44⟩)
    (c44 : PySem.W.codeIn K cd44 "save_settings" = true)
    (k44 : PySem.W.keepIn K (.ref f44) = true)
    (a45 : PySem.W.nsIn K mainGlobals "save_store" = some (some (.ref f45)))
    (l45 : K.lookup f45 = some ⟨oc45, od45, .func (PySem.W.fnOf "save_store" "save_store" (defArgs s_save_store) (defBody s_save_store) (defScope s_save_store) .none kV45 dc45 pm45 an45 cd45 ct45), sl45⟩)
    (c45 : PySem.W.codeIn K cd45 "save_store" = true)
    (k45 : PySem.W.keepIn K (.ref f45) = true)
    (a46 : PySem.W.nsIn K mainGlobals "_parts" = some (some (.ref f46)))
    (l46 : K.lookup f46 = some ⟨oc46, od46, .func (PySem.W.fnOf "_parts" "_parts" (defArgs s__parts) (defBody s__parts) (defScope s__parts) .none kV46 dc46 pm46 an46 cd46 ct46), sl46⟩)
    (c46 : PySem.W.codeIn K cd46 "_parts" = true)
    (k46 : PySem.W.keepIn K (.ref f46) = true)
    (a47 : PySem.W.nsIn K mainGlobals "is_number_saving" = some (some (.ref f47)))
    (l47 : K.lookup f47 = some ⟨oc47, od47, .func (PySem.W.fnOf "_is_number" "_is_number" (defArgs s__is_number) (defBody s__is_number) (defScope s__is_number) .none kV47 dc47 pm47 an47 cd47 ct47), sl47⟩)
    (c47 : PySem.W.codeIn K cd47 "_is_number" = true)
    (k47 : PySem.W.keepIn K (.ref f47) = true)
    (a48 : PySem.W.nsIn K mainGlobals "_read_entry" = some (some (.ref f48)))
    (l48 : K.lookup f48 = some ⟨oc48, od48, .func (PySem.W.fnOf "_read_entry" "_read_entry" (defArgs s__read_entry) (defBody s__read_entry) (defScope s__read_entry) .none kV48 dc48 pm48 an48 cd48 ct48), sl48⟩)
    (c48 : PySem.W.codeIn K cd48 "_read_entry" = true)
    (k48 : PySem.W.keepIn K (.ref f48) = true)
    (a49 : PySem.W.nsIn K mainGlobals "_read_setting" = some (some (.ref f49)))
    (l49 : K.lookup f49 = some ⟨oc49, od49, .func (PySem.W.fnOf "_read_setting" "_read_setting" (defArgs s__read_setting) (defBody s__read_setting) (defScope s__read_setting) .none kV49 dc49 pm49 an49 cd49 ct49), sl49⟩)
    (c49 : PySem.W.codeIn K cd49 "_read_setting" = true)
    (k49 : PySem.W.keepIn K (.ref f49) = true)
    (a50 : PySem.W.nsIn K mainGlobals "_read_lines" = some (some (.ref f50)))
    (l50 : K.lookup f50 = some ⟨oc50, od50, .func (PySem.W.fnOf "_read_lines" "_read_lines" (defArgs s__read_lines) (defBody s__read_lines) (defScope s__read_lines) .none kV50 dc50 pm50 an50 cd50 ct50), sl50⟩)
    (c50 : PySem.W.codeIn K cd50 "_read_lines" = true)
    (k50 : PySem.W.keepIn K (.ref f50) = true)
    (a51 : PySem.W.nsIn K mainGlobals "load_tree" = some (some (.ref f51)))
    (l51 : K.lookup f51 = some ⟨oc51, od51, .func (PySem.W.fnOf "load_tree" "load_tree" (defArgs s_load_tree) (defBody s_load_tree) (defScope s_load_tree) .none kV51 dc51 pm51 an51 cd51 ct51), sl51⟩)
    (c51 : PySem.W.codeIn K cd51 "load_tree" = true)
    (k51 : PySem.W.keepIn K (.ref f51) = true)
    (a52 : PySem.W.nsIn K mainGlobals "load_settings" = some (some (.ref f52)))
    (l52 : K.lookup f52 = some ⟨oc52, od52, .func (PySem.W.fnOf "load_settings" "load_settings" (defArgs s_load_settings) (defBody s_load_settings) (defScope s_load_settings) .none kV52 dc52 pm52 an52 cd52 ct52), sl52⟩)
    (c52 : PySem.W.codeIn K cd52 "load_settings" = true)
    (k52 : PySem.W.keepIn K (.ref f52) = true)
    (a53 : PySem.W.findIn K (.ref C_StoreReader) "__init__" = some (some (.ref f53)))
    (i53 : PySem.W.isFn K (.ref f53) = true)
    (l53 : K.lookup f53 = some ⟨oc53, od53, .func (PySem.W.fnOf "__init__" "StoreReader.__init__" (defArgs s_StoreReader___init__) (defBody s_StoreReader___init__) (defScope s_StoreReader___init__) .none kV53 dc53 pm53 an53 cd53 ct53), sl53⟩)
    (c53 : PySem.W.codeIn K cd53 "StoreReader.__init__" = true)
    (k53 : PySem.W.keepIn K (.ref f53) = true)
    (a54 : PySem.W.findIn K (.ref C_StoreReader) "_read_content" = some (some (.ref f54)))
    (i54 : PySem.W.isFn K (.ref f54) = true)
    (l54 : K.lookup f54 = some ⟨oc54, od54, .func (PySem.W.fnOf "_read_content" "StoreReader._read_content" (defArgs s_StoreReader__read_content) (defBody s_StoreReader__read_content) (defScope s_StoreReader__read_content) .none kV54 dc54 pm54 an54 cd54 ct54), sl54⟩)
    (c54 : PySem.W.codeIn K cd54 "StoreReader._read_content" = true)
    (k54 : PySem.W.keepIn K (.ref f54) = true)
    (a55 : PySem.W.findIn K (.ref C_StoreReader) "_read_record" = some (some (.ref f55)))
    (i55 : PySem.W.isFn K (.ref f55) = true)
    (l55 : K.lookup f55 = some ⟨oc55, od55, .func (PySem.W.fnOf "_read_record" "StoreReader._read_record" (defArgs s_StoreReader__read_record) (defBody s_StoreReader__read_record) (defScope s_StoreReader__read_record) .none kV55 dc55 pm55 an55 cd55 ct55), sl55⟩)
    (c55 : PySem.W.codeIn K cd55 "StoreReader._read_record" = true)
    (k55 : PySem.W.keepIn K (.ref f55) = true)
    (a56 : PySem.W.findIn K (.ref C_StoreReader) "_read_count" = some (some (.ref f56)))
    (i56 : PySem.W.isFn K (.ref f56) = true)
    (l56 : K.lookup f56 = some ⟨oc56, od56, .func (PySem.W.fnOf "_read_count" "StoreReader._read_count" (defArgs s_StoreReader__read_count) (defBody s_StoreReader__read_count) (defScope s_StoreReader__read_count) .none kV56 dc56 pm56 an56 cd56 ct56), sl56⟩)
    (c56 : PySem.W.codeIn K cd56 "StoreReader._read_count" = true)
    (k56 : PySem.W.keepIn K (.ref f56) = true)
    (a57 : PySem.W.findIn K (.ref C_StoreReader) "read" = some (some (.ref f57)))
    (i57 : PySem.W.isFn K (.ref f57) = true)
    (l57 : K.lookup f57 = some ⟨oc57, od57, .func (PySem.W.fnOf "read" "StoreReader.read" (defArgs s_StoreReader_read) (defBody s_StoreReader_read) (defScope s_StoreReader_read) .none kV57 dc57 pm57 an57 cd57 ct57), sl57⟩)
    (c57 : PySem.W.codeIn K cd57 "StoreReader.read" = true)
    (k57 : PySem.W.keepIn K (.ref f57) = true)
    (a58 : PySem.W.nsIn K mainGlobals "load_store" = some (some (.ref f58)))
    (l58 : K.lookup f58 = some ⟨oc58, od58, .func (PySem.W.fnOf "load_store" "load_store" (defArgs s_load_store) (defBody s_load_store) (defScope s_load_store) .none kV58 dc58 pm58 an58 cd58 ct58), sl58⟩)
    (c58 : PySem.W.codeIn K cd58 "load_store" = true)
    (k58 : PySem.W.keepIn K (.ref f58) = true)
    (a59 : PySem.W.nsIn K mainGlobals "_law_cell" = some (some (.ref f59)))
    (l59 : K.lookup f59 = some ⟨oc59, od59, .func (PySem.W.fnOf "_law_cell" "_law_cell" (defArgs s__law_cell) (defBody s__law_cell) (defScope s__law_cell) .none kV59 dc59 pm59 an59 cd59 ct59), sl59⟩)
    (c59 : PySem.W.codeIn K cd59 "_law_cell" = true)
    (k59 : PySem.W.keepIn K (.ref f59) = true)
    (a60 : PySem.W.nsIn K mainGlobals "_law_lines" = some (some (.ref f60)))
    (l60 : K.lookup f60 = some ⟨oc60, od60, .func (PySem.W.fnOf "_law_lines" "_law_lines" (defArgs s__law_lines) (defBody s__law_lines) (defScope s__law_lines) .none kV60 dc60 pm60 an60 cd60 ct60), sl60⟩)
    (c60 : PySem.W.codeIn K cd60 "_law_lines" = true)
    (k60 : PySem.W.keepIn K (.ref f60) = true)
    (a61 : PySem.W.nsIn K mainGlobals "_law_spoilt" = some (some (.ref f61)))
    (l61 : K.lookup f61 = some ⟨oc61, od61, .func (PySem.W.fnOf "_law_spoilt" "_law_spoilt" (defArgs s__law_spoilt) (defBody s__law_spoilt) (defScope s__law_spoilt) .none kV61 dc61 pm61 an61 cd61 ct61), sl61⟩)
    (c61 : PySem.W.codeIn K cd61 "_law_spoilt" = true)
    (k61 : PySem.W.keepIn K (.ref f61) = true)
    (a62 : PySem.W.nsIn K mainGlobals "_law_loaded" = some (some (.ref f62)))
    (l62 : K.lookup f62 = some ⟨oc62, od62, .func (PySem.W.fnOf "_law_loaded" "_law_loaded" (defArgs s__law_loaded) (defBody s__law_loaded) (defScope s__law_loaded) .none kV62 dc62 pm62 an62 cd62 ct62), sl62⟩)
    (c62 : PySem.W.codeIn K cd62 "_law_loaded" = true)
    (k62 : PySem.W.keepIn K (.ref f62) = true)
    (a63 : PySem.W.nsIn K mainGlobals "law" = some (some (.ref f63)))
    (l63 : K.lookup f63 = some ⟨oc63, od63, .func (PySem.W.fnOf "law" "law" (defArgs s_law) (defBody s_law) (defScope s_law) .none kV63 dc63 pm63 an63 cd63 ct63), sl63⟩)
    (c63 : PySem.W.codeIn K cd63 "law" = true)
    (k63 : PySem.W.keepIn K (.ref f63) = true)
    (zb_abs : PySem.W.nsIn K mainGlobals "abs" = some none)
    (zb_all : PySem.W.nsIn K mainGlobals "all" = some none)
    (zb_bool : PySem.W.nsIn K mainGlobals "bool" = some none)
    (zb_dict : PySem.W.nsIn K mainGlobals "dict" = some none)
    (zb_enumerate : PySem.W.nsIn K mainGlobals "enumerate" = some none)
    (zb_int : PySem.W.nsIn K mainGlobals "int" = some none)
    (zb_isinstance : PySem.W.nsIn K mainGlobals "isinstance" = some none)
    (zb_len : PySem.W.nsIn K mainGlobals "len" = some none)
    (zb_list : PySem.W.nsIn K mainGlobals "list" = some none)
    (zb_max : PySem.W.nsIn K mainGlobals "max" = some none)
    (zb_ord : PySem.W.nsIn K mainGlobals "ord" = some none)
    (zb_range : PySem.W.nsIn K mainGlobals "range" = some none)
    (zb_sorted : PySem.W.nsIn K mainGlobals "sorted" = some none)
    (zb_str : PySem.W.nsIn K mainGlobals "str" = some none)
    (zc_CONTENT_LENGTH : PySem.W.nsIn K mainGlobals "CONTENT_LENGTH" = some (some (.int 400 tk_CONTENT_LENGTH)))
    (zc_NEWLINE : PySem.W.nsIn K mainGlobals "NEWLINE" = some (some (.int 10 tk_NEWLINE)))
    (zc_SPACE : PySem.W.nsIn K mainGlobals "SPACE" = some (some (.int 32 tk_SPACE)))
    (zc_PERCENT : PySem.W.nsIn K mainGlobals "PERCENT" = some (some (.int 37 tk_PERCENT)))
    (zc_TILDE : PySem.W.nsIn K mainGlobals "TILDE" = some (some (.int 126 tk_TILDE)))
    (zc_SIGNS_BEFORE : PySem.W.nsIn K mainGlobals "SIGNS_BEFORE" = some (some (.str (Str.ofString " !\"#$") tk_SIGNS_BEFORE)))
    (zc_SIGNS_BEHIND : PySem.W.nsIn K mainGlobals "SIGNS_BEHIND" = some (some (.str (Str.ofString "&'()*+,-./0123456789:;<=>?@ABCDEFGHIJKLMNOPQRSTUVWXYZ[\\]^_`abcdefghijklmnopqrstuvwxyz{|}~") tk_SIGNS_BEHIND)))
    (zc_DIGIT_BITS : PySem.W.nsIn K mainGlobals "DIGIT_BITS" = some (some (.int 7 tk_DIGIT_BITS)))
    (zc_IDENTIFIER_LENGTH : PySem.W.nsIn K mainGlobals "IDENTIFIER_LENGTH" = some (some (.int 12 tk_IDENTIFIER_LENGTH)))
    (zc_LETTERS : PySem.W.nsIn K mainGlobals "LETTERS" = some (some (.str (Str.ofString "abcdefghijklmnopqrstuvwxyz") tk_LETTERS)))
    (zc_IDENTIFIER_SIGNS : PySem.W.nsIn K mainGlobals "IDENTIFIER_SIGNS" = some (some (.str (Str.ofString "abcdefghijklmnopqrstuvwxyz0123456789_") tk_IDENTIFIER_SIGNS)))
    (zc_SIGNS : PySem.W.nsIn K mainGlobals "SIGNS" = some (some (.str (Str.ofString "(),+") tk_SIGNS)))
    (zc_QUOTE : PySem.W.nsIn K mainGlobals "QUOTE" = some (some (.str (Str.ofString "\"") tk_QUOTE)))
    (zc_BACKSLASH : PySem.W.nsIn K mainGlobals "BACKSLASH" = some (some (.str (Str.ofString "\\") tk_BACKSLASH)))
    (zc_WORD_ENDS : PySem.W.nsIn K mainGlobals "WORD_ENDS" = some (some (.str (Str.ofString " \"(),+") tk_WORD_ENDS)))
    (zc_MOST_NAMES : PySem.W.nsIn K mainGlobals "MOST_NAMES" = some (some (.int 4 tk_MOST_NAMES)))
    (zc_NAME_LENGTH : PySem.W.nsIn K mainGlobals "NAME_LENGTH" = some (some (.int 12 tk_NAME_LENGTH)))
    (zc_NAME_SIGNS : PySem.W.nsIn K mainGlobals "NAME_SIGNS" = some (some (.str (Str.ofString "abcdefghijklmnopqrstuvwxyz0123456789_.") tk_NAME_SIGNS)))
    (zc_MOST_PERSONS_ENTRIES : PySem.W.nsIn K mainGlobals "MOST_PERSONS_ENTRIES" = some (some (.int 60 tk_MOST_PERSONS_ENTRIES)))
    (zc_MOST_DIGITS_saving : PySem.W.nsIn K mainGlobals "MOST_DIGITS_saving" = some (some (.int 4 tk_MOST_DIGITS_saving)))
    (zd_ESCAPES : PySem.W.nsIn K mainGlobals "ESCAPES" = some (some (.ref D_ESCAPES)))
    (zl_ESCAPES : K.lookup D_ESCAPES = some ⟨.type "dict", none, .dict es_ESCAPES n_ESCAPES, #[]⟩)
    (zo_ESCAPES : (D_ESCAPES == sysModules) = false)
    (zk_ESCAPES : PySem.W.KeysLit w.params es_ESCAPES.toList)
    (ze_ESCAPES : Kn.EntsAre es_ESCAPES.toList escF)
    (hdig : PySem.W.nsIn K cStatics "sys.int_max_str_digits" = some none)
    (zw : PySem.W.nsIn K mainGlobals "WRITERS" = some (some (.ref AW)))
    (zwl : K.lookup AW = some ⟨.type "tuple", odW, .seq itW nW, slW⟩)
    (zwv : Vals [.str (S ePerson), .str (S eBuild)] itW.toList)
    (fne : f49 ≠ f48)
    (bex : PySem.W.subIn K (.ref XB) (.type "BaseException") = some true)
    : ∃ fd : FuncData, (∀ (s : Shared) (v : Value), BindsTo s fd ⟨[v], []⟩ [("script", v)]) ∧ ∀ base : Heap, K.In base → base.Ns mainGlobals mg → FnOk l.prog w K mg base CX0 12 fa fd ["script"] (sp_law K) := by
  cases hfa.symm.trans (PySem.W.mg_of X G a63)
  have T : Tx mg := ⟨PySem.W.mg_none_of X G zb_abs, PySem.W.mg_none_of X G zb_all, PySem.W.mg_none_of X G zb_bool, PySem.W.mg_none_of X G zb_dict, PySem.W.mg_none_of X G zb_enumerate, PySem.W.mg_none_of X G zb_int, PySem.W.mg_none_of X G zb_isinstance, PySem.W.mg_none_of X G zb_len, PySem.W.mg_none_of X G zb_list, PySem.W.mg_none_of X G zb_max, PySem.W.mg_none_of X G zb_ord, PySem.W.mg_none_of X G zb_range, PySem.W.mg_none_of X G zb_sorted, PySem.W.mg_none_of X G zb_str, ⟨_, PySem.W.mg_of X G zc_CONTENT_LENGTH, ⟨_, rfl⟩⟩, ⟨_, PySem.W.mg_of X G zc_NEWLINE, ⟨_, rfl⟩⟩, ⟨_, PySem.W.mg_of X G zc_SPACE, ⟨_, rfl⟩⟩, ⟨_, PySem.W.mg_of X G zc_PERCENT, ⟨_, rfl⟩⟩, ⟨_, PySem.W.mg_of X G zc_TILDE, ⟨_, rfl⟩⟩, ⟨_, PySem.W.mg_of X G zc_SIGNS_BEFORE, ⟨_, rfl⟩⟩, ⟨_, PySem.W.mg_of X G zc_SIGNS_BEHIND, ⟨_, rfl⟩⟩, ⟨_, PySem.W.mg_of X G zc_DIGIT_BITS, ⟨_, rfl⟩⟩, ⟨_, PySem.W.mg_of X G zc_IDENTIFIER_LENGTH, ⟨_, rfl⟩⟩, ⟨_, PySem.W.mg_of X G zc_LETTERS, ⟨_, rfl⟩⟩, ⟨_, PySem.W.mg_of X G zc_IDENTIFIER_SIGNS, ⟨_, rfl⟩⟩, ⟨_, PySem.W.mg_of X G zc_SIGNS, ⟨_, rfl⟩⟩, ⟨_, PySem.W.mg_of X G zc_QUOTE, ⟨_, rfl⟩⟩, ⟨_, PySem.W.mg_of X G zc_BACKSLASH, ⟨_, rfl⟩⟩, ⟨_, PySem.W.mg_of X G zc_WORD_ENDS, ⟨_, rfl⟩⟩, ⟨_, PySem.W.mg_of X G zc_MOST_NAMES, ⟨_, rfl⟩⟩, ⟨_, PySem.W.mg_of X G zc_NAME_LENGTH, ⟨_, rfl⟩⟩, ⟨_, PySem.W.mg_of X G zc_NAME_SIGNS, ⟨_, rfl⟩⟩, ⟨_, PySem.W.mg_of X G zc_MOST_PERSONS_ENTRIES, ⟨_, rfl⟩⟩, ⟨_, PySem.W.mg_of X G zc_MOST_DIGITS_saving, ⟨_, rfl⟩⟩⟩
  have TC_Tree : Tc_Tree K C_Tree := ⟨⟨pg_Tree, hdi_Tree, po_Tree, sa_Tree⟩, na_entries_Tree⟩
  have TC_Store : Tc_Store K C_Store := ⟨⟨pg_Store, hdi_Store, po_Store, sa_Store⟩, na_journal_Store, na__texts_Store, na__rows_Store⟩
  have TC_StoreReader : Tc_StoreReader K C_StoreReader := ⟨⟨pg_StoreReader, hdi_StoreReader, po_StoreReader, sa_StoreReader⟩, na_texts_StoreReader, na_rows_StoreReader, na_last_key_StoreReader, na_last_index_StoreReader, na_count_StoreReader⟩
  have x_InvalidPath : Kn.Xc K X_InvalidPath XB := ⟨⟨⟨nm_InvalidPath, q_InvalidPath, N_InvalidPath_, bs_InvalidPath, _, sn_InvalidPath, sub_InvalidPath, ab_InvalidPath, col_InvalidPath, dd_InvalidPath, m0_InvalidPath, m1_InvalidPath, m2_InvalidPath, m3_InvalidPath, m5_InvalidPath, xL_InvalidPath, rfl⟩, xsa_InvalidPath, xex_InvalidPath, xty_InvalidPath, xkc_InvalidPath⟩, ⟨xga_InvalidPath, xgg_InvalidPath, xex_InvalidPath, xhd_InvalidPath, xcl_InvalidPath, xgs, xtk, xmr_InvalidPath⟩, ⟨xga_InvalidPath, xgg_InvalidPath, xex_InvalidPath, xhd_InvalidPath⟩, PySem.W.exm_ref xex_InvalidPath xhd_InvalidPath xty_InvalidPath xcc_InvalidPath, Kn.kit_ref bhd bty xkB_InvalidPath xcc_InvalidPath⟩
  have x_InvalidContent : Kn.Xc K X_InvalidContent XB := ⟨⟨⟨nm_InvalidContent, q_InvalidContent, N_InvalidContent_, bs_InvalidContent, _, sn_InvalidContent, sub_InvalidContent, ab_InvalidContent, col_InvalidContent, dd_InvalidContent, m0_InvalidContent, m1_InvalidContent, m2_InvalidContent, m3_InvalidContent, m5_InvalidContent, xL_InvalidContent, rfl⟩, xsa_InvalidContent, xex_InvalidContent, xty_InvalidContent, xkc_InvalidContent⟩, ⟨xga_InvalidContent, xgg_InvalidContent, xex_InvalidContent, xhd_InvalidContent, xcl_InvalidContent, xgs, xtk, xmr_InvalidContent⟩, ⟨xga_InvalidContent, xgg_InvalidContent, xex_InvalidContent, xhd_InvalidContent⟩, PySem.W.exm_ref xex_InvalidContent xhd_InvalidContent xty_InvalidContent xcc_InvalidContent, Kn.kit_ref bhd bty xkB_InvalidContent xcc_InvalidContent⟩
  have x_TreeFull : Kn.Xc K X_TreeFull XB := ⟨⟨⟨nm_TreeFull, q_TreeFull, N_TreeFull_, bs_TreeFull, _, sn_TreeFull, sub_TreeFull, ab_TreeFull, col_TreeFull, dd_TreeFull, m0_TreeFull, m1_TreeFull, m2_TreeFull, m3_TreeFull, m5_TreeFull, xL_TreeFull, rfl⟩, xsa_TreeFull, xex_TreeFull, xty_TreeFull, xkc_TreeFull⟩, ⟨xga_TreeFull, xgg_TreeFull, xex_TreeFull, xhd_TreeFull, xcl_TreeFull, xgs, xtk, xmr_TreeFull⟩, ⟨xga_TreeFull, xgg_TreeFull, xex_TreeFull, xhd_TreeFull⟩, PySem.W.exm_ref xex_TreeFull xhd_TreeFull xty_TreeFull xcc_TreeFull, Kn.kit_ref bhd bty xkB_TreeFull xcc_TreeFull⟩
  have x_InvalidRecipe : Kn.Xc K X_InvalidRecipe XB := ⟨⟨⟨nm_InvalidRecipe, q_InvalidRecipe, N_InvalidRecipe_, bs_InvalidRecipe, _, sn_InvalidRecipe, sub_InvalidRecipe, ab_InvalidRecipe, col_InvalidRecipe, dd_InvalidRecipe, m0_InvalidRecipe, m1_InvalidRecipe, m2_InvalidRecipe, m3_InvalidRecipe, m5_InvalidRecipe, xL_InvalidRecipe, rfl⟩, xsa_InvalidRecipe, xex_InvalidRecipe, xty_InvalidRecipe, xkc_InvalidRecipe⟩, ⟨xga_InvalidRecipe, xgg_InvalidRecipe, xex_InvalidRecipe, xhd_InvalidRecipe, xcl_InvalidRecipe, xgs, xtk, xmr_InvalidRecipe⟩, ⟨xga_InvalidRecipe, xgg_InvalidRecipe, xex_InvalidRecipe, xhd_InvalidRecipe⟩, PySem.W.exm_ref xex_InvalidRecipe xhd_InvalidRecipe xty_InvalidRecipe xcc_InvalidRecipe, Kn.kit_ref bhd bty xkB_InvalidRecipe xcc_InvalidRecipe⟩
  have x_InvalidSave : Kn.Xc K X_InvalidSave XB := ⟨⟨⟨nm_InvalidSave, q_InvalidSave, N_InvalidSave_, bs_InvalidSave, _, sn_InvalidSave, sub_InvalidSave, ab_InvalidSave, col_InvalidSave, dd_InvalidSave, m0_InvalidSave, m1_InvalidSave, m2_InvalidSave, m3_InvalidSave, m5_InvalidSave, xL_InvalidSave, rfl⟩, xsa_InvalidSave, xex_InvalidSave, xty_InvalidSave, xkc_InvalidSave⟩, ⟨xga_InvalidSave, xgg_InvalidSave, xex_InvalidSave, xhd_InvalidSave, xcl_InvalidSave, xgs, xtk, xmr_InvalidSave⟩, ⟨xga_InvalidSave, xgg_InvalidSave, xex_InvalidSave, xhd_InvalidSave⟩, PySem.W.exm_ref xex_InvalidSave xhd_InvalidSave xty_InvalidSave xcc_InvalidSave, Kn.kit_ref bhd bty xkB_InvalidSave xcc_InvalidSave⟩
  let GX : Gx K mg := { c_BuildError := XB, g_BuildError := PySem.W.mg_of X G aB, b_BuildError := ⟨bsp, brd, bfi⟩, c_InvalidPath := X_InvalidPath, g_InvalidPath := PySem.W.mg_of X G xa_InvalidPath, x_InvalidPath := x_InvalidPath, n_InvalidPath_path := xnpath_InvalidPath, c_InvalidContent := X_InvalidContent, g_InvalidContent := PySem.W.mg_of X G xa_InvalidContent, x_InvalidContent := x_InvalidContent, n_InvalidContent_path := xnpath_InvalidContent, c_TreeFull := X_TreeFull, g_TreeFull := PySem.W.mg_of X G xa_TreeFull, x_TreeFull := x_TreeFull, n_TreeFull_path := xnpath_TreeFull, c_InvalidRecipe := X_InvalidRecipe, g_InvalidRecipe := PySem.W.mg_of X G xa_InvalidRecipe, x_InvalidRecipe := x_InvalidRecipe, n_InvalidRecipe_path := xnpath_InvalidRecipe, n_InvalidRecipe_line := xnline_InvalidRecipe, n_InvalidRecipe_column := xncolumn_InvalidRecipe, n_InvalidRecipe_reason := xnreason_InvalidRecipe, c_InvalidSave := X_InvalidSave, g_InvalidSave := PySem.W.mg_of X G xa_InvalidSave, x_InvalidSave := x_InvalidSave, n_InvalidSave_line := xnline_InvalidSave, k_InvalidSave_InvalidRecipe := Kn.kit_ref xhd_InvalidRecipe xty_InvalidRecipe xp_InvalidSave_InvalidRecipe xcc_InvalidSave }
  have F0 := fun_mk (st := s_InvalidPath___init__) l0 c0 k0
  have b0 := F0.binds (ps := ["self", "path"]) fun _ _ _ _ _ _ us hl => match us, hl with | [_, _], _ => rfl
  have F1 := fun_mk (st := s_InvalidContent___init__) l1 c1 k1
  have b1 := F1.binds (ps := ["self", "path"]) fun _ _ _ _ _ _ us hl => match us, hl with | [_, _], _ => rfl
  have F2 := fun_mk (st := s_TreeFull___init__) l2 c2 k2
  have b2 := F2.binds (ps := ["self", "path"]) fun _ _ _ _ _ _ us hl => match us, hl with | [_, _], _ => rfl
  have F3 := fun_mk (st := s_InvalidRecipe___init__) l3 c3 k3
  have b3 := F3.binds (ps := ["self", "path", "line", "column", "reason"]) fun _ _ _ _ _ _ us hl => match us, hl with | [_, _, _, _, _], _ => rfl
  have F4 := fun_mk (st := s_InvalidSave___init__) l4 c4 k4
  have b4 := F4.binds (ps := ["self", "line"]) fun _ _ _ _ _ _ us hl => match us, hl with | [_, _], _ => rfl
  have F5 := fun_mk (st := s__is_code) l5 c5 k5
  have b5 := F5.binds (ps := ["code"]) fun _ _ _ _ _ _ us hl => match us, hl with | [_], _ => rfl
  have F6 := fun_mk (st := s_is_text) l6 c6 k6
  have b6 := F6.binds (ps := ["value"]) fun _ _ _ _ _ _ us hl => match us, hl with | [_], _ => rfl
  have F7 := fun_mk (st := s_is_content) l7 c7 k7
  have b7 := F7.binds (ps := ["value"]) fun _ _ _ _ _ _ us hl => match us, hl with | [_], _ => rfl
  have F8 := fun_mk (st := s_content_key) l8 c8 k8
  have b8 := F8.binds (ps := ["text"]) fun _ _ _ _ _ _ us hl => match us, hl with | [_], _ => rfl
  have F9 := fun_mk (st := s__codes) l9 c9 k9
  have b9 := F9.binds (ps := ["key"]) fun _ _ _ _ _ _ us hl => match us, hl with | [_], _ => rfl
  have F10 := fun_mk (st := s__sign) l10 c10 k10
  have b10 := F10.binds (ps := ["code"]) fun _ _ _ _ _ _ us hl => match us, hl with | [_], _ => rfl
  have F11 := fun_mk (st := s_key_text) l11 c11 k11
  have b11 := F11.binds (ps := ["key"]) fun _ _ _ _ _ _ us hl => match us, hl with | [_], _ => rfl
  have F12 := fun_mk (st := s_format_string) l12 c12 k12
  have b12 := F12.binds (ps := ["text"]) fun _ _ _ _ _ _ us hl => match us, hl with | [_], _ => rfl
  have F13 := fun_mk (st := s__skip_spaces) l13 c13 k13
  have b13 := F13.binds (ps := ["line", "start"]) fun _ _ _ _ _ _ us hl => match us, hl with | [_, _], _ => rfl
  have F14 := fun_mk (st := s__string_part) l14 c14 k14
  have b14 := F14.binds (ps := ["path", "number", "line", "at"]) fun _ _ _ _ _ _ us hl => match us, hl with | [_, _, _, _], _ => rfl
  have F15 := fun_mk (st := s__string) l15 c15 k15
  have b15 := F15.binds (ps := ["path", "number", "line", "start"]) fun _ _ _ _ _ _ us hl => match us, hl with | [_, _, _, _], _ => rfl
  have F16 := fun_mk (st := s__token) l16 c16 k16
  have b16 := F16.binds (ps := ["path", "number", "line", "start"]) fun _ _ _ _ _ _ us hl => match us, hl with | [_, _, _, _], _ => rfl
  have F17 := fun_mk (st := s_scan_line) l17 c17 k17
  have b17 := F17.binds (ps := ["path", "number", "line"]) fun _ _ _ _ _ _ us hl => match us, hl with | [_, _, _], _ => rfl
  have F18 := fun_mk (st := s_is_identifier) l18 c18 k18
  have b18 := F18.binds (ps := ["value"]) fun _ _ _ _ _ _ us hl => match us, hl with | [_], _ => rfl
  have F19 := fun_mk (st := s__is_name) l19 c19 k19
  have b19 := F19.binds (ps := ["name"]) fun _ _ _ _ _ _ us hl => match us, hl with | [_], _ => rfl
  have F20 := fun_mk (st := s_is_path) l20 c20 k20
  have b20 := F20.binds (ps := ["value"]) fun _ _ _ _ _ _ us hl => match us, hl with | [_], _ => rfl
  have F21 := fun_mk (st := s_lines_of) l21 c21 k21
  have b21 := F21.binds (ps := ["text"]) fun _ _ _ _ _ _ us hl => match us, hl with | [_], _ => rfl
  have F22 := fun_mk (st := s__is_persons) l22 c22 k22
  have b22 := F22.binds (ps := ["entry"]) fun _ _ _ _ _ _ us hl => match us, hl with | [_], _ => rfl
  have F23 := fun_mk (st := s_Tree___init__) l23 c23 k23
  have b23 := F23.binds (ps := ["self"]) fun _ _ _ _ _ _ us hl => match us, hl with | [_], _ => rfl
  have F24 := fun_mk (st := s_Tree_kind) l24 c24 k24
  have b24 := F24.binds (ps := ["self", "path"]) fun _ _ _ _ _ _ us hl => match us, hl with | [_, _], _ => rfl
  have F25 := fun_mk (st := s_Tree_read) l25 c25 k25
  have b25 := F25.binds (ps := ["self", "path"]) fun _ _ _ _ _ _ us hl => match us, hl with | [_, _], _ => rfl
  have F26 := fun_mk (st := s_Tree_writer) l26 c26 k26
  have b26 := F26.binds (ps := ["self", "path"]) fun _ _ _ _ _ _ us hl => match us, hl with | [_, _], _ => rfl
  have F27 := fun_mk (st := s_Tree_target) l27 c27 k27
  have b27 := F27.binds (ps := ["self", "path"]) fun _ _ _ _ _ _ us hl => match us, hl with | [_, _], _ => rfl
  have F28 := fun_mk (st := s_Tree__has_room) l28 c28 k28
  have b28 := F28.binds (ps := ["self", "path"]) fun _ _ _ _ _ _ us hl => match us, hl with | [_, _], _ => rfl
  have F29 := fun_mk (st := s_Tree_paths) l29 c29 k29
  have b29 := F29.binds (ps := ["self"]) fun _ _ _ _ _ _ us hl => match us, hl with | [_], _ => rfl
  have F30 := fun_mk (st := s_Tree_write) l30 c30 k30
  have b30 := F30.binds (ps := ["self", "path", "text", "by"]) fun _ _ _ _ _ _ us hl => match us, hl with | [_, _, _, _], _ => rfl
  have F31 := fun_mk (st := s_Tree_link) l31 c31 k31
  have b31 := F31.binds (ps := ["self", "path", "target"]) fun _ _ _ _ _ _ us hl => match us, hl with | [_, _, _], _ => rfl
  have F32 : FunD K "__init__" "Store.__init__" (defArgs s_Store___init__) (defBody s_Store___init__) (defScope s_Store___init__) [.non] [] f32 _ := ⟨⟨_, _, _, _, _, _, _, _, _, _, rfl, l32, c32, Kn.dfl_one dl32 rfl, .inl rfl⟩, k32⟩
  obtain ⟨ds32, rd32, b32⟩ := F32.binds1 (ps := ["self", "journal"]) 1 0 (by simp) rfl (fun _ _ _ _ _ _ _ us its hl hi => match us, hl, its, hi with | [_], _, [_], _ => ⟨_, rfl, rfl⟩)
  have F33 := fun_mk (st := s_Store_record_count) l33 c33 k33
  have b33 := F33.binds (ps := ["self"]) fun _ _ _ _ _ _ us hl => match us, hl with | [_], _ => rfl
  have F34 := fun_mk (st := s_Store_kept_records) l34 c34 k34
  have b34 := F34.binds (ps := ["self"]) fun _ _ _ _ _ _ us hl => match us, hl with | [_], _ => rfl
  have F35 := fun_mk (st := s_Store_kept_texts) l35 c35 k35
  have b35 := F35.binds (ps := ["self"]) fun _ _ _ _ _ _ us hl => match us, hl with | [_], _ => rfl
  have F36 := fun_mk (st := s_Store_content_keys) l36 c36 k36
  have b36 := F36.binds (ps := ["self"]) fun _ _ _ _ _ _ us hl => match us, hl with | [_], _ => rfl
  have F37 := fun_mk (st := s_Store_fill_from) l37 c37 k37
  have b37 := F37.binds (ps := ["self", "texts", "rows"]) fun _ _ _ _ _ _ us hl => match us, hl with | [_, _, _], _ => rfl
  have F38 := fun_mk (st := s__entry_line) l38 c38 k38
  have b38 := F38.binds (ps := ["tree", "path"]) fun _ _ _ _ _ _ us hl => match us, hl with | [_, _], _ => rfl
  have F39 := fun_mk (st := s__setting_line) l39 c39 k39
  have b39 := F39.binds (ps := ["name", "text"]) fun _ _ _ _ _ _ us hl => match us, hl with | [_, _], _ => rfl
  have F40 := fun_mk (st := s__content_line) l40 c40 k40
  have b40 := F40.binds (ps := ["right", "kept"]) fun _ _ _ _ _ _ us hl => match us, hl with | [_, _], _ => rfl
  have F41 := fun_mk (st := s__row_line) l41 c41 k41
  have b41 := F41.binds (ps := ["index", "right", "kept"]) fun _ _ _ _ _ _ us hl => match us, hl with | [_, _, _], _ => rfl
  have F42 := fun_mk (st := s__count_line) l42 c42 k42
  have b42 := F42.binds (ps := ["count"]) fun _ _ _ _ _ _ us hl => match us, hl with | [_], _ => rfl
  have F43 := fun_mk (st := s_save_tree) l43 c43 k43
  have b43 := F43.binds (ps := ["tree"]) fun _ _ _ _ _ _ us hl => match us, hl with | [_], _ => rfl
  have F44 := fun_mk (st := s_save_settings) l44 c44 k44
  have b44 := F44.binds (ps := ["settings"]) fun _ _ _ _ _ _ us hl => match us, hl with | [_], _ => rfl
  have F45 := fun_mk (st := s_save_store) l45 c45 k45
  have b45 := F45.binds (ps := ["store"]) fun _ _ _ _ _ _ us hl => match us, hl with | [_], _ => rfl
  have F46 := fun_mk (st := s__parts) l46 c46 k46
  have b46 := F46.binds (ps := ["line"]) fun _ _ _ _ _ _ us hl => match us, hl with | [_], _ => rfl
  have F47 := fun_mk (st := s__is_number) l47 c47 k47
  have b47 := F47.binds (ps := ["word"]) fun _ _ _ _ _ _ us hl => match us, hl with | [_], _ => rfl
  have F48 := fun_mk (st := s__read_entry) l48 c48 k48
  have b48 := F48.binds (ps := ["tree", "line"]) fun _ _ _ _ _ _ us hl => match us, hl with | [_, _], _ => rfl
  have F49 := fun_mk (st := s__read_setting) l49 c49 k49
  have b49 := F49.binds (ps := ["settings", "line"]) fun _ _ _ _ _ _ us hl => match us, hl with | [_, _], _ => rfl
  have F50 := fun_mk (st := s__read_lines) l50 c50 k50
  have b50 := F50.binds (ps := ["text", "read_line", "found"]) fun _ _ _ _ _ _ us hl => match us, hl with | [_, _, _], _ => rfl
  have F51 := fun_mk (st := s_load_tree) l51 c51 k51
  have b51 := F51.binds (ps := ["text"]) fun _ _ _ _ _ _ us hl => match us, hl with | [_], _ => rfl
  have F52 := fun_mk (st := s_load_settings) l52 c52 k52
  have b52 := F52.binds (ps := ["text"]) fun _ _ _ _ _ _ us hl => match us, hl with | [_], _ => rfl
  have F53 := fun_mk (st := s_StoreReader___init__) l53 c53 k53
  have b53 := F53.binds (ps := ["self"]) fun _ _ _ _ _ _ us hl => match us, hl with | [_], _ => rfl
  have F54 := fun_mk (st := s_StoreReader__read_content) l54 c54 k54
  have b54 := F54.binds (ps := ["self", "right", "kept"]) fun _ _ _ _ _ _ us hl => match us, hl with | [_, _, _], _ => rfl
  have F55 := fun_mk (st := s_StoreReader__read_record) l55 c55 k55
  have b55 := F55.binds (ps := ["self", "index", "right", "kept"]) fun _ _ _ _ _ _ us hl => match us, hl with | [_, _, _, _], _ => rfl
  have F56 := fun_mk (st := s_StoreReader__read_count) l56 c56 k56
  have b56 := F56.binds (ps := ["self", "count"]) fun _ _ _ _ _ _ us hl => match us, hl with | [_, _], _ => rfl
  have F57 := fun_mk (st := s_StoreReader_read) l57 c57 k57
  have b57 := F57.binds (ps := ["self", "line"]) fun _ _ _ _ _ _ us hl => match us, hl with | [_, _], _ => rfl
  have F58 := fun_mk (st := s_load_store) l58 c58 k58
  have b58 := F58.binds (ps := ["text"]) fun _ _ _ _ _ _ us hl => match us, hl with | [_], _ => rfl
  have F59 := fun_mk (st := s__law_cell) l59 c59 k59
  have b59 := F59.binds (ps := ["script", "k"]) fun _ _ _ _ _ _ us hl => match us, hl with | [_, _], _ => rfl
  have F60 := fun_mk (st := s__law_lines) l60 c60 k60
  have b60 := F60.binds (ps := ["kind", "cell"]) fun _ _ _ _ _ _ us hl => match us, hl with | [_, _], _ => rfl
  have F61 := fun_mk (st := s__law_spoilt) l61 c61 k61
  have b61 := F61.binds (ps := ["lines", "way", "at", "cell"]) fun _ _ _ _ _ _ us hl => match us, hl with | [_, _, _, _], _ => rfl
  have F62 := fun_mk (st := s__law_loaded) l62 c62 k62
  have b62 := F62.binds (ps := ["kind", "text"]) fun _ _ _ _ _ _ us hl => match us, hl with | [_, _], _ => rfl
  have F63 := fun_mk (st := s_law) l63 c63 k63
  have b63 := F63.binds (ps := ["script"]) fun _ _ _ _ _ _ us hl => match us, hl with | [_], _ => rfl
  have W_ESCAPES : Kn.WD K w mg "ESCAPES" D_ESCAPES escF := Kn.wd_of (PySem.W.mg_of X G zd_ESCAPES) zl_ESCAPES zo_ESCAPES zk_ESCAPES ze_ESCAPES
  have gW : mg "WRITERS" = some (.ref AW) := PySem.W.mg_of X G zw
  have sW : ∀ H : Hp, SqT K H AW [.str (S ePerson), .str (S eBuild)] := fun H => .inr ⟨_, itW, nW, zwl, rfl, rfl, (Nat.le_trans (Nat.le_of_eq (show itW.size = 2 from (show 2 = itW.size by simpa using zwv.length).symm)) (by decide)), zwv⟩
  refine ⟨PySem.W.fnOf "law" "law" (defArgs s_law) (defBody s_law) (defScope s_law) .none kV63 dc63 pm63 an63 cd63 ct63, fun s v => .of_eq rfl, fun base _ _ => ?_⟩
  have Z_InvalidPath : Kn.Xk l.prog w K mg base 1 "InvalidPath" GX.c_InvalidPath (sp_I1 "path" K) := ⟨x_InvalidPath.oe, _, _, _, a0, i0, ok_InvalidPath___init__ F0 T GX TC_Tree TC_Store TC_StoreReader, b0, PySem.W.mg_of X G xa_InvalidPath⟩
  have Z_InvalidContent : Kn.Xk l.prog w K mg base 1 "InvalidContent" GX.c_InvalidContent (sp_I1 "path" K) := ⟨x_InvalidContent.oe, _, _, _, a1, i1, ok_InvalidContent___init__ F1 T GX TC_Tree TC_Store TC_StoreReader, b1, PySem.W.mg_of X G xa_InvalidContent⟩
  have Z_TreeFull : Kn.Xk l.prog w K mg base 1 "TreeFull" GX.c_TreeFull (sp_I1 "path" K) := ⟨x_TreeFull.oe, _, _, _, a2, i2, ok_TreeFull___init__ F2 T GX TC_Tree TC_Store TC_StoreReader, b2, PySem.W.mg_of X G xa_TreeFull⟩
  have Z_InvalidRecipe : Kn.Xk l.prog w K mg base 1 "InvalidRecipe" GX.c_InvalidRecipe (sp_I4 K) := ⟨x_InvalidRecipe.oe, _, _, _, a3, i3, ok_InvalidRecipe___init__ F3 T GX TC_Tree TC_Store TC_StoreReader, b3, PySem.W.mg_of X G xa_InvalidRecipe⟩
  have Z_InvalidSave : Kn.Xk l.prog w K mg base 1 "InvalidSave" GX.c_InvalidSave (sp_I1z "line" K) := ⟨x_InvalidSave.oe, _, _, _, a4, i4, ok_InvalidSave___init__ F4 T GX TC_Tree TC_Store TC_StoreReader, b4, PySem.W.mg_of X G xa_InvalidSave⟩
  have C__is_code : Kn.Cl l.prog w K mg base 1 "_is_code" (sp__is_code K) := Kn.cl_of (ok__is_code F5 T GX TC_Tree TC_Store TC_StoreReader) F5 (PySem.W.mg_of X G a5) b5
  have C_is_text : Kn.Cl l.prog w K mg base 2 "is_text" (sp_is_text K) := Kn.cl_of (ok_is_text F6 T GX TC_Tree TC_Store TC_StoreReader C__is_code) F6 (PySem.W.mg_of X G a6) b6
  have C_is_content : Kn.Cl l.prog w K mg base 3 "is_content" (sp_is_content K) := Kn.cl_of (ok_is_content F7 T GX TC_Tree TC_Store TC_StoreReader C_is_text) F7 (PySem.W.mg_of X G a7) b7
  have C_content_key : Kn.Cl l.prog w K mg base 1 "content_key" (sp_content_key K) := Kn.cl_of (ok_content_key F8 T GX TC_Tree TC_Store TC_StoreReader hdig) F8 (PySem.W.mg_of X G a8) b8
  have C__codes : Kn.Cl l.prog w K mg base 1 "_codes" (sp__codes K) := Kn.cl_of (ok__codes F9 T GX TC_Tree TC_Store TC_StoreReader hdig) F9 (PySem.W.mg_of X G a9) b9
  have C__sign : Kn.Cl l.prog w K mg base 1 "_sign" (sp__sign K) := Kn.cl_of (ok__sign F10 T GX TC_Tree TC_Store TC_StoreReader) F10 (PySem.W.mg_of X G a10) b10
  have C_key_text : Kn.Cl l.prog w K mg base 2 "key_text" (sp_key_text K) := Kn.cl_of (ok_key_text F11 T GX TC_Tree TC_Store TC_StoreReader C__codes C__is_code C__sign) F11 (PySem.W.mg_of X G a11) b11
  have C_format_string : Kn.Cl l.prog w K mg base 1 "format_string" (sp_format_string K) := Kn.cl_of (ok_format_string F12 T GX TC_Tree TC_Store TC_StoreReader) F12 (PySem.W.mg_of X G a12) b12
  have C__skip_spaces : Kn.Cl l.prog w K mg base 1 "_skip_spaces" (sp__skip_spaces K) := Kn.cl_of (ok__skip_spaces F13 T GX TC_Tree TC_Store TC_StoreReader) F13 (PySem.W.mg_of X G a13) b13
  have C__string_part : Kn.ClX l.prog w K mg base 3 "_string_part" (sp__string_part GX) := Kn.clX_of (ok__string_part F14 T GX TC_Tree TC_Store TC_StoreReader Z_InvalidRecipe W_ESCAPES) F14 (PySem.W.mg_of X G a14) b14
  have C__string : Kn.ClX l.prog w K mg base 4 "_string" (sp__string GX) := Kn.clX_of (ok__string F15 T GX TC_Tree TC_Store TC_StoreReader C__string_part Z_InvalidRecipe) F15 (PySem.W.mg_of X G a15) b15
  have C__token : Kn.ClX l.prog w K mg base 5 "_token" (sp__token GX) := Kn.clX_of (ok__token F16 T GX TC_Tree TC_Store TC_StoreReader C__string) F16 (PySem.W.mg_of X G a16) b16
  have C_scan_line : Kn.ClX l.prog w K mg base 6 "scan_line" (sp_scan_line GX) := Kn.clX_of (ok_scan_line F17 T GX TC_Tree TC_Store TC_StoreReader C__skip_spaces C__token) F17 (PySem.W.mg_of X G a17) b17
  have C_is_identifier : Kn.Cl l.prog w K mg base 1 "is_identifier" (sp_is_identifier K) := Kn.cl_of (ok_is_identifier F18 T GX TC_Tree TC_Store TC_StoreReader) F18 (PySem.W.mg_of X G a18) b18
  have C__is_name : Kn.Cl l.prog w K mg base 1 "_is_name" (sp__is_name K) := Kn.cl_of (ok__is_name F19 T GX TC_Tree TC_Store TC_StoreReader) F19 (PySem.W.mg_of X G a19) b19
  have C_is_path : Kn.Cl l.prog w K mg base 2 "is_path" (sp_is_path K) := Kn.cl_of (ok_is_path F20 T GX TC_Tree TC_Store TC_StoreReader C__is_name) F20 (PySem.W.mg_of X G a20) b20
  have C_lines_of : Kn.Cl l.prog w K mg base 1 "lines_of" (sp_lines_of K) := Kn.cl_of (ok_lines_of F21 T GX TC_Tree TC_Store TC_StoreReader) F21 (PySem.W.mg_of X G a21) b21
  have C__is_persons : Kn.Cl l.prog w K mg base 1 "_is_persons" (sp__is_persons K) := Kn.cl_of (ok__is_persons F22 T GX TC_Tree TC_Store TC_StoreReader) F22 (PySem.W.mg_of X G a22) b22
  have M_Tree : Kn.Mkr l.prog w K mg base 1 "Tree" C_Tree (sp_Tree___init__ C_Tree K) := ⟨_, _, _, ⟨mk_Tree, a23, i23, kc_Tree⟩, ok_Tree___init__ F23 T GX TC_Tree TC_Store TC_StoreReader, PySem.W.mg_of X G aC_Tree, b23⟩
  have M_Tree_kind : Kn.Mt l.prog w K mg base 1 C_Tree "kind" (sp_Tree_kind C_Tree K) := ⟨_, _, _, TC_Tree.cl, ⟨a24, i24, k24⟩, ok_Tree_kind F24 T GX TC_Tree TC_Store TC_StoreReader, b24⟩
  have M_Tree_read : Kn.Mt l.prog w K mg base 2 C_Tree "read" (sp_Tree_read C_Tree K) := ⟨_, _, _, TC_Tree.cl, ⟨a25, i25, k25⟩, ok_Tree_read F25 T GX TC_Tree TC_Store TC_StoreReader M_Tree_kind, b25⟩
  have M_Tree_writer : Kn.Mt l.prog w K mg base 2 C_Tree "writer" (sp_Tree_writer C_Tree K) := ⟨_, _, _, TC_Tree.cl, ⟨a26, i26, k26⟩, ok_Tree_writer F26 T GX TC_Tree TC_Store TC_StoreReader M_Tree_kind, b26⟩
  have M_Tree_target : Kn.Mt l.prog w K mg base 2 C_Tree "target" (sp_Tree_target C_Tree K) := ⟨_, _, _, TC_Tree.cl, ⟨a27, i27, k27⟩, ok_Tree_target F27 T GX TC_Tree TC_Store TC_StoreReader M_Tree_kind, b27⟩
  have M_Tree__has_room : Kn.Mt l.prog w K mg base 2 C_Tree "_has_room" (sp_Tree__has_room C_Tree K) := ⟨_, _, _, TC_Tree.cl, ⟨a28, i28, k28⟩, ok_Tree__has_room F28 T GX TC_Tree TC_Store TC_StoreReader C__is_persons, b28⟩
  have M_Tree_paths : Kn.Mt l.prog w K mg base 1 C_Tree "paths" (sp_Tree_paths C_Tree K) := ⟨_, _, _, TC_Tree.cl, ⟨a29, i29, k29⟩, ok_Tree_paths F29 T GX TC_Tree TC_Store TC_StoreReader, b29⟩
  have M_Tree_write : Kn.MtX l.prog w K mg base 4 C_Tree "write" (sp_Tree_write C_Tree GX) := ⟨_, _, _, TC_Tree.cl, ⟨a30, i30, k30⟩, ok_Tree_write F30 T GX TC_Tree TC_Store TC_StoreReader C_is_path C_is_content M_Tree__has_room Z_InvalidPath Z_InvalidContent Z_TreeFull, b30⟩
  have M_Tree_link : Kn.MtX l.prog w K mg base 3 C_Tree "link" (sp_Tree_link C_Tree GX) := ⟨_, _, _, TC_Tree.cl, ⟨a31, i31, k31⟩, ok_Tree_link F31 T GX TC_Tree TC_Store TC_StoreReader C_is_path M_Tree__has_room Z_InvalidPath Z_TreeFull, b31⟩
  have M_Store : Kn.MkrD l.prog w K mg base 1 "Store" C_Store (sp_Store___init__ C_Store K) [.non] := ⟨_, _, _, _, ⟨mk_Store, a32, i32, kc_Store⟩, ok_Store___init__ F32 T GX TC_Tree TC_Store TC_StoreReader, PySem.W.mg_of X G aC_Store, b32, rd32⟩
  have M_Store_record_count : Kn.Mt l.prog w K mg base 1 C_Store "record_count" (sp_Store_record_count C_Store K) := ⟨_, _, _, TC_Store.cl, ⟨a33, i33, k33⟩, ok_Store_record_count F33 T GX TC_Tree TC_Store TC_StoreReader, b33⟩
  have M_Store_kept_records : Kn.Mt l.prog w K mg base 1 C_Store "kept_records" (sp_Store_kept_records C_Store K) := ⟨_, _, _, TC_Store.cl, ⟨a34, i34, k34⟩, ok_Store_kept_records F34 T GX TC_Tree TC_Store TC_StoreReader, b34⟩
  have M_Store_kept_texts : Kn.Mt l.prog w K mg base 1 C_Store "kept_texts" (sp_Store_kept_texts C_Store K) := ⟨_, _, _, TC_Store.cl, ⟨a35, i35, k35⟩, ok_Store_kept_texts F35 T GX TC_Tree TC_Store TC_StoreReader, b35⟩
  have M_Store_content_keys : Kn.Mt l.prog w K mg base 1 C_Store "content_keys" (sp_Store_content_keys C_Store K) := ⟨_, _, _, TC_Store.cl, ⟨a36, i36, k36⟩, ok_Store_content_keys F36 T GX TC_Tree TC_Store TC_StoreReader, b36⟩
  have M_Store_fill_from : Kn.Mt l.prog w K mg base 1 C_Store "fill_from" (sp_Store_fill_from C_Store K) := ⟨_, _, _, TC_Store.cl, ⟨a37, i37, k37⟩, ok_Store_fill_from F37 T GX TC_Tree TC_Store TC_StoreReader, b37⟩
  have C__entry_line : Kn.Cl l.prog w K mg base 3 "_entry_line" (sp__entry_line C_Tree K) := Kn.cl_of (ok__entry_line F38 T GX TC_Tree TC_Store TC_StoreReader M_Tree_kind M_Tree_target M_Tree_writer M_Tree_read C_format_string) F38 (PySem.W.mg_of X G a38) b38
  have C__setting_line : Kn.Cl l.prog w K mg base 2 "_setting_line" (sp__setting_line K) := Kn.cl_of (ok__setting_line F39 T GX TC_Tree TC_Store TC_StoreReader C_format_string) F39 (PySem.W.mg_of X G a39) b39
  have C__content_line : Kn.Cl l.prog w K mg base 2 "_content_line" (sp__content_line K) := Kn.cl_of (ok__content_line F40 T GX TC_Tree TC_Store TC_StoreReader C_format_string) F40 (PySem.W.mg_of X G a40) b40
  have C__row_line : Kn.Cl l.prog w K mg base 2 "_row_line" (sp__row_line K) := Kn.cl_of (ok__row_line F41 T GX TC_Tree TC_Store TC_StoreReader C_format_string) F41 (PySem.W.mg_of X G a41) b41
  have C__count_line : Kn.Cl l.prog w K mg base 1 "_count_line" (sp__count_line K) := Kn.cl_of (ok__count_line F42 T GX TC_Tree TC_Store TC_StoreReader) F42 (PySem.W.mg_of X G a42) b42
  have C_save_tree : Kn.Cl l.prog w K mg base 4 "save_tree" (sp_save_tree C_Tree K) := Kn.cl_of (ok_save_tree F43 T GX TC_Tree TC_Store TC_StoreReader C__entry_line M_Tree_paths) F43 (PySem.W.mg_of X G a43) b43
  have C_save_settings : Kn.Cl l.prog w K mg base 3 "save_settings" (sp_save_settings K) := Kn.cl_of (ok_save_settings F44 T GX TC_Tree TC_Store TC_StoreReader C__setting_line) F44 (PySem.W.mg_of X G a44) b44
  have C_save_store : Kn.Cl l.prog w K mg base 4 "save_store" (sp_save_store C_Store K) := Kn.cl_of (ok_save_store F45 T GX TC_Tree TC_Store TC_StoreReader M_Store_kept_texts C__content_line C_key_text M_Store_content_keys M_Store_kept_records C__row_line C__count_line M_Store_record_count) F45 (PySem.W.mg_of X G a45) b45
  have C__parts : Kn.Cl l.prog w K mg base 7 "_parts" (sp__parts GX) := Kn.cl_of (ok__parts F46 T GX TC_Tree TC_Store TC_StoreReader C_scan_line) F46 (PySem.W.mg_of X G a46) b46
  have C__is_number : Kn.Cl l.prog w K mg base 1 "is_number_saving" (sp__is_number K) := ⟨_, _, _, ok__is_number F47 T GX TC_Tree TC_Store TC_StoreReader, (PySem.W.mg_of X G a47), F47.kp, b47⟩
  have C__read_entry : Kn.Cl l.prog w K mg base 8 "_read_entry" (sp__read_entry C_Tree GX) := Kn.cl_of (ok__read_entry F48 T GX TC_Tree TC_Store TC_StoreReader C__parts M_Tree_link M_Tree_write C__entry_line (PySem.W.exm_ref bex bhd bty xkB_InvalidPath) (PySem.W.exm_ref bex bhd bty xkB_InvalidContent) gW sW) F48 (PySem.W.mg_of X G a48) b48
  have C__read_setting : Kn.Cl l.prog w K mg base 8 "_read_setting" (sp__read_setting GX) := Kn.cl_of (ok__read_setting F49 T GX TC_Tree TC_Store TC_StoreReader C__parts C_is_identifier C_is_content C__setting_line) F49 (PySem.W.mg_of X G a49) b49
  obtain ⟨S_, hSd⟩ : ∃ S_ : Addr → Option Sp, S_ = fun f => if f = f48 then some (sp__read_entry C_Tree GX) else if f = f49 then some (sp__read_setting GX) else none := ⟨_, rfl⟩
  have hSe : S_ f48 = some (sp__read_entry C_Tree GX) := by rw [hSd]; exact if_pos rfl
  have hSs : S_ f49 = some (sp__read_setting GX) := by rw [hSd]; exact (if_neg fne).trans (if_pos rfl)
  have A_ : ∀ f sp, S_ f = some sp → Held l.prog w K mg base 8 f sp := by
    intro f sp h
    by_cases h1 : f = f48
    · rw [h1] at h ⊢
      cases hSe.symm.trans h
      exact ⟨⟨_, _, ok__read_entry F48 T GX TC_Tree TC_Store TC_StoreReader C__parts M_Tree_link M_Tree_write C__entry_line (PySem.W.exm_ref bex bhd bty xkB_InvalidPath) (PySem.W.exm_ref bex bhd bty xkB_InvalidContent) gW sW, k48, b48⟩⟩
    · by_cases h2 : f = f49
      · rw [h2] at h ⊢
        cases hSs.symm.trans h
        exact ⟨⟨_, _, ok__read_setting F49 T GX TC_Tree TC_Store TC_StoreReader C__parts C_is_identifier C_is_content C__setting_line, k49, b49⟩⟩
      · rw [hSd] at h
        have h : (if f = f48 then some (sp__read_entry C_Tree GX) else if f = f49 then some (sp__read_setting GX) else none) = some sp := h
        rw [if_neg h1, if_neg h2] at h
        cases h
  have C__read_lines : Kn.ClX l.prog w K mg base 9 "_read_lines" (sp__read_lines S_ GX) := Kn.clX_of (ok__read_lines F50 T GX TC_Tree TC_Store TC_StoreReader C_lines_of Z_InvalidSave A_) F50 (PySem.W.mg_of X G a50) b50
  have C_load_tree : Kn.ClX l.prog w K mg base 10 "load_tree" (sp_load_tree C_Tree GX) := Kn.clX_of (ok_load_tree F51 T GX TC_Tree TC_Store TC_StoreReader C__read_lines M_Tree (PySem.W.mg_of X G a48) hSe) F51 (PySem.W.mg_of X G a51) b51
  have C_load_settings : Kn.ClX l.prog w K mg base 10 "load_settings" (sp_load_settings GX) := Kn.clX_of (ok_load_settings F52 T GX TC_Tree TC_Store TC_StoreReader C__read_lines (PySem.W.mg_of X G a49) hSs) F52 (PySem.W.mg_of X G a52) b52
  have M_StoreReader : Kn.Mkr l.prog w K mg base 1 "StoreReader" C_StoreReader (sp_StoreReader___init__ C_StoreReader K) := ⟨_, _, _, ⟨mk_StoreReader, a53, i53, kc_StoreReader⟩, ok_StoreReader___init__ F53 T GX TC_Tree TC_Store TC_StoreReader, PySem.W.mg_of X G aC_StoreReader, b53⟩
  have M_StoreReader__read_content : Kn.Mt l.prog w K mg base 3 C_StoreReader "_read_content" (sp_StoreReader__read_content C_StoreReader K) := ⟨_, _, _, TC_StoreReader.cl, ⟨a54, i54, k54⟩, ok_StoreReader__read_content F54 T GX TC_Tree TC_Store TC_StoreReader C_is_text C_content_key, b54⟩
  have M_StoreReader__read_record : Kn.Mt l.prog w K mg base 3 C_StoreReader "_read_record" (sp_StoreReader__read_record C_StoreReader K) := ⟨_, _, _, TC_StoreReader.cl, ⟨a55, i55, k55⟩, ok_StoreReader__read_record F55 T GX TC_Tree TC_Store TC_StoreReader C_is_text C_content_key, b55⟩
  have M_StoreReader__read_count : Kn.Mt l.prog w K mg base 1 C_StoreReader "_read_count" (sp_StoreReader__read_count C_StoreReader K) := ⟨_, _, _, TC_StoreReader.cl, ⟨a56, i56, k56⟩, ok_StoreReader__read_count F56 T GX TC_Tree TC_Store TC_StoreReader, b56⟩
  have M_StoreReader_read : Kn.Mt l.prog w K mg base 8 C_StoreReader "read" (sp_StoreReader_read C_StoreReader GX) := ⟨_, _, _, TC_StoreReader.cl, ⟨a57, i57, k57⟩, ok_StoreReader_read F57 T GX TC_Tree TC_Store TC_StoreReader C__parts C__content_line M_StoreReader__read_content C__is_number C__row_line M_StoreReader__read_record C__count_line M_StoreReader__read_count, b57⟩
  have C_load_store : Kn.ClX l.prog w K mg base 9 "load_store" (sp_load_store C_Store C_StoreReader GX) := Kn.clX_of (ok_load_store F58 T GX TC_Tree TC_Store TC_StoreReader M_StoreReader C_lines_of M_StoreReader_read M_Store M_Store_fill_from Z_InvalidSave) F58 (PySem.W.mg_of X G a58) b58
  have C__law_cell : Kn.Cl l.prog w K mg base 1 "_law_cell" (sp__law_cell K) := Kn.cl_of (ok__law_cell F59 T GX TC_Tree TC_Store TC_StoreReader) F59 (PySem.W.mg_of X G a59) b59
  have C__law_lines : Kn.Cl l.prog w K mg base 1 "_law_lines" (sp__law_lines K) := Kn.cl_of (ok__law_lines F60 T GX TC_Tree TC_Store TC_StoreReader) F60 (PySem.W.mg_of X G a60) b60
  have C__law_spoilt : Kn.Cl l.prog w K mg base 1 "_law_spoilt" (sp__law_spoilt K) := Kn.cl_of (ok__law_spoilt F61 T GX TC_Tree TC_Store TC_StoreReader) F61 (PySem.W.mg_of X G a61) b61
  have C__law_loaded : Kn.Cl l.prog w K mg base 11 "_law_loaded" (sp__law_loaded GX) := Kn.cl_of (ok__law_loaded F62 T GX TC_Tree TC_Store TC_StoreReader C_save_tree C_load_tree C_save_settings C_load_settings C_save_store C_load_store) F62 (PySem.W.mg_of X G a62) b62
  exact ok_law F63 T GX TC_Tree TC_Store TC_StoreReader C__law_cell C__law_lines C__law_loaded C__law_spoilt
end My
def PySem.W.Fast.tw15710342833047775171 : Unit := ()
def PySem.W.Fast.tw10958779189730513542 : Unit := ()
def PySem.W.Fast.tw4138372266073896007 : Unit := ()
def PySem.W.Fast.tw14887038814545790952 : Unit := ()
def PySem.W.Fast.tw366940931173198665 : Unit := ()
def PySem.W.Fast.tw2740527509095679466 : Unit := ()
def PySem.W.Fast.tw11232726170219252043 : Unit := ()
def PySem.W.Fast.tw1246714027744824556 : Unit := ()
def PySem.W.Fast.tw5963465331435559119 : Unit := ()
def PySem.W.Fast.tw6962081547850416400 : Unit := ()
def PySem.W.Fast.tw16538641913713477233 : Unit := ()
def PySem.W.Fast.tw16984057133500670386 : Unit := ()
def PySem.W.Fast.tw2343661839908844114 : Unit := ()
def PySem.W.Fast.tw13974019331258767379 : Unit := ()
def PySem.W.Fast.tw12091156438130951956 : Unit := ()
def PySem.W.Fast.tw2711999285254083224 : Unit := ()
def PySem.W.Fast.tw5755960224979016121 : Unit := ()
def PySem.W.Fast.tw3668918733238001338 : Unit := ()
def PySem.W.Fast.tw17110739743280472828 : Unit := ()
def PySem.W.Fast.tw16350891424902434588 : Unit := ()
def PySem.W.Fast.tw8515667558774065725 : Unit := ()
def PySem.W.Fast.tw6768781801467272029 : Unit := ()
def PySem.W.Fast.tw1285844615410671230 : Unit := ()
def PySem.W.Fast.tw2859728631317853886 : Unit := ()
def PySem.W.Fast.tw5593631693409093791 : Unit := ()
def PySem.W.Fast.tw4721487238660751711 : Unit := ()
def PySem.W.Fast.tw6492337244692912991 : Unit := ()
open PySem PySem.W PyProof.Rows
set_option maxHeartbeats 0 in
theorem PySem.Challenge.cw_kilnyard_k39_what_is_not_a_saved_form_holds : PySem.Challenge.rw_kilnyard_k39_what_is_not_a_saved_form.Holds := by
  w_on; o_law; k_head; (case hw => w_witness2)
  k_fill
  refine L2.walk_of (l := PySem.Challenge.rw_kilnyard_k39_what_is_not_a_saved_form) (n := 63) (k := 12) (x := "script") (CX := fun _ => L2.CX0) (sp := fun w => My.sp_law _) rfl (by decide) rfl ⟨rfl, by decide, by decide⟩ (fun w h Y => PySem.W.kIn_of Y) ?F (fun _ _ a ns hl _ hS => ⟨a, ns, rfl, ⟨hS, hl⟩, fun _ _ => rfl⟩) (fun _ _ _ _ _ h => h)
  case F =>
    intro w mg fa h KX G hmg
    refine' My.all_mk KX G hmg ?aC_Tree ?pg_Tree ?hdi_Tree ?po_Tree ?sa_Tree ?mk_Tree ?kc_Tree ?na_entries_Tree ?aC_Store ?pg_Store ?hdi_Store ?po_Store ?sa_Store ?mk_Store ?kc_Store ?na_journal_Store ?na__texts_Store ?na__rows_Store ?aC_StoreReader ?pg_StoreReader ?hdi_StoreReader ?po_StoreReader ?sa_StoreReader ?mk_StoreReader ?kc_StoreReader ?na_texts_StoreReader ?na_rows_StoreReader ?na_last_key_StoreReader ?na_last_index_StoreReader ?na_count_StoreReader ?aB ?bsp ?brd ?bfi ?bhd ?bty ?xgs ?xtk ?xa_InvalidPath ?xL_InvalidPath ?xsa_InvalidPath ?xex_InvalidPath ?xty_InvalidPath ?xkc_InvalidPath ?xnpath_InvalidPath ?xga_InvalidPath ?xgg_InvalidPath ?xhd_InvalidPath ?xcl_InvalidPath ?xmr_InvalidPath ?xcc_InvalidPath ?xkB_InvalidPath ?xa_InvalidContent ?xL_InvalidContent ?xsa_InvalidContent ?xex_InvalidContent ?xty_InvalidContent ?xkc_InvalidContent ?xnpath_InvalidContent ?xga_InvalidContent ?xgg_InvalidContent ?xhd_InvalidContent ?xcl_InvalidContent ?xmr_InvalidContent ?xcc_InvalidContent ?xkB_InvalidContent ?xa_TreeFull ?xL_TreeFull ?xsa_TreeFull ?xex_TreeFull ?xty_TreeFull ?xkc_TreeFull ?xnpath_TreeFull ?xga_TreeFull ?xgg_TreeFull ?xhd_TreeFull ?xcl_TreeFull ?xmr_TreeFull ?xcc_TreeFull ?xkB_TreeFull ?xa_InvalidRecipe ?xL_InvalidRecipe ?xsa_InvalidRecipe ?xex_InvalidRecipe ?xty_InvalidRecipe ?xkc_InvalidRecipe ?xnpath_InvalidRecipe ?xnline_InvalidRecipe ?xncolumn_InvalidRecipe ?xnreason_InvalidRecipe ?xga_InvalidRecipe ?xgg_InvalidRecipe ?xhd_InvalidRecipe ?xcl_InvalidRecipe ?xmr_InvalidRecipe ?xcc_InvalidRecipe ?xkB_InvalidRecipe ?xa_InvalidSave ?xL_InvalidSave ?xsa_InvalidSave ?xex_InvalidSave ?xty_InvalidSave ?xkc_InvalidSave ?xnline_InvalidSave ?xga_InvalidSave ?xgg_InvalidSave ?xhd_InvalidSave ?xcl_InvalidSave ?xmr_InvalidSave ?xcc_InvalidSave ?xkB_InvalidSave ?xp_InvalidSave_InvalidRecipe ?a0 ?i0 ?l0 ?c0 ?k0 ?a1 ?i1 ?l1 ?c1 ?k1 ?a2 ?i2 ?l2 ?c2 ?k2 ?a3 ?i3 ?l3 ?c3 ?k3 ?a4 ?i4 ?l4 ?c4 ?k4 ?a5 ?l5 ?c5 ?k5 ?a6 ?l6 ?c6 ?k6 ?a7 ?l7 ?c7 ?k7 ?a8 ?l8 ?c8 ?k8 ?a9 ?l9 ?c9 ?k9 ?a10 ?l10 ?c10 ?k10 ?a11 ?l11 ?c11 ?k11 ?a12 ?l12 ?c12 ?k12 ?a13 ?l13 ?c13 ?k13 ?a14 ?l14 ?c14 ?k14 ?a15 ?l15 ?c15 ?k15 ?a16 ?l16 ?c16 ?k16 ?a17 ?l17 ?c17 ?k17 ?a18 ?l18 ?c18 ?k18 ?a19 ?l19 ?c19 ?k19 ?a20 ?l20 ?c20 ?k20 ?a21 ?l21 ?c21 ?k21 ?a22 ?l22 ?c22 ?k22 ?a23 ?i23 ?l23 ?c23 ?k23 ?a24 ?i24 ?l24 ?c24 ?k24 ?a25 ?i25 ?l25 ?c25 ?k25 ?a26 ?i26 ?l26 ?c26 ?k26 ?a27 ?i27 ?l27 ?c27 ?k27 ?a28 ?i28 ?l28 ?c28 ?k28 ?a29 ?i29 ?l29 ?c29 ?k29 ?a30 ?i30 ?l30 ?c30 ?k30 ?a31 ?i31 ?l31 ?c31 ?k31 ?a32 ?i32 ?l32 ?dl32 ?c32 ?k32 ?a33 ?i33 ?l33 ?c33 ?k33 ?a34 ?i34 ?l34 ?c34 ?k34 ?a35 ?i35 ?l35 ?c35 ?k35 ?a36 ?i36 ?l36 ?c36 ?k36 ?a37 ?i37 ?l37 ?c37 ?k37 ?a38 ?l38 ?c38 ?k38 ?a39 ?l39 ?c39 ?k39 ?a40 ?l40 ?c40 ?k40 ?a41 ?l41 ?c41 ?k41 ?a42 ?l42 ?c42 ?k42 ?a43 ?l43 ?c43 ?k43 ?a44 ?l44 ?c44 ?k44 ?a45 ?l45 ?c45 ?k45 ?a46 ?l46 ?c46 ?k46 ?a47 ?l47 ?c47 ?k47 ?a48 ?l48 ?c48 ?k48 ?a49 ?l49 ?c49 ?k49 ?a50 ?l50 ?c50 ?k50 ?a51 ?l51 ?c51 ?k51 ?a52 ?l52 ?c52 ?k52 ?a53 ?i53 ?l53 ?c53 ?k53 ?a54 ?i54 ?l54 ?c54 ?k54 ?a55 ?i55 ?l55 ?c55 ?k55 ?a56 ?i56 ?l56 ?c56 ?k56 ?a57 ?i57 ?l57 ?c57 ?k57 ?a58 ?l58 ?c58 ?k58 ?a59 ?l59 ?c59 ?k59 ?a60 ?l60 ?c60 ?k60 ?a61 ?l61 ?c61 ?k61 ?a62 ?l62 ?c62 ?k62 ?a63 ?l63 ?c63 ?k63 ?zb_abs ?zb_all ?zb_bool ?zb_dict ?zb_enumerate ?zb_int ?zb_isinstance ?zb_len ?zb_list ?zb_max ?zb_ord ?zb_range ?zb_sorted ?zb_str ?zc_CONTENT_LENGTH ?zc_NEWLINE ?zc_SPACE ?zc_PERCENT ?zc_TILDE ?zc_SIGNS_BEFORE ?zc_SIGNS_BEHIND ?zc_DIGIT_BITS ?zc_IDENTIFIER_LENGTH ?zc_LETTERS ?zc_IDENTIFIER_SIGNS ?zc_SIGNS ?zc_QUOTE ?zc_BACKSLASH ?zc_WORD_ENDS ?zc_MOST_NAMES ?zc_NAME_LENGTH ?zc_NAME_SIGNS ?zc_MOST_PERSONS_ENTRIES ?zc_MOST_DIGITS_saving ?zd_ESCAPES ?zl_ESCAPES ?zo_ESCAPES ?zk_ESCAPES ?ze_ESCAPES ?hdig ?zw ?zwl ?zwv ?fne ?bex
    (case aC_Tree => k_is)
    (case pg_Tree => k_is)
    (case hdi_Tree => k_is)
    (case po_Tree => k_is)
    (case sa_Tree => k_is)
    (case mk_Tree => k_is)
    (case kc_Tree => k_is)
    (case na_entries_Tree => k_is)
    (case aC_Store => k_is)
    (case pg_Store => k_is)
    (case hdi_Store => k_is)
    (case po_Store => k_is)
    (case sa_Store => k_is)
    (case mk_Store => k_is)
    (case kc_Store => k_is)
    (case na_journal_Store => k_is)
    (case na__texts_Store => k_is)
    (case na__rows_Store => k_is)
    (case aC_StoreReader => k_is)
    (case pg_StoreReader => k_is)
    (case hdi_StoreReader => k_is)
    (case po_StoreReader => k_is)
    (case sa_StoreReader => k_is)
    (case mk_StoreReader => k_is)
    (case kc_StoreReader => k_is)
    (case na_texts_StoreReader => k_is)
    (case na_rows_StoreReader => k_is)
    (case na_last_key_StoreReader => k_is)
    (case na_last_index_StoreReader => k_is)
    (case na_count_StoreReader => k_is)
    (case aB => k_is)
    (case bsp => k_is)
    (case brd => k_is)
    (case bfi => k_is)
    (case bhd => k_is)
    (case bty => k_is)
    (case xgs => k_is)
    (case xtk => k_is)
    (case xa_InvalidPath => k_is)
    (case xL_InvalidPath => k_is)
    (case xsa_InvalidPath => k_is)
    (case xex_InvalidPath => k_is)
    (case xty_InvalidPath => k_is)
    (case xkc_InvalidPath => k_is)
    (case xnpath_InvalidPath => k_is)
    (case xga_InvalidPath => k_is)
    (case xgg_InvalidPath => k_is)
    (case xhd_InvalidPath => k_is)
    (case xcl_InvalidPath => k_is)
    (case xmr_InvalidPath => k_is)
    (case xcc_InvalidPath => first | rfl | k_is)
    (case xkB_InvalidPath => k_is)
    (case xa_InvalidContent => k_is)
    (case xL_InvalidContent => k_is)
    (case xsa_InvalidContent => k_is)
    (case xex_InvalidContent => k_is)
    (case xty_InvalidContent => k_is)
    (case xkc_InvalidContent => k_is)
    (case xnpath_InvalidContent => k_is)
    (case xga_InvalidContent => k_is)
    (case xgg_InvalidContent => k_is)
    (case xhd_InvalidContent => k_is)
    (case xcl_InvalidContent => k_is)
    (case xmr_InvalidContent => k_is)
    (case xcc_InvalidContent => first | rfl | k_is)
    (case xkB_InvalidContent => k_is)
    (case xa_TreeFull => k_is)
    (case xL_TreeFull => k_is)
    (case xsa_TreeFull => k_is)
    (case xex_TreeFull => k_is)
    (case xty_TreeFull => k_is)
    (case xkc_TreeFull => k_is)
    (case xnpath_TreeFull => k_is)
    (case xga_TreeFull => k_is)
    (case xgg_TreeFull => k_is)
    (case xhd_TreeFull => k_is)
    (case xcl_TreeFull => k_is)
    (case xmr_TreeFull => k_is)
    (case xcc_TreeFull => first | rfl | k_is)
    (case xkB_TreeFull => k_is)
    (case xa_InvalidRecipe => k_is)
    (case xL_InvalidRecipe => k_is)
    (case xsa_InvalidRecipe => k_is)
    (case xex_InvalidRecipe => k_is)
    (case xty_InvalidRecipe => k_is)
    (case xkc_InvalidRecipe => k_is)
    (case xnpath_InvalidRecipe => k_is)
    (case xnline_InvalidRecipe => k_is)
    (case xncolumn_InvalidRecipe => k_is)
    (case xnreason_InvalidRecipe => k_is)
    (case xga_InvalidRecipe => k_is)
    (case xgg_InvalidRecipe => k_is)
    (case xhd_InvalidRecipe => k_is)
    (case xcl_InvalidRecipe => k_is)
    (case xmr_InvalidRecipe => k_is)
    (case xcc_InvalidRecipe => first | rfl | k_is)
    (case xkB_InvalidRecipe => k_is)
    (case xa_InvalidSave => k_is)
    (case xL_InvalidSave => k_is)
    (case xsa_InvalidSave => k_is)
    (case xex_InvalidSave => k_is)
    (case xty_InvalidSave => k_is)
    (case xkc_InvalidSave => k_is)
    (case xnline_InvalidSave => k_is)
    (case xga_InvalidSave => k_is)
    (case xgg_InvalidSave => k_is)
    (case xhd_InvalidSave => k_is)
    (case xcl_InvalidSave => k_is)
    (case xmr_InvalidSave => k_is)
    (case xcc_InvalidSave => first | rfl | k_is)
    (case xkB_InvalidSave => k_is)
    (case xp_InvalidSave_InvalidRecipe => k_is)
    (case a0 => k_is)
    (case i0 => k_is)
    (case l0 => k_is)
    (case c0 => k_is)
    (case k0 => k_is)
    (case a1 => k_is)
    (case i1 => k_is)
    (case l1 => k_is)
    (case c1 => k_is)
    (case k1 => k_is)
    (case a2 => k_is)
    (case i2 => k_is)
    (case l2 => k_is)
    (case c2 => k_is)
    (case k2 => k_is)
    (case a3 => k_is)
    (case i3 => k_is)
    (case l3 => k_is)
    (case c3 => k_is)
    (case k3 => k_is)
    (case a4 => k_is)
    (case i4 => k_is)
    (case l4 => k_is)
    (case c4 => k_is)
    (case k4 => k_is)
    (case a5 => k_is)
    (case l5 => k_is)
    (case c5 => k_is)
    (case k5 => k_is)
    (case a6 => k_is)
    (case l6 => k_is)
    (case c6 => k_is)
    (case k6 => k_is)
    (case a7 => k_is)
    (case l7 => k_is)
    (case c7 => k_is)
    (case k7 => k_is)
    (case a8 => k_is)
    (case l8 => k_is)
    (case c8 => k_is)
    (case k8 => k_is)
    (case a9 => k_is)
    (case l9 => k_is)
    (case c9 => k_is)
    (case k9 => k_is)
    (case a10 => k_is)
    (case l10 => k_is)
    (case c10 => k_is)
    (case k10 => k_is)
    (case a11 => k_is)
    (case l11 => k_is)
    (case c11 => k_is)
    (case k11 => k_is)
    (case a12 => k_is)
    (case l12 => k_is)
    (case c12 => k_is)
    (case k12 => k_is)
    (case a13 => k_is)
    (case l13 => k_is)
    (case c13 => k_is)
    (case k13 => k_is)
    (case a14 => k_is)
    (case l14 => k_is)
    (case c14 => k_is)
    (case k14 => k_is)
    (case a15 => k_is)
    (case l15 => k_is)
    (case c15 => k_is)
    (case k15 => k_is)
    (case a16 => k_is)
    (case l16 => k_is)
    (case c16 => k_is)
    (case k16 => k_is)
    (case a17 => k_is)
    (case l17 => k_is)
    (case c17 => k_is)
    (case k17 => k_is)
    (case a18 => k_is)
    (case l18 => k_is)
    (case c18 => k_is)
    (case k18 => k_is)
    (case a19 => k_is)
    (case l19 => k_is)
    (case c19 => k_is)
    (case k19 => k_is)
    (case a20 => k_is)
    (case l20 => k_is)
    (case c20 => k_is)
    (case k20 => k_is)
    (case a21 => k_is)
    (case l21 => k_is)
    (case c21 => k_is)
    (case k21 => k_is)
    (case a22 => k_is)
    (case l22 => k_is)
    (case c22 => k_is)
    (case k22 => k_is)
    (case a23 => k_is)
    (case i23 => k_is)
    (case l23 => k_is)
    (case c23 => k_is)
    (case k23 => k_is)
    (case a24 => k_is)
    (case i24 => k_is)
    (case l24 => k_is)
    (case c24 => k_is)
    (case k24 => k_is)
    (case a25 => k_is)
    (case i25 => k_is)
    (case l25 => k_is)
    (case c25 => k_is)
    (case k25 => k_is)
    (case a26 => k_is)
    (case i26 => k_is)
    (case l26 => k_is)
    (case c26 => k_is)
    (case k26 => k_is)
    (case a27 => k_is)
    (case i27 => k_is)
    (case l27 => k_is)
    (case c27 => k_is)
    (case k27 => k_is)
    (case a28 => k_is)
    (case i28 => k_is)
    (case l28 => k_is)
    (case c28 => k_is)
    (case k28 => k_is)
    (case a29 => k_is)
    (case i29 => k_is)
    (case l29 => k_is)
    (case c29 => k_is)
    (case k29 => k_is)
    (case a30 => k_is)
    (case i30 => k_is)
    (case l30 => k_is)
    (case c30 => k_is)
    (case k30 => k_is)
    (case a31 => k_is)
    (case i31 => k_is)
    (case l31 => k_is)
    (case c31 => k_is)
    (case k31 => k_is)
    (case a32 => k_is)
    (case i32 => k_is)
    (case l32 => k_is)
    (case dl32 => k_is)
    (case c32 => k_is)
    (case k32 => k_is)
    (case a33 => k_is)
    (case i33 => k_is)
    (case l33 => k_is)
    (case c33 => k_is)
    (case k33 => k_is)
    (case a34 => k_is)
    (case i34 => k_is)
    (case l34 => k_is)
    (case c34 => k_is)
    (case k34 => k_is)
    (case a35 => k_is)
    (case i35 => k_is)
    (case l35 => k_is)
    (case c35 => k_is)
    (case k35 => k_is)
    (case a36 => k_is)
    (case i36 => k_is)
    (case l36 => k_is)
    (case c36 => k_is)
    (case k36 => k_is)
    (case a37 => k_is)
    (case i37 => k_is)
    (case l37 => k_is)
    (case c37 => k_is)
    (case k37 => k_is)
    (case a38 => k_is)
    (case l38 => k_is)
    (case c38 => k_is)
    (case k38 => k_is)
    (case a39 => k_is)
    (case l39 => k_is)
    (case c39 => k_is)
    (case k39 => k_is)
    (case a40 => k_is)
    (case l40 => k_is)
    (case c40 => k_is)
    (case k40 => k_is)
    (case a41 => k_is)
    (case l41 => k_is)
    (case c41 => k_is)
    (case k41 => k_is)
    (case a42 => k_is)
    (case l42 => k_is)
    (case c42 => k_is)
    (case k42 => k_is)
    (case a43 => k_is)
    (case l43 => k_is)
    (case c43 => k_is)
    (case k43 => k_is)
    (case a44 => k_is)
    (case l44 => k_is)
    (case c44 => k_is)
    (case k44 => k_is)
    (case a45 => k_is)
    (case l45 => k_is)
    (case c45 => k_is)
    (case k45 => k_is)
    (case a46 => k_is)
    (case l46 => k_is)
    (case c46 => k_is)
    (case k46 => k_is)
    (case a47 => k_is)
    (case l47 => k_is)
    (case c47 => k_is)
    (case k47 => k_is)
    (case a48 => k_is)
    (case l48 => k_is)
    (case c48 => k_is)
    (case k48 => k_is)
    (case a49 => k_is)
    (case l49 => k_is)
    (case c49 => k_is)
    (case k49 => k_is)
    (case a50 => k_is)
    (case l50 => k_is)
    (case c50 => k_is)
    (case k50 => k_is)
    (case a51 => k_is)
    (case l51 => k_is)
    (case c51 => k_is)
    (case k51 => k_is)
    (case a52 => k_is)
    (case l52 => k_is)
    (case c52 => k_is)
    (case k52 => k_is)
    (case a53 => k_is)
    (case i53 => k_is)
    (case l53 => k_is)
    (case c53 => k_is)
    (case k53 => k_is)
    (case a54 => k_is)
    (case i54 => k_is)
    (case l54 => k_is)
    (case c54 => k_is)
    (case k54 => k_is)
    (case a55 => k_is)
    (case i55 => k_is)
    (case l55 => k_is)
    (case c55 => k_is)
    (case k55 => k_is)
    (case a56 => k_is)
    (case i56 => k_is)
    (case l56 => k_is)
    (case c56 => k_is)
    (case k56 => k_is)
    (case a57 => k_is)
    (case i57 => k_is)
    (case l57 => k_is)
    (case c57 => k_is)
    (case k57 => k_is)
    (case a58 => k_is)
    (case l58 => k_is)
    (case c58 => k_is)
    (case k58 => k_is)
    (case a59 => k_is)
    (case l59 => k_is)
    (case c59 => k_is)
    (case k59 => k_is)
    (case a60 => k_is)
    (case l60 => k_is)
    (case c60 => k_is)
    (case k60 => k_is)
    (case a61 => k_is)
    (case l61 => k_is)
    (case c61 => k_is)
    (case k61 => k_is)
    (case a62 => k_is)
    (case l62 => k_is)
    (case c62 => k_is)
    (case k62 => k_is)
    (case a63 => k_is)
    (case l63 => k_is)
    (case c63 => k_is)
    (case k63 => k_is)
    (case zb_abs => k_is)
    (case zb_all => k_is)
    (case zb_bool => k_is)
    (case zb_dict => k_is)
    (case zb_enumerate => k_is)
    (case zb_int => k_is)
    (case zb_isinstance => k_is)
    (case zb_len => k_is)
    (case zb_list => k_is)
    (case zb_max => k_is)
    (case zb_ord => k_is)
    (case zb_range => k_is)
    (case zb_sorted => k_is)
    (case zb_str => k_is)
    (case zc_CONTENT_LENGTH => k_is)
    (case zc_NEWLINE => k_is)
    (case zc_SPACE => k_is)
    (case zc_PERCENT => k_is)
    (case zc_TILDE => k_is)
    (case zc_SIGNS_BEFORE => k_is)
    (case zc_SIGNS_BEHIND => k_is)
    (case zc_DIGIT_BITS => k_is)
    (case zc_IDENTIFIER_LENGTH => k_is)
    (case zc_LETTERS => k_is)
    (case zc_IDENTIFIER_SIGNS => k_is)
    (case zc_SIGNS => k_is)
    (case zc_QUOTE => k_is)
    (case zc_BACKSLASH => k_is)
    (case zc_WORD_ENDS => k_is)
    (case zc_MOST_NAMES => k_is)
    (case zc_NAME_LENGTH => k_is)
    (case zc_NAME_SIGNS => k_is)
    (case zc_MOST_PERSONS_ENTRIES => k_is)
    (case zc_MOST_DIGITS_saving => k_is)
    (case zd_ESCAPES => k_is)
    (case zl_ESCAPES => k_is)
    (case zo_ESCAPES => first | rfl | k_is)
    (case zk_ESCAPES => exact ⟨⟨_, _, rfl, rfl⟩, ⟨_, _, rfl, rfl⟩, ⟨_, _, rfl, rfl⟩, trivial⟩)
    (case ze_ESCAPES => exact .cons ⟨_, rfl⟩ ⟨_, rfl⟩ (.cons ⟨_, rfl⟩ ⟨_, rfl⟩ (.cons ⟨_, rfl⟩ ⟨_, rfl⟩ .nil)))
    (case hdig => k_is)
    (case zw => k_is)
    (case zwl => k_is)
    (case zwv => exact .cons ⟨_, rfl⟩ (.cons ⟨_, rfl⟩ .nil))
    (case fne => decide)
    (case bex => k_is)


