import PyProof.Rows.All
import Wide.All
import OpenK.AllK
import Wide.FinOn
import HandS.Evl
import HandS.Codes
import HandS.Iter
import HandS.Dict
import HandS.Text
import HandS.Words
import HandS.Walk
import HandS.IsInst
import HandS.Steps
import HandS.More
import PySem.Challenge.RW_kilnyard_k03_texts_and_contents
set_option Elab.async false
set_option linter.all false
set_option maxRecDepth 100000
set_option maxHeartbeats 4000000
/-! Kn: what all our proofs share: named relations, values, comprehensions, promises of pure defs. -/
namespace Kn
open PySem PySem.Spec PyProof.Rows L2 Evl SX

/-! ### relations with a name -/
def rAddStr : R2 := fun x y H Q => ∃ i j, x = .str i ∧ y = .str j ∧ i.length + j.length ≤ sizeLine ∧ Q (.str (i ++ j)) H
theorem op_addS {X : Cx} : OpR X (binaryOp .Add) rAddStr := op_add_str
def rLenStr : List V → Hp → VK → Prop := fun xs H Q => ∃ z, xs = [.str z] ∧ z.length ≤ sizeLine ∧ Q (.int z.length) H
theorem cr_lenStr {X : Cx} : CallR X (.builtin "len") rLenStr := call_len_str
theorem cr_lenSeq {X : Cx} : CallR X (.builtin "len") (rLenS X.K) := call_len_seq
def rOrd : List V → Hp → VK → Prop := fun xs H Q => ∃ x, xs = [.str x] ∧ x.length = 1 ∧ Q (.int (x.cps.getD 0 0 : Nat)) H
theorem cr_ord {X : Cx} : CallR X (.builtin "ord") rOrd := call_ord
def rInt1 : List V → Hp → VK → Prop := fun xs H Q => (∃ i, xs = [.int i] ∧ Q (.int i) H) ∨ ∃ k, xs = [.bl k] ∧ Q (.int (if k then 1 else 0)) H
theorem cr_int1 {X : Cx} : CallR X (.type "int") rInt1 := call_int1
def rAbs : List V → Hp → VK → Prop := fun xs H Q => ∃ i, xs = [.int i] ∧ Q (.int (if i < 0 then -i else i)) H
theorem cr_abs {X : Cx} : CallR X (.builtin "abs") rAbs := call_abs
def rJoin (K : PySem.W.Frag) : V → List V → Hp → VK → Prop := fun x xs H Q => ∃ a p, ∃ ys : List Str, x = .str a ∧ xs = [.ref p] ∧ (SqL K H p (ys.map V.str) ∨ SqT K H p (ys.map V.str)) ∧ (ys.map (·.length)).sum + ys.length * a.length ≤ 16777216 ∧ Q (.str (Txt.join a ys)) H
theorem pe_joinN {X : Cx} {e : Expr} {to te : TE} (h : PE X e (tM1 (fun x xs H Q => ∃ a p, ∃ ys : List Str, x = .str a ∧ xs = [.ref p] ∧ (SqL X.K H p (ys.map V.str) ∨ SqT X.K H p (ys.map V.str)) ∧ (ys.map (·.length)).sum + ys.length * a.length ≤ 16777216 ∧ Q (.str (Txt.join a ys)) H) to te)) : PE X e (tM1 (rJoin X.K) to te) := h
theorem cr_isi {X : Cx} : CallR X (.builtin "isinstance") (rIsi X.K) := call_isi

/-! ### values -/
section
variable {K : PySem.W.Frag} {σ : L2.St} {H H' : Hp} {ta tb te tc : TE} {t u : TT} {x y z v : V}
theorem val_abs (i : Int) : (if i < 0 then -i else i) = (i.natAbs : Int) := by split <;> omega
theorem rc_abs {i : Int} : RC rAbs [.int i] H (.int (i.natAbs : Int)) := fun H1 _ _ q => ⟨i, rfl, by rw [val_abs]; exact q H1 (Ex.refl H1)⟩
theorem rc_int {i : Int} : RC rInt1 [.int i] H (.int i) := fun H1 _ _ q => .inl ⟨i, rfl, q H1 (Ex.refl H1)⟩
theorem rc_intB {b : Bool} : RC rInt1 [.bl b] H (.int (if b then 1 else 0)) := fun H1 _ _ q => .inr ⟨b, rfl, q H1 (Ex.refl H1)⟩
theorem rc_ord {c : Nat} : RC rOrd [.str (S [c])] H (.int (c : Int)) := fun H1 _ _ q => ⟨S [c], rfl, rfl, q H1 (Ex.refl H1)⟩
theorem rc_lenS {l : List Nat} (h : l.length ≤ 100000) : RC rLenStr [.str (S l)] H (.int (l.length : Int)) := fun H1 _ _ q => ⟨S l, rfl, by rw [S_len]; exact sz_of h, by rw [S_len]; exact q H1 (Ex.refl H1)⟩
theorem rv_addS {a b : List Nat} (h : a.length + b.length ≤ 100000) : RV rAddStr (.str (S a)) (.str (S b)) H (.str (S (a ++ b))) := fun H1 _ _ q =>
  ⟨S a, S b, rfl, rfl, by rw [S_len, S_len]; exact sz_of h, by rw [S_cat]; exact q H1 (Ex.refl H1)⟩
theorem rv_mod {i j : Int} (h : 0 < j) : RV (rI (fun _ j => 0 < j) fun i j => .int (i % j)) (.int i) (.int j) H (.int (i % j)) := rv_I h
theorem rv_fdiv {i j : Int} (h : CDiv i j) : RV (rI CDiv fun i j => .int (i / j)) (.int i) (.int j) H (.int (i / j)) := rv_I h
theorem rv_mul {i j : Int} (h : CMul i j) : RV (rI CMul fun i j => .int (i * j)) (.int i) (.int j) H (.int (i * j)) := rv_I h
theorem S1 (x : Str) {l : List Nat} (h : x.cps.toList = l) : x = S l := TL.ext_tl h
theorem ev_chain {r r' : R2} {k b : Bool} (ha : Ev ta σ H x) (hb : Ev tb σ H y) (hr : RV r x y H (.bl k)) (hc : Ev tc σ H z) (hr' : RV r' y z H (.bl b)) : Ev (tChain r r' ta tb tc) σ H (.bl (k && b)) := fun H1 e Q q =>
  ha H1 e _ fun H2 e2 => hb H2 (e.trans e2) _ fun H3 e3 => hr H3 ((e.trans e2).trans e3) _ fun H4 e4 => ⟨k, rfl, by
    have e14 := (e2.trans e3).trans e4
    cases k with
    | true =>
      show tc σ H4 fun w' H5 => r' y w' H5 Q
      exact hc H4 (e.trans e14) _ fun H5 e5 => hr' H5 ((e.trans e14).trans e5) Q fun H6 e6 => q H6 ((e14.trans e5).trans e6)
    | false =>
      show Q (.bl false) H4
      exact q H4 e14⟩
theorem ev_idxS {l : List Nat} {i : Int} {c : Nat} (ha : Ev ta σ H (.str (S l))) (hb : Ev tb σ H (.int i)) (h : l.length ≤ 100000) (hat : atI l i = some c) : Ev (tOp rIxS ta tb) σ H (.str (S [c])) := ev_op ha hb (rv_ixS (w := S l) (by rw [S_len]; exact h) hat)
theorem atI_nat' {α : Type} {xs : List α} {i : Int} {j : Nat} {v : α} (hi : i = (j : Int)) (h : xs[j]? = some v) : atI xs i = some v := by
  subst hi
  exact atI_nat h
theorem ev_join {s : List Nat} {ys : List (List Nat)} (hs : Ev ta σ H (.str (S s))) (hl : EvL tb σ H (ys.map fun l => V.str (S l))) (hz : (ys.map (·.length)).sum + ys.length * s.length ≤ 16777216) : Ev (tM1 (rJoin K) ta tb) σ H (.str (S (TL.joinL s ys))) := fun H1 e Q q =>
  hs H1 e _ fun H2 e2 => ⟨⟨_, rfl⟩, hl H2 (e.trans e2) _ fun p H3 _ e3 hp => ⟨S s, p, ys.map S, rfl, rfl, .inl (.inl (.inl (by rw [List.map_map]; exact hp))), by
    rw [SX.lens, List.length_map, S_len]
    exact hz, by
    rw [SX.join_S]
    exact q H3 (e2.trans e3)⟩⟩
theorem ev_slS {to tp : TO} {l : List Nat} {lo hi : Option Int} (h : Ev te σ H (.str (S l))) (h1 : EvO to σ H lo) (h2 : EvO tp σ H hi) (hz : l.length ≤ 100000) : Ev (tSl rSlS te to tp) σ H (.str (cutS (S l) lo hi)) := fun H1 e _ q =>
  h H1 e _ fun H2 e2 => h1 H2 (e.trans e2) _ fun H3 e3 => h2 H3 ((e.trans e2).trans e3) _ fun H4 e4 => ⟨S l, rfl, by rw [S_len]; exact sz_of hz, q H4 ((e2.trans e3).trans e4)⟩
theorem ev_isi {T : String} {c : String} {b : Bool} (ha : Ev ta σ H x) (ht : TyX K H x (.type T)) (hb : kitB T c = some b) (hm : ∀ H1, Ex H H1 → TyX K H1 x (.type T)) : Ev (tCB (rIsi K) (tCons ta (tCons (tC (.ty c)) tNil))) σ H (.bl b) := fun H1 e Q q =>
  ha H1 e _ fun H2 e2 => ⟨x, .ty c, .type T, .type c, b, rfl, .ty c, hm H2 (e.trans e2), kit_ty hb, q H2 e2⟩
theorem ev_all {τ : Type} {xs : List τ} {p : τ → Bool} (ha : EvL ta σ H (xs.map fun a => V.bl (p a))) : Ev (tCB (rAll K) (tCons ta tNil)) σ H (.bl (xs.all p)) := fun H1 e Q q =>
  ha H1 e _ fun a H2 _ e2 h2 => ⟨a, xs.map p, rfl, sq_of (by rw [List.map_map]; exact h2), by
    have hh : (xs.map p).all id = xs.all p := by rw [List.all_map]; rfl
    rw [hh]
    exact q H2 e2⟩

/-! ### comprehensions: no test, a new list of what each item gives -/
theorem given_all {α : Type} {xs : List α} {f : α → V} {d : V} : given xs.length (fun _ => true) (fun i => (xs[i]?.map f).getD d) = xs.map f := by
  unfold given
  rw [List.filter_eq_self.mpr (fun _ _ => rfl)]
  refine List.ext_getElem (by simp) fun i h1 h2 => ?_
  simp at h1 h2
  simp [h2]
theorem et_yes {H : Hp} : EvT tYes σ H true := fun H1 _ _ q => q H1 (Ex.refl H1)
theorem el_lcM {τ : Type} {a : Addr} {ns : List τ} {g f : τ → V} {tl : TE} {j : Nat} {vs : List Nat} (h : Ev tl σ H (.ref a)) (hx : SqL K H a (ns.map g)) (hz : ns.length ≤ 40000) (hw : ∀ x, wipe ((wipe σ vs).set j (some x)) vs = wipe σ vs)
    (he : ∀ n ∈ ns, ∀ H1, Ex H H1 → Ev te ((wipe σ vs).set j (some (g n))) H1 (f n)) : EvL (tLc (iList K tl) (gName j) tYes te vs) σ H (ns.map f) := by
  have k := el_lcL (K := K) (te := te) (t := tYes) (j := j) (vs := vs) (fun _ => true) (fun i => (ns[i]?.map f).getD .non) h hx (by rw [List.length_map]; exact hz) hw (fun _ _ H1 _ _ => et_yes) (fun i x H1 e hi _ => by
    rw [List.getElem?_map] at hi
    cases hn : ns[i]? with
    | none => rw [hn] at hi; cases hi
    | some n =>
      rw [hn] at hi
      cases Option.some.inj hi
      exact he n (List.mem_of_getElem? hn) H1 e)
  rw [List.length_map, given_all] at k
  exact k
theorem el_lcN {τ : Type} {ns : List τ} {g f : τ → V} {tl : TE} {j : Nat} {vs : List Nat} (h : EvL tl σ H (ns.map g)) (hz : ns.length ≤ 40000) (hw : ∀ x, wipe ((wipe σ vs).set j (some x)) vs = wipe σ vs)
    (he : ∀ n ∈ ns, ∀ H1, Ex H H1 → Ev te ((wipe σ vs).set j (some (g n))) H1 (f n)) : EvL (tLc (iList K tl) (gName j) tYes te vs) σ H (ns.map f) := by
  have k := el_lcNL (K := K) (te := te) (t := tYes) (j := j) (vs := vs) (fun _ => true) (fun i => (ns[i]?.map f).getD .non) h (by rw [List.length_map]; exact hz) hw (fun _ _ H1 _ _ => et_yes) (fun i x H1 e hi _ => by
    rw [List.getElem?_map] at hi
    cases hn : ns[i]? with
    | none => rw [hn] at hi; cases hi
    | some n =>
      rw [hn] at hi
      cases Option.some.inj hi
      exact he n (List.mem_of_getElem? hn) H1 e)
  rw [List.length_map, given_all] at k
  exact k
theorem el_lcR {n : Int} {f : Nat → V} {ta : TA} {j : Nat} {vs : List Nat} (h : EvA ta σ H [.int n]) (hn : 0 ≤ n ∧ n ≤ 40000) (hw : ∀ x, wipe ((wipe σ vs).set j (some x)) vs = wipe σ vs)
    (he : ∀ (i : Nat) H1, Ex H H1 → (i : Int) < n → Ev te ((wipe σ vs).set j (some (.int (i : Int)))) H1 (f i)) : EvL (tLc (iRng1 ta) (gName j) tYes te vs) σ H ((List.range n.toNat).map f) := by
  have k := el_lcR1 (te := te) (t := tYes) (j := j) (vs := vs) (fun _ => true) f h hn hw (fun _ H1 _ _ => et_yes) (fun i H1 e hi _ => he i H1 e hi)
  unfold given at k
  rw [List.filter_eq_self.mpr (fun _ _ => rfl)] at k
  exact k
/-- over the signs of a text -/
theorem el_lcS {l : List Nat} {f : Nat → V} {ts : TE} {j : Nat} {vs : List Nat} (h : Ev ts σ H (.str (S l))) (hz : l.length ≤ 40000) (hw : ∀ x, wipe ((wipe σ vs).set j (some x)) vs = wipe σ vs)
    (he : ∀ c ∈ l, ∀ H1, Ex H H1 → Ev te ((wipe σ vs).set j (some (.str (S [c])))) H1 (f c)) : EvL (tLc (iStr ts) (gName j) tYes te vs) σ H (l.map f) := fun H0 e Q q => h H0 e _ fun H1 e1 => ⟨S l, rfl, fun Dl hD => by
  have hl : (S l).cps.size = l.length := by simp [S]
  refine lc_it walk_str (Cw H1 (fun _ => true) (fun i => (l[i]?.map f).getD .non) Dl) ⟨hD, Ex.new hD, upd_same⟩ (fun _ _ _ _ => trivial) (fun i x H2 H3 hi p y => ?_) (fun H2 p => ?_)
  · obtain ⟨rfl, c, hc, rfl⟩ := y
    have hc' : l[i]? = some c := by simpa [S] using hc
    refine ⟨hw _, cw_turn p (by rw [hl] at hi; omega) et_yes (fun _ => ?_)⟩
    rw [hc']
    exact he c (List.mem_of_getElem? hc') H1 (e.trans e1)
  · rw [hl] at p
    have := p.2.2
    rw [given_all] at this
    exact q Dl H2 (fresh_back e1 p.1) (e1.trans p.2.1) this⟩
end

/-! ### promises of pure defs: a value, a new list -/
def Rt (H : Hp) (v : V) (Q : VK) : Prop := ∀ H1, Ex H H1 → Q v H1
def Rl (H : Hp) (xs : List V) (Q : VK) : Prop := ∀ p H1, H p = none → Ex H H1 → H1 p = some (.lst xs) → Q (.ref p) H1
def sp1 {α : Type} (A : α → List V) (pre : α → Hp → Prop) (val : α → V) : Sp := fun vs H Q _ => ∃ a, vs = A a ∧ pre a H ∧ Rt H (val a) Q
def sp2 {α β : Type} (A : α → β → List V) (pre : α → β → Hp → Prop) (val : α → β → V) : Sp := fun vs H Q _ => ∃ a b, vs = A a b ∧ pre a b H ∧ Rt H (val a b) Q
def sp3 {α β γ : Type} (A : α → β → γ → List V) (pre : α → β → γ → Hp → Prop) (val : α → β → γ → V) : Sp := fun vs H Q _ => ∃ a b c, vs = A a b c ∧ pre a b c H ∧ Rt H (val a b c) Q
def sl1 {α : Type} (A : α → List V) (pre : α → Hp → Prop) (val : α → List V) : Sp := fun vs H Q _ => ∃ a, vs = A a ∧ pre a H ∧ Rl H (val a) Q
def sl2 {α β : Type} (A : α → β → List V) (pre : α → β → Hp → Prop) (val : α → β → List V) : Sp := fun vs H Q _ => ∃ a b, vs = A a b ∧ pre a b H ∧ Rl H (val a b) Q
def sl3 {α β γ : Type} (A : α → β → γ → List V) (pre : α → β → γ → Hp → Prop) (val : α → β → γ → List V) : Sp := fun vs H Q _ => ∃ a b c, vs = A a b c ∧ pre a b c H ∧ Rl H (val a b c) Q
section
variable {K : PySem.W.Frag} {σ : L2.St} {H H' : Hp} {ta : TA} {E : XK} {α β γ : Type}
theorem ev_c1 {A : α → List V} {pre : α → Hp → Prop} {val : α → V} {a : α} (h : EvA ta σ H (A a)) (hp : ∀ H1, Ex H H1 → pre a H1) : Ev (tCall (sp1 A pre val) [] E ta) σ H (val a) := fun H1 e Q q =>
  h H1 e _ fun H2 e2 => ⟨a, List.append_nil _, hp H2 (e.trans e2), fun H3 e3 => q H3 (e2.trans e3)⟩
theorem ev_c2 {A : α → β → List V} {pre : α → β → Hp → Prop} {val : α → β → V} {a : α} {b : β} (h : EvA ta σ H (A a b)) (hp : ∀ H1, Ex H H1 → pre a b H1) : Ev (tCall (sp2 A pre val) [] E ta) σ H (val a b) := fun H1 e Q q =>
  h H1 e _ fun H2 e2 => ⟨a, b, List.append_nil _, hp H2 (e.trans e2), fun H3 e3 => q H3 (e2.trans e3)⟩
theorem ev_c3 {A : α → β → γ → List V} {pre : α → β → γ → Hp → Prop} {val : α → β → γ → V} {a : α} {b : β} {c : γ} (h : EvA ta σ H (A a b c)) (hp : ∀ H1, Ex H H1 → pre a b c H1) : Ev (tCall (sp3 A pre val) [] E ta) σ H (val a b c) := fun H1 e Q q =>
  h H1 e _ fun H2 e2 => ⟨a, b, c, List.append_nil _, hp H2 (e.trans e2), fun H3 e3 => q H3 (e2.trans e3)⟩
theorem el_c1 {A : α → List V} {pre : α → Hp → Prop} {val : α → List V} {a : α} (h : EvA ta σ H (A a)) (hp : ∀ H1, Ex H H1 → pre a H1) : EvL (tCall (sl1 A pre val) [] E ta) σ H (val a) := fun H1 e Q q =>
  h H1 e _ fun H2 e2 => ⟨a, List.append_nil _, hp H2 (e.trans e2), fun p H3 hp e3 h3 => q p H3 (fresh_back e2 hp) (e2.trans e3) h3⟩
theorem el_c2 {A : α → β → List V} {pre : α → β → Hp → Prop} {val : α → β → List V} {a : α} {b : β} (h : EvA ta σ H (A a b)) (hp : ∀ H1, Ex H H1 → pre a b H1) : EvL (tCall (sl2 A pre val) [] E ta) σ H (val a b) := fun H1 e Q q =>
  h H1 e _ fun H2 e2 => ⟨a, b, List.append_nil _, hp H2 (e.trans e2), fun p H3 hp e3 h3 => q p H3 (fresh_back e2 hp) (e2.trans e3) h3⟩
theorem el_c3 {A : α → β → γ → List V} {pre : α → β → γ → Hp → Prop} {val : α → β → γ → List V} {a : α} {b : β} {c : γ} (h : EvA ta σ H (A a b c)) (hp : ∀ H1, Ex H H1 → pre a b c H1) : EvL (tCall (sl3 A pre val) [] E ta) σ H (val a b c) := fun H1 e Q q =>
  h H1 e _ fun H2 e2 => ⟨a, b, c, List.append_nil _, hp H2 (e.trans e2), fun p H3 hp e3 h3 => q p H3 (fresh_back e2 hp) (e2.trans e3) h3⟩
/-- a call one of whose arguments is a new list: f([..]) -/
theorem ev_c1L {τ : Type} {te : TE} {A : Addr → List τ → List V} {pre : Addr → List τ → Hp → Prop} {val : Addr → List τ → V} {v : V} {xs : List V} (h : EvL te σ H xs) (ns : List τ) (hA : ∀ p, A p ns = [.ref p]) (hp : ∀ p H1, Ex H H1 → H1 p = some (.lst xs) → pre p ns H1) (hv : ∀ p, val p ns = v) :
    Ev (tCall (sp2 A pre val) [] E (tCons te tNil)) σ H v := fun H1 e Q q =>
  h H1 e _ fun p H2 hn e2 h2 => ⟨p, ns, by rw [hA]; rfl, hp p H2 (e.trans e2) h2, fun H3 e3 => by
    rw [hv]
    exact q H3 (e2.trans e3)⟩
end

/-! ### a def that may be called by its name -/
structure Cl (P : Program) (w : World) (K : PySem.W.Frag) (mg : Str → Option Value) (base : Heap) (k : Nat) (x : Str) (sp : Sp) : Prop where
  ex : ∃ (f : Addr) (fd : FuncData) (ps : List Str), FnOk P w K mg base CX0 k f fd ps sp ∧ mg x = some (.ref f) ∧ PySem.W.keepIn K (.ref f) = true ∧ Binds K fd ps []
section
variable {P : Program} {w : World} {K : PySem.W.Frag} {mg : Str → Option Value} {base : Heap}
theorem cl_of {k : Nat} {x : Str} {sp : Sp} {st : Stmt} {f : Addr} {fd : FuncData} {ps : List Str} (ok : FnOk P w K mg base CX0 k f fd ps sp) (F : Fun K x x st f fd) (g : mg x = some (.ref f)) (b : Binds K fd ps []) : Cl P w K mg base k x sp := ⟨f, fd, ps, ok, g, F.kp, b⟩
variable {X : Cx} {k j : Nat} {x : Str} {sp : Sp} {p pos : Pos} {e : Expr} {es : List Expr} {t : TA}
theorem pe_cl (c : Cl X.prog X.w X.K X.mg X.base k x sp) (hr : Room j X.A) (hk : k ≤ j) (hg : Gl X x) (ha : PA X (e :: es) t)
    (hdb : (x == ("__debug__" : Str)) = false := by decide) (he : starEach (e :: es) X.env = (false, eval e X.env) :: starEach es X.env := by rfl) (hpl : (backTo pos (starEach es X.env)).any (·.1) = false := by rfl) :
    PE X (.Call (.Name x p) (e :: es) [] pos) (tCall sp [] E0 t) := by
  obtain ⟨f, fd, ps, F, hm, kp, b⟩ := c.ex
  exact pe_call F (hr.mono hk) hg hm kp b .nil pass0 ha hdb he hpl
theorem pe_cl0 (c : Cl X.prog X.w X.K X.mg X.base k x sp) (hr : Room j X.A) (hk : k ≤ j) (hg : Gl X x)
    (hdb : (x == ("__debug__" : Str)) = false := by decide) :
    PE X (.Call (.Name x p) [] [] pos) (tCall sp [] E0 tNil) := by
  obtain ⟨f, fd, ps, F, hm, kp, b⟩ := c.ex
  exact pe_call0 F (hr.mono hk) hg hm kp b .nil pass0 hdb
end
end Kn
/-! ### values, step by step -/
namespace Kn
open PySem PySem.Spec PyProof.Rows L2 Evl SX
section
variable {H : Hp}
theorem rv_eqI {a b : Int} : RV rEq (.int a) (.int b) H (.bl (decide (a = b))) := fun H1 _ _ q => ⟨rfl, by
  have e : decide (V.int a = V.int b) = decide (a = b) := by simp
  rw [e]
  exact q H1 (Ex.refl H1)⟩
theorem rv_neI {a b : Int} : RV rNe (.int a) (.int b) H (.bl (!decide (a = b))) := fun H1 _ _ q => ⟨rfl, by
  have e : decide (V.int a = V.int b) = decide (a = b) := by simp
  rw [e]
  exact q H1 (Ex.refl H1)⟩
theorem dec_S {a b : List Nat} : decide (V.str (S a) = V.str (S b)) = decide (a = b) := by
  by_cases h : a = b
  · subst h
    simp
  · rw [decide_eq_false h, decide_eq_false (fun e => h (S_inj (V.str.inj e)))]
theorem rv_eqS {a b : List Nat} : RV rEq (.str (S a)) (.str (S b)) H (.bl (decide (a = b))) := fun H1 _ _ q => ⟨rfl, by
  rw [dec_S]
  exact q H1 (Ex.refl H1)⟩
theorem rv_neS {a b : List Nat} : RV rNe (.str (S a)) (.str (S b)) H (.bl (!decide (a = b))) := fun H1 _ _ q => ⟨rfl, by
  rw [dec_S]
  exact q H1 (Ex.refl H1)⟩
theorem rv_le {a b : Int} : RV (rI0 fun i j => .bl (decide (i ≤ j))) (.int a) (.int b) H (.bl (decide (a ≤ b))) := rv_I0
theorem rv_lt {a b : Int} : RV (rI0 fun i j => .bl (decide (i < j))) (.int a) (.int b) H (.bl (decide (a < b))) := rv_I0
theorem rv_inS {c : Nat} {l : List Nat} : RV rInS (.str (S [c])) (.str (S l)) H (.bl (decide (c ∈ l))) := fun H1 _ _ q => ⟨c, S l, rfl, rfl, q H1 (Ex.refl H1)⟩
theorem rv_ninS {c : Nat} {l : List Nat} : RV rNotInS (.str (S [c])) (.str (S l)) H (.bl (!decide (c ∈ l))) := fun H1 _ _ q => ⟨c, S l, rfl, rfl, q H1 (Ex.refl H1)⟩
end
end Kn
/-! ### lists cut, texts cut, constants -/
namespace Kn
open PySem PySem.Spec PyProof.Rows L2 Evl SX
theorem cut_nat {α : Type} (xs : List α) (a b : Nat) : (xs.drop (min a xs.length)).take (min b xs.length - min a xs.length) = (xs.drop a).take (b - a) := by
  by_cases h : a ≤ xs.length
  · have e : min a xs.length = a := Nat.min_eq_left h
    rw [e, List.take_eq_take_iff, List.length_drop]
    omega
  · have e : xs.drop a = [] := List.drop_of_length_le (by omega)
    have e2 : xs.drop (min a xs.length) = [] := List.drop_of_length_le (by omega)
    rw [e, e2, List.take_nil, List.take_nil]
theorem cutV_nat {xs : List V} (a b : Nat) : cutV xs (some (a : Int)) (some (b : Int)) = (xs.drop a).take (b - a) := by
  unfold cutV
  rw [HT.sIx_nat, HT.sIx_nat]
  exact cut_nat xs a b
theorem cutV_map {τ : Type} {g : τ → V} {ns : List τ} {i j : Int} (a b : Nat) (hi : i = (a : Int)) (hj : j = (b : Int)) : cutV (ns.map g) (some i) (some j) = ((ns.drop a).take (b - a)).map g := by
  subst hi hj
  rw [cutV_nat, List.map_take, List.map_drop]
theorem join_nil : ∀ ys : List (List Nat), TL.joinL [] ys = ys.flatten
  | [] => rfl
  | [p] => by rw [List.flatten_cons, List.flatten_nil, List.append_nil]; rfl
  | p :: q :: r => by
    show p ++ ([] ++ TL.joinL [] (q :: r)) = _
    rw [join_nil (q :: r), List.nil_append, List.flatten_cons (l := p)]
section
variable {K : PySem.W.Frag} {σ : L2.St} {H H' : Hp} {ta tb te tc : TE} {t u : TT} {x y z v : V}
theorem ev_cS {x : Str} {l : List Nat} (h : x.cps.toList = l) : Ev (tC (.str x)) σ H (.str (S l)) := by
  rw [S1 x h]
  exact ev_c
theorem el_slN {τ : Type} {g : τ → V} {ns : List τ} {i j : Int} {p : Addr} {to tp : TO} (h : Ev te σ H (.ref p)) (h1 : EvO to σ H (some i)) (h2 : EvO tp σ H (some j)) (hs : SqL K H p (ns.map g)) (a b : Nat) (hi : i = (a : Int)) (hj : j = (b : Int)) :
    EvL (tSl (rSlL K) te to tp) σ H (((ns.drop a).take (b - a)).map g) := by
  rw [← cutV_map a b hi hj]
  exact el_sl h h1 h2 hs
theorem ev_slTo {to tp : TO} {l : List Nat} {i : Int} (h : Ev te σ H (.str (S l))) (h1 : EvO to σ H none) (h2 : EvO tp σ H (some i)) (hz : l.length ≤ 100000) (hi : 0 ≤ i) : Ev (tSl rSlS te to tp) σ H (.str (S (l.take i.toNat))) := by
  have k := ev_slS h h1 h2 hz
  rw [C8.cutS_slice, slice_to hi] at k
  exact k
theorem ev_slFrom {to tp : TO} {l : List Nat} {i : Int} (h : Ev te σ H (.str (S l))) (h1 : EvO to σ H (some i)) (h2 : EvO tp σ H none) (hz : l.length ≤ 100000) (hi : 0 ≤ i) : Ev (tSl rSlS te to tp) σ H (.str (S (l.drop i.toNat))) := by
  have k := ev_slS h h1 h2 hz
  rw [C8.cutS_slice, slice_from hi] at k
  exact k
theorem ev_isiB {b : Bool} (ha : Ev ta σ H (.bl b)) : Ev (tCB (rIsi K) (tCons ta (tCons (tC (.ty "bool")) tNil))) σ H (.bl true) := ev_isi (T := "bool") ha (.base (.bl b)) (by decide +kernel) fun _ _ => .base (.bl b)
/-- == of two lists of data -/
theorem eqv_lists {xs ys : List PyData} (h : PyData.eqv (.list xs) (.list ys) = b) : PyData.eqv (.list xs) (.list ys) = b := h
end
end Kn
namespace Kn
open PySem PySem.Spec PyProof.Rows L2 Evl SX
section
variable {K : PySem.W.Frag} {σ : L2.St} {H H' : Hp} {ta tb te tc : TE} {t u : TT} {x y z v : V} {D : Ends} {tu tw tz : TS}
/-- an if whose two ways meet again -/
theorem q_ifM {b : Bool} (M : L2.St → Hp → Prop) (h : EvT t σ H b) (h1 : b = true → ∀ H1, Ex H H1 → ∀ N : L2.St → Hp → Prop, (∀ σ' H', M σ' H' → N σ' H') → tu { D with nx := N } σ H1)
    (h2 : b = false → ∀ H1, Ex H H1 → ∀ N : L2.St → Hp → Prop, (∀ σ' H', M σ' H' → N σ' H') → tw { D with nx := N } σ H1) (k : ∀ σ' H', M σ' H' → tz D σ' H') : tSeq (tIfS t tu tw) tz D σ H :=
  s_if (D := { D with nx := tz D }) h (fun hb H1 e => h1 hb H1 e _ k) (fun hb H1 e => h2 hb H1 e _ k)
theorem s_next (h : D.nx σ H) : tNext D σ H := h
theorem eqD_true {p q : Addr} {xs : List V} {ds : List PyData} (hp : SqL K H p xs) (hq : SqL K H q xs) (hd : ∀ H1, Ex H H1 → DpAll K H1 xs ds) (hs : SeqAt.shaped (.list ds) = true) (hl : PyData.eqv (.list ds) (.list ds) = true) : RV (rEqD K) (.ref p) (.ref q) H (.bl true) := fun H1 e Q k =>
  ⟨.list ds, .list ds, .lst (ex_l e hp) (hd H1 e), .lst (ex_l e hq) (hd H1 e), hs, hs, by rw [hl]; exact k H1 (Ex.refl H1)⟩
end
end Kn

namespace My
open PySem PySem.Spec PyProof.Rows L2 Evl SX Kn
def topS (i : Nat) : Stmt := PySem.Challenge.pw_kilnyard_k03_texts_and_contents.main.body.getD i (.Pass ⟨0, 0, 0, 0⟩)
abbrev s_is_text : Stmt := topS 6
abbrev N_is_text : List Str := ["value", "sign"]
theorem sc_is_text : FnScope N_is_text ["value"] (defScope s_is_text) := ⟨rfl, rfl, rfl, by decide +kernel, rfl, by decide +kernel, by decide +kernel⟩
abbrev s_is_content : Stmt := topS 7
abbrev N_is_content : List Str := ["value"]
theorem sc_is_content : FnScope N_is_content ["value"] (defScope s_is_content) := ⟨rfl, rfl, rfl, by decide +kernel, rfl, by decide +kernel, by decide +kernel⟩
abbrev s__is_code : Stmt := topS 8
abbrev N__is_code : List Str := ["code"]
theorem sc__is_code : FnScope N__is_code ["code"] (defScope s__is_code) := ⟨rfl, rfl, rfl, by decide +kernel, rfl, by decide +kernel, by decide +kernel⟩
abbrev s__law_cell : Stmt := topS 10
abbrev N__law_cell : List Str := ["script", "k"]
theorem sc__law_cell : FnScope N__law_cell ["script", "k"] (defScope s__law_cell) := ⟨rfl, rfl, rfl, by decide +kernel, rfl, by decide +kernel, by decide +kernel⟩
abbrev s__law_text : Stmt := topS 11
abbrev N__law_text : List Str := ["numbers", "chars", "number"]
theorem sc__law_text : FnScope N__law_text ["numbers"] (defScope s__law_text) := ⟨rfl, rfl, rfl, by decide +kernel, rfl, by decide +kernel, by decide +kernel⟩
abbrev s_law : Stmt := topS 12
abbrev N_law : List Str := ["script", "first", "value", "due", "at", "actual", "cell", "k"]
theorem sc_law : FnScope N_law ["script"] (defScope s_law) := ⟨rfl, rfl, rfl, by decide +kernel, rfl, by decide +kernel, by decide +kernel⟩
structure Tx (mg : Str → Option Value) : Prop where
  b_abs : mg "abs" = none
  b_all : mg "all" = none
  b_bool : mg "bool" = none
  b_int : mg "int" = none
  b_isinstance : mg "isinstance" = none
  b_len : mg "len" = none
  b_ord : mg "ord" = none
  b_range : mg "range" = none
  c_CONTENT_LENGTH : ∃ u, mg "CONTENT_LENGTH" = some u ∧ RelV (.int 400) u
  c_NEWLINE : ∃ u, mg "NEWLINE" = some u ∧ RelV (.int 10) u
  c_SPACE : ∃ u, mg "SPACE" = some u ∧ RelV (.int 32) u
  c_PERCENT : ∃ u, mg "PERCENT" = some u ∧ RelV (.int 37) u
  c_TILDE : ∃ u, mg "TILDE" = some u ∧ RelV (.int 126) u
local macro_rules | `(tactic| walk_at "ev") => `(tactic| first
  | exact ev_c
  | exact ev_var rfl
  | exact ea_nil
  | exact eo_none
  | (apply eo_some; walk_at "ev")
  | (apply ea_cons <;> walk_at "ev")
  | (apply ev_op <;> first | walk_at "rv" | walk_at "ev")
  | (apply ev_un <;> first | exact ru_neg | walk_at "ev")
  | (apply ev_chain <;> first | walk_at "rv" | walk_at "ev")
  | (apply et_test; walk_at "ev")
  | (apply et_B; walk_at "ev")
  | (apply et_not; walk_at "ev")
  | (apply et_and; walk_at "ev"; intro _; walk_at "ev")
  | (apply et_or; walk_at "ev"; intro _; walk_at "ev")
  | (apply ev_andV; walk_at "ev"; intro _; walk_at "ev")
  | (apply ev_orV; walk_at "ev"; intro _; walk_at "ev")
  | (apply ev_notV; walk_at "ev")
  | (apply ev_cb <;> first | walk_at "rc" | walk_at "ev"))
local macro_rules | `(tactic| walk_at "rv") => `(tactic| first
  | exact rv_eqI | exact rv_neI | exact rv_eqS | exact rv_neS | exact rv_le | exact rv_lt | exact rv_inS | exact rv_ninS
  | exact rv_I0
  | exact rv_mod (by first | decide | omega)
  | exact rv_fdiv ⟨by decide, by decide⟩
  | exact rv_addS (by first | assumption | omega)
  | exact rv_mul (by first | exact .inl ⟨by omega, by omega⟩ | exact .inr ⟨by omega, by omega⟩)
  | exact rv_eq rfl | exact rv_ne rfl)
local macro_rules | `(tactic| walk_at "rc") => `(tactic| first
  | exact rc_abs | exact rc_int | exact rc_intB | exact rc_ord
  | exact rc_lenS (by first | assumption | omega))

/-! ### the mathematics -/
def isCode (n : Int) : Bool := decide (n = 10) || ((decide (32 ≤ n) && decide (n ≤ 126)) && !decide (n = 37))
def okText (l : List Nat) : Bool := l.all fun c => isCode (c : Int)
def signs1 : List Nat := (Str.ofString "\n !\"#$&'()*+,-./0123456789:;<=>?@ABCDEFGHIJKLMNOPQRSTUVWXYZ[\\]^_`").cps.toList
def signs2 : List Nat := (Str.ofString "abcdefghijklmnopqrstuvwxyz{|}~").cps.toList
def signs : List Nat := signs1 ++ signs2
theorem signs_len : signs.length = 95 := by decide +kernel
theorem signs_ok : signs.all (fun c => isCode (c : Int)) = true := by decide +kernel
def sign (n : Int) : Nat := signs.getD (n % 95).toNat 0
def lawText (ns : List Int) : List Nat := ns.map sign
theorem sign_at (n : Int) : atI signs (n % 95) = some (sign n) := by
  have h1 : 0 ≤ n % 95 := Int.emod_nonneg n (by decide)
  have h2 : n % 95 < 95 := Int.emod_lt_of_pos n (by decide)
  have h3 : (n % 95).toNat < signs.length := by rw [signs_len]; omega
  refine atI_nat' (j := (n % 95).toNat) (by omega) ?_
  unfold sign
  rw [List.getD_eq_getElem?_getD, List.getElem?_eq_getElem h3]
  rfl
theorem sign_ok (n : Int) : isCode ((sign n : Nat) : Int) = true := by
  have h2 : n % 95 < 95 := Int.emod_lt_of_pos n (by decide)
  have h1 : 0 ≤ n % 95 := Int.emod_nonneg n (by decide)
  have h3 : (n % 95).toNat < signs.length := by rw [signs_len]; omega
  unfold sign
  rw [List.getD_eq_getElem?_getD, List.getElem?_eq_getElem h3]
  exact List.all_eq_true.mp signs_ok _ (List.getElem_mem h3)
theorem lawText_ok (ns : List Int) : okText (lawText ns) = true := by
  unfold okText lawText
  rw [List.all_map, List.all_eq_true]
  exact fun n _ => sign_ok n
theorem flat1 : ∀ ns : List Int, (ns.map fun n => [sign n]).flatten = lawText ns
  | [] => rfl
  | n :: r => by
    rw [List.map_cons, List.flatten_cons, flat1 r]
    rfl
theorem lawText_len (ns : List Int) : (lawText ns).length = ns.length := List.length_map ..
theorem okText_app (a b : List Nat) : okText (a ++ b) = (okText a && okText b) := List.all_append
section
variable {P : Program} {w : World} {K : PySem.W.Frag} {mg : Str → Option Value} {base : Heap}
def sp__is_code (_ : PySem.W.Frag) : Sp := sp1 (fun n : Int => [.int n]) (fun _ _ => True) (fun n => .bl (isCode n))
theorem ok__is_code {f : Addr} {fd : FuncData} (F : Fun K "_is_code" "_is_code" s__is_code f fd) (T : Tx mg)  : FnOk P w K mg base CX0 1 f fd ["code"] (sp__is_code K) := by
  refine F.ok sc__is_code (fun vs H Q E h => ?_) (fun cdv A outer s H vs Q E hr h => ?_)
  · obtain ⟨n, rfl, _⟩ := h
    rfl
  · obtain ⟨n, rfl, -, q⟩ := h
    refine ⟨_, (pss_one (ps_ret (pe_or (pe_cmpR op_eq (pv 0) (C8.pe_gc (by rfl) T.c_NEWLINE) (nomark _)) (pe_one (pe_and (pe_chain op_le op_le (C8.pe_gc (by rfl) T.c_SPACE) (pv 0) (C8.pe_gc (by rfl) T.c_TILDE)) (pe_one (pe_cmpR op_ne (pv 0) (C8.pe_gc (by rfl) T.c_PERCENT) (nomark _)))))))), ?_⟩
    apply s_ret
    · walk_at "ev"
    · exact q
def sp_is_text (_ : PySem.W.Frag) : Sp := sp1 (fun l : List Nat => [.str (S l)]) (fun l _ => l.length ≤ 40000) (fun l => .bl (okText l))
theorem ok_is_text {f : Addr} {fd : FuncData} (F : Fun K "is_text" "is_text" s_is_text f fd) (T : Tx mg) (C__is_code : Kn.Cl P w K mg base 1 "_is_code" (sp__is_code K)) : FnOk P w K mg base CX0 2 f fd ["value"] (sp_is_text K) := by
  refine F.ok sc_is_text (fun vs H Q E h => ?_) (fun cdv A outer s H vs Q E hr h => ?_)
  · obtain ⟨l, rfl, _⟩ := h
    rfl
  · obtain ⟨l, rfl, hl, q⟩ := h
    refine ⟨_, (pss_one (ps_ret (pe_callB (cr_all rfl) (by rfl) T.b_all (by decide +kernel) (pa_cons (pe_lc (own := [("sign", 1)]) rfl sc_is_text.nd (pi_str (pv 0)) (blkOk_by (own := [("sign", 1)]) (N := N_is_text) (sc := defScope s_is_text) (by decide +kernel)) (fun _ _ _ _ _ => pg_name (i := 1) sc_is_text.nd rfl (Or.inl rfl)) (fun _ _ _ _ _ => pts_nil) (fun _ _ _ _ _ => (Kn.pe_cl C__is_code hr (by decide) (by rfl) (pa_cons (pe_callB Kn.cr_ord (by rfl) T.b_ord (by decide +kernel) (pa_cons (pv 1) pa_nil)) pa_nil)))) pa_nil)))), ?_⟩
    refine s_ret (v := .bl (okText l)) (ev_all (p := fun c : Nat => isCode (c : Int)) (el_lcS (ev_var rfl) hl (fun _ => rfl) fun c hc H1 e1 => ?_)) q
    exact ev_c1 (a := (c : Int)) (by walk_at "ev") (fun _ _ => trivial)
def sp_is_content (_ : PySem.W.Frag) : Sp := sp1 (fun l : List Nat => [.str (S l)]) (fun l _ => l.length ≤ 40000) (fun l => .bl (decide ((l.length : Int) ≤ 400) && okText l))
theorem ok_is_content {f : Addr} {fd : FuncData} (F : Fun K "is_content" "is_content" s_is_content f fd) (T : Tx mg) (C_is_text : Kn.Cl P w K mg base 2 "is_text" (sp_is_text K)) : FnOk P w K mg base CX0 3 f fd ["value"] (sp_is_content K) := by
  refine F.ok sc_is_content (fun vs H Q E h => ?_) (fun cdv A outer s H vs Q E hr h => ?_)
  · obtain ⟨l, rfl, _⟩ := h
    rfl
  · obtain ⟨l, rfl, hl, q⟩ := h
    refine ⟨_, (pss_one (ps_ret (pe_and (pe_cmpR op_le (pe_callB Kn.cr_lenStr (by rfl) T.b_len PySem.boot_len (pa_cons (pv 0) pa_nil)) (C8.pe_gc (by rfl) T.c_CONTENT_LENGTH) (nomark _)) (pe_one (Kn.pe_cl C_is_text hr (by decide) (by rfl) (pa_cons (pv 0) pa_nil)))))), ?_⟩
    refine s_ret (ev_andV (by walk_at "ev") fun _ => ev_c1 (a := l) (by walk_at "ev") (fun _ _ => hl)) q
def sp__law_cell (K : PySem.W.Frag) : Sp := sp3 (fun (a : Addr) (_ : List Int) (k : Nat) => [.ref a, .int (k : Int)]) (fun a ns _ H => SqL K H a (ns.map V.int)) (fun _ ns k => .int (L2.cellOf ns k))
theorem ok__law_cell {f : Addr} {fd : FuncData} (F : Fun K "_law_cell" "_law_cell" s__law_cell f fd) (T : Tx mg)  : FnOk P w K mg base CX0 1 f fd ["script", "k"] (sp__law_cell K) := by
  refine F.ok sc__law_cell (fun vs H Q E h => ?_) (fun cdv A outer s H vs Q E hr h => ?_)
  · obtain ⟨a, ns, k, rfl, _⟩ := h
    rfl
  · obtain ⟨a, ns, k, rfl, hS, q⟩ := h
    refine ⟨_, (pss_cons (ps_if (pt_cmpR op_lt (pv 1) (pe_callB Kn.cr_lenSeq (by rfl) T.b_len PySem.boot_len (pa_cons (pv 0) pa_nil)) (nomark _)) (pss_one (ps_ret (pe_callTy Kn.cr_int1 (by rfl) T.b_int (by decide +kernel) (pa_cons (pe_ix ix_list (pv 0) (pv 1) (fun _ _ => rfl)) pa_nil)))) pss_nil)
      (pss_one (ps_ret pe_int))), ?_⟩
    refine q_when (et_test (ev_op (ev_var rfl) (ev_len (ev_var rfl) hS) rv_lt)) (fun hb H1 e1 => ?_) (fun hb H1 e1 => ?_)
    · have hk : k < ns.length := by
        rw [List.length_map, decide_eq_true_eq] at hb
        omega
      exact s_ret (ev_cb (ea_cons (ev_op (ev_var rfl) (ev_var rfl) (rv_ixL (ex_l e1 hS) (atI_cell hk))) ea_nil) rc_int) fun H2 e2 => q H2 (e1.trans e2)
    · have hk : ¬ k < ns.length := by
        rw [List.length_map, decide_eq_false_iff_not] at hb
        omega
      refine s_ret ev_c fun H2 e2 => ?_
      have z : Q (.int (L2.cellOf ns k)) H2 := q H2 (e1.trans e2)
      rw [cell_out hk] at z
      exact z
def sp__law_text (K : PySem.W.Frag) : Sp := sp2 (fun (a : Addr) (_ : List Int) => [.ref a]) (fun a ns H => SqL K H a (ns.map V.int) ∧ ns.length ≤ 1000) (fun _ ns => .str (S (lawText ns)))
theorem ok__law_text {f : Addr} {fd : FuncData} (F : Fun K "_law_text" "_law_text" s__law_text f fd) (T : Tx mg)  : FnOk P w K mg base CX0 1 f fd ["numbers"] (sp__law_text K) := by
  refine F.ok sc__law_text (fun vs H Q E h => ?_) (fun cdv A outer s H vs Q E hr h => ?_)
  · obtain ⟨a, ns, rfl, _⟩ := h
    rfl
  · obtain ⟨a, ns, rfl, ⟨hS, hl⟩, q⟩ := h
    refine ⟨_, (pss_cons (ps_set (i := 1) sc__law_text.nd rfl (Or.inr rfl) pe_str)
      (pss_cons (ps_set (i := 1) sc__law_text.nd rfl (Or.inr rfl) (pe_op Kn.op_addS (pv 1) pe_str))
      (pss_one (ps_ret (Kn.pe_joinN (pe_join pe_str (pe_lc (own := [("number", 2)]) rfl sc__law_text.nd (pi_list (pv 0)) (blkOk_by (own := [("number", 2)]) (N := N__law_text) (sc := defScope s__law_text) (by decide +kernel)) (fun _ _ _ _ _ => pg_name (i := 2) sc__law_text.nd rfl (Or.inl rfl)) (fun _ _ _ _ _ => pts_nil) (fun _ _ _ _ _ => (pe_ix ix_str (pv 1) (pe_op op_mod (pe_callTy Kn.cr_int1 (by rfl) T.b_int (by decide +kernel) (pa_cons (pv 2) pa_nil)) pe_int) (fun _ _ => rfl)))))))))), ?_⟩
    refine q_asg (ev_cS (l := signs1) rfl) fun H1 e1 => ?_
    refine q_asg (ev_op (ev_var rfl) (ev_cS (l := signs2) rfl) (rv_addS (by decide +kernel))) fun H2 e2 => ?_
    have hS2 := ex_l (e1.trans e2) hS
    refine s_ret (v := .str (S (lawText ns))) (ev_is (ev_join (s := []) (ys := ns.map fun n => [sign n]) (ev_cS rfl) ?_ ?_) ?_) fun H3 e3 => q H3 ((e1.trans e2).trans e3)
    · rw [List.map_map]
      refine el_lcM (g := V.int) (ev_var rfl) hS2 (by omega) (fun _ => rfl) fun n hn H3 e3 => ?_
      exact ev_idxS (l := signs) (ev_var rfl) (by walk_at "ev") (by rw [signs_len]; decide) (sign_at n)
    · rw [List.map_map, List.length_map]
      have z : (List.map ((fun x => x.length) ∘ fun n => [sign n]) ns).sum = ns.length := by
        clear hS hS2 q hl
        induction ns with
        | nil => rfl
        | cons a r ih =>
          rw [List.map_cons, List.sum_cons, ih]
          show 1 + r.length = r.length + 1
          omega
      rw [z]
      show ns.length + ns.length * 0 ≤ 16777216
      omega
    · rw [Kn.join_nil]
      exact congrArg (fun l => V.str (S l)) (flat1 ns)
/-- what the law makes of the script -/
def nums (ns : List Int) : List Int := ((ns.drop 1).take 60).map fun n => ((n.natAbs : Nat) : Int) / 3
theorem nums_len (ns : List Int) : (nums ns).length ≤ 60 := by
  unfold nums
  rw [List.length_map, List.length_take]
  omega
def more (f0 : Int) : List Int := (List.range (345 + ((f0.natAbs : Nat) : Int) / 2 % 60).toNat).map fun k : Nat => f0 + 7 * (k : Int)
theorem more_len (f0 : Int) : (more f0).length ≤ 404 := by
  unfold more
  rw [List.length_map, List.length_range]
  omega
def text2 (ns : List Int) : List Nat := if decide (cellOf ns 0 % 2 = 1) then lawText (nums ns) ++ lawText (more (cellOf ns 0)) else lawText (nums ns)
theorem text2_len (ns : List Int) : (text2 ns).length ≤ 464 := by
  have h1 := nums_len ns
  have h2 := more_len (cellOf ns 0)
  unfold text2
  split
  · rw [List.length_append, lawText_len, lawText_len]
    omega
  · rw [lawText_len]
    omega
theorem text2_ok (ns : List Int) : okText (text2 ns) = true := by
  unfold text2
  split
  · rw [okText_app, lawText_ok, lawText_ok]
    rfl
  · exact lawText_ok _
def at0 (ns : List Int) : Int := ((cellOf ns 0).natAbs : Int) / 120 % (((text2 ns).length : Int) + 1)
def due (ns : List Int) : Bool := !decide (cellOf ns 0 % 3 = 2)
def text3 (ns : List Int) : List Nat := if decide (cellOf ns 0 % 3 = 2) then (text2 ns).take (at0 ns).toNat ++ [9] ++ (text2 ns).drop (at0 ns).toNat else text2 ns
theorem text3_len (ns : List Int) : (text3 ns).length ≤ 465 := by
  have h1 := text2_len ns
  unfold text3
  split
  · rw [List.length_append, List.length_append, List.length_take, List.length_drop]
    show _ + 1 + _ ≤ 465
    omega
  · omega
theorem text3_ok (ns : List Int) : okText (text3 ns) = due ns := by
  unfold text3 due
  split
  · rename_i h
    rw [h, okText_app, okText_app]
    have e : okText [9] = false := by decide
    rw [e, Bool.and_false, Bool.false_and]
    rfl
  · rename_i h
    rw [text2_ok, Bool.eq_false_iff.mpr h]
    rfl
def sp_law (K : PySem.W.Frag) : Sp := sp2 (fun (a : Addr) (_ : List Int) => [.ref a]) (fun a ns H => SqL K H a (ns.map V.int) ∧ ns.length ≤ 63) (fun _ _ => .bl true)
theorem ok_law {f : Addr} {fd : FuncData} (F : Fun K "law" "law" s_law f fd) (T : Tx mg) (C__law_cell : Kn.Cl P w K mg base 1 "_law_cell" (sp__law_cell K)) (C__law_text : Kn.Cl P w K mg base 1 "_law_text" (sp__law_text K)) (C_is_text : Kn.Cl P w K mg base 2 "is_text" (sp_is_text K)) (C_is_content : Kn.Cl P w K mg base 3 "is_content" (sp_is_content K)) : FnOk P w K mg base CX0 4 f fd ["script"] (sp_law K) := by
  refine F.ok sc_law (fun vs H Q E h => ?_) (fun cdv A outer s H vs Q E hr h => ?_)
  · obtain ⟨a, ns, rfl, _⟩ := h
    rfl
  · obtain ⟨a, ns, rfl, ⟨hS, hl⟩, q⟩ := h
    refine ⟨_, (pss_cons (ps_set (i := 1) sc_law.nd rfl (Or.inr rfl) (Kn.pe_cl C__law_cell hr (by decide) (by rfl) (pa_cons (pv 0) (pa_cons pe_int pa_nil))))
      (pss_cons (ps_set (i := 2) sc_law.nd rfl (Or.inl rfl) (Kn.pe_cl C__law_text hr (by decide) (by rfl) (pa_cons (pe_lc (own := [("cell", 6)]) rfl sc_law.nd (pi_list (pe_slice sl_list (pv 0) (po_some pe_int) (po_some pe_int))) (blkOk_by (own := [("cell", 6)]) (N := N_law) (sc := defScope s_law) (by decide +kernel)) (fun _ _ _ _ _ => pg_name (i := 6) sc_law.nd rfl (Or.inl rfl)) (fun _ _ _ _ _ => pts_nil) (fun _ _ _ _ _ => (pe_op op_fdiv (pe_callB Kn.cr_abs (by rfl) T.b_abs (by decide +kernel) (pa_cons (pe_callTy Kn.cr_int1 (by rfl) T.b_int (by decide +kernel) (pa_cons (pv 6) pa_nil)) pa_nil)) pe_int))) pa_nil)))
      (pss_cons (ps_if (pt_cmpR op_eq (pe_op op_mod (pv 1) pe_int) pe_int (nomark _)) (pss_one (ps_set (i := 2) sc_law.nd rfl (Or.inl rfl) (pe_op Kn.op_addS (pv 2) (Kn.pe_cl C__law_text hr (by decide) (by rfl) (pa_cons (pe_lc (own := [("k", 7)]) rfl sc_law.nd (pi_range1 rfl T.b_range (pa_cons (pe_op op_add pe_int (pe_op op_mod (pe_op op_fdiv (pe_callB Kn.cr_abs (by rfl) T.b_abs (by decide +kernel) (pa_cons (pv 1) pa_nil)) pe_int) pe_int)) pa_nil)) (blkOk_by (own := [("k", 7)]) (N := N_law) (sc := defScope s_law) (by decide +kernel)) (fun _ _ _ _ _ => pg_name (i := 7) sc_law.nd rfl (Or.inl rfl)) (fun _ _ _ _ _ => pts_nil) (fun _ _ _ _ _ => (pe_op op_add (pv 1) (pe_op op_mul pe_int (pv 7))))) pa_nil))))) pss_nil)
      (pss_cons (ps_set (i := 3) sc_law.nd rfl (Or.inl rfl) pe_bl)
      (pss_cons (ps_set (i := 4) sc_law.nd rfl (Or.inl rfl) (pe_op op_mod (pe_op op_fdiv (pe_callB Kn.cr_abs (by rfl) T.b_abs (by decide +kernel) (pa_cons (pv 1) pa_nil)) pe_int) (pe_op op_add (pe_callB Kn.cr_lenStr (by rfl) T.b_len PySem.boot_len (pa_cons (pv 2) pa_nil)) pe_int)))
      (pss_cons (ps_if (pt_cmpR op_eq (pe_op op_mod (pv 1) pe_int) pe_int (nomark _)) (pss_cons (ps_set (i := 2) sc_law.nd rfl (Or.inl rfl) (pe_op Kn.op_addS (pe_op Kn.op_addS (pe_slice sl_str (pv 2) po_none (po_some (pv 4))) pe_str) (pe_slice sl_str (pv 2) (po_some (pv 4)) po_none)))
      (pss_one (ps_set (i := 3) sc_law.nd rfl (Or.inl rfl) pe_bl))) pss_nil)
      (pss_cons (ps_set (i := 5) sc_law.nd rfl (Or.inl rfl) (pe_lst (pa_cons (Kn.pe_cl C_is_text hr (by decide) (by rfl) (pa_cons (pv 2) pa_nil)) (pa_cons (Kn.pe_cl C_is_content hr (by decide) (by rfl) (pa_cons (pv 2) pa_nil)) pa_nil))))
      (pss_cons (ps_if (PW.pt (pw_or (pt_not (pt_val (pe_callB Kn.cr_isi (by rfl) T.b_isinstance (by decide +kernel) (pa_cons (pe_ix ix_list (pv 5) pe_int (fun _ _ => rfl)) (pa_cons (pe_bltn (v := .ty "bool") (by rfl) T.b_bool (by decide +kernel) rfl) pa_nil))))) (pw_or1 (pt_not (pt_val (pe_callB Kn.cr_isi (by rfl) T.b_isinstance (by decide +kernel) (pa_cons (pe_ix ix_list (pv 5) pe_int (fun _ _ => rfl)) (pa_cons (pe_bltn (v := .ty "bool") (by rfl) T.b_bool (by decide +kernel) rfl) pa_nil)))))))) (pss_one (ps_ret pe_bl)) pss_nil)
      (pss_one (ps_ret (pe_cmpR (op_eqD hr.units) (pv 5) (pe_lst (pa_cons (pv 3) (pa_cons (pe_and (pv 3) (pe_one (pe_cmpR op_le (pe_callB Kn.cr_lenStr (by rfl) T.b_len PySem.boot_len (pa_cons (pv 2) pa_nil)) pe_int (nomark _)))) pa_nil))) (nomark _)))))))))))), ?_⟩
    -- first
    refine q_asg (v := .int (cellOf ns 0)) (ev_c3 (a := a) (b := ns) (c := 0) (by walk_at "ev") fun H1 e => ex_l e hS) fun H1 e1 => ?_
    replace hS := ex_l e1 hS
    replace q := fun H2 e => q H2 (e1.trans e)
    -- value
    refine q_asg (v := .str (S (lawText (nums ns)))) (ev_c1L (xs := (nums ns).map V.int) ?_ (nums ns) (fun _ => rfl) (fun p H2 e h => ⟨sq_of h, by have := nums_len ns; omega⟩) fun _ => rfl) fun H2 e2 => ?_
    · unfold nums
      rw [List.map_map]
      refine el_lcN (g := V.int) (el_slN (ev_var rfl) (by walk_at "ev") (by walk_at "ev") hS 1 61 rfl rfl) (by rw [List.length_take]; omega) (fun _ => rfl) fun n hn H2 e2 => ?_
      walk_at "ev"
    replace hS := ex_l e2 hS
    replace q := fun H3 e => q H3 (e2.trans e)
    -- if first % 2 == 1
    refine q_ifAsg (v := .str (S (text2 ns))) (b := decide (cellOf ns 0 % 2 = 1)) (by walk_at "ev") (fun hb => ?_) (fun hb => ?_) fun H3 e3 => ?_
    · unfold text2
      rw [if_pos hb]
      refine ev_op (ev_var rfl) (ev_c1L (xs := (more (cellOf ns 0)).map V.int) ?_ (more (cellOf ns 0)) (fun _ => rfl) (fun p H2 e h => ⟨sq_of h, by have := more_len (cellOf ns 0); omega⟩) fun _ => rfl) (rv_addS ?_)
      · unfold more
        rw [List.map_map]
        refine el_lcR (by walk_at "ev") ⟨by omega, by omega⟩ (fun _ => rfl) fun k H3 e3 hk => ?_
        walk_at "ev"
      · rw [lawText_len, lawText_len]
        have h1 := nums_len ns
        have h2 := more_len (cellOf ns 0)
        omega
    · unfold text2
      rw [if_neg (by rw [hb]; decide)]
      rfl
    replace hS := ex_l e3 hS
    replace q := fun H4 e => q H4 (e3.trans e)
    have h2 := text2_len ns
    -- due, at
    refine q_asg ev_c fun H4 e4 => ?_
    replace q := fun H5 e => q H5 (e4.trans e)
    refine q_asg (v := .int (at0 ns)) (ev_op (by walk_at "ev") (by walk_at "ev") (rv_mod (by omega))) fun H5 e5 => ?_
    replace q := fun H6 e => q H6 (e5.trans e)
    -- if first % 3 == 2
    refine q_ifM (b := decide (cellOf ns 0 % 3 = 2)) (fun σ' H' => Ex H5 H' ∧ σ' = [some (.ref a), some (.int (cellOf ns 0)), some (.str (S (text3 ns))), some (.bl (due ns)), some (.int (at0 ns)), none, none, none]) (by walk_at "ev") (fun hb H6 e6 N hN => ?_) (fun hb H6 e6 N hN => ?_) ?_
    · have h0 : 0 ≤ at0 ns := Int.emod_nonneg _ (by omega)
      refine q_asg (v := .str (S (text3 ns))) ?_ fun H7 e7 => ?_
      · unfold text3
        rw [if_pos hb]
        refine ev_op (ev_op (ev_slTo (ev_var rfl) eo_none (by walk_at "ev") (by omega) h0) (ev_cS (l := [9]) rfl) (rv_addS ?_)) (ev_slFrom (ev_var rfl) (by walk_at "ev") eo_none (by omega) h0) (rv_addS ?_)
        · rw [List.length_take]
          show _ + 1 ≤ 100000
          omega
        · rw [List.length_append, List.length_take, List.length_drop]
          show _ + 1 + _ ≤ 100000
          omega
      · refine s_asg (v := .bl (due ns)) ?_ fun H8 e8 => hN _ _ ⟨(e6.trans e7).trans e8, rfl⟩
        have e : due ns = false := by
          unfold due
          rw [hb]
          rfl
        rw [e]
        exact ev_c
    · refine s_next (hN _ _ ⟨e6, ?_⟩)
      have e : due ns = true := by
        unfold due
        rw [hb]
        rfl
      rw [e]
      unfold text3
      rw [if_neg (by rw [hb]; decide)]
      rfl
    rintro σ6 H6 ⟨e6, rfl⟩
    replace q := fun H7 e => q H7 (e6.trans e)
    have h3 := text3_len ns
    -- actual
    refine q_asgL (xs := [.bl (due ns), .bl (due ns && decide (((text3 ns).length : Int) ≤ 400))]) (el_lst (ea_cons (ev_is (ev_c1 (a := text3 ns) (by walk_at "ev") fun _ _ => (by omega)) (congrArg V.bl (text3_ok ns))) (ea_cons (ev_is (ev_c1 (a := text3 ns) (by walk_at "ev") fun _ _ => (by omega)) ?_) ea_nil)) (by simp)) fun p H7 np e7 hp => ?_
    · show V.bl (_ && okText (text3 ns)) = _
      rw [text3_ok, Bool.and_comm]
    replace q := fun H8 e => q H8 (e7.trans e)
    -- isinstance
    refine q_when (b := false) (et_or (a := false) (b := false) (et_not (a := true) (et_B (ev_isiB (ev_op (ev_var rfl) ev_c (rv_ixL (sq_of hp) (atI_nat (j := 0) rfl)))))) fun _ => et_not (a := true) (et_B (ev_isiB (ev_op (ev_var rfl) ev_c (rv_ixL (sq_of hp) (atI_nat (j := 1) rfl)))))) (fun hb => nomatch hb) fun _ H8 e8 => ?_
    replace q := fun H9 e => q H9 (e8.trans e)
    refine s_ret (v := .bl true) (ev_opL (ev_var rfl) (el_lst (ea_cons (ev_var rfl) (ea_cons (ev_andV (ev_var rfl) fun _ => by walk_at "ev") ea_nil)) (by simp)) fun p2 H9 hp2 e9 => ?_) q
    exact eqD_true (sq_of (e9 _ _ (e8 _ _ hp))) (sq_of hp2) (fun _ _ => .cons (.bl _) (.cons (.bl _) .nil)) rfl (SeqAt.eqv_refl _ rfl)
end
theorem all_mk {l : PySem.W.OpenLaw} {w : World} {K : PySem.W.Frag} {h : Heap} {mg : Str → Option Value} {fa : Addr} (X : K.In h) (G : h.Ns mainGlobals mg) (hfa : mg "law" = some (.ref fa))
    {f0 f1 f2 f3 f4 f5 : Addr} {od0 od1 od2 od3 od4 od5 an0 an1 an2 an3 an4 an5 : Option Addr} {sl0 sl1 sl2 sl3 sl4 sl5 : Array (Option Value)} {oc0 oc1 oc2 oc3 oc4 oc5 kV0 kV1 kV2 kV3 kV4 kV5 dc0 dc1 dc2 dc3 dc4 dc5 pm0 pm1 pm2 pm3 pm4 pm5 cd0 cd1 cd2 cd3 cd4 cd5 ct0 ct1 ct2 ct3 ct4 ct5 : Value}
    {tk_CONTENT_LENGTH tk_NEWLINE tk_SPACE tk_PERCENT tk_TILDE : Tok}
    (a0 : PySem.W.nsIn K mainGlobals "_is_code" = some (some (.ref f0)))
    (l0 : K.lookup f0 = some ⟨oc0, od0, .func (PySem.W.fnOf "_is_code" "_is_code" (defArgs s__is_code) (defBody s__is_code) (defScope s__is_code) .none kV0 dc0 pm0 an0 cd0 ct0), sl0⟩)
    (c0 : PySem.W.codeIn K cd0 "_is_code" = true)
    (k0 : PySem.W.keepIn K (.ref f0) = true)
    (a1 : PySem.W.nsIn K mainGlobals "is_text" = some (some (.ref f1)))
    (l1 : K.lookup f1 = some ⟨oc1, od1, .func (PySem.W.fnOf "is_text" "is_text" (defArgs s_is_text) (defBody s_is_text) (defScope s_is_text) .none kV1 dc1 pm1 an1 cd1 ct1), sl1⟩)
    (c1 : PySem.W.codeIn K cd1 "is_text" = true)
    (k1 : PySem.W.keepIn K (.ref f1) = true)
    (a2 : PySem.W.nsIn K mainGlobals "is_content" = some (some (.ref f2)))
    (l2 : K.lookup f2 = some ⟨oc2, od2, .func (PySem.W.fnOf "is_content" "is_content" (defArgs s_is_content) (defBody s_is_content) (defScope s_is_content) .none kV2 dc2 pm2 an2 cd2 ct2), sl2⟩)
    (c2 : PySem.W.codeIn K cd2 "is_content" = true)
    (k2 : PySem.W.keepIn K (.ref f2) = true)
    (a3 : PySem.W.nsIn K mainGlobals "_law_cell" = some (some (.ref f3)))
    (l3 : K.lookup f3 = some ⟨oc3, od3, .func (PySem.W.fnOf "_law_cell" "_law_cell" (defArgs s__law_cell) (defBody s__law_cell) (defScope s__law_cell) .none kV3 dc3 pm3 an3 cd3 ct3), sl3⟩)
    (c3 : PySem.W.codeIn K cd3 "_law_cell" = true)
    (k3 : PySem.W.keepIn K (.ref f3) = true)
    (a4 : PySem.W.nsIn K mainGlobals "_law_text" = some (some (.ref f4)))
    (l4 : K.lookup f4 = some ⟨oc4, od4, .func (PySem.W.fnOf "_law_text" "_law_text" (defArgs s__law_text) (defBody s__law_text) (defScope s__law_text) .none kV4 dc4 pm4 an4 cd4 ct4), sl4⟩)
    (c4 : PySem.W.codeIn K cd4 "_law_text" = true)
    (k4 : PySem.W.keepIn K (.ref f4) = true)
    (a5 : PySem.W.nsIn K mainGlobals "law" = some (some (.ref f5)))
    (l5 : K.lookup f5 = some ⟨oc5, od5, .func (PySem.W.fnOf "law" "law" (defArgs s_law) (defBody s_law) (defScope s_law) .none kV5 dc5 pm5 an5 cd5 ct5), sl5⟩)
    (c5 : PySem.W.codeIn K cd5 "law" = true)
    (k5 : PySem.W.keepIn K (.ref f5) = true)
    (zb_abs : PySem.W.nsIn K mainGlobals "abs" = some none)
    (zb_all : PySem.W.nsIn K mainGlobals "all" = some none)
    (zb_bool : PySem.W.nsIn K mainGlobals "bool" = some none)
    (zb_int : PySem.W.nsIn K mainGlobals "int" = some none)
    (zb_isinstance : PySem.W.nsIn K mainGlobals "isinstance" = some none)
    (zb_len : PySem.W.nsIn K mainGlobals "len" = some none)
    (zb_ord : PySem.W.nsIn K mainGlobals "ord" = some none)
    (zb_range : PySem.W.nsIn K mainGlobals "range" = some none)
    (zc_CONTENT_LENGTH : PySem.W.nsIn K mainGlobals "CONTENT_LENGTH" = some (some (.int 400 tk_CONTENT_LENGTH)))
    (zc_NEWLINE : PySem.W.nsIn K mainGlobals "NEWLINE" = some (some (.int 10 tk_NEWLINE)))
    (zc_SPACE : PySem.W.nsIn K mainGlobals "SPACE" = some (some (.int 32 tk_SPACE)))
    (zc_PERCENT : PySem.W.nsIn K mainGlobals "PERCENT" = some (some (.int 37 tk_PERCENT)))
    (zc_TILDE : PySem.W.nsIn K mainGlobals "TILDE" = some (some (.int 126 tk_TILDE)))
    : ∃ fd : FuncData, (∀ (s : Shared) (v : Value), BindsTo s fd ⟨[v], []⟩ [("script", v)]) ∧ ∀ base : Heap, K.In base → base.Ns mainGlobals mg → FnOk l.prog w K mg base CX0 4 fa fd ["script"] (sp_law K) := by
  cases hfa.symm.trans (PySem.W.mg_of X G a5)
  have T : Tx mg := ⟨PySem.W.mg_none_of X G zb_abs, PySem.W.mg_none_of X G zb_all, PySem.W.mg_none_of X G zb_bool, PySem.W.mg_none_of X G zb_int, PySem.W.mg_none_of X G zb_isinstance, PySem.W.mg_none_of X G zb_len, PySem.W.mg_none_of X G zb_ord, PySem.W.mg_none_of X G zb_range, ⟨_, PySem.W.mg_of X G zc_CONTENT_LENGTH, ⟨_, rfl⟩⟩, ⟨_, PySem.W.mg_of X G zc_NEWLINE, ⟨_, rfl⟩⟩, ⟨_, PySem.W.mg_of X G zc_SPACE, ⟨_, rfl⟩⟩, ⟨_, PySem.W.mg_of X G zc_PERCENT, ⟨_, rfl⟩⟩, ⟨_, PySem.W.mg_of X G zc_TILDE, ⟨_, rfl⟩⟩⟩
  have F0 := fun_mk (st := s__is_code) l0 c0 k0
  have b0 := F0.binds (ps := ["code"]) fun _ _ _ _ _ _ us hl => match us, hl with | [_], _ => rfl
  have F1 := fun_mk (st := s_is_text) l1 c1 k1
  have b1 := F1.binds (ps := ["value"]) fun _ _ _ _ _ _ us hl => match us, hl with | [_], _ => rfl
  have F2 := fun_mk (st := s_is_content) l2 c2 k2
  have b2 := F2.binds (ps := ["value"]) fun _ _ _ _ _ _ us hl => match us, hl with | [_], _ => rfl
  have F3 := fun_mk (st := s__law_cell) l3 c3 k3
  have b3 := F3.binds (ps := ["script", "k"]) fun _ _ _ _ _ _ us hl => match us, hl with | [_, _], _ => rfl
  have F4 := fun_mk (st := s__law_text) l4 c4 k4
  have b4 := F4.binds (ps := ["numbers"]) fun _ _ _ _ _ _ us hl => match us, hl with | [_], _ => rfl
  have F5 := fun_mk (st := s_law) l5 c5 k5
  have b5 := F5.binds (ps := ["script"]) fun _ _ _ _ _ _ us hl => match us, hl with | [_], _ => rfl
  refine ⟨PySem.W.fnOf "law" "law" (defArgs s_law) (defBody s_law) (defScope s_law) .none kV5 dc5 pm5 an5 cd5 ct5, fun s v => .of_eq rfl, fun base _ _ => ?_⟩
  have C__is_code : Kn.Cl l.prog w K mg base 1 "_is_code" (sp__is_code K) := Kn.cl_of (ok__is_code F0 T) F0 (PySem.W.mg_of X G a0) b0
  have C_is_text : Kn.Cl l.prog w K mg base 2 "is_text" (sp_is_text K) := Kn.cl_of (ok_is_text F1 T C__is_code) F1 (PySem.W.mg_of X G a1) b1
  have C_is_content : Kn.Cl l.prog w K mg base 3 "is_content" (sp_is_content K) := Kn.cl_of (ok_is_content F2 T C_is_text) F2 (PySem.W.mg_of X G a2) b2
  have C__law_cell : Kn.Cl l.prog w K mg base 1 "_law_cell" (sp__law_cell K) := Kn.cl_of (ok__law_cell F3 T) F3 (PySem.W.mg_of X G a3) b3
  have C__law_text : Kn.Cl l.prog w K mg base 1 "_law_text" (sp__law_text K) := Kn.cl_of (ok__law_text F4 T) F4 (PySem.W.mg_of X G a4) b4
  exact ok_law F5 T C__law_cell C__law_text C_is_text C_is_content
end My
open PySem PySem.W PyProof.Rows
set_option maxHeartbeats 0 in
theorem PySem.Challenge.cw_kilnyard_k03_texts_and_contents_holds : PySem.Challenge.rw_kilnyard_k03_texts_and_contents.Holds := by
  w_on; o_law; k_head; (case hw => w_witness2)
  k_fill
  refine L2.walk_of (l := PySem.Challenge.rw_kilnyard_k03_texts_and_contents) (n := 63) (k := 4) (x := "script") (CX := fun _ => L2.CX0) (sp := fun w => My.sp_law _) rfl (by decide) rfl ⟨rfl, by decide, by decide⟩ (fun w h Y => PySem.W.kIn_of Y) ?F (fun _ _ a ns hl _ hS => ⟨a, ns, rfl, ⟨hS, hl⟩, fun _ _ => rfl⟩) (fun _ _ _ _ _ h => h)
  case F =>
    intro w mg fa h KX G hmg
    refine' My.all_mk KX G hmg ?a0 ?l0 ?c0 ?k0 ?a1 ?l1 ?c1 ?k1 ?a2 ?l2 ?c2 ?k2 ?a3 ?l3 ?c3 ?k3 ?a4 ?l4 ?c4 ?k4 ?a5 ?l5 ?c5 ?k5 ?zb_abs ?zb_all ?zb_bool ?zb_int ?zb_isinstance ?zb_len ?zb_ord ?zb_range ?zc_CONTENT_LENGTH ?zc_NEWLINE ?zc_SPACE ?zc_PERCENT ?zc_TILDE
    (case a0 => k_is)
    (case l0 => k_is)
    (case c0 => k_is)
    (case k0 => k_is)
    (case a1 => k_is)
    (case l1 => k_is)
    (case c1 => k_is)
    (case k1 => k_is)
    (case a2 => k_is)
    (case l2 => k_is)
    (case c2 => k_is)
    (case k2 => k_is)
    (case a3 => k_is)
    (case l3 => k_is)
    (case c3 => k_is)
    (case k3 => k_is)
    (case a4 => k_is)
    (case l4 => k_is)
    (case c4 => k_is)
    (case k4 => k_is)
    (case a5 => k_is)
    (case l5 => k_is)
    (case c5 => k_is)
    (case k5 => k_is)
    (case zb_abs => k_is)
    (case zb_all => k_is)
    (case zb_bool => k_is)
    (case zb_int => k_is)
    (case zb_isinstance => k_is)
    (case zb_len => k_is)
    (case zb_ord => k_is)
    (case zb_range => k_is)
    (case zc_CONTENT_LENGTH => k_is)
    (case zc_NEWLINE => k_is)
    (case zc_SPACE => k_is)
    (case zc_PERCENT => k_is)
    (case zc_TILDE => k_is)

