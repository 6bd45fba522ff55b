import PyProof.Rows.All
import Wide.All
import OpenK.AllK
import Wide.FinOn
import HandS.Evl
import HandS.Codes
import HandS.Iter
import HandS.Dict
import HandS.Text
import HandS.Words
import HandS.Walk
import HandS.IsInst
import HandS.Steps
import HandS.More
import PySem.Challenge.RW_kilnyard_k06_directories_and_parents
set_option Elab.async false
set_option linter.all false
set_option maxRecDepth 100000
set_option maxHeartbeats 4000000
/-! Kn: what all our proofs share: named relations, values, comprehensions, promises of pure defs. -/
namespace Kn
open PySem PySem.Spec PyProof.Rows L2 Evl SX

/-! ### relations with a name -/
def rAddStr : R2 := fun x y H Q => ∃ i j, x = .str i ∧ y = .str j ∧ i.length + j.length ≤ sizeLine ∧ Q (.str (i ++ j)) H
theorem op_addS {X : Cx} : OpR X (binaryOp .Add) rAddStr := op_add_str
def rLenStr : List V → Hp → VK → Prop := fun xs H Q => ∃ z, xs = [.str z] ∧ z.length ≤ sizeLine ∧ Q (.int z.length) H
theorem cr_lenStr {X : Cx} : CallR X (.builtin "len") rLenStr := call_len_str
theorem cr_lenSeq {X : Cx} : CallR X (.builtin "len") (rLenS X.K) := call_len_seq
def rOrd : List V → Hp → VK → Prop := fun xs H Q => ∃ x, xs = [.str x] ∧ x.length = 1 ∧ Q (.int (x.cps.getD 0 0 : Nat)) H
theorem cr_ord {X : Cx} : CallR X (.builtin "ord") rOrd := call_ord
def rInt1 : List V → Hp → VK → Prop := fun xs H Q => (∃ i, xs = [.int i] ∧ Q (.int i) H) ∨ ∃ k, xs = [.bl k] ∧ Q (.int (if k then 1 else 0)) H
theorem cr_int1 {X : Cx} : CallR X (.type "int") rInt1 := call_int1
def rAbs : List V → Hp → VK → Prop := fun xs H Q => ∃ i, xs = [.int i] ∧ Q (.int (if i < 0 then -i else i)) H
theorem cr_abs {X : Cx} : CallR X (.builtin "abs") rAbs := call_abs
def rJoin (K : PySem.W.Frag) : V → List V → Hp → VK → Prop := fun x xs H Q => ∃ a p, ∃ ys : List Str, x = .str a ∧ xs = [.ref p] ∧ (SqL K H p (ys.map V.str) ∨ SqT K H p (ys.map V.str)) ∧ (ys.map (·.length)).sum + ys.length * a.length ≤ 16777216 ∧ Q (.str (Txt.join a ys)) H
theorem pe_joinN {X : Cx} {e : Expr} {to te : TE} (h : PE X e (tM1 (fun x xs H Q => ∃ a p, ∃ ys : List Str, x = .str a ∧ xs = [.ref p] ∧ (SqL X.K H p (ys.map V.str) ∨ SqT X.K H p (ys.map V.str)) ∧ (ys.map (·.length)).sum + ys.length * a.length ≤ 16777216 ∧ Q (.str (Txt.join a ys)) H) to te)) : PE X e (tM1 (rJoin X.K) to te) := h
theorem cr_isi {X : Cx} : CallR X (.builtin "isinstance") (rIsi X.K) := call_isi

/-! ### values -/
section
variable {K : PySem.W.Frag} {σ : L2.St} {H H' : Hp} {ta tb te tc : TE} {t u : TT} {x y z v : V}
theorem val_abs (i : Int) : (if i < 0 then -i else i) = (i.natAbs : Int) := by split <;> omega
theorem rc_abs {i : Int} : RC rAbs [.int i] H (.int (i.natAbs : Int)) := fun H1 _ _ q => ⟨i, rfl, by rw [val_abs]; exact q H1 (Ex.refl H1)⟩
theorem rc_int {i : Int} : RC rInt1 [.int i] H (.int i) := fun H1 _ _ q => .inl ⟨i, rfl, q H1 (Ex.refl H1)⟩
theorem rc_intB {b : Bool} : RC rInt1 [.bl b] H (.int (if b then 1 else 0)) := fun H1 _ _ q => .inr ⟨b, rfl, q H1 (Ex.refl H1)⟩
theorem rc_ord {c : Nat} : RC rOrd [.str (S [c])] H (.int (c : Int)) := fun H1 _ _ q => ⟨S [c], rfl, rfl, q H1 (Ex.refl H1)⟩
theorem rc_lenS {l : List Nat} (h : l.length ≤ 100000) : RC rLenStr [.str (S l)] H (.int (l.length : Int)) := fun H1 _ _ q => ⟨S l, rfl, by rw [S_len]; exact sz_of h, by rw [S_len]; exact q H1 (Ex.refl H1)⟩
theorem rv_addS {a b : List Nat} (h : a.length + b.length ≤ 100000) : RV rAddStr (.str (S a)) (.str (S b)) H (.str (S (a ++ b))) := fun H1 _ _ q =>
  ⟨S a, S b, rfl, rfl, by rw [S_len, S_len]; exact sz_of h, by rw [S_cat]; exact q H1 (Ex.refl H1)⟩
theorem rv_mod {i j : Int} (h : 0 < j) : RV (rI (fun _ j => 0 < j) fun i j => .int (i % j)) (.int i) (.int j) H (.int (i % j)) := rv_I h
theorem rv_fdiv {i j : Int} (h : CDiv i j) : RV (rI CDiv fun i j => .int (i / j)) (.int i) (.int j) H (.int (i / j)) := rv_I h
theorem rv_mul {i j : Int} (h : CMul i j) : RV (rI CMul fun i j => .int (i * j)) (.int i) (.int j) H (.int (i * j)) := rv_I h
theorem S1 (x : Str) {l : List Nat} (h : x.cps.toList = l) : x = S l := TL.ext_tl h
theorem ev_chain {r r' : R2} {k b : Bool} (ha : Ev ta σ H x) (hb : Ev tb σ H y) (hr : RV r x y H (.bl k)) (hc : Ev tc σ H z) (hr' : RV r' y z H (.bl b)) : Ev (tChain r r' ta tb tc) σ H (.bl (k && b)) := fun H1 e Q q =>
  ha H1 e _ fun H2 e2 => hb H2 (e.trans e2) _ fun H3 e3 => hr H3 ((e.trans e2).trans e3) _ fun H4 e4 => ⟨k, rfl, by
    have e14 := (e2.trans e3).trans e4
    cases k with
    | true =>
      show tc σ H4 fun w' H5 => r' y w' H5 Q
      exact hc H4 (e.trans e14) _ fun H5 e5 => hr' H5 ((e.trans e14).trans e5) Q fun H6 e6 => q H6 ((e14.trans e5).trans e6)
    | false =>
      show Q (.bl false) H4
      exact q H4 e14⟩
theorem ev_idxS {l : List Nat} {i : Int} {c : Nat} (ha : Ev ta σ H (.str (S l))) (hb : Ev tb σ H (.int i)) (h : l.length ≤ 100000) (hat : atI l i = some c) : Ev (tOp rIxS ta tb) σ H (.str (S [c])) := ev_op ha hb (rv_ixS (w := S l) (by rw [S_len]; exact h) hat)
theorem atI_nat' {α : Type} {xs : List α} {i : Int} {j : Nat} {v : α} (hi : i = (j : Int)) (h : xs[j]? = some v) : atI xs i = some v := by
  subst hi
  exact atI_nat h
theorem ev_join {s : List Nat} {ys : List (List Nat)} (hs : Ev ta σ H (.str (S s))) (hl : EvL tb σ H (ys.map fun l => V.str (S l))) (hz : (ys.map (·.length)).sum + ys.length * s.length ≤ 16777216) : Ev (tM1 (rJoin K) ta tb) σ H (.str (S (TL.joinL s ys))) := fun H1 e Q q =>
  hs H1 e _ fun H2 e2 => ⟨⟨_, rfl⟩, hl H2 (e.trans e2) _ fun p H3 _ e3 hp => ⟨S s, p, ys.map S, rfl, rfl, .inl (.inl (.inl (by rw [List.map_map]; exact hp))), by
    rw [SX.lens, List.length_map, S_len]
    exact hz, by
    rw [SX.join_S]
    exact q H3 (e2.trans e3)⟩⟩
theorem ev_slS {to tp : TO} {l : List Nat} {lo hi : Option Int} (h : Ev te σ H (.str (S l))) (h1 : EvO to σ H lo) (h2 : EvO tp σ H hi) (hz : l.length ≤ 100000) : Ev (tSl rSlS te to tp) σ H (.str (cutS (S l) lo hi)) := fun H1 e _ q =>
  h H1 e _ fun H2 e2 => h1 H2 (e.trans e2) _ fun H3 e3 => h2 H3 ((e.trans e2).trans e3) _ fun H4 e4 => ⟨S l, rfl, by rw [S_len]; exact sz_of hz, q H4 ((e2.trans e3).trans e4)⟩
theorem ev_isi {T : String} {c : String} {b : Bool} (ha : Ev ta σ H x) (ht : TyX K H x (.type T)) (hb : kitB T c = some b) (hm : ∀ H1, Ex H H1 → TyX K H1 x (.type T)) : Ev (tCB (rIsi K) (tCons ta (tCons (tC (.ty c)) tNil))) σ H (.bl b) := fun H1 e Q q =>
  ha H1 e _ fun H2 e2 => ⟨x, .ty c, .type T, .type c, b, rfl, .ty c, hm H2 (e.trans e2), kit_ty hb, q H2 e2⟩
theorem ev_all {τ : Type} {xs : List τ} {p : τ → Bool} (ha : EvL ta σ H (xs.map fun a => V.bl (p a))) : Ev (tCB (rAll K) (tCons ta tNil)) σ H (.bl (xs.all p)) := fun H1 e Q q =>
  ha H1 e _ fun a H2 _ e2 h2 => ⟨a, xs.map p, rfl, sq_of (by rw [List.map_map]; exact h2), by
    have hh : (xs.map p).all id = xs.all p := by rw [List.all_map]; rfl
    rw [hh]
    exact q H2 e2⟩

/-! ### comprehensions: no test, a new list of what each item gives -/
theorem given_all {α : Type} {xs : List α} {f : α → V} {d : V} : given xs.length (fun _ => true) (fun i => (xs[i]?.map f).getD d) = xs.map f := by
  unfold given
  rw [List.filter_eq_self.mpr (fun _ _ => rfl)]
  refine List.ext_getElem (by simp) fun i h1 h2 => ?_
  simp at h1 h2
  simp [h2]
theorem et_yes {H : Hp} : EvT tYes σ H true := fun H1 _ _ q => q H1 (Ex.refl H1)
theorem el_lcM {τ : Type} {a : Addr} {ns : List τ} {g f : τ → V} {tl : TE} {j : Nat} {vs : List Nat} (h : Ev tl σ H (.ref a)) (hx : SqL K H a (ns.map g)) (hz : ns.length ≤ 40000) (hw : ∀ x, wipe ((wipe σ vs).set j (some x)) vs = wipe σ vs)
    (he : ∀ n ∈ ns, ∀ H1, Ex H H1 → Ev te ((wipe σ vs).set j (some (g n))) H1 (f n)) : EvL (tLc (iList K tl) (gName j) tYes te vs) σ H (ns.map f) := by
  have k := el_lcL (K := K) (te := te) (t := tYes) (j := j) (vs := vs) (fun _ => true) (fun i => (ns[i]?.map f).getD .non) h hx (by rw [List.length_map]; exact hz) hw (fun _ _ H1 _ _ => et_yes) (fun i x H1 e hi _ => by
    rw [List.getElem?_map] at hi
    cases hn : ns[i]? with
    | none => rw [hn] at hi; cases hi
    | some n =>
      rw [hn] at hi
      cases Option.some.inj hi
      exact he n (List.mem_of_getElem? hn) H1 e)
  rw [List.length_map, given_all] at k
  exact k
theorem el_lcN {τ : Type} {ns : List τ} {g f : τ → V} {tl : TE} {j : Nat} {vs : List Nat} (h : EvL tl σ H (ns.map g)) (hz : ns.length ≤ 40000) (hw : ∀ x, wipe ((wipe σ vs).set j (some x)) vs = wipe σ vs)
    (he : ∀ n ∈ ns, ∀ H1, Ex H H1 → Ev te ((wipe σ vs).set j (some (g n))) H1 (f n)) : EvL (tLc (iList K tl) (gName j) tYes te vs) σ H (ns.map f) := by
  have k := el_lcNL (K := K) (te := te) (t := tYes) (j := j) (vs := vs) (fun _ => true) (fun i => (ns[i]?.map f).getD .non) h (by rw [List.length_map]; exact hz) hw (fun _ _ H1 _ _ => et_yes) (fun i x H1 e hi _ => by
    rw [List.getElem?_map] at hi
    cases hn : ns[i]? with
    | none => rw [hn] at hi; cases hi
    | some n =>
      rw [hn] at hi
      cases Option.some.inj hi
      exact he n (List.mem_of_getElem? hn) H1 e)
  rw [List.length_map, given_all] at k
  exact k
theorem el_lcR {n : Int} {f : Nat → V} {ta : TA} {j : Nat} {vs : List Nat} (h : EvA ta σ H [.int n]) (hn : 0 ≤ n ∧ n ≤ 40000) (hw : ∀ x, wipe ((wipe σ vs).set j (some x)) vs = wipe σ vs)
    (he : ∀ (i : Nat) H1, Ex H H1 → (i : Int) < n → Ev te ((wipe σ vs).set j (some (.int (i : Int)))) H1 (f i)) : EvL (tLc (iRng1 ta) (gName j) tYes te vs) σ H ((List.range n.toNat).map f) := by
  have k := el_lcR1 (te := te) (t := tYes) (j := j) (vs := vs) (fun _ => true) f h hn hw (fun _ H1 _ _ => et_yes) (fun i H1 e hi _ => he i H1 e hi)
  unfold given at k
  rw [List.filter_eq_self.mpr (fun _ _ => rfl)] at k
  exact k
/-- over the signs of a text -/
theorem el_lcS {l : List Nat} {f : Nat → V} {ts : TE} {j : Nat} {vs : List Nat} (h : Ev ts σ H (.str (S l))) (hz : l.length ≤ 40000) (hw : ∀ x, wipe ((wipe σ vs).set j (some x)) vs = wipe σ vs)
    (he : ∀ c ∈ l, ∀ H1, Ex H H1 → Ev te ((wipe σ vs).set j (some (.str (S [c])))) H1 (f c)) : EvL (tLc (iStr ts) (gName j) tYes te vs) σ H (l.map f) := fun H0 e Q q => h H0 e _ fun H1 e1 => ⟨S l, rfl, fun Dl hD => by
  have hl : (S l).cps.size = l.length := by simp [S]
  refine lc_it walk_str (Cw H1 (fun _ => true) (fun i => (l[i]?.map f).getD .non) Dl) ⟨hD, Ex.new hD, upd_same⟩ (fun _ _ _ _ => trivial) (fun i x H2 H3 hi p y => ?_) (fun H2 p => ?_)
  · obtain ⟨rfl, c, hc, rfl⟩ := y
    have hc' : l[i]? = some c := by simpa [S] using hc
    refine ⟨hw _, cw_turn p (by rw [hl] at hi; omega) et_yes (fun _ => ?_)⟩
    rw [hc']
    exact he c (List.mem_of_getElem? hc') H1 (e.trans e1)
  · rw [hl] at p
    have := p.2.2
    rw [given_all] at this
    exact q Dl H2 (fresh_back e1 p.1) (e1.trans p.2.1) this⟩
end

/-! ### promises of pure defs: a value, a new list -/
def Rt (H : Hp) (v : V) (Q : VK) : Prop := ∀ H1, Ex H H1 → Q v H1
def Rl (H : Hp) (xs : List V) (Q : VK) : Prop := ∀ p H1, H p = none → Ex H H1 → H1 p = some (.lst xs) → Q (.ref p) H1
def sp1 {α : Type} (A : α → List V) (pre : α → Hp → Prop) (val : α → V) : Sp := fun vs H Q _ => ∃ a, vs = A a ∧ pre a H ∧ Rt H (val a) Q
def sp2 {α β : Type} (A : α → β → List V) (pre : α → β → Hp → Prop) (val : α → β → V) : Sp := fun vs H Q _ => ∃ a b, vs = A a b ∧ pre a b H ∧ Rt H (val a b) Q
def sp3 {α β γ : Type} (A : α → β → γ → List V) (pre : α → β → γ → Hp → Prop) (val : α → β → γ → V) : Sp := fun vs H Q _ => ∃ a b c, vs = A a b c ∧ pre a b c H ∧ Rt H (val a b c) Q
def sl1 {α : Type} (A : α → List V) (pre : α → Hp → Prop) (val : α → List V) : Sp := fun vs H Q _ => ∃ a, vs = A a ∧ pre a H ∧ Rl H (val a) Q
def sl2 {α β : Type} (A : α → β → List V) (pre : α → β → Hp → Prop) (val : α → β → List V) : Sp := fun vs H Q _ => ∃ a b, vs = A a b ∧ pre a b H ∧ Rl H (val a b) Q
def sl3 {α β γ : Type} (A : α → β → γ → List V) (pre : α → β → γ → Hp → Prop) (val : α → β → γ → List V) : Sp := fun vs H Q _ => ∃ a b c, vs = A a b c ∧ pre a b c H ∧ Rl H (val a b c) Q
section
variable {K : PySem.W.Frag} {σ : L2.St} {H H' : Hp} {ta : TA} {E : XK} {α β γ : Type}
theorem ev_c1 {A : α → List V} {pre : α → Hp → Prop} {val : α → V} {a : α} (h : EvA ta σ H (A a)) (hp : ∀ H1, Ex H H1 → pre a H1) : Ev (tCall (sp1 A pre val) [] E ta) σ H (val a) := fun H1 e Q q =>
  h H1 e _ fun H2 e2 => ⟨a, List.append_nil _, hp H2 (e.trans e2), fun H3 e3 => q H3 (e2.trans e3)⟩
theorem ev_c2 {A : α → β → List V} {pre : α → β → Hp → Prop} {val : α → β → V} {a : α} {b : β} (h : EvA ta σ H (A a b)) (hp : ∀ H1, Ex H H1 → pre a b H1) : Ev (tCall (sp2 A pre val) [] E ta) σ H (val a b) := fun H1 e Q q =>
  h H1 e _ fun H2 e2 => ⟨a, b, List.append_nil _, hp H2 (e.trans e2), fun H3 e3 => q H3 (e2.trans e3)⟩
theorem ev_c3 {A : α → β → γ → List V} {pre : α → β → γ → Hp → Prop} {val : α → β → γ → V} {a : α} {b : β} {c : γ} (h : EvA ta σ H (A a b c)) (hp : ∀ H1, Ex H H1 → pre a b c H1) : Ev (tCall (sp3 A pre val) [] E ta) σ H (val a b c) := fun H1 e Q q =>
  h H1 e _ fun H2 e2 => ⟨a, b, c, List.append_nil _, hp H2 (e.trans e2), fun H3 e3 => q H3 (e2.trans e3)⟩
theorem el_c1 {A : α → List V} {pre : α → Hp → Prop} {val : α → List V} {a : α} (h : EvA ta σ H (A a)) (hp : ∀ H1, Ex H H1 → pre a H1) : EvL (tCall (sl1 A pre val) [] E ta) σ H (val a) := fun H1 e Q q =>
  h H1 e _ fun H2 e2 => ⟨a, List.append_nil _, hp H2 (e.trans e2), fun p H3 hp e3 h3 => q p H3 (fresh_back e2 hp) (e2.trans e3) h3⟩
theorem el_c2 {A : α → β → List V} {pre : α → β → Hp → Prop} {val : α → β → List V} {a : α} {b : β} (h : EvA ta σ H (A a b)) (hp : ∀ H1, Ex H H1 → pre a b H1) : EvL (tCall (sl2 A pre val) [] E ta) σ H (val a b) := fun H1 e Q q =>
  h H1 e _ fun H2 e2 => ⟨a, b, List.append_nil _, hp H2 (e.trans e2), fun p H3 hp e3 h3 => q p H3 (fresh_back e2 hp) (e2.trans e3) h3⟩
theorem el_c3 {A : α → β → γ → List V} {pre : α → β → γ → Hp → Prop} {val : α → β → γ → List V} {a : α} {b : β} {c : γ} (h : EvA ta σ H (A a b c)) (hp : ∀ H1, Ex H H1 → pre a b c H1) : EvL (tCall (sl3 A pre val) [] E ta) σ H (val a b c) := fun H1 e Q q =>
  h H1 e _ fun H2 e2 => ⟨a, b, c, List.append_nil _, hp H2 (e.trans e2), fun p H3 hp e3 h3 => q p H3 (fresh_back e2 hp) (e2.trans e3) h3⟩
/-- a call one of whose arguments is a new list: f([..]) -/
theorem ev_c1L {τ : Type} {te : TE} {A : Addr → List τ → List V} {pre : Addr → List τ → Hp → Prop} {val : Addr → List τ → V} {v : V} {xs : List V} (h : EvL te σ H xs) (ns : List τ) (hA : ∀ p, A p ns = [.ref p]) (hp : ∀ p H1, Ex H H1 → H1 p = some (.lst xs) → pre p ns H1) (hv : ∀ p, val p ns = v) :
    Ev (tCall (sp2 A pre val) [] E (tCons te tNil)) σ H v := fun H1 e Q q =>
  h H1 e _ fun p H2 hn e2 h2 => ⟨p, ns, by rw [hA]; rfl, hp p H2 (e.trans e2) h2, fun H3 e3 => by
    rw [hv]
    exact q H3 (e2.trans e3)⟩
end

/-! ### a def that may be called by its name -/
structure Cl (P : Program) (w : World) (K : PySem.W.Frag) (mg : Str → Option Value) (base : Heap) (k : Nat) (x : Str) (sp : Sp) : Prop where
  ex : ∃ (f : Addr) (fd : FuncData) (ps : List Str), FnOk P w K mg base CX0 k f fd ps sp ∧ mg x = some (.ref f) ∧ PySem.W.keepIn K (.ref f) = true ∧ Binds K fd ps []
section
variable {P : Program} {w : World} {K : PySem.W.Frag} {mg : Str → Option Value} {base : Heap}
theorem cl_of {k : Nat} {x : Str} {sp : Sp} {st : Stmt} {f : Addr} {fd : FuncData} {ps : List Str} (ok : FnOk P w K mg base CX0 k f fd ps sp) (F : Fun K x x st f fd) (g : mg x = some (.ref f)) (b : Binds K fd ps []) : Cl P w K mg base k x sp := ⟨f, fd, ps, ok, g, F.kp, b⟩
variable {X : Cx} {k j : Nat} {x : Str} {sp : Sp} {p pos : Pos} {e : Expr} {es : List Expr} {t : TA}
theorem pe_cl (c : Cl X.prog X.w X.K X.mg X.base k x sp) (hr : Room j X.A) (hk : k ≤ j) (hg : Gl X x) (ha : PA X (e :: es) t)
    (hdb : (x == ("__debug__" : Str)) = false := by decide) (he : starEach (e :: es) X.env = (false, eval e X.env) :: starEach es X.env := by rfl) (hpl : (backTo pos (starEach es X.env)).any (·.1) = false := by rfl) :
    PE X (.Call (.Name x p) (e :: es) [] pos) (tCall sp [] E0 t) := by
  obtain ⟨f, fd, ps, F, hm, kp, b⟩ := c.ex
  exact pe_call F (hr.mono hk) hg hm kp b .nil pass0 ha hdb he hpl
theorem pe_cl0 (c : Cl X.prog X.w X.K X.mg X.base k x sp) (hr : Room j X.A) (hk : k ≤ j) (hg : Gl X x)
    (hdb : (x == ("__debug__" : Str)) = false := by decide) :
    PE X (.Call (.Name x p) [] [] pos) (tCall sp [] E0 tNil) := by
  obtain ⟨f, fd, ps, F, hm, kp, b⟩ := c.ex
  exact pe_call0 F (hr.mono hk) hg hm kp b .nil pass0 hdb
end
end Kn
/-! ### values, step by step -/
namespace Kn
open PySem PySem.Spec PyProof.Rows L2 Evl SX
section
variable {H : Hp}
theorem rv_eqI {a b : Int} : RV rEq (.int a) (.int b) H (.bl (decide (a = b))) := fun H1 _ _ q => ⟨rfl, by
  have e : decide (V.int a = V.int b) = decide (a = b) := by simp
  rw [e]
  exact q H1 (Ex.refl H1)⟩
theorem rv_neI {a b : Int} : RV rNe (.int a) (.int b) H (.bl (!decide (a = b))) := fun H1 _ _ q => ⟨rfl, by
  have e : decide (V.int a = V.int b) = decide (a = b) := by simp
  rw [e]
  exact q H1 (Ex.refl H1)⟩
theorem dec_S {a b : List Nat} : decide (V.str (S a) = V.str (S b)) = decide (a = b) := by
  by_cases h : a = b
  · subst h
    simp
  · rw [decide_eq_false h, decide_eq_false (fun e => h (S_inj (V.str.inj e)))]
theorem rv_eqS {a b : List Nat} : RV rEq (.str (S a)) (.str (S b)) H (.bl (decide (a = b))) := fun H1 _ _ q => ⟨rfl, by
  rw [dec_S]
  exact q H1 (Ex.refl H1)⟩
theorem rv_neS {a b : List Nat} : RV rNe (.str (S a)) (.str (S b)) H (.bl (!decide (a = b))) := fun H1 _ _ q => ⟨rfl, by
  rw [dec_S]
  exact q H1 (Ex.refl H1)⟩
theorem rv_le {a b : Int} : RV (rI0 fun i j => .bl (decide (i ≤ j))) (.int a) (.int b) H (.bl (decide (a ≤ b))) := rv_I0
theorem rv_lt {a b : Int} : RV (rI0 fun i j => .bl (decide (i < j))) (.int a) (.int b) H (.bl (decide (a < b))) := rv_I0
theorem rv_inS {c : Nat} {l : List Nat} : RV rInS (.str (S [c])) (.str (S l)) H (.bl (decide (c ∈ l))) := fun H1 _ _ q => ⟨c, S l, rfl, rfl, q H1 (Ex.refl H1)⟩
theorem rv_ninS {c : Nat} {l : List Nat} : RV rNotInS (.str (S [c])) (.str (S l)) H (.bl (!decide (c ∈ l))) := fun H1 _ _ q => ⟨c, S l, rfl, rfl, q H1 (Ex.refl H1)⟩
end
end Kn
/-! ### lists cut, texts cut, constants -/
namespace Kn
open PySem PySem.Spec PyProof.Rows L2 Evl SX
theorem cut_nat {α : Type} (xs : List α) (a b : Nat) : (xs.drop (min a xs.length)).take (min b xs.length - min a xs.length) = (xs.drop a).take (b - a) := by
  by_cases h : a ≤ xs.length
  · have e : min a xs.length = a := Nat.min_eq_left h
    rw [e, List.take_eq_take_iff, List.length_drop]
    omega
  · have e : xs.drop a = [] := List.drop_of_length_le (by omega)
    have e2 : xs.drop (min a xs.length) = [] := List.drop_of_length_le (by omega)
    rw [e, e2, List.take_nil, List.take_nil]
theorem cutV_nat {xs : List V} (a b : Nat) : cutV xs (some (a : Int)) (some (b : Int)) = (xs.drop a).take (b - a) := by
  unfold cutV
  rw [HT.sIx_nat, HT.sIx_nat]
  exact cut_nat xs a b
theorem cutV_map {τ : Type} {g : τ → V} {ns : List τ} {i j : Int} (a b : Nat) (hi : i = (a : Int)) (hj : j = (b : Int)) : cutV (ns.map g) (some i) (some j) = ((ns.drop a).take (b - a)).map g := by
  subst hi hj
  rw [cutV_nat, List.map_take, List.map_drop]
theorem join_nil : ∀ ys : List (List Nat), TL.joinL [] ys = ys.flatten
  | [] => rfl
  | [p] => by rw [List.flatten_cons, List.flatten_nil, List.append_nil]; rfl
  | p :: q :: r => by
    show p ++ ([] ++ TL.joinL [] (q :: r)) = _
    rw [join_nil (q :: r), List.nil_append, List.flatten_cons (l := p)]
section
variable {K : PySem.W.Frag} {σ : L2.St} {H H' : Hp} {ta tb te tc : TE} {t u : TT} {x y z v : V}
theorem ev_cS {x : Str} {l : List Nat} (h : x.cps.toList = l) : Ev (tC (.str x)) σ H (.str (S l)) := by
  rw [S1 x h]
  exact ev_c
theorem el_slN {τ : Type} {g : τ → V} {ns : List τ} {i j : Int} {p : Addr} {to tp : TO} (h : Ev te σ H (.ref p)) (h1 : EvO to σ H (some i)) (h2 : EvO tp σ H (some j)) (hs : SqL K H p (ns.map g)) (a b : Nat) (hi : i = (a : Int)) (hj : j = (b : Int)) :
    EvL (tSl (rSlL K) te to tp) σ H (((ns.drop a).take (b - a)).map g) := by
  rw [← cutV_map a b hi hj]
  exact el_sl h h1 h2 hs
theorem ev_slTo {to tp : TO} {l : List Nat} {i : Int} (h : Ev te σ H (.str (S l))) (h1 : EvO to σ H none) (h2 : EvO tp σ H (some i)) (hz : l.length ≤ 100000) (hi : 0 ≤ i) : Ev (tSl rSlS te to tp) σ H (.str (S (l.take i.toNat))) := by
  have k := ev_slS h h1 h2 hz
  rw [C8.cutS_slice, slice_to hi] at k
  exact k
theorem ev_slFrom {to tp : TO} {l : List Nat} {i : Int} (h : Ev te σ H (.str (S l))) (h1 : EvO to σ H (some i)) (h2 : EvO tp σ H none) (hz : l.length ≤ 100000) (hi : 0 ≤ i) : Ev (tSl rSlS te to tp) σ H (.str (S (l.drop i.toNat))) := by
  have k := ev_slS h h1 h2 hz
  rw [C8.cutS_slice, slice_from hi] at k
  exact k
theorem ev_isiB {b : Bool} (ha : Ev ta σ H (.bl b)) : Ev (tCB (rIsi K) (tCons ta (tCons (tC (.ty "bool")) tNil))) σ H (.bl true) := ev_isi (T := "bool") ha (.base (.bl b)) (by decide +kernel) fun _ _ => .base (.bl b)
/-- == of two lists of data -/
theorem eqv_lists {xs ys : List PyData} (h : PyData.eqv (.list xs) (.list ys) = b) : PyData.eqv (.list xs) (.list ys) = b := h
end
end Kn
namespace Kn
open PySem PySem.Spec PyProof.Rows L2 Evl SX
section
variable {K : PySem.W.Frag} {σ : L2.St} {H H' : Hp} {ta tb te tc : TE} {t u : TT} {x y z v : V} {D : Ends} {tu tw tz : TS}
/-- an if whose two ways meet again -/
theorem q_ifM {b : Bool} (M : L2.St → Hp → Prop) (h : EvT t σ H b) (h1 : b = true → ∀ H1, Ex H H1 → ∀ N : L2.St → Hp → Prop, (∀ σ' H', M σ' H' → N σ' H') → tu { D with nx := N } σ H1)
    (h2 : b = false → ∀ H1, Ex H H1 → ∀ N : L2.St → Hp → Prop, (∀ σ' H', M σ' H' → N σ' H') → tw { D with nx := N } σ H1) (k : ∀ σ' H', M σ' H' → tz D σ' H') : tSeq (tIfS t tu tw) tz D σ H :=
  s_if (D := { D with nx := tz D }) h (fun hb H1 e => h1 hb H1 e _ k) (fun hb H1 e => h2 hb H1 e _ k)
theorem s_next (h : D.nx σ H) : tNext D σ H := h
theorem eqD_true {p q : Addr} {xs : List V} {ds : List PyData} (hp : SqL K H p xs) (hq : SqL K H q xs) (hd : ∀ H1, Ex H H1 → DpAll K H1 xs ds) (hs : SeqAt.shaped (.list ds) = true) (hl : PyData.eqv (.list ds) (.list ds) = true) : RV (rEqD K) (.ref p) (.ref q) H (.bl true) := fun H1 e Q k =>
  ⟨.list ds, .list ds, .lst (ex_l e hp) (hd H1 e), .lst (ex_l e hq) (hd H1 e), hs, hs, by rw [hl]; exact k H1 (Ex.refl H1)⟩
end
end Kn
/-! ### rpartition; joins; more of lists -/
namespace Kn
open PySem PySem.Spec PyProof.Rows L2 Evl SX
def rRpart : V → List V → Hp → VK → Prop := fun x xs H Q => ∃ a b, x = .str a ∧ xs = [.str b] ∧ (b.length == 0) = false ∧ a.length ≤ sizeLine ∧ ∀ p, H p = none → Q (.ref p) (upd H p (.tup [.str (Txt.rpartition a b).1, .str (Txt.rpartition a b).2.1, .str (Txt.rpartition a b).2.2]))
theorem mt_rpartition {X : Cx} : MtR X "str.rpartition" rRpart := by
  intro pins s σ H x xs v us Q I rx rs h
  obtain ⟨a, b, rfl, rfl, hb, hz, h⟩ := h
  obtain ⟨t, rfl⟩ := rx
  cases rs with
  | cons r1 rs =>
    cases rs
    obtain ⟨u, rfl⟩ := r1
    refine call_meets F.slot_str_rpartition (typeIs_str _ _ _) F.entry_str_rpartition (F.args_str_rpartition_2 _ _) (meets_str_rpartition a b t u hb hz) ?_
    unfold Txt.rpartition at h
    revert h
    cases Builtin.Str.lastOccurrence a b 0 a.length with
    | none => intro h; exact laid_parts I h
    | some i => intro h; exact laid_parts I h
section
variable {K : PySem.W.Frag} {σ : L2.St} {H H' : Hp} {ta tb te tc : TE} {t u : TT} {x y z v : V}
theorem ev_rpart0 {l m : List Nat} (ha : Ev ta σ H (.str (S l))) (hb : Ev tb σ H (.str (S m))) (hm : m ≠ []) (hl : l.length ≤ 100000) : Ev (tOp (rIxT K) (tM1 rRpart ta tb) (tC (.int 0))) σ H (.str (Txt.rpartition (S l) (S m)).1) := fun H1 e Q q =>
  ha H1 e _ fun H2 e2 => ⟨⟨_, rfl⟩, hb H2 (e.trans e2) _ fun H3 e3 => ⟨S l, S m, rfl, rfl, by
    rw [S_len]
    cases m with
    | nil => exact absurd rfl hm
    | cons a r => rfl, by rw [S_len]; exact sz_of hl, fun p hp =>
      ⟨p, _, 0, _, rfl, rfl, st_of upd_same, atI_nat (j := 0) rfl, q _ ((e2.trans e3).trans (Ex.new hp))⟩⟩⟩
theorem ev_joinV {s : List Nat} {ys : List (List Nat)} {p : Addr} (hs : Ev ta σ H (.str (S s))) (hl : Ev tb σ H (.ref p)) (hp : SqL K H p (ys.map fun l => V.str (S l))) (hz : (ys.map (·.length)).sum + ys.length * s.length ≤ 16777216) : Ev (tM1 (rJoin K) ta tb) σ H (.str (S (TL.joinL s ys))) := fun H1 e Q q =>
  hs H1 e _ fun H2 e2 => ⟨⟨_, rfl⟩, hl H2 (e.trans e2) _ fun H3 e3 => ⟨S s, p, ys.map S, rfl, rfl, .inl (by rw [List.map_map]; exact ex_l ((e.trans e2).trans e3) hp), by
    rw [SX.lens, List.length_map, S_len]
    exact hz, by
    rw [SX.join_S]
    exact q H3 (e2.trans e3)⟩⟩
theorem el_slTo {τ : Type} {g : τ → V} {ns : List τ} {j : Int} {p : Addr} {to tp : TO} (h : Ev te σ H (.ref p)) (h1 : EvO to σ H none) (h2 : EvO tp σ H (some j)) (hs : SqL K H p (ns.map g)) (b : Nat) (hj : j = (b : Int)) :
    EvL (tSl (rSlL K) te to tp) σ H ((ns.take b).map g) := by
  have e : cutV (ns.map g) none (some j) = (ns.take b).map g := by
    subst hj
    have k := cutV_nat (xs := ns.map g) 0 b
    unfold cutV at k ⊢
    rw [HT.sIx_none, HT.sIx_nat]
    rw [HT.sIx_nat, HT.sIx_nat, Nat.zero_min] at k
    rw [k, List.drop_zero, Nat.sub_zero, List.map_take]
  rw [← e]
  exact el_sl h h1 h2 hs
theorem ev_isiL {p : Addr} {xs : List V} (ha : Ev ta σ H (.ref p)) (h : H p = some (.lst xs)) : Ev (tCB (rIsi K) (tCons ta (tCons (tC (.ty "list")) tNil))) σ H (.bl true) := ev_isi (T := "list") ha (.base (.lst h)) (by decide +kernel) fun _ e => .base (.lst (e _ _ h))
theorem ev_isiS {l : Str} (ha : Ev ta σ H (.str l)) : Ev (tCB (rIsi K) (tCons ta (tCons (tC (.ty "str")) tNil))) σ H (.bl true) := ev_isi (T := "str") ha (.base (.str l)) (by decide +kernel) fun _ _ => .base (.str l)
theorem rv_ge {a b : Int} : RV (rI0 fun i j => .bl (decide (j ≤ i))) (.int a) (.int b) H (.bl (decide (b ≤ a))) := rv_I0
theorem rv_gt {a b : Int} : RV (rI0 fun i j => .bl (decide (j < i))) (.int a) (.int b) H (.bl (decide (b < a))) := rv_I0
theorem rv_pow {i j : Int} (h : CPow i j) : RV (rI CPow fun i j => .int (i ^ j.toNat)) (.int i) (.int j) H (.int (i ^ j.toNat)) := rv_I h
end
theorem joinL_snoc (s x : List Nat) : ∀ {l : List (List Nat)}, l ≠ [] → TL.joinL s (l ++ [x]) = TL.joinL s l ++ (s ++ x)
  | [], h => absurd rfl h
  | [p], _ => rfl
  | p :: q :: r, _ => by
    show p ++ (s ++ TL.joinL s ((q :: r) ++ [x])) = (p ++ (s ++ TL.joinL s (q :: r))) ++ (s ++ x)
    rw [joinL_snoc s x (List.cons_ne_nil q r)]
    simp only [List.append_assoc]
theorem joinL_ne {s p : List Nat} {r : List (List Nat)} (h : p ≠ []) : TL.joinL s (p :: r) ≠ [] := by
  cases r with
  | nil => exact h
  | cons q r =>
    intro z
    have : p ++ (s ++ TL.joinL s (q :: r)) = [] := z
    exact h (List.append_eq_nil_iff.mp this).1
theorem joinL_len (s : List Nat) : ∀ l : List (List Nat), (TL.joinL s l).length ≤ (l.map (·.length)).sum + l.length * s.length
  | [] => Nat.zero_le _
  | [p] => by
    show p.length ≤ p.length + 0 + 1 * s.length
    omega
  | p :: q :: r => by
    have ih := joinL_len s (q :: r)
    show (p ++ (s ++ TL.joinL s (q :: r))).length ≤ p.length + ((q :: r).map (·.length)).sum + ((q :: r).length + 1) * s.length
    rw [List.length_append, List.length_append, Nat.succ_mul]
    omega
theorem sum_le {l : List (List Nat)} {n : Nat} (h : ∀ p ∈ l, p.length ≤ n) : (l.map (·.length)).sum ≤ l.length * n := by
  induction l with
  | nil => simp
  | cons p r ih =>
    have h1 := h p List.mem_cons_self
    have h2 := ih fun q hq => h q (List.mem_cons_of_mem _ hq)
    rw [List.map_cons, List.sum_cons, List.length_cons, Nat.succ_mul]
    omega
theorem at_one {l : List Nat} {c i : Nat} : StrLaws.At (S l) (S [c]) (S l).length i ↔ l[i]? = some c := by
  rw [TL.at_iff (x := S l) (y := S [c]) (List.cons_ne_nil _ _)]
  show ((l.drop i).take 1 == [c]) = true ↔ l[i]? = some c
  rw [beq_iff_eq]
  constructor
  · intro h
    have e := congrArg (fun z : List Nat => z[0]?) h
    simpa using e
  · intro h
    obtain ⟨hi, e⟩ := List.getElem?_eq_some_iff.mp h
    rw [List.drop_eq_getElem_cons hi, e]
    rfl
theorem rpart_none {l : List Nat} {c : Nat} (h : c ∉ l) : (Txt.rpartition (S l) (S [c])).1 = S [] := by
  unfold Txt.rpartition
  rcases StrLaws.last_spec (S l) (S [c]) with ⟨h0, hn⟩ | ⟨i, h0, hi, hn⟩
  · rw [h0]
    rfl
  · exact absurd (List.mem_of_getElem? (at_one.mp hi)) h
theorem rpart_some {p q : List Nat} {c : Nat} (h : c ∉ q) : (Txt.rpartition (S (p ++ c :: q)) (S [c])).1 = S p := by
  have hp : (p ++ c :: q)[p.length]? = some c := by simp
  unfold Txt.rpartition
  rcases StrLaws.last_spec (S (p ++ c :: q)) (S [c]) with ⟨h0, hn⟩ | ⟨i, h0, hi, hn⟩
  · exact absurd (at_one.mpr hp) (hn _)
  · rw [h0]
    have e : i = p.length := by
      have h1 := at_one.mp hi
      rcases Nat.lt_trichotomy i p.length with z | z | z
      · exact absurd (at_one.mpr hp) (hn _ z)
      · exact z
      · rw [List.getElem?_append_right (by omega)] at h1
        obtain ⟨k, hk⟩ : ∃ k, i - p.length = k + 1 := ⟨i - p.length - 1, by omega⟩
        rw [hk, List.getElem?_cons_succ] at h1
        exact absurd (List.mem_of_getElem? h1) h
    subst e
    show PySem.Builtin.Str.strSub (S (p ++ c :: q)) 0 p.length = S p
    refine TL.ext_tl ?_
    rw [TL.tl_strSub]
    show ((p ++ c :: q).drop 0).take (p.length - 0) = p
    simp
end Kn
/-! ### rules that name the written part: for the elements of a comprehension -/
namespace Kn
open PySem PySem.Spec PyProof.Rows L2 Evl SX
section
variable {X : Cx} {K : PySem.W.Frag}
theorem sl_listK (h : X.K = K) : SlR X (rSlL K) := by subst h; exact sl_list
theorem sl_tupK (h : X.K = K) : SlR X (rSlT K) := by subst h; exact sl_tup
theorem ix_listK (h : X.K = K) : IxR X (rIxL K) := by subst h; exact ix_list
theorem ix_tupK (h : X.K = K) : IxR X (rIxT K) := by subst h; exact ix_tup
theorem cr_lenSeqK (h : X.K = K) : CallR X (.builtin "len") (rLenS K) := by subst h; exact cr_lenSeq
theorem cr_isiK (h : X.K = K) : CallR X (.builtin "isinstance") (rIsi K) := by subst h; exact cr_isi
theorem cr_allK (h : X.K = K) (hc : X.calm = true) : CallR X (.builtin "all") (rAll K) := by subst h; exact cr_all hc
theorem op_in_seqK (h : X.K = K) : OpR X (compareOp .In) (rIn K false) := by subst h; exact op_in_seq
theorem op_notIn_seqK (h : X.K = K) : OpR X (compareOp .NotIn) (rIn K true) := by subst h; exact op_notIn_seq
theorem pe_joinK {e : Expr} {to te : TE} (hK : X.K = K) (h : PE X e (tM1 (fun x xs H Q => ∃ a p, ∃ ys : List Str, x = .str a ∧ xs = [.ref p] ∧ (SqL X.K H p (ys.map V.str) ∨ SqT X.K H p (ys.map V.str)) ∧ (ys.map (·.length)).sum + ys.length * a.length ≤ 16777216 ∧ Q (.str (Txt.join a ys)) H) to te)) : PE X e (tM1 (rJoin K) to te) := by
  subst hK
  exact h
end
end Kn

namespace My
open PySem PySem.Spec PyProof.Rows L2 Evl SX Kn
def topS (i : Nat) : Stmt := PySem.Challenge.pw_kilnyard_k06_directories_and_parents.main.body.getD i (.Pass ⟨0, 0, 0, 0⟩)
abbrev s_directory : Stmt := topS 1
abbrev N_directory : List Str := ["path"]
theorem sc_directory : FnScope N_directory ["path"] (defScope s_directory) := ⟨rfl, rfl, rfl, by decide +kernel, rfl, by decide +kernel, by decide +kernel⟩
abbrev s_parents : Stmt := topS 2
abbrev N_parents : List Str := ["path", "found", "above"]
theorem sc_parents : FnScope N_parents ["path"] (defScope s_parents) := ⟨rfl, rfl, rfl, by decide +kernel, rfl, by decide +kernel, by decide +kernel⟩
abbrev s__law_cell : Stmt := topS 4
abbrev N__law_cell : List Str := ["script", "k"]
theorem sc__law_cell : FnScope N__law_cell ["script", "k"] (defScope s__law_cell) := ⟨rfl, rfl, rfl, by decide +kernel, rfl, by decide +kernel, by decide +kernel⟩
abbrev s__law_draws : Stmt := topS 5
abbrev N__law_draws : List Str := ["cell", "many", "limit", "draws", "rest", "k", "mixed"]
theorem sc__law_draws : FnScope N__law_draws ["cell", "many", "limit"] (defScope s__law_draws) := ⟨rfl, rfl, rfl, by decide +kernel, rfl, by decide +kernel, by decide +kernel⟩
abbrev s__law_name : Stmt := topS 6
abbrev N__law_name : List Str := ["numbers", "chars", "name", "number"]
theorem sc__law_name : FnScope N__law_name ["numbers"] (defScope s__law_name) := ⟨rfl, rfl, rfl, by decide +kernel, rfl, by decide +kernel, by decide +kernel⟩
abbrev s__law_power : Stmt := topS 7
abbrev N__law_power : List Str := ["k", "power", "j"]
theorem sc__law_power : FnScope N__law_power ["k"] (defScope s__law_power) := ⟨rfl, rfl, rfl, by decide +kernel, rfl, by decide +kernel, by decide +kernel⟩
abbrev s_law : Stmt := topS 8
abbrev N_law : List Str := ["script", "names", "k", "path", "due", "actual", "place"]
theorem sc_law : FnScope N_law ["script"] (defScope s_law) := ⟨rfl, rfl, rfl, by decide +kernel, rfl, by decide +kernel, by decide +kernel⟩
structure Tx (mg : Str → Option Value) : Prop where
  b_abs : mg "abs" = none
  b_int : mg "int" = none
  b_isinstance : mg "isinstance" = none
  b_len : mg "len" = none
  b_list : mg "list" = none
  b_range : mg "range" = none
  b_str : mg "str" = none
local macro_rules | `(tactic| walk_at "ev") => `(tactic| first
  | exact ev_c
  | exact ev_var rfl
  | exact ea_nil
  | exact eo_none
  | (apply eo_some; walk_at "ev")
  | (apply ea_cons <;> walk_at "ev")
  | (apply ev_op <;> first | walk_at "rv" | walk_at "ev")
  | (apply ev_un <;> first | exact ru_neg | walk_at "ev")
  | (apply ev_chain <;> first | walk_at "rv" | walk_at "ev")
  | (apply et_test; walk_at "ev")
  | (apply et_B; walk_at "ev")
  | (apply et_not; walk_at "ev")
  | (apply et_and; walk_at "ev"; intro _; walk_at "ev")
  | (apply et_or; walk_at "ev"; intro _; walk_at "ev")
  | (apply ev_andV; walk_at "ev"; intro _; walk_at "ev")
  | (apply ev_orV; walk_at "ev"; intro _; walk_at "ev")
  | (apply ev_notV; walk_at "ev")
  | (apply ev_cb <;> first | walk_at "rc" | walk_at "ev"))
local macro_rules | `(tactic| walk_at "rv") => `(tactic| first
  | exact rv_eqI | exact rv_neI | exact rv_eqS | exact rv_neS | exact rv_le | exact rv_lt | exact rv_ge | exact rv_gt | exact rv_inS | exact rv_ninS
  | exact rv_I0
  | exact rv_pow ⟨by decide, by decide, by decide⟩
  | exact rv_mod (by first | decide | omega)
  | exact rv_fdiv ⟨by decide, by decide⟩
  | exact rv_fdiv ⟨by omega, by omega⟩
  | exact rv_addS (by first | assumption | omega)
  | exact rv_mul (.inr ⟨by decide, by decide⟩) | exact rv_mul (.inl ⟨by decide, by decide⟩)
  | exact rv_mul (by first | exact .inl ⟨by omega, by omega⟩ | exact .inr ⟨by omega, by omega⟩)
  | exact rv_eq rfl | exact rv_ne rfl)
local macro_rules | `(tactic| walk_at "rc") => `(tactic| first
  | exact rc_abs | exact rc_int | exact rc_intB | exact rc_ord
  | exact rc_lenS (by first | assumption | omega))

/-! ### the mathematics -/
def dirOf (l : List Nat) : List Nat := TL.tl (Txt.rpartition (S l) (S [47])).1
theorem dirOf_S (l : List Nat) : (Txt.rpartition (S l) (S [47])).1 = S (dirOf l) := (S_tl _).symm
theorem dirOf_join {ns : List (List Nat)} (h : ∀ n ∈ ns, 47 ∉ n) (hne : ns ≠ []) : dirOf (TL.joinL [47] ns) = TL.joinL [47] (ns.take (ns.length - 1)) := by
  have e : ns = ns.dropLast ++ [ns.getLast hne] := (List.dropLast_concat_getLast hne).symm
  have h2 : 47 ∉ ns.getLast hne := h _ (List.getLast_mem hne)
  have e3 : ns.take (ns.length - 1) = ns.dropLast := (List.dropLast_eq_take).symm
  rw [e3]
  generalize ns.dropLast = d at e
  generalize ns.getLast hne = x at e h2
  subst e
  unfold dirOf
  cases d with
  | nil =>
    show TL.tl (Txt.rpartition (S x) (S [47])).1 = []
    rw [rpart_none h2]
  | cons a r =>
    rw [joinL_snoc [47] x (List.cons_ne_nil a r)]
    show TL.tl (Txt.rpartition (S (TL.joinL [47] (a :: r) ++ 47 :: x)) (S [47])).1 = _
    rw [rpart_some h2]
/-- names as they may stand in a path here -/
structure Names (ns : List (List Nat)) : Prop where
  one : ns ≠ []
  few : ns.length ≤ 4
  ne : ∀ n ∈ ns, n ≠ []
  len : ∀ n ∈ ns, n.length ≤ 12
  no : ∀ n ∈ ns, 47 ∉ n
theorem Names.small {ns : List (List Nat)} (h : Names ns) (k : Nat) : (TL.joinL [47] (ns.take k)).length ≤ 1000 := by
  have h1 := joinL_len [47] (ns.take k)
  have h2 := sum_le (l := ns.take k) (n := 12) fun p hp => h.len p (List.mem_of_mem_take hp)
  have h3 : (ns.take k).length ≤ 4 := by
    rw [List.length_take]
    have := h.few
    omega
  have h4 : (ns.take k).length * 12 ≤ 48 := by omega
  have h5 : (ns.take k).length * [47].length ≤ 4 := by
    show _ * 1 ≤ 4
    omega
  omega
theorem Names.sums {ns : List (List Nat)} (h : Names ns) (k : Nat) : ((ns.take k).map (·.length)).sum + (ns.take k).length * [47].length ≤ 16777216 := by
  have h2 := sum_le (l := ns.take k) (n := 12) fun p hp => h.len p (List.mem_of_mem_take hp)
  have h3 : (ns.take k).length ≤ 4 := by
    rw [List.length_take]
    have := h.few
    omega
  have h5 : (ns.take k).length * [47].length ≤ 4 := by
    show _ * 1 ≤ 4
    omega
  omega
def above (ns : List (List Nat)) (k : Nat) : List Nat := TL.joinL [47] (ns.take (ns.length - 1 - k))
theorem dir_above {ns : List (List Nat)} (h : Names ns) {k : Nat} (hk : k < ns.length - 1) : dirOf (above ns k) = above ns (k + 1) := by
  unfold above
  have hl : (ns.take (ns.length - 1 - k)).length = ns.length - 1 - k := by
    rw [List.length_take]
    omega
  rw [dirOf_join (fun n hn => h.no n (List.mem_of_mem_take hn)) (by intro z; rw [z] at hl; have : 0 = ns.length - 1 - k := hl; omega), hl, List.take_take]
  have e : min (ns.length - 1 - k - 1) (ns.length - 1 - k) = ns.length - 1 - (k + 1) := by omega
  rw [e]
theorem dir_whole {ns : List (List Nat)} (h : Names ns) : dirOf (TL.joinL [47] ns) = above ns 0 := dirOf_join h.no h.one
theorem above_ne {ns : List (List Nat)} (h : Names ns) {k : Nat} (hk : k < ns.length - 1) : above ns k ≠ [] := by
  unfold above
  obtain ⟨j, hj⟩ : ∃ j, ns.length - 1 - k = j + 1 := ⟨ns.length - 1 - k - 1, by omega⟩
  rw [hj]
  cases ns with
  | nil => exact absurd rfl h.one
  | cons a r => exact joinL_ne (h.ne a List.mem_cons_self)
theorem above_end {ns : List (List Nat)} {k : Nat} (hk : ns.length - 1 ≤ k) : above ns k = [] := by
  unfold above
  rw [show ns.length - 1 - k = 0 by omega]
  rfl
section
variable {P : Program} {w : World} {K : PySem.W.Frag} {mg : Str → Option Value} {base : Heap}
def sp_directory (_ : PySem.W.Frag) : Sp := sp1 (fun l : List Nat => [.str (S l)]) (fun l _ => l.length ≤ 1000) (fun l => .str (S (dirOf l)))
theorem ok_directory {f : Addr} {fd : FuncData} (F : Fun K "directory" "directory" s_directory f fd) (T : Tx mg)  : FnOk P w K mg base CX0 1 f fd ["path"] (sp_directory K) := by
  refine F.ok sc_directory (fun vs H Q E h => ?_) (fun cdv A outer s H vs Q E hr h => ?_)
  · obtain ⟨n, rfl, _⟩ := h
    rfl
  · obtain ⟨l, rfl, hl, q⟩ := h
    refine ⟨_, (pss_one (ps_ret (pe_ix ix_tup (pe_m1 PySem.F.slot_str_rpartition PySem.F.type_str_rpartition Kn.mt_rpartition (pv 0) pe_str) pe_int (fun _ _ => rfl)))), ?_⟩
    refine s_ret (ev_rpart0 (m := [47]) (ev_var rfl) (ev_cS rfl) (List.cons_ne_nil _ _) (by omega)) fun H1 e1 => ?_
    rw [dirOf_S]
    exact q H1 e1
def sp_parents (_ : PySem.W.Frag) : Sp := sl1 (fun ns : List (List Nat) => [.str (S (TL.joinL [47] ns))]) (fun ns _ => Names ns) (fun ns => (List.range (ns.length - 1)).map fun k => .str (S (above ns k)))
theorem ok_parents {f : Addr} {fd : FuncData} (F : Fun K "parents" "parents" s_parents f fd) (T : Tx mg) (C_directory : Kn.Cl P w K mg base 1 "directory" (sp_directory K)) : FnOk P w K mg base CX0 2 f fd ["path"] (sp_parents K) := by
  refine F.ok sc_parents (fun vs H Q E h => ?_) (fun cdv A outer s H vs Q E hr h => ?_)
  · obtain ⟨n, rfl, _⟩ := h
    rfl
  · obtain ⟨ns, rfl, hn, q⟩ := h
    refine ⟨_, (pss_cons (ps_set (i := 1) sc_parents.nd rfl (Or.inl rfl) (pe_lst pa_nil))
      (pss_cons (ps_set (i := 2) sc_parents.nd rfl (Or.inl rfl) (Kn.pe_cl C_directory hr (by decide) (by rfl) (pa_cons (pv 0) pa_nil)))
      (pss_cons (ps_while PassesOwn.never (pt_cmpR op_ne (pv 2) pe_str (nomark _)) (pss_cons (ps_expr (pe_bm PySem.F.plainAttrs_list PySem.F.slot_list_append PySem.F.type_list_append mt_append (pv 1) (pa_cons (pv 2) pa_nil)))
      (pss_one (ps_set (i := 2) sc_parents.nd rfl (Or.inl rfl) (Kn.pe_cl C_directory hr (by decide) (by rfl) (pa_cons (pv 2) pa_nil))))))
      (pss_one (ps_ret (pv 1)))))), ?_⟩
    refine q_asgL (el_lst ea_nil (by decide)) fun p H1 np e1 hp => ?_
    refine q_asg (v := .str (S (above ns 0))) ?_ fun H2 e2 => ?_
    · rw [← dir_whole hn]
      refine ev_c1 (a := TL.joinL [47] ns) (by walk_at "ev") fun _ _ => ?_
      have k := hn.small ns.length
      rw [List.take_length] at k
      exact k
    refine q_while (fun m σ' H' => ∃ k, k + m = ns.length - 1 ∧ σ' = [some (.str (S (TL.joinL [47] ns))), some (.ref p), some (.str (S (above ns k)))] ∧ Ex H H' ∧ H' p = some (.lst ((List.range k).map fun k => .str (S (above ns k))))) (ns.length - 1) ⟨0, by omega, rfl, e1.trans e2, e2 _ _ hp⟩ ?_
    rintro m σ' H3 ⟨k, hk, rfl, e3, hl⟩
    refine ⟨_, et_test (ev_op (ev_var rfl) (ev_cS (l := []) rfl) rv_neS), fun hb H4 e4 => ⟨fun σ' H' => k < ns.length - 1 ∧ σ' = [some (.str (S (TL.joinL [47] ns))), some (.ref p), some (.str (S (above ns (k + 1))))] ∧ Ex H H' ∧ H' p = some (.lst ((List.range (k + 1)).map fun k => .str (S (above ns k)))), ?_, ?_⟩, fun hb H4 e4 => ?_⟩
    · rintro σ2 H5 ⟨h1, h2⟩
      exact ⟨m - 1, by omega, k + 1, by omega, h2⟩
    · have hlt : k < ns.length - 1 := by
        refine Nat.lt_of_not_le fun z => ?_
        rw [above_end z] at hb
        exact absurd hb (by decide)
      refine q_app (v := .str (S (above ns k))) (e4 _ _ hl) (by walk_at "ev") (by walk_at "ev") (by rw [List.length_map, List.length_range]; have := hn.few; omega) fun H5 e5 => ?_
      refine s_asg (v := .str (S (above ns (k + 1)))) ?_ fun H6 e6 => ⟨hlt, rfl, (Ex.mut ((e3.trans e4).trans e5) np).trans e6, e6 _ _ ?_⟩
      · rw [← dir_above hn hlt]
        exact ev_c1 (a := above ns k) (by walk_at "ev") fun _ _ => hn.small _
      · rw [List.range_succ, List.map_append]
        exact upd_same
    · have hge : ns.length - 1 ≤ k := by
        refine Nat.le_of_not_lt fun z => ?_
        have := above_ne hn z
        rw [decide_eq_false this] at hb
        exact absurd hb (by decide)
      have e : k = ns.length - 1 := by omega
      subst e
      exact s_ret (ev_var rfl) fun H5 e5 => q p H5 np ((e3.trans e4).trans e5) (e5 _ _ (e4 _ _ hl))
def sp__law_cell (K : PySem.W.Frag) : Sp := sp3 (fun (a : Addr) (_ : List Int) (k : Nat) => [.ref a, .int (k : Int)]) (fun a ns _ H => SqL K H a (ns.map V.int)) (fun _ ns k => .int (L2.cellOf ns k))
theorem ok__law_cell {f : Addr} {fd : FuncData} (F : Fun K "_law_cell" "_law_cell" s__law_cell f fd) (T : Tx mg)  : FnOk P w K mg base CX0 1 f fd ["script", "k"] (sp__law_cell K) := by
  refine F.ok sc__law_cell (fun vs H Q E h => ?_) (fun cdv A outer s H vs Q E hr h => ?_)
  · obtain ⟨a, ns, k, rfl, _⟩ := h
    rfl
  · obtain ⟨a, ns, k, rfl, hS, q⟩ := h
    refine ⟨_, (pss_cons (ps_if (pt_cmpR op_lt (pv 1) (pe_callB Kn.cr_lenSeq (by rfl) T.b_len PySem.boot_len (pa_cons (pv 0) pa_nil)) (nomark _)) (pss_one (ps_ret (pe_callTy Kn.cr_int1 (by rfl) T.b_int (by decide +kernel) (pa_cons (pe_ix ix_list (pv 0) (pv 1) (fun _ _ => rfl)) pa_nil)))) pss_nil)
      (pss_one (ps_ret pe_int))), ?_⟩
    refine q_when (et_test (ev_op (ev_var rfl) (ev_len (ev_var rfl) hS) rv_lt)) (fun hb H1 e1 => ?_) (fun hb H1 e1 => ?_)
    · have hk : k < ns.length := by
        rw [List.length_map, decide_eq_true_eq] at hb
        omega
      exact s_ret (ev_cb (ea_cons (ev_op (ev_var rfl) (ev_var rfl) (rv_ixL (ex_l e1 hS) (atI_cell hk))) ea_nil) rc_int) fun H2 e2 => q H2 (e1.trans e2)
    · have hk : ¬ k < ns.length := by
        rw [List.length_map, decide_eq_false_iff_not] at hb
        omega
      refine s_ret ev_c fun H2 e2 => ?_
      have z : Q (.int (L2.cellOf ns k)) H2 := q H2 (e1.trans e2)
      rw [cell_out hk] at z
      exact z

def drawStep (cell limit : Int) (k : Nat) (st : List Int × Int) : List Int × Int :=
  if (decide ((10 : Int) ^ (18 : Int).toNat ≤ (cell.natAbs : Int)) && decide (0 < st.2)) = true then (st.1 ++ [st.2 % limit], st.2 / limit)
  else (st.1 ++ [((((cell.natAbs : Int) * 48271 + (k : Int) * 69621 + 7) % 2147483647) * 16807 + (((cell.natAbs : Int) * 48271 + (k : Int) * 69621 + 7) % 2147483647) / 127 + (k : Int) * 31) % 2147483629 / 3 % limit], st.2)
def drawsTo (cell limit : Int) : Nat → List Int × Int
  | 0 => ([], (cell.natAbs : Int))
  | k + 1 => drawStep cell limit k (drawsTo cell limit k)
theorem drawsTo_len (c l : Int) : ∀ n, (drawsTo c l n).1.length = n
  | 0 => rfl
  | n + 1 => by
    show (drawStep c l n (drawsTo c l n)).1.length = n + 1
    unfold drawStep
    split <;> exact (List.length_append ..).trans (congrArg (· + 1) (drawsTo_len c l n))
theorem drawsTo_mem {c l : Int} (h : 0 < l) : ∀ n, ∀ d ∈ (drawsTo c l n).1, 0 ≤ d ∧ d < l
  | 0, _, hd => nomatch hd
  | n + 1, d, hd => by
    have hd' : d ∈ (drawStep c l n (drawsTo c l n)).1 := hd
    unfold drawStep at hd'
    have fin : ∀ x : Int, d = x % l → 0 ≤ d ∧ d < l := fun x e => by
      subst e
      exact ⟨Int.emod_nonneg _ (by omega), Int.emod_lt_of_pos _ h⟩
    split at hd'
    · rcases List.mem_append.mp hd' with z | z
      · exact drawsTo_mem h n d z
      · exact fin _ (List.mem_singleton.mp z)
    · rcases List.mem_append.mp hd' with z | z
      · exact drawsTo_mem h n d z
      · exact fin _ (List.mem_singleton.mp z)
def sp__law_draws (_ : PySem.W.Frag) : Sp := sl3 (fun c m l : Int => [.int c, .int m, .int l]) (fun _ m l _ => (0 ≤ m ∧ m ≤ 1000) ∧ 0 < l ∧ l < 1000) (fun c m l => (drawsTo c l m.toNat).1.map V.int)
theorem ok__law_draws {f : Addr} {fd : FuncData} (F : Fun K "_law_draws" "_law_draws" s__law_draws f fd) (T : Tx mg)  : FnOk P w K mg base CX0 1 f fd ["cell", "many", "limit"] (sp__law_draws K) := by
  refine F.ok sc__law_draws (fun vs H Q E h => ?_) (fun cdv A outer s H vs Q E hr h => ?_)
  · obtain ⟨c, m, l, rfl, _⟩ := h
    rfl
  · obtain ⟨c, m, l, rfl, ⟨hm, hl0, hl1⟩, q⟩ := h
    refine ⟨_, (pss_cons (ps_set (i := 3) sc__law_draws.nd rfl (Or.inl rfl) (pe_lst pa_nil))
      (pss_cons (ps_set (i := 4) sc__law_draws.nd rfl (Or.inl rfl) (pe_callB Kn.cr_abs (by rfl) T.b_abs (by decide +kernel) (pa_cons (pv 0) pa_nil)))
      (pss_cons (ps_for PassesOwn.never rfl (pi_range1 rfl T.b_range (pa_cons (pv 1) pa_nil)) (pg_name (i := 5) sc__law_draws.nd rfl (Or.inl rfl)) (pss_one (ps_if (PW.pt (pw_and (pt_cmpR op_ge (pe_callB Kn.cr_abs (by rfl) T.b_abs (by decide +kernel) (pa_cons (pv 0) pa_nil)) (pe_op op_pow pe_int pe_int) (nomark _)) (pw_and1 (pt_cmpR op_gt (pv 4) pe_int (nomark _))))) (pss_cons (ps_expr (pe_bm PySem.F.plainAttrs_list PySem.F.slot_list_append PySem.F.type_list_append mt_append (pv 3) (pa_cons (pe_op op_mod (pe_callTy Kn.cr_int1 (by rfl) T.b_int (by decide +kernel) (pa_cons (pv 4) pa_nil)) (pv 2)) pa_nil)))
      (pss_one (ps_set (i := 4) sc__law_draws.nd rfl (Or.inl rfl) (pe_op op_fdiv (pv 4) (pv 2))))) (pss_cons (ps_set (i := 6) sc__law_draws.nd rfl (Or.inl rfl) (pe_op op_mod (pe_callTy Kn.cr_int1 (by rfl) T.b_int (by decide +kernel) (pa_cons (pe_op op_add (pe_op op_add (pe_op op_mul (pe_callB Kn.cr_abs (by rfl) T.b_abs (by decide +kernel) (pa_cons (pv 0) pa_nil)) pe_int) (pe_op op_mul (pv 5) pe_int)) pe_int) pa_nil)) pe_int))
      (pss_cons (ps_set (i := 6) sc__law_draws.nd rfl (Or.inl rfl) (pe_op op_mod (pe_callTy Kn.cr_int1 (by rfl) T.b_int (by decide +kernel) (pa_cons (pe_op op_add (pe_op op_add (pe_op op_mul (pv 6) pe_int) (pe_op op_fdiv (pv 6) pe_int)) (pe_op op_mul (pv 5) pe_int)) pa_nil)) pe_int))
      (pss_one (ps_expr (pe_bm PySem.F.plainAttrs_list PySem.F.slot_list_append PySem.F.type_list_append mt_append (pv 3) (pa_cons (pe_op op_mod (pe_op op_fdiv (pv 6) pe_int) (pv 2)) pa_nil)))))))))
      (pss_one (ps_ret (pv 3)))))), ?_⟩
    refine q_asgL (el_lst ea_nil (by decide)) fun p H1 np e1 hp => ?_
    refine q_asg (v := .int (c.natAbs : Int)) (by walk_at "ev") fun H2 e2 => ?_
    refine q_forR1 (n := m) (by walk_at "ev") ⟨by omega, by omega⟩ (fun i σ' H' => ∃ x5 x6, σ' = [some (.int c), some (.int m), some (.int l), some (.ref p), some (.int (drawsTo c l i).2), x5, x6] ∧ Ex H H' ∧ H' p = some (.lst ((drawsTo c l i).1.map V.int))) (fun H3 e3 => ⟨_, _, rfl, (e1.trans e2).trans e3, e3 _ _ (e2 _ _ hp)⟩) ?_ ?_
    · rintro i σ' H3 hi ⟨x5, x6, rfl, e3, hl⟩
      have hz : ((drawsTo c l i).1.map V.int).length < 100000 := by
        rw [List.length_map, drawsTo_len]
        omega
      refine s_if (b := decide ((10 : Int) ^ (18 : Int).toNat ≤ (c.natAbs : Int)) && decide (0 < (drawsTo c l i).2)) (by walk_at "ev") (fun hb H4 e4 => ?_) (fun hb H4 e4 => ?_)
      · have e : drawsTo c l (i + 1) = ((drawsTo c l i).1 ++ [(drawsTo c l i).2 % l], (drawsTo c l i).2 / l) := by
          show drawStep c l i (drawsTo c l i) = _
          unfold drawStep
          rw [if_pos hb]
        refine q_app (v := .int ((drawsTo c l i).2 % l)) (e4 _ _ hl) (by walk_at "ev") (by walk_at "ev") hz fun H5 e5 => ?_
        refine s_asg (v := .int ((drawsTo c l i).2 / l)) (by walk_at "ev") fun H6 e6 => ⟨some (.int (i : Int)), x6, by rw [e]; rfl, ((Ex.mut ((e3.trans e4).trans e5) np).trans e6), ?_⟩
        · rw [e]
          refine e6 _ _ ?_
          rw [List.map_append]
          exact upd_same
      · have e : drawsTo c l (i + 1) = ((drawsTo c l i).1 ++ [((((c.natAbs : Int) * 48271 + (i : Int) * 69621 + 7) % 2147483647) * 16807 + (((c.natAbs : Int) * 48271 + (i : Int) * 69621 + 7) % 2147483647) / 127 + (i : Int) * 31) % 2147483629 / 3 % l], (drawsTo c l i).2) := by
          show drawStep c l i (drawsTo c l i) = _
          unfold drawStep
          rw [if_neg (by rw [hb]; decide)]
        refine q_asg (v := .int (((c.natAbs : Int) * 48271 + (i : Int) * 69621 + 7) % 2147483647)) (by walk_at "ev") fun H5 e5 => ?_
        refine q_asg (v := .int (((((c.natAbs : Int) * 48271 + (i : Int) * 69621 + 7) % 2147483647) * 16807 + (((c.natAbs : Int) * 48271 + (i : Int) * 69621 + 7) % 2147483647) / 127 + (i : Int) * 31) % 2147483629)) (by walk_at "ev") fun H6 e6 => ?_
        refine s_app (v := .int (((((c.natAbs : Int) * 48271 + (i : Int) * 69621 + 7) % 2147483647) * 16807 + (((c.natAbs : Int) * 48271 + (i : Int) * 69621 + 7) % 2147483647) / 127 + (i : Int) * 31) % 2147483629 / 3 % l)) (e6 _ _ (e5 _ _ (e4 _ _ hl))) (by walk_at "ev") (by walk_at "ev") hz fun H7 e7 => ⟨some (.int (i : Int)), some (.int (((((c.natAbs : Int) * 48271 + (i : Int) * 69621 + 7) % 2147483647) * 16807 + (((c.natAbs : Int) * 48271 + (i : Int) * 69621 + 7) % 2147483647) / 127 + (i : Int) * 31) % 2147483629)), by rw [e]; rfl, Ex.mut (((e3.trans e4).trans e5).trans (e6.trans e7)) np, ?_⟩
        · rw [e, List.map_append]
          exact upd_same
    · rintro σ' H3 ⟨x5, x6, rfl, e3, hl⟩
      exact s_ret (ev_var rfl) fun H4 e4 => q p H4 np (e3.trans e4) (e4 _ _ hl)

/-! ### names -/
def nameSigns : List Nat := (Str.ofString "abcxyz019_.").cps.toList
def nameSign (n : Int) : Nat := nameSigns.getD (n % 11).toNat 0
theorem nameSign_lt (n : Int) : (n % 11).toNat < nameSigns.length := by
  have h1 : 0 ≤ n % 11 := Int.emod_nonneg n (by decide)
  have h2 : n % 11 < 11 := Int.emod_lt_of_pos n (by decide)
  have h3 : nameSigns.length = 11 := by decide +kernel
  omega
theorem nameSign_at (n : Int) : atI nameSigns (n % 11) = some (nameSign n) := by
  have h1 : 0 ≤ n % 11 := Int.emod_nonneg n (by decide)
  refine atI_nat' (j := (n % 11).toNat) (by omega) ?_
  unfold nameSign
  rw [List.getD_eq_getElem?_getD, List.getElem?_eq_getElem (nameSign_lt n)]
  rfl
theorem nameSign_no (n : Int) : nameSign n ≠ 47 := by
  have h : nameSigns.all (fun c => decide (c ≠ 47)) = true := by decide +kernel
  unfold nameSign
  rw [List.getD_eq_getElem?_getD, List.getElem?_eq_getElem (nameSign_lt n)]
  exact of_decide_eq_true (List.all_eq_true.mp h _ (List.getElem_mem (nameSign_lt n)))
def rawName (ns : List Int) : List Nat := ns.map nameSign
def lawName (ns : List Int) : List Nat := if (rawName ns)[0]? = some 46 then 113 :: (rawName ns).drop 1 else rawName ns
theorem lawName_len {ns : List Int} (h : ns ≠ []) : (lawName ns).length = ns.length := by
  unfold lawName
  cases ns with
  | nil => exact absurd rfl h
  | cons a r =>
    split
    · show ((rawName (a :: r)).drop 1).length + 1 = _
      unfold rawName
      rw [List.length_drop, List.length_map, List.length_cons]
      omega
    · exact List.length_map ..
theorem lawName_no (ns : List Int) : 47 ∉ lawName ns := by
  have h : 47 ∉ rawName ns := fun z => by
    obtain ⟨n, _, e⟩ := List.mem_map.mp z
    exact nameSign_no n e
  unfold lawName
  split
  · intro z
    rcases List.mem_cons.mp z with z | z
    · exact absurd z (by decide)
    · exact h (List.mem_of_mem_drop z)
  · exact h
theorem raw_flat : ∀ ns : List Int, (ns.map fun n => [nameSign n]).flatten = rawName ns
  | [] => rfl
  | n :: r => by
    rw [List.map_cons, List.flatten_cons, raw_flat r]
    rfl
theorem ones_sum (ns : List Int) : ((ns.map fun n => [nameSign n]).map (·.length)).sum = ns.length := by
  induction ns with
  | nil => rfl
  | cons a r ih =>
    rw [List.map_cons, List.map_cons, List.sum_cons, ih]
    show 1 + r.length = r.length + 1
    omega
def sp__law_name (K : PySem.W.Frag) : Sp := sp2 (fun (a : Addr) (_ : List Int) => [.ref a]) (fun a ns H => SqL K H a (ns.map V.int) ∧ ns ≠ [] ∧ ns.length ≤ 1000) (fun _ ns => .str (S (lawName ns)))
theorem ok__law_name {f : Addr} {fd : FuncData} (F : Fun K "_law_name" "_law_name" s__law_name f fd) (T : Tx mg)  : FnOk P w K mg base CX0 1 f fd ["numbers"] (sp__law_name K) := by
  refine F.ok sc__law_name (fun vs H Q E h => ?_) (fun cdv A outer s H vs Q E hr h => ?_)
  · obtain ⟨a, ns, rfl, _⟩ := h
    rfl
  · obtain ⟨a, ns, rfl, ⟨hS, hne, hl⟩, q⟩ := h
    refine ⟨_, (pss_cons (ps_set (i := 1) sc__law_name.nd rfl (Or.inr rfl) pe_str)
      (pss_cons (ps_set (i := 2) sc__law_name.nd rfl (Or.inl rfl) (Kn.pe_joinN (pe_join pe_str (pe_lc (own := [("number", 3)]) rfl sc__law_name.nd (pi_list (pv 0)) (blkOk_by (own := [("number", 3)]) (N := N__law_name) (sc := defScope s__law_name) (by decide +kernel)) (fun _ _ _ _ _ => pg_name (i := 3) sc__law_name.nd rfl (Or.inl rfl)) (fun _ _ _ _ _ => pts_nil) (fun _ _ _ _ _ => (pe_ix ix_str (pv 1) (pe_op op_mod (pe_callTy Kn.cr_int1 (by rfl) T.b_int (by decide +kernel) (pa_cons (pv 3) pa_nil)) pe_int) (fun _ _ => rfl)))))))
      (pss_cons (ps_if (pt_cmpR op_eq (pe_ix ix_str (pv 2) pe_int (fun _ _ => rfl)) pe_str (nomark _)) (pss_one (ps_ret (pe_op Kn.op_addS pe_str (pe_slice sl_str (pv 2) (po_some pe_int) po_none)))) pss_nil)
      (pss_one (ps_ret (pv 2)))))), ?_⟩
    refine q_asg (ev_cS (l := nameSigns) rfl) fun H1 e1 => ?_
    refine q_asg (v := .str (S (rawName ns))) (ev_is (ev_join (s := []) (ys := ns.map fun n => [nameSign n]) (ev_cS rfl) ?_ ?_) ?_) fun H2 e2 => ?_
    · rw [List.map_map]
      refine el_lcM (g := V.int) (ev_var rfl) (ex_l e1 hS) (by omega) (fun _ => rfl) fun n hn H3 e3 => ?_
      exact ev_idxS (l := nameSigns) (ev_var rfl) (by walk_at "ev") (by decide +kernel) (nameSign_at n)
    · rw [ones_sum, List.length_map]
      show ns.length + ns.length * 0 ≤ 16777216
      omega
    · rw [Kn.join_nil, raw_flat]
    obtain ⟨a0, r0, rfl⟩ : ∃ a0 r0, ns = a0 :: r0 := by
      cases ns with
      | nil => exact absurd rfl hne
      | cons a r => exact ⟨a, r, rfl⟩
    have hraw : rawName (a0 :: r0) = nameSign a0 :: rawName r0 := rfl
    have hrl : (rawName (a0 :: r0)).length ≤ 1000 := by
      unfold rawName
      rw [List.length_map]
      exact hl
    refine q_when (b := decide ([nameSign a0] = [46])) (et_test (ev_op (ev_idxS (l := rawName (a0 :: r0)) (c := nameSign a0) (ev_var rfl) ev_c (by omega) (atI_nat (j := 0) rfl)) (ev_cS (l := [46]) rfl) rv_eqS)) (fun hb H3 e3 => ?_) (fun hb H3 e3 => ?_)
    · have h0 : nameSign a0 = 46 := (List.cons.inj (of_decide_eq_true hb)).1
      refine s_ret (v := .str (S (113 :: (rawName (a0 :: r0)).drop 1))) (ev_op (ev_cS (l := [113]) rfl) (ev_slFrom (ev_var rfl) (by walk_at "ev") eo_none (by omega) (by decide)) (rv_addS ?_)) fun H4 e4 => ?_
      · show 1 + ((rawName (a0 :: r0)).drop 1).length ≤ 100000
        rw [List.length_drop]
        omega
      · have z := q H4 (((e1.trans e2).trans e3).trans e4)
        have e : lawName (a0 :: r0) = 113 :: (rawName (a0 :: r0)).drop 1 := by
          unfold lawName
          rw [if_pos (by rw [hraw, h0]; rfl)]
        rw [← e]
        exact z
    · have h0 : nameSign a0 ≠ 46 := fun z => of_decide_eq_false hb (by rw [z])
      refine s_ret (ev_var rfl) fun H4 e4 => ?_
      have z := q H4 (((e1.trans e2).trans e3).trans e4)
      have e : lawName (a0 :: r0) = rawName (a0 :: r0) := by
        unfold lawName
        rw [if_neg (by rw [hraw]; exact fun z => h0 (Option.some.inj z))]
      rw [← e]
      exact z
def sp__law_power (_ : PySem.W.Frag) : Sp := sp1 (fun k : Nat => [.int (k : Int)]) (fun k _ => k ≤ 4) (fun k => .int ((12 : Int) ^ k))
theorem pow12 {k : Nat} (h : k ≤ 4) : 0 < (12 : Int) ^ k ∧ (12 : Int) ^ k ≤ 20736 := by
  obtain rfl | rfl | rfl | rfl | rfl : k = 0 ∨ k = 1 ∨ k = 2 ∨ k = 3 ∨ k = 4 := by omega
  all_goals decide
theorem ok__law_power {f : Addr} {fd : FuncData} (F : Fun K "_law_power" "_law_power" s__law_power f fd) (T : Tx mg)  : FnOk P w K mg base CX0 1 f fd ["k"] (sp__law_power K) := by
  refine F.ok sc__law_power (fun vs H Q E h => ?_) (fun cdv A outer s H vs Q E hr h => ?_)
  · obtain ⟨n, rfl, _⟩ := h
    rfl
  · obtain ⟨k, rfl, hk, q⟩ := h
    refine ⟨_, (pss_cons (ps_set (i := 1) sc__law_power.nd rfl (Or.inl rfl) pe_int)
      (pss_cons (ps_for PassesOwn.never rfl (pi_range1 rfl T.b_range (pa_cons (pv 0) pa_nil)) (pg_name (i := 2) sc__law_power.nd rfl (Or.inl rfl)) (pss_one (ps_set (i := 1) sc__law_power.nd rfl (Or.inl rfl) (pe_op op_mul (pv 1) pe_int))))
      (pss_one (ps_ret (pv 1))))), ?_⟩
    refine q_asg (v := .int ((12 : Int) ^ 0)) ev_c fun H1 e1 => ?_
    refine q_forR1 (n := (k : Int)) (by walk_at "ev") ⟨by omega, by omega⟩ (fun i σ' H' => ∃ x, σ' = [some (.int (k : Int)), some (.int ((12 : Int) ^ i)), x] ∧ Ex H H') (fun H3 e3 => ⟨_, rfl, e1.trans e3⟩) ?_ ?_
    · rintro i σ' H3 hi ⟨x, rfl, e3⟩
      have hp := pow12 (k := i) (by omega)
      exact s_asg (v := .int ((12 : Int) ^ (i + 1))) (ev_op (ev_var rfl) ev_c (rv_mul (.inr ⟨by decide, by decide⟩))) fun H4 e4 => ⟨_, rfl, e3.trans e4⟩
    · rintro σ' H3 ⟨x, rfl, e3⟩
      rw [Int.toNat_natCast]
      exact s_ret (ev_var rfl) fun H4 e4 => q H4 (e3.trans e4)
/-! ### the law -/
def many (ns : List Int) (k : Nat) : Int := 1 + ((cellOf ns 1).natAbs : Int) / (12 : Int) ^ k % 12
theorem many_b (ns : List Int) (k : Nat) : 1 ≤ many ns k ∧ many ns k ≤ 12 := by
  have h1 : 0 ≤ ((cellOf ns 1).natAbs : Int) / (12 : Int) ^ k % 12 := Int.emod_nonneg _ (by decide)
  have h2 : ((cellOf ns 1).natAbs : Int) / (12 : Int) ^ k % 12 < 12 := Int.emod_lt_of_pos _ (by decide)
  unfold many
  omega
def nameAt (ns : List Int) (k : Nat) : List Nat := lawName (drawsTo (cellOf ns (2 + k)) 11 (many ns k).toNat).1
theorem draws_ne (ns : List Int) (k : Nat) : (drawsTo (cellOf ns (2 + k)) 11 (many ns k).toNat).1 ≠ [] := fun z => by
  have h := drawsTo_len (cellOf ns (2 + k)) 11 (many ns k).toNat
  rw [z] at h
  have := many_b ns k
  have h2 : 0 = (many ns k).toNat := h
  omega
theorem nameAt_len (ns : List Int) (k : Nat) : 1 ≤ (nameAt ns k).length ∧ (nameAt ns k).length ≤ 12 := by
  unfold nameAt
  rw [lawName_len (draws_ne ns k), drawsTo_len]
  have := many_b ns k
  omega
def count (ns : List Int) : Int := 1 + ((cellOf ns 0).natAbs : Int) % 4
theorem count_b (ns : List Int) : 1 ≤ count ns ∧ count ns ≤ 4 := by
  unfold count
  omega
def names (ns : List Int) : List (List Nat) := (List.range (count ns).toNat).map (nameAt ns)
theorem names_len (ns : List Int) : (names ns).length = (count ns).toNat := by
  unfold names
  rw [List.length_map, List.length_range]
theorem names_ok (ns : List Int) : Names (names ns) := by
  have hc := count_b ns
  have hl := names_len ns
  have mem : ∀ n ∈ names ns, ∃ k, nameAt ns k = n := fun n hn => by
    obtain ⟨k, _, e⟩ := List.mem_map.mp hn
    exact ⟨k, e⟩
  refine ⟨fun z => ?_, by omega, fun n hn z => ?_, fun n hn => ?_, fun n hn => ?_⟩
  · rw [z] at hl
    have : 0 = (count ns).toNat := hl
    omega
  · obtain ⟨k, rfl⟩ := mem n hn
    have := nameAt_len ns k
    rw [z] at this
    exact absurd this.1 (by decide)
  · obtain ⟨k, rfl⟩ := mem n hn
    exact (nameAt_len ns k).2
  · obtain ⟨k, rfl⟩ := mem n hn
    exact lawName_no _
def sp_law (K : PySem.W.Frag) : Sp := sp2 (fun (a : Addr) (_ : List Int) => [.ref a]) (fun a ns H => SqL K H a (ns.map V.int) ∧ ns.length ≤ 63) (fun _ _ => .bl true)
theorem ok_law {f : Addr} {fd : FuncData} (F : Fun K "law" "law" s_law f fd) (T : Tx mg) (C__law_cell : Kn.Cl P w K mg base 1 "_law_cell" (sp__law_cell K)) (C__law_draws : Kn.Cl P w K mg base 1 "_law_draws" (sp__law_draws K)) (C__law_name : Kn.Cl P w K mg base 1 "_law_name" (sp__law_name K)) (C__law_power : Kn.Cl P w K mg base 1 "_law_power" (sp__law_power K)) (C_parents : Kn.Cl P w K mg base 2 "parents" (sp_parents K)) (C_directory : Kn.Cl P w K mg base 1 "directory" (sp_directory K)) : FnOk P w K mg base CX0 3 f fd ["script"] (sp_law K) := by
  refine F.ok sc_law (fun vs H Q E h => ?_) (fun cdv A outer s H vs Q E hr h => ?_)
  · obtain ⟨a, ns, rfl, _⟩ := h
    rfl
  · obtain ⟨a, ns, rfl, ⟨hS, hl⟩, q⟩ := h
    refine ⟨_, (pss_cons (ps_set (i := 1) sc_law.nd rfl (Or.inr rfl) (pe_lst pa_nil))
      (pss_cons (ps_for PassesOwn.never rfl (pi_range1 rfl T.b_range (pa_cons (pe_op op_add pe_int (pe_op op_mod (pe_callB Kn.cr_abs (by rfl) T.b_abs (by decide +kernel) (pa_cons (Kn.pe_cl C__law_cell hr (by decide) (by rfl) (pa_cons (pv 0) (pa_cons pe_int pa_nil))) pa_nil)) pe_int)) pa_nil)) (pg_name (i := 2) sc_law.nd rfl (Or.inl rfl)) (pss_one (ps_expr (pe_bm PySem.F.plainAttrs_list PySem.F.slot_list_append PySem.F.type_list_append mt_append (pv 1) (pa_cons (Kn.pe_cl C__law_name hr (by decide) (by rfl) (pa_cons (Kn.pe_cl C__law_draws hr (by decide) (by rfl) (pa_cons (Kn.pe_cl C__law_cell hr (by decide) (by rfl) (pa_cons (pv 0) (pa_cons (pe_op op_add pe_int (pv 2)) pa_nil))) (pa_cons (pe_op op_add pe_int (pe_op op_mod (pe_op op_fdiv (pe_callB Kn.cr_abs (by rfl) T.b_abs (by decide +kernel) (pa_cons (Kn.pe_cl C__law_cell hr (by decide) (by rfl) (pa_cons (pv 0) (pa_cons pe_int pa_nil))) pa_nil)) (Kn.pe_cl C__law_power hr (by decide) (by rfl) (pa_cons (pv 2) pa_nil))) pe_int)) (pa_cons pe_int pa_nil)))) pa_nil)) pa_nil)))))
      (pss_cons (ps_set (i := 3) sc_law.nd rfl (Or.inl rfl) (Kn.pe_joinN (pe_join pe_str (pv 1))))
      (pss_cons (ps_setLc (i := 4) (own := [("k", 2)]) rfl sc_law.nd rfl rfl (sw_true rfl rfl rfl (by decide +kernel)) (pi_range1 rfl T.b_range (pa_cons (pe_op op_sub (pe_callB Kn.cr_lenSeq (by rfl) T.b_len PySem.boot_len (pa_cons (pv 1) pa_nil)) pe_int) pa_nil)) (blkOk_by (own := [("k", 2)]) (N := N_law) (sc := defScope s_law) (by decide +kernel)) (fun _ _ _ _ _ => pg_name (i := 2) sc_law.nd rfl (Or.inl rfl)) (fun _ _ _ _ _ => pts_nil) (fun _ _ _ _ _ => (Kn.pe_joinK (K := K) rfl (pe_join pe_str (pe_slice (Kn.sl_listK (K := K) rfl) (pv 1) po_none (po_some (pe_op op_sub (pe_op op_sub (pe_callB (Kn.cr_lenSeqK (K := K) rfl) (by rfl) T.b_len PySem.boot_len (pa_cons (pv 1) pa_nil)) pe_int) (pv 2))))))))
      (pss_cons (ps_set (i := 5) sc_law.nd rfl (Or.inl rfl) (Kn.pe_cl C_parents hr (by decide) (by rfl) (pa_cons (pv 3) pa_nil)))
      (pss_cons (ps_if (PW.pt (pw_or (pt_not (pt_val (pe_callB Kn.cr_isi (by rfl) T.b_isinstance (by decide +kernel) (pa_cons (pv 5) (pa_cons (pe_bltn (v := .ty "list") (by rfl) T.b_list (by decide +kernel) rfl) pa_nil))))) (pw_or1 (pt_cmpR op_ne (pe_callB Kn.cr_lenSeq (by rfl) T.b_len PySem.boot_len (pa_cons (pv 5) pa_nil)) (pe_callB Kn.cr_lenSeq (by rfl) T.b_len PySem.boot_len (pa_cons (pv 4) pa_nil)) (nomark _))))) (pss_one (ps_ret pe_bl)) pss_nil)
      (pss_cons (ps_for PassesOwn.never rfl (pi_range1 rfl T.b_range (pa_cons (pe_callB Kn.cr_lenSeq (by rfl) T.b_len PySem.boot_len (pa_cons (pv 4) pa_nil)) pa_nil)) (pg_name (i := 2) sc_law.nd rfl (Or.inl rfl)) (pss_one (ps_if (PW.pt (pw_or (pt_not (pt_val (pe_callB Kn.cr_isi (by rfl) T.b_isinstance (by decide +kernel) (pa_cons (pe_ix ix_list (pv 5) (pv 2) (fun _ _ => rfl)) (pa_cons (pe_bltn (v := .ty "str") (by rfl) T.b_str (by decide +kernel) rfl) pa_nil))))) (pw_or1 (pt_cmpR op_ne (pe_ix ix_list (pv 5) (pv 2) (fun _ _ => rfl)) (pe_ix ix_list (pv 4) (pv 2) (fun _ _ => rfl)) (nomark _))))) (pss_one (ps_ret pe_bl)) pss_nil)))
      (pss_cons (ps_set (i := 6) sc_law.nd rfl (Or.inl rfl) (Kn.pe_cl C_directory hr (by decide) (by rfl) (pa_cons (pv 3) pa_nil)))
      (pss_cons (ps_if (pt_not (pt_val (pe_callB Kn.cr_isi (by rfl) T.b_isinstance (by decide +kernel) (pa_cons (pv 6) (pa_cons (pe_bltn (v := .ty "str") (by rfl) T.b_str (by decide +kernel) rfl) pa_nil))))) (pss_one (ps_ret pe_bl)) pss_nil)
      (pss_cons (ps_if (pt_cmpR op_eq (pe_callB Kn.cr_lenSeq (by rfl) T.b_len PySem.boot_len (pa_cons (pv 4) pa_nil)) pe_int (nomark _)) (pss_one (ps_ret (pe_cmpR op_eq (pv 6) pe_str (nomark _)))) pss_nil)
      (pss_one (ps_ret (pe_cmpR op_eq (pv 6) (pe_ix ix_list (pv 4) pe_int (fun _ _ => rfl)) (nomark _)))))))))))))), ?_⟩
    have hc := count_b ns
    have hN := names_ok ns
    have hNl := names_len ns
    -- names = []; the loop
    refine q_asgL (el_lst ea_nil (by decide)) fun p H1 np e1 hp => ?_
    refine q_forR1 (n := count ns) (ea_cons (ev_op ev_c (ev_op (ev_cb (ea_cons (ev_c3 (a := a) (b := ns) (c := 0) (by walk_at "ev") fun H2 e2 => ex_l (e1.trans e2) hS) ea_nil) rc_abs) ev_c (rv_mod (by decide))) rv_I0) ea_nil) ⟨by omega, by omega⟩ (fun i σ' H' => ∃ x, σ' = [some (.ref a), some (.ref p), x, none, none, none, none] ∧ Ex H H' ∧ H' p = some (.lst (((List.range i).map (nameAt ns)).map fun l => V.str (S l)))) (fun H3 e3 => ⟨_, rfl, e1.trans e3, e3 _ _ hp⟩) ?_ ?_
    · rintro i σ' H3 hi ⟨x, rfl, e3, hl3⟩
      have hm := many_b ns i
      have hp12 := pow12 (k := i) (by omega)
      refine s_app (v := .str (S (nameAt ns i))) hl3 (by walk_at "ev") (ev_c1L (xs := (drawsTo (cellOf ns (2 + i)) 11 (many ns i).toNat).1.map V.int) ?_ (drawsTo (cellOf ns (2 + i)) 11 (many ns i).toNat).1 (fun _ => rfl) (fun p H2 e h => ⟨sq_of h, draws_ne ns i, by rw [drawsTo_len]; omega⟩) fun _ => rfl) (by rw [List.length_map, List.length_map, List.length_range]; omega) fun H4 e4 => ⟨_, rfl, Ex.mut (e3.trans e4) np, ?_⟩
      · refine el_c3 (a := cellOf ns (2 + i)) (b := many ns i) (c := 11) (ea_cons (ev_c3 (a := a) (b := ns) (c := 2 + i) (ea_cons (ev_var rfl) (ea_cons (ev_is (ev_op ev_c (ev_var rfl) rv_I0) (by rw [Int.natCast_add]; rfl)) ea_nil)) fun H4 e4 => ex_l (e3.trans e4) hS) (ea_cons (ev_op ev_c (ev_op (ev_op (ev_cb (ea_cons (ev_c3 (a := a) (b := ns) (c := 1) (by walk_at "ev") fun H2 e2 => ex_l (e3.trans e2) hS) ea_nil) rc_abs) (ev_c1 (a := i) (by walk_at "ev") fun _ _ => (by omega)) (rv_fdiv ⟨hp12.1, by omega⟩)) ev_c (rv_mod (by decide))) rv_I0) (ea_cons ev_c ea_nil))) fun _ _ => ⟨⟨by omega, by omega⟩, by decide, by decide⟩
      · rw [List.range_succ, List.map_append, List.map_append]
        exact upd_same
    rintro σ' H3 ⟨x, rfl, e3, hl3⟩
    replace hl3 : H3 p = some (.lst ((names ns).map fun l => V.str (S l))) := hl3
    replace q : ∀ H4, Ex H3 H4 → Q (.bl true) H4 := fun H4 e => q H4 (e3.trans e)
    -- path
    refine q_asg (v := .str (S (TL.joinL [47] (names ns)))) (ev_joinV (ev_cS rfl) (ev_var rfl) (sq_of hl3) ?_) fun H4 e4 => ?_
    · have k := hN.sums (names ns).length
      rw [List.take_length] at k
      exact k
    replace hl3 := e4 _ _ hl3
    replace q := fun H5 e => q H5 (e4.trans e)
    -- due
    refine q_asgL (xs := (List.range ((names ns).length - 1)).map fun k => V.str (S (above (names ns) k))) ?_ fun d H5 nd e5 hd => ?_
    · have z : ((((names ns).map fun l => V.str (S l)).length : Int) - 1).toNat = (names ns).length - 1 := by
        rw [List.length_map]
        omega
      rw [← z]
      refine el_lcR (f := fun k => V.str (S (above (names ns) k))) (ea_cons (ev_op (ev_len (K := K) (ev_var rfl) (sq_of hl3)) ev_c rv_I0) ea_nil) ⟨by rw [List.length_map]; omega, by rw [List.length_map]; omega⟩ (fun _ => rfl) fun i H5 e5 hi => ?_
      · refine ev_join (K := K) (ev_cS rfl) (el_slTo (K := K) (g := fun l => V.str (S l)) (ev_var rfl) eo_none (eo_some (ev_op (ev_op (ev_len (K := K) (ev_var rfl) (sq_of (e5 _ _ hl3))) ev_c rv_I0) (ev_var rfl) rv_I0)) (sq_of (e5 _ _ hl3)) ((names ns).length - 1 - i) ?_) (hN.sums _)
        rw [List.length_map] at hi ⊢
        omega
    replace hl3 := e5 _ _ hl3
    replace q := fun H6 e => q H6 (e5.trans e)
    -- actual
    refine q_asgL (xs := (List.range ((names ns).length - 1)).map fun k => V.str (S (above (names ns) k))) (el_c1 (a := names ns) (by walk_at "ev") fun _ _ => hN) fun r H6 nr e6 hr6 => ?_
    replace hd := e6 _ _ hd
    replace q := fun H7 e => q H7 (e6.trans e)
    refine q_when (b := false) (et_or (a := false) (b := false) (et_not (a := true) (et_B (ev_isiL (ev_var rfl) hr6))) fun _ => et_is (et_test (ev_op (ev_len (ev_var rfl) (sq_of hr6)) (ev_len (ev_var rfl) (sq_of hd)) rv_neI)) (by simp)) (fun hb => nomatch hb) fun _ H7 e7 => ?_
    replace hd := e7 _ _ hd
    replace hr6 := e7 _ _ hr6
    replace q := fun H8 e => q H8 (e7.trans e)
    have hlen : ((List.range ((names ns).length - 1)).map fun k => V.str (S (above (names ns) k))).length = (names ns).length - 1 := by
      rw [List.length_map, List.length_range]
    have hget : ∀ i : Nat, i < (names ns).length - 1 → ((List.range ((names ns).length - 1)).map fun k => V.str (S (above (names ns) k)))[i]? = some (.str (S (above (names ns) i))) := fun i hi => by
      rw [List.getElem?_map, List.getElem?_range hi]
      rfl
    -- the loop over due
    refine q_forR1 (n := (((List.range ((names ns).length - 1)).map fun k => V.str (S (above (names ns) k))).length : Int)) (ea_cons (ev_len (ev_var rfl) (sq_of hd)) ea_nil) ⟨by omega, by rw [hlen]; omega⟩ (fun i σ' H' => ∃ x, σ' = [some (.ref a), some (.ref p), x, some (.str (S (TL.joinL [47] (names ns)))), some (.ref d), some (.ref r), none] ∧ Ex H7 H') (fun H8 e8 => ⟨_, rfl, e8⟩) ?_ ?_
    · rintro i σ' H8 hi ⟨x, rfl, e8⟩
      have hi2 : i < (names ns).length - 1 := by
        rw [hlen] at hi
        omega
      refine s_when (b := false) (et_or (a := false) (b := false) (et_not (a := true) (et_B (ev_isiS (ev_op (ev_var rfl) (ev_var rfl) (rv_ixL (sq_of (e8 _ _ hr6)) (atI_nat (hget i hi2))))))) fun _ => et_is (et_test (ev_op (ev_op (ev_var rfl) (ev_var rfl) (rv_ixL (sq_of (e8 _ _ hr6)) (atI_nat (hget i hi2)))) (ev_op (ev_var rfl) (ev_var rfl) (rv_ixL (sq_of (e8 _ _ hd)) (atI_nat (hget i hi2)))) rv_neS)) (by simp)) (fun hb => nomatch hb) fun _ H9 e9 => ⟨_, rfl, e8.trans e9⟩
    rintro σ' H8 ⟨x, rfl, e8⟩
    replace hd := e8 _ _ hd
    replace q := fun H9 e => q H9 (e8.trans e)
    -- place
    refine q_asg (v := .str (S (above (names ns) 0))) ?_ fun H9 e9 => ?_
    · rw [← dir_whole hN]
      refine ev_c1 (a := TL.joinL [47] (names ns)) (by walk_at "ev") fun _ _ => ?_
      have k := hN.small (names ns).length
      rw [List.take_length] at k
      exact k
    replace hd := e9 _ _ hd
    replace q := fun H10 e => q H10 (e9.trans e)
    refine q_when (b := false) (et_not (a := true) (et_B (ev_isiS (ev_var rfl)))) (fun hb => nomatch hb) fun _ H10 e10 => ?_
    replace hd := e10 _ _ hd
    replace q := fun H11 e => q H11 (e10.trans e)
    refine q_when (et_test (ev_op (ev_len (ev_var rfl) (sq_of hd)) ev_c rv_eqI)) (fun hb H11 e11 => ?_) (fun hb H11 e11 => ?_)
    · have h0 : (names ns).length - 1 = 0 := by
        have := of_decide_eq_true hb
        rw [hlen] at this
        omega
      refine s_ret (ev_op (ev_var rfl) (ev_cS (l := []) rfl) rv_eqS) fun H12 e12 => ?_
      rw [above_end (by omega)]
      exact q _ (e11.trans e12)
    · have h0 : 0 < (names ns).length - 1 := by
        have := of_decide_eq_false hb
        rw [hlen] at this
        omega
      refine s_ret (v := .bl true) (ev_is (ev_op (ev_var rfl) (ev_op (ev_var rfl) ev_c (rv_ixL (sq_of (e11 _ _ hd)) (atI_nat (j := 0) (hget 0 h0)))) rv_eqS) (by simp)) fun H12 e12 => q _ (e11.trans e12)
end
theorem all_mk {l : PySem.W.OpenLaw} {w : World} {K : PySem.W.Frag} {h : Heap} {mg : Str → Option Value} {fa : Addr} (X : K.In h) (G : h.Ns mainGlobals mg) (hfa : mg "law" = some (.ref fa))
    {f0 f1 f2 f3 f4 f5 f6 : Addr} {od0 od1 od2 od3 od4 od5 od6 an0 an1 an2 an3 an4 an5 an6 : Option Addr} {sl0 sl1 sl2 sl3 sl4 sl5 sl6 : Array (Option Value)} {oc0 oc1 oc2 oc3 oc4 oc5 oc6 kV0 kV1 kV2 kV3 kV4 kV5 kV6 dc0 dc1 dc2 dc3 dc4 dc5 dc6 pm0 pm1 pm2 pm3 pm4 pm5 pm6 cd0 cd1 cd2 cd3 cd4 cd5 cd6 ct0 ct1 ct2 ct3 ct4 ct5 ct6 : Value}
    (a0 : PySem.W.nsIn K mainGlobals "directory" = some (some (.ref f0)))
    (l0 : K.lookup f0 = some ⟨oc0, od0, .func (PySem.W.fnOf "directory" "directory" (defArgs s_directory) (defBody s_directory) (defScope s_directory) .none kV0 dc0 pm0 an0 cd0 ct0), sl0⟩)
    (c0 : PySem.W.codeIn K cd0 "directory" = true)
    (k0 : PySem.W.keepIn K (.ref f0) = true)
    (a1 : PySem.W.nsIn K mainGlobals "parents" = some (some (.ref f1)))
    (l1 : K.lookup f1 = some ⟨oc1, od1, .func (PySem.W.fnOf "parents" "parents" (defArgs s_parents) (defBody s_parents) (defScope s_parents) .none kV1 dc1 pm1 an1 cd1 ct1), sl1⟩)
    (c1 : PySem.W.codeIn K cd1 "parents" = true)
    (k1 : PySem.W.keepIn K (.ref f1) = true)
    (a2 : PySem.W.nsIn K mainGlobals "_law_cell" = some (some (.ref f2)))
    (l2 : K.lookup f2 = some ⟨oc2, od2, .func (PySem.W.fnOf "_law_cell" "_law_cell" (defArgs s__law_cell) (defBody s__law_cell) (defScope s__law_cell) .none kV2 dc2 pm2 an2 cd2 ct2), sl2⟩)
    (c2 : PySem.W.codeIn K cd2 "_law_cell" = true)
    (k2 : PySem.W.keepIn K (.ref f2) = true)
    (a3 : PySem.W.nsIn K mainGlobals "_law_draws" = some (some (.ref f3)))
    (l3 : K.lookup f3 = some ⟨oc3, od3, .func (PySem.W.fnOf "_law_draws" "_law_draws" (defArgs s__law_draws) (defBody s__law_draws) (defScope s__law_draws) .none kV3 dc3 pm3 an3 cd3 ct3), sl3⟩)
    (c3 : PySem.W.codeIn K cd3 "_law_draws" = true)
    (k3 : PySem.W.keepIn K (.ref f3) = true)
    (a4 : PySem.W.nsIn K mainGlobals "_law_name" = some (some (.ref f4)))
    (l4 : K.lookup f4 = some ⟨oc4, od4, .func (PySem.W.fnOf "_law_name" "_law_name" (defArgs s__law_name) (defBody s__law_name) (defScope s__law_name) .none kV4 dc4 pm4 an4 cd4 ct4), sl4⟩)
    (c4 : PySem.W.codeIn K cd4 "_law_name" = true)
    (k4 : PySem.W.keepIn K (.ref f4) = true)
    (a5 : PySem.W.nsIn K mainGlobals "_law_power" = some (some (.ref f5)))
    (l5 : K.lookup f5 = some ⟨oc5, od5, .func (PySem.W.fnOf "_law_power" "_law_power" (defArgs s__law_power) (defBody s__law_power) (defScope s__law_power) .none kV5 dc5 pm5 an5 cd5 ct5), sl5⟩)
    (c5 : PySem.W.codeIn K cd5 "_law_power" = true)
    (k5 : PySem.W.keepIn K (.ref f5) = true)
    (a6 : PySem.W.nsIn K mainGlobals "law" = some (some (.ref f6)))
    (l6 : K.lookup f6 = some ⟨oc6, od6, .func (PySem.W.fnOf "law" "law" (defArgs s_law) (defBody s_law) (defScope s_law) .none kV6 dc6 pm6 an6 cd6 ct6), sl6⟩)
    (c6 : PySem.W.codeIn K cd6 "law" = true)
    (k6 : PySem.W.keepIn K (.ref f6) = true)
    (zb_abs : PySem.W.nsIn K mainGlobals "abs" = some none)
    (zb_int : PySem.W.nsIn K mainGlobals "int" = some none)
    (zb_isinstance : PySem.W.nsIn K mainGlobals "isinstance" = some none)
    (zb_len : PySem.W.nsIn K mainGlobals "len" = some none)
    (zb_list : PySem.W.nsIn K mainGlobals "list" = some none)
    (zb_range : PySem.W.nsIn K mainGlobals "range" = some none)
    (zb_str : PySem.W.nsIn K mainGlobals "str" = some none)
    : ∃ fd : FuncData, (∀ (s : Shared) (v : Value), BindsTo s fd ⟨[v], []⟩ [("script", v)]) ∧ ∀ base : Heap, K.In base → base.Ns mainGlobals mg → FnOk l.prog w K mg base CX0 3 fa fd ["script"] (sp_law K) := by
  cases hfa.symm.trans (PySem.W.mg_of X G a6)
  have T : Tx mg := ⟨PySem.W.mg_none_of X G zb_abs, PySem.W.mg_none_of X G zb_int, PySem.W.mg_none_of X G zb_isinstance, PySem.W.mg_none_of X G zb_len, PySem.W.mg_none_of X G zb_list, PySem.W.mg_none_of X G zb_range, PySem.W.mg_none_of X G zb_str⟩
  have F0 := fun_mk (st := s_directory) l0 c0 k0
  have b0 := F0.binds (ps := ["path"]) fun _ _ _ _ _ _ us hl => match us, hl with | [_], _ => rfl
  have F1 := fun_mk (st := s_parents) l1 c1 k1
  have b1 := F1.binds (ps := ["path"]) fun _ _ _ _ _ _ us hl => match us, hl with | [_], _ => rfl
  have F2 := fun_mk (st := s__law_cell) l2 c2 k2
  have b2 := F2.binds (ps := ["script", "k"]) fun _ _ _ _ _ _ us hl => match us, hl with | [_, _], _ => rfl
  have F3 := fun_mk (st := s__law_draws) l3 c3 k3
  have b3 := F3.binds (ps := ["cell", "many", "limit"]) fun _ _ _ _ _ _ us hl => match us, hl with | [_, _, _], _ => rfl
  have F4 := fun_mk (st := s__law_name) l4 c4 k4
  have b4 := F4.binds (ps := ["numbers"]) fun _ _ _ _ _ _ us hl => match us, hl with | [_], _ => rfl
  have F5 := fun_mk (st := s__law_power) l5 c5 k5
  have b5 := F5.binds (ps := ["k"]) fun _ _ _ _ _ _ us hl => match us, hl with | [_], _ => rfl
  have F6 := fun_mk (st := s_law) l6 c6 k6
  have b6 := F6.binds (ps := ["script"]) fun _ _ _ _ _ _ us hl => match us, hl with | [_], _ => rfl
  refine ⟨PySem.W.fnOf "law" "law" (defArgs s_law) (defBody s_law) (defScope s_law) .none kV6 dc6 pm6 an6 cd6 ct6, fun s v => .of_eq rfl, fun base _ _ => ?_⟩
  have C_directory : Kn.Cl l.prog w K mg base 1 "directory" (sp_directory K) := Kn.cl_of (ok_directory F0 T) F0 (PySem.W.mg_of X G a0) b0
  have C_parents : Kn.Cl l.prog w K mg base 2 "parents" (sp_parents K) := Kn.cl_of (ok_parents F1 T C_directory) F1 (PySem.W.mg_of X G a1) b1
  have C__law_cell : Kn.Cl l.prog w K mg base 1 "_law_cell" (sp__law_cell K) := Kn.cl_of (ok__law_cell F2 T) F2 (PySem.W.mg_of X G a2) b2
  have C__law_draws : Kn.Cl l.prog w K mg base 1 "_law_draws" (sp__law_draws K) := Kn.cl_of (ok__law_draws F3 T) F3 (PySem.W.mg_of X G a3) b3
  have C__law_name : Kn.Cl l.prog w K mg base 1 "_law_name" (sp__law_name K) := Kn.cl_of (ok__law_name F4 T) F4 (PySem.W.mg_of X G a4) b4
  have C__law_power : Kn.Cl l.prog w K mg base 1 "_law_power" (sp__law_power K) := Kn.cl_of (ok__law_power F5 T) F5 (PySem.W.mg_of X G a5) b5
  exact ok_law F6 T C__law_cell C__law_draws C__law_name C__law_power C_parents C_directory
end My
open PySem PySem.W PyProof.Rows
set_option maxHeartbeats 0 in
theorem PySem.Challenge.cw_kilnyard_k06_directories_and_parents_holds : PySem.Challenge.rw_kilnyard_k06_directories_and_parents.Holds := by
  w_on; o_law; k_head; (case hw => w_witness2)
  k_fill
  refine L2.walk_of (l := PySem.Challenge.rw_kilnyard_k06_directories_and_parents) (n := 63) (k := 3) (x := "script") (CX := fun _ => L2.CX0) (sp := fun w => My.sp_law _) rfl (by decide) rfl ⟨rfl, by decide, by decide⟩ (fun w h Y => PySem.W.kIn_of Y) ?F (fun _ _ a ns hl _ hS => ⟨a, ns, rfl, ⟨hS, hl⟩, fun _ _ => rfl⟩) (fun _ _ _ _ _ h => h)
  case F =>
    intro w mg fa h KX G hmg
    refine' My.all_mk KX G hmg ?a0 ?l0 ?c0 ?k0 ?a1 ?l1 ?c1 ?k1 ?a2 ?l2 ?c2 ?k2 ?a3 ?l3 ?c3 ?k3 ?a4 ?l4 ?c4 ?k4 ?a5 ?l5 ?c5 ?k5 ?a6 ?l6 ?c6 ?k6 ?zb_abs ?zb_int ?zb_isinstance ?zb_len ?zb_list ?zb_range ?zb_str
    (case a0 => k_is)
    (case l0 => k_is)
    (case c0 => k_is)
    (case k0 => k_is)
    (case a1 => k_is)
    (case l1 => k_is)
    (case c1 => k_is)
    (case k1 => k_is)
    (case a2 => k_is)
    (case l2 => k_is)
    (case c2 => k_is)
    (case k2 => k_is)
    (case a3 => k_is)
    (case l3 => k_is)
    (case c3 => k_is)
    (case k3 => k_is)
    (case a4 => k_is)
    (case l4 => k_is)
    (case c4 => k_is)
    (case k4 => k_is)
    (case a5 => k_is)
    (case l5 => k_is)
    (case c5 => k_is)
    (case k5 => k_is)
    (case a6 => k_is)
    (case l6 => k_is)
    (case c6 => k_is)
    (case k6 => k_is)
    (case zb_abs => k_is)
    (case zb_int => k_is)
    (case zb_isinstance => k_is)
    (case zb_len => k_is)
    (case zb_list => k_is)
    (case zb_range => k_is)
    (case zb_str => k_is)

