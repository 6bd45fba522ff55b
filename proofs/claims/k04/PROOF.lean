import PyProof.Rows.All
import Wide.All
import OpenK.AllK
import Wide.FinOn
import HandS.Evl
import HandS.Codes
import HandS.Iter
import HandS.Dict
import HandS.Text
import HandS.Words
import HandS.Walk
import HandS.IsInst
import HandS.Steps
import HandS.More
import HandS.ReplaceList
import HandS.ReplaceLit
import HandS.Replace
import PySem.Challenge.RW_kilnyard_k04_paths_and_patterns
set_option Elab.async false
set_option linter.all false
set_option maxRecDepth 100000
set_option maxHeartbeats 4000000
/-! Kn: what all our proofs share: named relations, values, comprehensions, promises of pure defs. -/
namespace Kn
open PySem PySem.Spec PyProof.Rows L2 Evl SX

/-! ### relations with a name -/
def rAddStr : R2 := fun x y H Q => ∃ i j, x = .str i ∧ y = .str j ∧ i.length + j.length ≤ sizeLine ∧ Q (.str (i ++ j)) H
theorem op_addS {X : Cx} : OpR X (binaryOp .Add) rAddStr := op_add_str
def rLenStr : List V → Hp → VK → Prop := fun xs H Q => ∃ z, xs = [.str z] ∧ z.length ≤ sizeLine ∧ Q (.int z.length) H
theorem cr_lenStr {X : Cx} : CallR X (.builtin "len") rLenStr := call_len_str
theorem cr_lenSeq {X : Cx} : CallR X (.builtin "len") (rLenS X.K) := call_len_seq
def rOrd : List V → Hp → VK → Prop := fun xs H Q => ∃ x, xs = [.str x] ∧ x.length = 1 ∧ Q (.int (x.cps.getD 0 0 : Nat)) H
theorem cr_ord {X : Cx} : CallR X (.builtin "ord") rOrd := call_ord
def rInt1 : List V → Hp → VK → Prop := fun xs H Q => (∃ i, xs = [.int i] ∧ Q (.int i) H) ∨ ∃ k, xs = [.bl k] ∧ Q (.int (if k then 1 else 0)) H
theorem cr_int1 {X : Cx} : CallR X (.type "int") rInt1 := call_int1
def rAbs : List V → Hp → VK → Prop := fun xs H Q => ∃ i, xs = [.int i] ∧ Q (.int (if i < 0 then -i else i)) H
theorem cr_abs {X : Cx} : CallR X (.builtin "abs") rAbs := call_abs
def rJoin (K : PySem.W.Frag) : V → List V → Hp → VK → Prop := fun x xs H Q => ∃ a p, ∃ ys : List Str, x = .str a ∧ xs = [.ref p] ∧ (SqL K H p (ys.map V.str) ∨ SqT K H p (ys.map V.str)) ∧ (ys.map (·.length)).sum + ys.length * a.length ≤ 16777216 ∧ Q (.str (Txt.join a ys)) H
theorem pe_joinN {X : Cx} {e : Expr} {to te : TE} (h : PE X e (tM1 (fun x xs H Q => ∃ a p, ∃ ys : List Str, x = .str a ∧ xs = [.ref p] ∧ (SqL X.K H p (ys.map V.str) ∨ SqT X.K H p (ys.map V.str)) ∧ (ys.map (·.length)).sum + ys.length * a.length ≤ 16777216 ∧ Q (.str (Txt.join a ys)) H) to te)) : PE X e (tM1 (rJoin X.K) to te) := h
theorem cr_isi {X : Cx} : CallR X (.builtin "isinstance") (rIsi X.K) := call_isi

/-! ### values -/
section
variable {K : PySem.W.Frag} {σ : L2.St} {H H' : Hp} {ta tb te tc : TE} {t u : TT} {x y z v : V}
theorem val_abs (i : Int) : (if i < 0 then -i else i) = (i.natAbs : Int) := by split <;> omega
theorem rc_abs {i : Int} : RC rAbs [.int i] H (.int (i.natAbs : Int)) := fun H1 _ _ q => ⟨i, rfl, by rw [val_abs]; exact q H1 (Ex.refl H1)⟩
theorem rc_int {i : Int} : RC rInt1 [.int i] H (.int i) := fun H1 _ _ q => .inl ⟨i, rfl, q H1 (Ex.refl H1)⟩
theorem rc_intB {b : Bool} : RC rInt1 [.bl b] H (.int (if b then 1 else 0)) := fun H1 _ _ q => .inr ⟨b, rfl, q H1 (Ex.refl H1)⟩
theorem rc_ord {c : Nat} : RC rOrd [.str (S [c])] H (.int (c : Int)) := fun H1 _ _ q => ⟨S [c], rfl, rfl, q H1 (Ex.refl H1)⟩
theorem rc_lenS {l : List Nat} (h : l.length ≤ 100000) : RC rLenStr [.str (S l)] H (.int (l.length : Int)) := fun H1 _ _ q => ⟨S l, rfl, by rw [S_len]; exact sz_of h, by rw [S_len]; exact q H1 (Ex.refl H1)⟩
theorem rv_addS {a b : List Nat} (h : a.length + b.length ≤ 100000) : RV rAddStr (.str (S a)) (.str (S b)) H (.str (S (a ++ b))) := fun H1 _ _ q =>
  ⟨S a, S b, rfl, rfl, by rw [S_len, S_len]; exact sz_of h, by rw [S_cat]; exact q H1 (Ex.refl H1)⟩
theorem rv_mod {i j : Int} (h : 0 < j) : RV (rI (fun _ j => 0 < j) fun i j => .int (i % j)) (.int i) (.int j) H (.int (i % j)) := rv_I h
theorem rv_fdiv {i j : Int} (h : CDiv i j) : RV (rI CDiv fun i j => .int (i / j)) (.int i) (.int j) H (.int (i / j)) := rv_I h
theorem rv_mul {i j : Int} (h : CMul i j) : RV (rI CMul fun i j => .int (i * j)) (.int i) (.int j) H (.int (i * j)) := rv_I h
theorem S1 (x : Str) {l : List Nat} (h : x.cps.toList = l) : x = S l := TL.ext_tl h
theorem ev_chain {r r' : R2} {k b : Bool} (ha : Ev ta σ H x) (hb : Ev tb σ H y) (hr : RV r x y H (.bl k)) (hc : Ev tc σ H z) (hr' : RV r' y z H (.bl b)) : Ev (tChain r r' ta tb tc) σ H (.bl (k && b)) := fun H1 e Q q =>
  ha H1 e _ fun H2 e2 => hb H2 (e.trans e2) _ fun H3 e3 => hr H3 ((e.trans e2).trans e3) _ fun H4 e4 => ⟨k, rfl, by
    have e14 := (e2.trans e3).trans e4
    cases k with
    | true =>
      show tc σ H4 fun w' H5 => r' y w' H5 Q
      exact hc H4 (e.trans e14) _ fun H5 e5 => hr' H5 ((e.trans e14).trans e5) Q fun H6 e6 => q H6 ((e14.trans e5).trans e6)
    | false =>
      show Q (.bl false) H4
      exact q H4 e14⟩
theorem ev_idxS {l : List Nat} {i : Int} {c : Nat} (ha : Ev ta σ H (.str (S l))) (hb : Ev tb σ H (.int i)) (h : l.length ≤ 100000) (hat : atI l i = some c) : Ev (tOp rIxS ta tb) σ H (.str (S [c])) := ev_op ha hb (rv_ixS (w := S l) (by rw [S_len]; exact h) hat)
theorem atI_nat' {α : Type} {xs : List α} {i : Int} {j : Nat} {v : α} (hi : i = (j : Int)) (h : xs[j]? = some v) : atI xs i = some v := by
  subst hi
  exact atI_nat h
theorem ev_join {s : List Nat} {ys : List (List Nat)} (hs : Ev ta σ H (.str (S s))) (hl : EvL tb σ H (ys.map fun l => V.str (S l))) (hz : (ys.map (·.length)).sum + ys.length * s.length ≤ 16777216) : Ev (tM1 (rJoin K) ta tb) σ H (.str (S (TL.joinL s ys))) := fun H1 e Q q =>
  hs H1 e _ fun H2 e2 => ⟨⟨_, rfl⟩, hl H2 (e.trans e2) _ fun p H3 _ e3 hp => ⟨S s, p, ys.map S, rfl, rfl, .inl (.inl (.inl (by rw [List.map_map]; exact hp))), by
    rw [SX.lens, List.length_map, S_len]
    exact hz, by
    rw [SX.join_S]
    exact q H3 (e2.trans e3)⟩⟩
theorem ev_slS {to tp : TO} {l : List Nat} {lo hi : Option Int} (h : Ev te σ H (.str (S l))) (h1 : EvO to σ H lo) (h2 : EvO tp σ H hi) (hz : l.length ≤ 100000) : Ev (tSl rSlS te to tp) σ H (.str (cutS (S l) lo hi)) := fun H1 e _ q =>
  h H1 e _ fun H2 e2 => h1 H2 (e.trans e2) _ fun H3 e3 => h2 H3 ((e.trans e2).trans e3) _ fun H4 e4 => ⟨S l, rfl, by rw [S_len]; exact sz_of hz, q H4 ((e2.trans e3).trans e4)⟩
theorem ev_isi {T : String} {c : String} {b : Bool} (ha : Ev ta σ H x) (ht : TyX K H x (.type T)) (hb : kitB T c = some b) (hm : ∀ H1, Ex H H1 → TyX K H1 x (.type T)) : Ev (tCB (rIsi K) (tCons ta (tCons (tC (.ty c)) tNil))) σ H (.bl b) := fun H1 e Q q =>
  ha H1 e _ fun H2 e2 => ⟨x, .ty c, .type T, .type c, b, rfl, .ty c, hm H2 (e.trans e2), kit_ty hb, q H2 e2⟩
theorem ev_all {τ : Type} {xs : List τ} {p : τ → Bool} (ha : EvL ta σ H (xs.map fun a => V.bl (p a))) : Ev (tCB (rAll K) (tCons ta tNil)) σ H (.bl (xs.all p)) := fun H1 e Q q =>
  ha H1 e _ fun a H2 _ e2 h2 => ⟨a, xs.map p, rfl, sq_of (by rw [List.map_map]; exact h2), by
    have hh : (xs.map p).all id = xs.all p := by rw [List.all_map]; rfl
    rw [hh]
    exact q H2 e2⟩

/-! ### comprehensions: no test, a new list of what each item gives -/
theorem given_all {α : Type} {xs : List α} {f : α → V} {d : V} : given xs.length (fun _ => true) (fun i => (xs[i]?.map f).getD d) = xs.map f := by
  unfold given
  rw [List.filter_eq_self.mpr (fun _ _ => rfl)]
  refine List.ext_getElem (by simp) fun i h1 h2 => ?_
  simp at h1 h2
  simp [h2]
theorem et_yes {H : Hp} : EvT tYes σ H true := fun H1 _ _ q => q H1 (Ex.refl H1)
theorem el_lcM {τ : Type} {a : Addr} {ns : List τ} {g f : τ → V} {tl : TE} {j : Nat} {vs : List Nat} (h : Ev tl σ H (.ref a)) (hx : SqL K H a (ns.map g)) (hz : ns.length ≤ 40000) (hw : ∀ x, wipe ((wipe σ vs).set j (some x)) vs = wipe σ vs)
    (he : ∀ n ∈ ns, ∀ H1, Ex H H1 → Ev te ((wipe σ vs).set j (some (g n))) H1 (f n)) : EvL (tLc (iList K tl) (gName j) tYes te vs) σ H (ns.map f) := by
  have k := el_lcL (K := K) (te := te) (t := tYes) (j := j) (vs := vs) (fun _ => true) (fun i => (ns[i]?.map f).getD .non) h hx (by rw [List.length_map]; exact hz) hw (fun _ _ H1 _ _ => et_yes) (fun i x H1 e hi _ => by
    rw [List.getElem?_map] at hi
    cases hn : ns[i]? with
    | none => rw [hn] at hi; cases hi
    | some n =>
      rw [hn] at hi
      cases Option.some.inj hi
      exact he n (List.mem_of_getElem? hn) H1 e)
  rw [List.length_map, given_all] at k
  exact k
theorem el_lcN {τ : Type} {ns : List τ} {g f : τ → V} {tl : TE} {j : Nat} {vs : List Nat} (h : EvL tl σ H (ns.map g)) (hz : ns.length ≤ 40000) (hw : ∀ x, wipe ((wipe σ vs).set j (some x)) vs = wipe σ vs)
    (he : ∀ n ∈ ns, ∀ H1, Ex H H1 → Ev te ((wipe σ vs).set j (some (g n))) H1 (f n)) : EvL (tLc (iList K tl) (gName j) tYes te vs) σ H (ns.map f) := by
  have k := el_lcNL (K := K) (te := te) (t := tYes) (j := j) (vs := vs) (fun _ => true) (fun i => (ns[i]?.map f).getD .non) h (by rw [List.length_map]; exact hz) hw (fun _ _ H1 _ _ => et_yes) (fun i x H1 e hi _ => by
    rw [List.getElem?_map] at hi
    cases hn : ns[i]? with
    | none => rw [hn] at hi; cases hi
    | some n =>
      rw [hn] at hi
      cases Option.some.inj hi
      exact he n (List.mem_of_getElem? hn) H1 e)
  rw [List.length_map, given_all] at k
  exact k
theorem el_lcR {n : Int} {f : Nat → V} {ta : TA} {j : Nat} {vs : List Nat} (h : EvA ta σ H [.int n]) (hn : 0 ≤ n ∧ n ≤ 40000) (hw : ∀ x, wipe ((wipe σ vs).set j (some x)) vs = wipe σ vs)
    (he : ∀ (i : Nat) H1, Ex H H1 → (i : Int) < n → Ev te ((wipe σ vs).set j (some (.int (i : Int)))) H1 (f i)) : EvL (tLc (iRng1 ta) (gName j) tYes te vs) σ H ((List.range n.toNat).map f) := by
  have k := el_lcR1 (te := te) (t := tYes) (j := j) (vs := vs) (fun _ => true) f h hn hw (fun _ H1 _ _ => et_yes) (fun i H1 e hi _ => he i H1 e hi)
  unfold given at k
  rw [List.filter_eq_self.mpr (fun _ _ => rfl)] at k
  exact k
/-- over the signs of a text -/
theorem el_lcS {l : List Nat} {f : Nat → V} {ts : TE} {j : Nat} {vs : List Nat} (h : Ev ts σ H (.str (S l))) (hz : l.length ≤ 40000) (hw : ∀ x, wipe ((wipe σ vs).set j (some x)) vs = wipe σ vs)
    (he : ∀ c ∈ l, ∀ H1, Ex H H1 → Ev te ((wipe σ vs).set j (some (.str (S [c])))) H1 (f c)) : EvL (tLc (iStr ts) (gName j) tYes te vs) σ H (l.map f) := fun H0 e Q q => h H0 e _ fun H1 e1 => ⟨S l, rfl, fun Dl hD => by
  have hl : (S l).cps.size = l.length := by simp [S]
  refine lc_it walk_str (Cw H1 (fun _ => true) (fun i => (l[i]?.map f).getD .non) Dl) ⟨hD, Ex.new hD, upd_same⟩ (fun _ _ _ _ => trivial) (fun i x H2 H3 hi p y => ?_) (fun H2 p => ?_)
  · obtain ⟨rfl, c, hc, rfl⟩ := y
    have hc' : l[i]? = some c := by simpa [S] using hc
    refine ⟨hw _, cw_turn p (by rw [hl] at hi; omega) et_yes (fun _ => ?_)⟩
    rw [hc']
    exact he c (List.mem_of_getElem? hc') H1 (e.trans e1)
  · rw [hl] at p
    have := p.2.2
    rw [given_all] at this
    exact q Dl H2 (fresh_back e1 p.1) (e1.trans p.2.1) this⟩
end

/-! ### promises of pure defs: a value, a new list -/
def Rt (H : Hp) (v : V) (Q : VK) : Prop := ∀ H1, Ex H H1 → Q v H1
def Rl (H : Hp) (xs : List V) (Q : VK) : Prop := ∀ p H1, H p = none → Ex H H1 → H1 p = some (.lst xs) → Q (.ref p) H1
def sp1 {α : Type} (A : α → List V) (pre : α → Hp → Prop) (val : α → V) : Sp := fun vs H Q _ => ∃ a, vs = A a ∧ pre a H ∧ Rt H (val a) Q
def sp2 {α β : Type} (A : α → β → List V) (pre : α → β → Hp → Prop) (val : α → β → V) : Sp := fun vs H Q _ => ∃ a b, vs = A a b ∧ pre a b H ∧ Rt H (val a b) Q
def sp3 {α β γ : Type} (A : α → β → γ → List V) (pre : α → β → γ → Hp → Prop) (val : α → β → γ → V) : Sp := fun vs H Q _ => ∃ a b c, vs = A a b c ∧ pre a b c H ∧ Rt H (val a b c) Q
def sl1 {α : Type} (A : α → List V) (pre : α → Hp → Prop) (val : α → List V) : Sp := fun vs H Q _ => ∃ a, vs = A a ∧ pre a H ∧ Rl H (val a) Q
def sl2 {α β : Type} (A : α → β → List V) (pre : α → β → Hp → Prop) (val : α → β → List V) : Sp := fun vs H Q _ => ∃ a b, vs = A a b ∧ pre a b H ∧ Rl H (val a b) Q
def sl3 {α β γ : Type} (A : α → β → γ → List V) (pre : α → β → γ → Hp → Prop) (val : α → β → γ → List V) : Sp := fun vs H Q _ => ∃ a b c, vs = A a b c ∧ pre a b c H ∧ Rl H (val a b c) Q
section
variable {K : PySem.W.Frag} {σ : L2.St} {H H' : Hp} {ta : TA} {E : XK} {α β γ : Type}
theorem ev_c1 {A : α → List V} {pre : α → Hp → Prop} {val : α → V} {a : α} (h : EvA ta σ H (A a)) (hp : ∀ H1, Ex H H1 → pre a H1) : Ev (tCall (sp1 A pre val) [] E ta) σ H (val a) := fun H1 e Q q =>
  h H1 e _ fun H2 e2 => ⟨a, List.append_nil _, hp H2 (e.trans e2), fun H3 e3 => q H3 (e2.trans e3)⟩
theorem ev_c2 {A : α → β → List V} {pre : α → β → Hp → Prop} {val : α → β → V} {a : α} {b : β} (h : EvA ta σ H (A a b)) (hp : ∀ H1, Ex H H1 → pre a b H1) : Ev (tCall (sp2 A pre val) [] E ta) σ H (val a b) := fun H1 e Q q =>
  h H1 e _ fun H2 e2 => ⟨a, b, List.append_nil _, hp H2 (e.trans e2), fun H3 e3 => q H3 (e2.trans e3)⟩
theorem ev_c3 {A : α → β → γ → List V} {pre : α → β → γ → Hp → Prop} {val : α → β → γ → V} {a : α} {b : β} {c : γ} (h : EvA ta σ H (A a b c)) (hp : ∀ H1, Ex H H1 → pre a b c H1) : Ev (tCall (sp3 A pre val) [] E ta) σ H (val a b c) := fun H1 e Q q =>
  h H1 e _ fun H2 e2 => ⟨a, b, c, List.append_nil _, hp H2 (e.trans e2), fun H3 e3 => q H3 (e2.trans e3)⟩
theorem el_c1 {A : α → List V} {pre : α → Hp → Prop} {val : α → List V} {a : α} (h : EvA ta σ H (A a)) (hp : ∀ H1, Ex H H1 → pre a H1) : EvL (tCall (sl1 A pre val) [] E ta) σ H (val a) := fun H1 e Q q =>
  h H1 e _ fun H2 e2 => ⟨a, List.append_nil _, hp H2 (e.trans e2), fun p H3 hp e3 h3 => q p H3 (fresh_back e2 hp) (e2.trans e3) h3⟩
theorem el_c2 {A : α → β → List V} {pre : α → β → Hp → Prop} {val : α → β → List V} {a : α} {b : β} (h : EvA ta σ H (A a b)) (hp : ∀ H1, Ex H H1 → pre a b H1) : EvL (tCall (sl2 A pre val) [] E ta) σ H (val a b) := fun H1 e Q q =>
  h H1 e _ fun H2 e2 => ⟨a, b, List.append_nil _, hp H2 (e.trans e2), fun p H3 hp e3 h3 => q p H3 (fresh_back e2 hp) (e2.trans e3) h3⟩
theorem el_c3 {A : α → β → γ → List V} {pre : α → β → γ → Hp → Prop} {val : α → β → γ → List V} {a : α} {b : β} {c : γ} (h : EvA ta σ H (A a b c)) (hp : ∀ H1, Ex H H1 → pre a b c H1) : EvL (tCall (sl3 A pre val) [] E ta) σ H (val a b c) := fun H1 e Q q =>
  h H1 e _ fun H2 e2 => ⟨a, b, c, List.append_nil _, hp H2 (e.trans e2), fun p H3 hp e3 h3 => q p H3 (fresh_back e2 hp) (e2.trans e3) h3⟩
/-- a call one of whose arguments is a new list: f([..]) -/
theorem ev_c1L {τ : Type} {te : TE} {A : Addr → List τ → List V} {pre : Addr → List τ → Hp → Prop} {val : Addr → List τ → V} {v : V} {xs : List V} (h : EvL te σ H xs) (ns : List τ) (hA : ∀ p, A p ns = [.ref p]) (hp : ∀ p H1, Ex H H1 → H1 p = some (.lst xs) → pre p ns H1) (hv : ∀ p, val p ns = v) :
    Ev (tCall (sp2 A pre val) [] E (tCons te tNil)) σ H v := fun H1 e Q q =>
  h H1 e _ fun p H2 hn e2 h2 => ⟨p, ns, by rw [hA]; rfl, hp p H2 (e.trans e2) h2, fun H3 e3 => by
    rw [hv]
    exact q H3 (e2.trans e3)⟩
end

/-! ### a def that may be called by its name -/
structure Cl (P : Program) (w : World) (K : PySem.W.Frag) (mg : Str → Option Value) (base : Heap) (k : Nat) (x : Str) (sp : Sp) : Prop where
  ex : ∃ (f : Addr) (fd : FuncData) (ps : List Str), FnOk P w K mg base CX0 k f fd ps sp ∧ mg x = some (.ref f) ∧ PySem.W.keepIn K (.ref f) = true ∧ Binds K fd ps []
section
variable {P : Program} {w : World} {K : PySem.W.Frag} {mg : Str → Option Value} {base : Heap}
theorem cl_of {k : Nat} {x : Str} {sp : Sp} {st : Stmt} {f : Addr} {fd : FuncData} {ps : List Str} (ok : FnOk P w K mg base CX0 k f fd ps sp) (F : Fun K x x st f fd) (g : mg x = some (.ref f)) (b : Binds K fd ps []) : Cl P w K mg base k x sp := ⟨f, fd, ps, ok, g, F.kp, b⟩
variable {X : Cx} {k j : Nat} {x : Str} {sp : Sp} {p pos : Pos} {e : Expr} {es : List Expr} {t : TA}
theorem pe_cl (c : Cl X.prog X.w X.K X.mg X.base k x sp) (hr : Room j X.A) (hk : k ≤ j) (hg : Gl X x) (ha : PA X (e :: es) t)
    (hdb : (x == ("__debug__" : Str)) = false := by decide) (he : starEach (e :: es) X.env = (false, eval e X.env) :: starEach es X.env := by rfl) (hpl : (backTo pos (starEach es X.env)).any (·.1) = false := by rfl) :
    PE X (.Call (.Name x p) (e :: es) [] pos) (tCall sp [] E0 t) := by
  obtain ⟨f, fd, ps, F, hm, kp, b⟩ := c.ex
  exact pe_call F (hr.mono hk) hg hm kp b .nil pass0 ha hdb he hpl
theorem pe_cl0 (c : Cl X.prog X.w X.K X.mg X.base k x sp) (hr : Room j X.A) (hk : k ≤ j) (hg : Gl X x)
    (hdb : (x == ("__debug__" : Str)) = false := by decide) :
    PE X (.Call (.Name x p) [] [] pos) (tCall sp [] E0 tNil) := by
  obtain ⟨f, fd, ps, F, hm, kp, b⟩ := c.ex
  exact pe_call0 F (hr.mono hk) hg hm kp b .nil pass0 hdb
end
end Kn
/-! ### values, step by step -/
namespace Kn
open PySem PySem.Spec PyProof.Rows L2 Evl SX
section
variable {H : Hp}
theorem rv_eqI {a b : Int} : RV rEq (.int a) (.int b) H (.bl (decide (a = b))) := fun H1 _ _ q => ⟨rfl, by
  have e : decide (V.int a = V.int b) = decide (a = b) := by simp
  rw [e]
  exact q H1 (Ex.refl H1)⟩
theorem rv_neI {a b : Int} : RV rNe (.int a) (.int b) H (.bl (!decide (a = b))) := fun H1 _ _ q => ⟨rfl, by
  have e : decide (V.int a = V.int b) = decide (a = b) := by simp
  rw [e]
  exact q H1 (Ex.refl H1)⟩
theorem dec_S {a b : List Nat} : decide (V.str (S a) = V.str (S b)) = decide (a = b) := by
  by_cases h : a = b
  · subst h
    simp
  · rw [decide_eq_false h, decide_eq_false (fun e => h (S_inj (V.str.inj e)))]
theorem rv_eqS {a b : List Nat} : RV rEq (.str (S a)) (.str (S b)) H (.bl (decide (a = b))) := fun H1 _ _ q => ⟨rfl, by
  rw [dec_S]
  exact q H1 (Ex.refl H1)⟩
theorem rv_neS {a b : List Nat} : RV rNe (.str (S a)) (.str (S b)) H (.bl (!decide (a = b))) := fun H1 _ _ q => ⟨rfl, by
  rw [dec_S]
  exact q H1 (Ex.refl H1)⟩
theorem rv_le {a b : Int} : RV (rI0 fun i j => .bl (decide (i ≤ j))) (.int a) (.int b) H (.bl (decide (a ≤ b))) := rv_I0
theorem rv_lt {a b : Int} : RV (rI0 fun i j => .bl (decide (i < j))) (.int a) (.int b) H (.bl (decide (a < b))) := rv_I0
theorem rv_inS {c : Nat} {l : List Nat} : RV rInS (.str (S [c])) (.str (S l)) H (.bl (decide (c ∈ l))) := fun H1 _ _ q => ⟨c, S l, rfl, rfl, q H1 (Ex.refl H1)⟩
theorem rv_ninS {c : Nat} {l : List Nat} : RV rNotInS (.str (S [c])) (.str (S l)) H (.bl (!decide (c ∈ l))) := fun H1 _ _ q => ⟨c, S l, rfl, rfl, q H1 (Ex.refl H1)⟩
end
end Kn
/-! ### lists cut, texts cut, constants -/
namespace Kn
open PySem PySem.Spec PyProof.Rows L2 Evl SX
theorem cut_nat {α : Type} (xs : List α) (a b : Nat) : (xs.drop (min a xs.length)).take (min b xs.length - min a xs.length) = (xs.drop a).take (b - a) := by
  by_cases h : a ≤ xs.length
  · have e : min a xs.length = a := Nat.min_eq_left h
    rw [e, List.take_eq_take_iff, List.length_drop]
    omega
  · have e : xs.drop a = [] := List.drop_of_length_le (by omega)
    have e2 : xs.drop (min a xs.length) = [] := List.drop_of_length_le (by omega)
    rw [e, e2, List.take_nil, List.take_nil]
theorem cutV_nat {xs : List V} (a b : Nat) : cutV xs (some (a : Int)) (some (b : Int)) = (xs.drop a).take (b - a) := by
  unfold cutV
  rw [HT.sIx_nat, HT.sIx_nat]
  exact cut_nat xs a b
theorem cutV_map {τ : Type} {g : τ → V} {ns : List τ} {i j : Int} (a b : Nat) (hi : i = (a : Int)) (hj : j = (b : Int)) : cutV (ns.map g) (some i) (some j) = ((ns.drop a).take (b - a)).map g := by
  subst hi hj
  rw [cutV_nat, List.map_take, List.map_drop]
theorem join_nil : ∀ ys : List (List Nat), TL.joinL [] ys = ys.flatten
  | [] => rfl
  | [p] => by rw [List.flatten_cons, List.flatten_nil, List.append_nil]; rfl
  | p :: q :: r => by
    show p ++ ([] ++ TL.joinL [] (q :: r)) = _
    rw [join_nil (q :: r), List.nil_append, List.flatten_cons (l := p)]
section
variable {K : PySem.W.Frag} {σ : L2.St} {H H' : Hp} {ta tb te tc : TE} {t u : TT} {x y z v : V}
theorem ev_cS {x : Str} {l : List Nat} (h : x.cps.toList = l) : Ev (tC (.str x)) σ H (.str (S l)) := by
  rw [S1 x h]
  exact ev_c
theorem el_slN {τ : Type} {g : τ → V} {ns : List τ} {i j : Int} {p : Addr} {to tp : TO} (h : Ev te σ H (.ref p)) (h1 : EvO to σ H (some i)) (h2 : EvO tp σ H (some j)) (hs : SqL K H p (ns.map g)) (a b : Nat) (hi : i = (a : Int)) (hj : j = (b : Int)) :
    EvL (tSl (rSlL K) te to tp) σ H (((ns.drop a).take (b - a)).map g) := by
  rw [← cutV_map a b hi hj]
  exact el_sl h h1 h2 hs
theorem ev_slTo {to tp : TO} {l : List Nat} {i : Int} (h : Ev te σ H (.str (S l))) (h1 : EvO to σ H none) (h2 : EvO tp σ H (some i)) (hz : l.length ≤ 100000) (hi : 0 ≤ i) : Ev (tSl rSlS te to tp) σ H (.str (S (l.take i.toNat))) := by
  have k := ev_slS h h1 h2 hz
  rw [C8.cutS_slice, slice_to hi] at k
  exact k
theorem ev_slFrom {to tp : TO} {l : List Nat} {i : Int} (h : Ev te σ H (.str (S l))) (h1 : EvO to σ H (some i)) (h2 : EvO tp σ H none) (hz : l.length ≤ 100000) (hi : 0 ≤ i) : Ev (tSl rSlS te to tp) σ H (.str (S (l.drop i.toNat))) := by
  have k := ev_slS h h1 h2 hz
  rw [C8.cutS_slice, slice_from hi] at k
  exact k
theorem ev_isiB {b : Bool} (ha : Ev ta σ H (.bl b)) : Ev (tCB (rIsi K) (tCons ta (tCons (tC (.ty "bool")) tNil))) σ H (.bl true) := ev_isi (T := "bool") ha (.base (.bl b)) (by decide +kernel) fun _ _ => .base (.bl b)
/-- == of two lists of data -/
theorem eqv_lists {xs ys : List PyData} (h : PyData.eqv (.list xs) (.list ys) = b) : PyData.eqv (.list xs) (.list ys) = b := h
end
end Kn
namespace Kn
open PySem PySem.Spec PyProof.Rows L2 Evl SX
section
variable {K : PySem.W.Frag} {σ : L2.St} {H H' : Hp} {ta tb te tc : TE} {t u : TT} {x y z v : V} {D : Ends} {tu tw tz : TS}
/-- an if whose two ways meet again -/
theorem q_ifM {b : Bool} (M : L2.St → Hp → Prop) (h : EvT t σ H b) (h1 : b = true → ∀ H1, Ex H H1 → ∀ N : L2.St → Hp → Prop, (∀ σ' H', M σ' H' → N σ' H') → tu { D with nx := N } σ H1)
    (h2 : b = false → ∀ H1, Ex H H1 → ∀ N : L2.St → Hp → Prop, (∀ σ' H', M σ' H' → N σ' H') → tw { D with nx := N } σ H1) (k : ∀ σ' H', M σ' H' → tz D σ' H') : tSeq (tIfS t tu tw) tz D σ H :=
  s_if (D := { D with nx := tz D }) h (fun hb H1 e => h1 hb H1 e _ k) (fun hb H1 e => h2 hb H1 e _ k)
theorem s_next (h : D.nx σ H) : tNext D σ H := h
theorem eqD_true {p q : Addr} {xs : List V} {ds : List PyData} (hp : SqL K H p xs) (hq : SqL K H q xs) (hd : ∀ H1, Ex H H1 → DpAll K H1 xs ds) (hs : SeqAt.shaped (.list ds) = true) (hl : PyData.eqv (.list ds) (.list ds) = true) : RV (rEqD K) (.ref p) (.ref q) H (.bl true) := fun H1 e Q k =>
  ⟨.list ds, .list ds, .lst (ex_l e hp) (hd H1 e), .lst (ex_l e hq) (hd H1 e), hs, hs, by rw [hl]; exact k H1 (Ex.refl H1)⟩
end
end Kn
/-! ### rpartition; joins; more of lists -/
namespace Kn
open PySem PySem.Spec PyProof.Rows L2 Evl SX
def rRpart : V → List V → Hp → VK → Prop := fun x xs H Q => ∃ a b, x = .str a ∧ xs = [.str b] ∧ (b.length == 0) = false ∧ a.length ≤ sizeLine ∧ ∀ p, H p = none → Q (.ref p) (upd H p (.tup [.str (Txt.rpartition a b).1, .str (Txt.rpartition a b).2.1, .str (Txt.rpartition a b).2.2]))
theorem mt_rpartition {X : Cx} : MtR X "str.rpartition" rRpart := by
  intro pins s σ H x xs v us Q I rx rs h
  obtain ⟨a, b, rfl, rfl, hb, hz, h⟩ := h
  obtain ⟨t, rfl⟩ := rx
  cases rs with
  | cons r1 rs =>
    cases rs
    obtain ⟨u, rfl⟩ := r1
    refine call_meets F.slot_str_rpartition (typeIs_str _ _ _) F.entry_str_rpartition (F.args_str_rpartition_2 _ _) (meets_str_rpartition a b t u hb hz) ?_
    unfold Txt.rpartition at h
    revert h
    cases Builtin.Str.lastOccurrence a b 0 a.length with
    | none => intro h; exact laid_parts I h
    | some i => intro h; exact laid_parts I h
section
variable {K : PySem.W.Frag} {σ : L2.St} {H H' : Hp} {ta tb te tc : TE} {t u : TT} {x y z v : V}
theorem ev_rpart0 {l m : List Nat} (ha : Ev ta σ H (.str (S l))) (hb : Ev tb σ H (.str (S m))) (hm : m ≠ []) (hl : l.length ≤ 100000) : Ev (tOp (rIxT K) (tM1 rRpart ta tb) (tC (.int 0))) σ H (.str (Txt.rpartition (S l) (S m)).1) := fun H1 e Q q =>
  ha H1 e _ fun H2 e2 => ⟨⟨_, rfl⟩, hb H2 (e.trans e2) _ fun H3 e3 => ⟨S l, S m, rfl, rfl, by
    rw [S_len]
    cases m with
    | nil => exact absurd rfl hm
    | cons a r => rfl, by rw [S_len]; exact sz_of hl, fun p hp =>
      ⟨p, _, 0, _, rfl, rfl, st_of upd_same, atI_nat (j := 0) rfl, q _ ((e2.trans e3).trans (Ex.new hp))⟩⟩⟩
theorem ev_joinV {s : List Nat} {ys : List (List Nat)} {p : Addr} (hs : Ev ta σ H (.str (S s))) (hl : Ev tb σ H (.ref p)) (hp : SqL K H p (ys.map fun l => V.str (S l))) (hz : (ys.map (·.length)).sum + ys.length * s.length ≤ 16777216) : Ev (tM1 (rJoin K) ta tb) σ H (.str (S (TL.joinL s ys))) := fun H1 e Q q =>
  hs H1 e _ fun H2 e2 => ⟨⟨_, rfl⟩, hl H2 (e.trans e2) _ fun H3 e3 => ⟨S s, p, ys.map S, rfl, rfl, .inl (by rw [List.map_map]; exact ex_l ((e.trans e2).trans e3) hp), by
    rw [SX.lens, List.length_map, S_len]
    exact hz, by
    rw [SX.join_S]
    exact q H3 (e2.trans e3)⟩⟩
theorem el_slTo {τ : Type} {g : τ → V} {ns : List τ} {j : Int} {p : Addr} {to tp : TO} (h : Ev te σ H (.ref p)) (h1 : EvO to σ H none) (h2 : EvO tp σ H (some j)) (hs : SqL K H p (ns.map g)) (b : Nat) (hj : j = (b : Int)) :
    EvL (tSl (rSlL K) te to tp) σ H ((ns.take b).map g) := by
  have e : cutV (ns.map g) none (some j) = (ns.take b).map g := by
    subst hj
    have k := cutV_nat (xs := ns.map g) 0 b
    unfold cutV at k ⊢
    rw [HT.sIx_none, HT.sIx_nat]
    rw [HT.sIx_nat, HT.sIx_nat, Nat.zero_min] at k
    rw [k, List.drop_zero, Nat.sub_zero, List.map_take]
  rw [← e]
  exact el_sl h h1 h2 hs
theorem ev_isiL {p : Addr} {xs : List V} (ha : Ev ta σ H (.ref p)) (h : H p = some (.lst xs)) : Ev (tCB (rIsi K) (tCons ta (tCons (tC (.ty "list")) tNil))) σ H (.bl true) := ev_isi (T := "list") ha (.base (.lst h)) (by decide +kernel) fun _ e => .base (.lst (e _ _ h))
theorem ev_isiS {l : Str} (ha : Ev ta σ H (.str l)) : Ev (tCB (rIsi K) (tCons ta (tCons (tC (.ty "str")) tNil))) σ H (.bl true) := ev_isi (T := "str") ha (.base (.str l)) (by decide +kernel) fun _ _ => .base (.str l)
theorem rv_ge {a b : Int} : RV (rI0 fun i j => .bl (decide (j ≤ i))) (.int a) (.int b) H (.bl (decide (b ≤ a))) := rv_I0
theorem rv_gt {a b : Int} : RV (rI0 fun i j => .bl (decide (j < i))) (.int a) (.int b) H (.bl (decide (b < a))) := rv_I0
theorem rv_pow {i j : Int} (h : CPow i j) : RV (rI CPow fun i j => .int (i ^ j.toNat)) (.int i) (.int j) H (.int (i ^ j.toNat)) := rv_I h
end
theorem joinL_snoc (s x : List Nat) : ∀ {l : List (List Nat)}, l ≠ [] → TL.joinL s (l ++ [x]) = TL.joinL s l ++ (s ++ x)
  | [], h => absurd rfl h
  | [p], _ => rfl
  | p :: q :: r, _ => by
    show p ++ (s ++ TL.joinL s ((q :: r) ++ [x])) = (p ++ (s ++ TL.joinL s (q :: r))) ++ (s ++ x)
    rw [joinL_snoc s x (List.cons_ne_nil q r)]
    simp only [List.append_assoc]
theorem joinL_ne {s p : List Nat} {r : List (List Nat)} (h : p ≠ []) : TL.joinL s (p :: r) ≠ [] := by
  cases r with
  | nil => exact h
  | cons q r =>
    intro z
    have : p ++ (s ++ TL.joinL s (q :: r)) = [] := z
    exact h (List.append_eq_nil_iff.mp this).1
theorem joinL_len (s : List Nat) : ∀ l : List (List Nat), (TL.joinL s l).length ≤ (l.map (·.length)).sum + l.length * s.length
  | [] => Nat.zero_le _
  | [p] => by
    show p.length ≤ p.length + 0 + 1 * s.length
    omega
  | p :: q :: r => by
    have ih := joinL_len s (q :: r)
    show (p ++ (s ++ TL.joinL s (q :: r))).length ≤ p.length + ((q :: r).map (·.length)).sum + ((q :: r).length + 1) * s.length
    rw [List.length_append, List.length_append, Nat.succ_mul]
    omega
theorem sum_le {l : List (List Nat)} {n : Nat} (h : ∀ p ∈ l, p.length ≤ n) : (l.map (·.length)).sum ≤ l.length * n := by
  induction l with
  | nil => simp
  | cons p r ih =>
    have h1 := h p List.mem_cons_self
    have h2 := ih fun q hq => h q (List.mem_cons_of_mem _ hq)
    rw [List.map_cons, List.sum_cons, List.length_cons, Nat.succ_mul]
    omega
theorem at_one {l : List Nat} {c i : Nat} : StrLaws.At (S l) (S [c]) (S l).length i ↔ l[i]? = some c := by
  rw [TL.at_iff (x := S l) (y := S [c]) (List.cons_ne_nil _ _)]
  show ((l.drop i).take 1 == [c]) = true ↔ l[i]? = some c
  rw [beq_iff_eq]
  constructor
  · intro h
    have e := congrArg (fun z : List Nat => z[0]?) h
    simpa using e
  · intro h
    obtain ⟨hi, e⟩ := List.getElem?_eq_some_iff.mp h
    rw [List.drop_eq_getElem_cons hi, e]
    rfl
theorem rpart_none {l : List Nat} {c : Nat} (h : c ∉ l) : (Txt.rpartition (S l) (S [c])).1 = S [] := by
  unfold Txt.rpartition
  rcases StrLaws.last_spec (S l) (S [c]) with ⟨h0, hn⟩ | ⟨i, h0, hi, hn⟩
  · rw [h0]
    rfl
  · exact absurd (List.mem_of_getElem? (at_one.mp hi)) h
theorem rpart_some {p q : List Nat} {c : Nat} (h : c ∉ q) : (Txt.rpartition (S (p ++ c :: q)) (S [c])).1 = S p := by
  have hp : (p ++ c :: q)[p.length]? = some c := by simp
  unfold Txt.rpartition
  rcases StrLaws.last_spec (S (p ++ c :: q)) (S [c]) with ⟨h0, hn⟩ | ⟨i, h0, hi, hn⟩
  · exact absurd (at_one.mpr hp) (hn _)
  · rw [h0]
    have e : i = p.length := by
      have h1 := at_one.mp hi
      rcases Nat.lt_trichotomy i p.length with z | z | z
      · exact absurd (at_one.mpr hp) (hn _ z)
      · exact z
      · rw [List.getElem?_append_right (by omega)] at h1
        obtain ⟨k, hk⟩ : ∃ k, i - p.length = k + 1 := ⟨i - p.length - 1, by omega⟩
        rw [hk, List.getElem?_cons_succ] at h1
        exact absurd (List.mem_of_getElem? h1) h
    subst e
    show PySem.Builtin.Str.strSub (S (p ++ c :: q)) 0 p.length = S p
    refine TL.ext_tl ?_
    rw [TL.tl_strSub]
    show ((p ++ c :: q).drop 0).take (p.length - 0) = p
    simp
end Kn
/-! ### rules that name the written part: for the elements of a comprehension -/
namespace Kn
open PySem PySem.Spec PyProof.Rows L2 Evl SX
section
variable {X : Cx} {K : PySem.W.Frag}
theorem sl_listK (h : X.K = K) : SlR X (rSlL K) := by subst h; exact sl_list
theorem sl_tupK (h : X.K = K) : SlR X (rSlT K) := by subst h; exact sl_tup
theorem ix_listK (h : X.K = K) : IxR X (rIxL K) := by subst h; exact ix_list
theorem ix_tupK (h : X.K = K) : IxR X (rIxT K) := by subst h; exact ix_tup
theorem cr_lenSeqK (h : X.K = K) : CallR X (.builtin "len") (rLenS K) := by subst h; exact cr_lenSeq
theorem cr_isiK (h : X.K = K) : CallR X (.builtin "isinstance") (rIsi K) := by subst h; exact cr_isi
theorem cr_allK (h : X.K = K) (hc : X.calm = true) : CallR X (.builtin "all") (rAll K) := by subst h; exact cr_all hc
theorem op_in_seqK (h : X.K = K) : OpR X (compareOp .In) (rIn K false) := by subst h; exact op_in_seq
theorem op_notIn_seqK (h : X.K = K) : OpR X (compareOp .NotIn) (rIn K true) := by subst h; exact op_notIn_seq
theorem pe_joinK {e : Expr} {to te : TE} (hK : X.K = K) (h : PE X e (tM1 (fun x xs H Q => ∃ a p, ∃ ys : List Str, x = .str a ∧ xs = [.ref p] ∧ (SqL X.K H p (ys.map V.str) ∨ SqT X.K H p (ys.map V.str)) ∧ (ys.map (·.length)).sum + ys.length * a.length ≤ 16777216 ∧ Q (.str (Txt.join a ys)) H) to te)) : PE X e (tM1 (rJoin K) to te) := by
  subst hK
  exact h
end
end Kn
/-! ### texts: split, count, startswith, replace; loops over signs -/
namespace Kn
open PySem PySem.Spec PyProof.Rows L2 Evl SX
def rSplit : V → List V → Hp → VK → Prop := fun x xs H Q => ∃ a b, x = .str a ∧ xs = [.str b] ∧ (b.length == 0) = false ∧ a.length + 2 ≤ sizeLine ∧ rNewStrs (Txt.split a b) H Q
theorem mt_split {X : Cx} : MtR X "str.split" rSplit := L2.mt_split
def rCount : V → List V → Hp → VK → Prop := fun x xs H Q => ∃ a b, x = .str a ∧ xs = [.str b] ∧ Q (.int (Txt.count a b)) H
theorem mt_count {X : Cx} : MtR X "str.count" rCount := L2.mt_count
def rStarts : V → List V → Hp → VK → Prop := fun x xs H Q => ∃ a b, x = .str a ∧ xs = [.str b] ∧ Q (.bl (Txt.startswith a b)) H
theorem mt_startswith {X : Cx} : MtR X "str.startswith" rStarts := L2.mt_startswith
def rEnds : V → List V → Hp → VK → Prop := fun x xs H Q => ∃ a b, x = .str a ∧ xs = [.str b] ∧ Q (.bl (Txt.endswith a b)) H
theorem mt_endswith {X : Cx} : MtR X "str.endswith" rEnds := L2.mt_endswith
/-- l cut at each c -/
def cut1 (c : Nat) (l : List Nat) : List (List Nat) := TL.spl [c] 0 [] l
theorem starts_one {l : List Nat} {c : Nat} : Txt.startswith (S l) (S [c]) = decide (l[0]? = some c) := by
  have h : StrLaws.At (S l) (S [c]) (S l).length 0 ↔ l[0]? = some c := at_one
  unfold Txt.startswith
  rw [Bool.eq_iff_iff, Bool.and_eq_true, decide_eq_true_eq, decide_eq_true_eq]
  exact h
theorem count_one {l : List Nat} {c : Nat} : Txt.count (S l) (S [c]) = cnt c l := count_is (S l) c
theorem spl_map {c : Nat} {f : Nat → Nat} (hc : ∀ d, f d = c ↔ d = c) : ∀ (l acc : List Nat), TL.spl [c] 0 (acc.map f) (l.map f) = (TL.spl [c] 0 acc l).map (List.map f)
  | [], acc => rfl
  | d :: r, acc => by
    by_cases e : d = c
    · have h1 : TL.pre [c] (d :: r) = true := by
        subst e
        exact TL.pre_self [d] r
      have h2 : TL.pre [c] (f d :: r.map f) = true := by
        have e2 := (hc d).mpr e
        rw [e2]
        exact TL.pre_self [c] (r.map f)
      rw [List.map_cons, TL.spl_hit h1, TL.spl_hit h2, List.map_cons]
      exact congrArg (fun z => acc.map f :: z) (spl_map hc r [])
    · have h1 : TL.pre [c] (d :: r) = false := TL.pre_of_head [] r e
      have h2 : TL.pre [c] (f d :: r.map f) = false := TL.pre_of_head [] _ fun z => e ((hc d).mp z)
      rw [List.map_cons, TL.spl_miss h1, TL.spl_miss h2, ← spl_map hc r (acc ++ [d]), List.map_append]
      rfl
theorem cut1_map {c : Nat} {f : Nat → Nat} (hc : ∀ d, f d = c ↔ d = c) (l : List Nat) : cut1 c (l.map f) = (cut1 c l).map (List.map f) := spl_map hc l []
/-- each sign but c is in a part -/
theorem spl_mem {c d : Nat} (hd : d ≠ c) : ∀ (l acc : List Nat), d ∈ acc ∨ d ∈ l → ∃ p ∈ TL.spl [c] 0 acc l, d ∈ p
  | [], acc, h => by
    rcases h with h | h
    · exact ⟨acc, List.mem_cons_self, h⟩
    · exact nomatch h
  | e :: r, acc, h => by
    by_cases ec : e = c
    · have h1 : TL.pre [c] (e :: r) = true := by
        subst ec
        exact TL.pre_self [e] r
      rw [TL.spl_hit h1]
      rcases h with h | h
      · exact ⟨acc, List.mem_cons_self, h⟩
      · rcases List.mem_cons.mp h with z | z
        · exact absurd (z.trans ec) hd
        · obtain ⟨p, hp, hm⟩ := spl_mem hd r [] (.inr z)
          exact ⟨p, List.mem_cons_of_mem _ hp, hm⟩
    · rw [TL.spl_miss (TL.pre_of_head [] r ec)]
      refine spl_mem hd r (acc ++ [e]) ?_
      rcases h with h | h
      · exact .inl (List.mem_append_left _ h)
      · rcases List.mem_cons.mp h with z | z
        · exact .inl (List.mem_append_right _ (by rw [z]; exact List.mem_cons_self))
        · exact .inr z
theorem cut1_mem {c d : Nat} (hd : d ≠ c) {l : List Nat} (h : d ∈ l) : ∃ p ∈ cut1 c l, d ∈ p := spl_mem hd l [] (.inr h)
theorem spl_bound (c : Nat) : ∀ (l acc : List Nat), (TL.spl [c] 0 acc l).length ≤ l.length + 1 ∧ ∀ p ∈ TL.spl [c] 0 acc l, p.length ≤ acc.length + l.length
  | [], acc => ⟨Nat.le_refl _, fun p hp => by rw [List.mem_singleton.mp hp]; exact Nat.le_add_right _ _⟩
  | e :: r, acc => by
    by_cases ec : e = c
    · have h1 : TL.pre [c] (e :: r) = true := by
        subst ec
        exact TL.pre_self [e] r
      have ih := spl_bound c r []
      rw [TL.spl_hit h1]
      refine ⟨Nat.succ_le_succ ih.1, fun p hp => ?_⟩
      rcases List.mem_cons.mp hp with z | z
      · rw [z]
        omega
      · have := ih.2 p z
        rw [List.length_cons]
        simp at this
        omega
    · have ih := spl_bound c r (acc ++ [e])
      rw [TL.spl_miss (TL.pre_of_head [] r ec)]
      refine ⟨by have := ih.1; rw [List.length_cons]; omega, fun p hp => ?_⟩
      have := ih.2 p hp
      rw [List.length_append] at this
      rw [List.length_cons]
      simp at this
      omega
theorem cut1_len (c : Nat) (l : List Nat) : (cut1 c l).length ≤ l.length + 1 := (spl_bound c l []).1
theorem cut1_part {c : Nat} {l p : List Nat} (h : p ∈ cut1 c l) : p.length ≤ l.length := by
  have := (spl_bound c l []).2 p h
  simpa using this
theorem repl_one {c d : Nat} : ∀ l : List Nat, StrLaws.replL [c] [d] l = l.map fun e => if e = c then d else e
  | [] => StrLaws.replL_nil
  | e :: r => by
    by_cases h : e = c
    · subst h
      rw [StrLaws.replL_hit (List.cons_ne_nil _ _) rfl, List.map_cons, if_pos rfl, ← repl_one r]
      rfl
    · rw [StrLaws.replL_miss (y := [c]) (show ¬ (e :: r).take [c].length = [c] from fun z => h (List.cons.inj (show e :: r.take 0 = [c] from z)).1), List.map_cons, if_neg h, repl_one r]
theorem replace_S {l : List Nat} {c d : Nat} : Txt.replace (S l) (S [c]) (S [d]) = S (l.map fun e => if e = c then d else e) := by
  refine TL.ext_tl ?_
  show (Txt.replace (S l) (S [c]) (S [d])).cps.toList = _
  exact (StrLaws.replace_list (show 1 ≤ (S [c]).length from Nat.le_refl 1)).trans (repl_one l)
section
variable {K : PySem.W.Frag} {σ : L2.St} {H H' : Hp} {ta tb te tc : TE} {t u : TT} {x y z v : V} {D : Ends} {tu tz : TS}
theorem el_split {l : List Nat} {c : Nat} (ha : Ev ta σ H (.str (S l))) (hb : Ev tb σ H (.str (S [c]))) (hc : c < 256) (hl : l.length ≤ 90000) : EvL (tM1 rSplit ta tb) σ H ((cut1 c l).map fun p => V.str (S p)) := fun H1 e Q q =>
  ha H1 e _ fun H2 e2 => ⟨⟨_, rfl⟩, hb H2 (e.trans e2) _ fun H3 e3 => ⟨S l, S [c], rfl, rfl, rfl, sz_of (by rw [S_len]; omega), fun p hp => by
    rw [SX.split_S (List.cons_ne_nil _ _) (by simp [hc]), List.map_map]
    exact q p _ (fresh_back (e2.trans e3) hp) ((e2.trans e3).trans (Ex.new hp)) upd_same⟩⟩
theorem ev_count {l : List Nat} {c : Nat} (ha : Ev ta σ H (.str (S l))) (hb : Ev tb σ H (.str (S [c]))) : Ev (tM1 rCount ta tb) σ H (.int (cnt c l)) := fun H1 e Q q =>
  ha H1 e _ fun H2 e2 => ⟨⟨_, rfl⟩, hb H2 (e.trans e2) _ fun H3 e3 => ⟨S l, S [c], rfl, rfl, by
    rw [count_one]
    exact q H3 (e2.trans e3)⟩⟩
theorem ev_starts {l : List Nat} {c : Nat} (ha : Ev ta σ H (.str (S l))) (hb : Ev tb σ H (.str (S [c]))) : Ev (tM1 rStarts ta tb) σ H (.bl (decide (l[0]? = some c))) := fun H1 e Q q =>
  ha H1 e _ fun H2 e2 => ⟨⟨_, rfl⟩, hb H2 (e.trans e2) _ fun H3 e3 => ⟨S l, S [c], rfl, rfl, by
    rw [starts_one]
    exact q H3 (e2.trans e3)⟩⟩
theorem ev_replC {l : List Nat} {s1 s2 : Str} {c d : Nat} (ha : Ev ta σ H (.str (S l))) (h1 : s1 = S [c]) (h2 : s2 = S [d]) (hl : l.length ≤ 100000) : Ev (CwR.tReplC ta s1 s2) σ H (.str (S (l.map fun e => if e = c then d else e))) := fun H1 e Q q => by
  subst h1 h2
  refine ha H1 e _ fun H2 e2 => ⟨S l, rfl, ?_, ?_⟩
  · rw [S_len, S_len]
    show l.length + (l.length + 1) * 1 ≤ 16777216
    omega
  · rw [replace_S]
    exact q H2 e2
theorem s_forS {l : List Nat} {ts : TE} {j : Nat} (h : Ev ts σ H (.str (S l))) (Pv : Nat → L2.St → Hp → Prop) (h0 : ∀ H1, Ex H H1 → Pv 0 σ H1)
    (hs : ∀ (i c : Nat) σ' H', l[i]? = some c → Pv i σ' H' → tu { D with nx := Pv (i + 1), ct := Pv (i + 1), bk := D.nx } (σ'.set j (some (.str (S [c])))) H') (hd : ∀ σ' H', Pv l.length σ' H' → D.nx σ' H') : tFor (iStr ts) (gName j) tu D σ H :=
  h H (Ex.refl H) _ fun H1 e => ⟨S l, rfl, for_it walk_str Pv (h0 H1 e) (fun _ _ _ _ _ => trivial) (fun i x σ' H2 H3 hi p y => by
    obtain ⟨rfl, c, hc, rfl⟩ := y
    have hc' : l[i]? = some c := by simpa [S] using hc
    exact hs i c σ' _ hc' p) (fun σ' H2 p => by
    have hl : (S l).cps.size = l.length := by simp [S]
    rw [hl] at p
    exact hd σ' H2 p)⟩
theorem q_forS {l : List Nat} {ts : TE} {j : Nat} (h : Ev ts σ H (.str (S l))) (Pv : Nat → L2.St → Hp → Prop) (h0 : ∀ H1, Ex H H1 → Pv 0 σ H1)
    (hs : ∀ (i c : Nat) σ' H', l[i]? = some c → Pv i σ' H' → tu { D with nx := Pv (i + 1), ct := Pv (i + 1), bk := tz D } (σ'.set j (some (.str (S [c])))) H') (hd : ∀ σ' H', Pv l.length σ' H' → tz D σ' H') : tSeq (tFor (iStr ts) (gName j) tu) tz D σ H :=
  s_forS (D := { D with nx := tz D }) h Pv h0 hs hd
end
/-! ### an expression behind which a token is out -/
section
variable {X : Cx} {a b e o : Expr} {ta tb te to : TE} {pos apos : Pos}
def PEb (X : Cx) (e : Expr) (t : TE) : Prop := ∀ (pins : List (Addr × Obj)) (s : Shared) (σ : L2.St) (H : Hp) (Q : VK), Inv X pins σ H s → t σ H Q → wpAny (model X.prog X.w) X.A (eval e X.env) (fun v s1 => 1 ≤ s1.toks ∧ EP X pins σ Q v s1) X.xe s
theorem keep_tok {α : Type} {t : Sem α} {Q : α → Shared → Prop} {E : Value → Shared → Prop} {P : Program} {w : World} {A : Around} {s : Shared} (h0 : 1 ≤ s.toks) (h : wpAny (model P w) A t Q E s) : wpAny (model P w) A t (fun a s' => 1 ≤ s'.toks ∧ Q a s') E s :=
  wpAny_mono (PySem.wpAny_toks h) (fun _ _ q => ⟨Nat.le_trans h0 q.1, q.2⟩) fun _ _ z => z.2
theorem peb_str {x : Str} {j : Nat} : PEb X (.Constant (.str x) j pos) (tC (.str x)) := fun _ s _ H _ I h => Calls.Constant_str ⟨by show 1 ≤ s.toks + 1; omega, .str x, H, I.tok _, ⟨_, rfl⟩, h⟩
theorem peb_m1 {id : String} {name : Str} {r : V → List V → Hp → VK → Prop} (slot : Slot "str" name id) (ty : typeOf (.builtin id) = pure (.type "method_descriptor")) (rule : MtR X id r) (ho : PE X o to) (he : PEb X e te)
    (hs : starEach [e] X.env = [(false, eval e X.env)] := by rfl) (hbase : attributeBase o name X.env (eval o X.env) = eval o X.env := by rfl) (hline : (apos.endLine == pos.line) = true := by rfl) :
    PEb X (.Call (.Attribute o name apos) [e] [] pos) (tM1 r to te) := by
  intro pins s σ H Q I h
  refine PySem.Call_method1 hbase hs hline (thn (ho.run pins s σ H _ I h) fun v s1 ⟨x, H1, I1, r1, q1⟩ => ?_)
  obtain ⟨⟨a, rfl⟩, q1⟩ := q1
  obtain ⟨t, rfl⟩ := _root_.id r1
  refine ⟨"str", _, F.plainAttrs_str, slot, ty, typeIs_str _ _ _, (fun _ e => nomatch e), Calls.callWith_builtin rfl (Calls.evalArgs_plain (Calls.spliced_cons ?_))⟩
  exact thn (he pins s1 σ H1 _ I1 q1) fun u s2 ⟨h2, y, H2, I2, r2, q2⟩ => Calls.spliced_nil (keep_tok h2 (rule pins s2 σ H2 _ [y] _ [u] Q I2 r1 (.cons r2 .nil) q2))
theorem peb_cmpR {op : CmpOp} {r : R2} (ho : OpR X (compareOp op) r) (ha : PEb X a ta) (hb : PE X b tb) (hm : behindInMarks op b = false) : PEb X (.Compare a [op] [b] pos) (tOp r ta tb) := by
  intro pins s σ H Q I h
  refine wpAny_Compare1 (thn (ha pins s σ H _ I h) fun v s1 ⟨h1, x, H1, I1, r1, q1⟩ => ?_) hm
  refine thn (keep_tok h1 (hb.run pins s1 σ H1 _ I1 q1)) fun u s2 ⟨h2, y, H2, I2, r2, q2⟩ => ?_
  exact keep_tok h2 (ho pins s2 σ H2 x y v u Q I2 r1 r2 q2)
theorem pe_andB (ha : PEb X a ta) (hb : L2.PET X b tb) : PE X (.BoolOp .And [a, b] pos) (tAndV ta tb) := by
  refine ⟨fun pins s σ H Q I h => ?_⟩
  refine BoolOp_and (thn (ha pins s σ H _ I h) fun v s1 ⟨h1, x, H1, I1, r1, q1⟩ => ?_)
  obtain ⟨c, rfl, q1⟩ := q1
  cases r1
  refine wpAny_truthy_bool ?_
  cases c with
  | true => exact BoolOp_one (hb pins s1 σ H1 Q h1 I1 q1)
  | false => exact ⟨.bl false, H1, I1, rfl, q1⟩
theorem pet_cl {k j : Nat} {x : Str} {sp : Sp} {p : Pos} {es : List Expr} {t : TA} (c : Cl X.prog X.w X.K X.mg X.base k x sp) (hr : Room j X.A) (hk : k ≤ j) (hg : Gl X x) (ha : L2.PAT X (e :: es) t)
    (hdb : (x == ("__debug__" : Str)) = false := by decide) (he : starEach (e :: es) X.env = (false, eval e X.env) :: starEach es X.env := by rfl) (hpl : (backTo pos (starEach es X.env)).any (·.1) = false := by rfl) :
    L2.PET X (.Call (.Name x p) (e :: es) [] pos) (tCall sp [] E0 t) := by
  intro pins s σ H Q h0 I h
  obtain ⟨f, fd, ps, F, hm, kp, b⟩ := c.ex
  refine wpAny_Call_Name_kw (ld_glob I hg hm ?_ hdb)
  refine PySem.W.callWith_K (h₀ := X.base) I.ok.mod.kin kp (thn (ha pos pins s σ H _ h0 I h) fun us s1 ⟨vs, H1, I1, r, q⟩ => ⟨I1.kIn, ?_⟩) he hpl
  exact run_fn F (hr.mono hk) b .nil pass0 I1 r q
end
end Kn

namespace My
open PySem PySem.Spec PyProof.Rows L2 Evl SX Kn
def topS (i : Nat) : Stmt := PySem.Challenge.pw_kilnyard_k04_paths_and_patterns.main.body.getD i (.Pass ⟨0, 0, 0, 0⟩)
abbrev s_is_path : Stmt := topS 4
abbrev N_is_path : List Str := ["value", "names", "name"]
theorem sc_is_path : FnScope N_is_path ["value"] (defScope s_is_path) := ⟨rfl, rfl, rfl, by decide +kernel, rfl, by decide +kernel, by decide +kernel⟩
abbrev s_is_pattern : Stmt := topS 5
abbrev N_is_pattern : List Str := ["value"]
theorem sc_is_pattern : FnScope N_is_pattern ["value"] (defScope s_is_pattern) := ⟨rfl, rfl, rfl, by decide +kernel, rfl, by decide +kernel, by decide +kernel⟩
abbrev s__is_name : Stmt := topS 6
abbrev N__is_name : List Str := ["name", "sign"]
theorem sc__is_name : FnScope N__is_name ["name"] (defScope s__is_name) := ⟨rfl, rfl, rfl, by decide +kernel, rfl, by decide +kernel, by decide +kernel⟩
abbrev s__law_cell : Stmt := topS 8
abbrev N__law_cell : List Str := ["script", "k"]
theorem sc__law_cell : FnScope N__law_cell ["script", "k"] (defScope s__law_cell) := ⟨rfl, rfl, rfl, by decide +kernel, rfl, by decide +kernel, by decide +kernel⟩
abbrev s__law_char : Stmt := topS 9
abbrev N__law_char : List Str := ["number", "chars", "kind"]
theorem sc__law_char : FnScope N__law_char ["number"] (defScope s__law_char) := ⟨rfl, rfl, rfl, by decide +kernel, rfl, by decide +kernel, by decide +kernel⟩
abbrev s__law_valid : Stmt := topS 10
abbrev N__law_valid : List Str := ["value", "star", "names", "good", "name", "char"]
theorem sc__law_valid : FnScope N__law_valid ["value", "star"] (defScope s__law_valid) := ⟨rfl, rfl, rfl, by decide +kernel, rfl, by decide +kernel, by decide +kernel⟩
abbrev s_law : Stmt := topS 11
abbrev N_law : List Str := ["script", "first", "value", "size", "cell", "char", "actual"]
theorem sc_law : FnScope N_law ["script"] (defScope s_law) := ⟨rfl, rfl, rfl, by decide +kernel, rfl, by decide +kernel, by decide +kernel⟩
structure Tx (mg : Str → Option Value) : Prop where
  b_abs : mg "abs" = none
  b_all : mg "all" = none
  b_bool : mg "bool" = none
  b_int : mg "int" = none
  b_isinstance : mg "isinstance" = none
  b_len : mg "len" = none
  c_MOST_NAMES : ∃ u, mg "MOST_NAMES" = some u ∧ RelV (.int 4) u
  c_NAME_LENGTH : ∃ u, mg "NAME_LENGTH" = some u ∧ RelV (.int 12) u
  c_NAME_SIGNS : ∃ u, mg "NAME_SIGNS" = some u ∧ RelV (.str (Str.ofString "abcdefghijklmnopqrstuvwxyz0123456789_.")) u
local macro_rules | `(tactic| walk_at "ev") => `(tactic| first
  | exact ev_c
  | exact ev_var rfl
  | exact ea_nil
  | exact eo_none
  | (apply eo_some; walk_at "ev")
  | (apply ea_cons <;> walk_at "ev")
  | (apply ev_op <;> first | walk_at "rv" | walk_at "ev")
  | (apply ev_un <;> first | exact ru_neg | walk_at "ev")
  | (apply ev_chain <;> first | walk_at "rv" | walk_at "ev")
  | (apply et_test; walk_at "ev")
  | (apply et_B; walk_at "ev")
  | (apply et_not; walk_at "ev")
  | (apply et_and; walk_at "ev"; intro _; walk_at "ev")
  | (apply et_or; walk_at "ev"; intro _; walk_at "ev")
  | (apply ev_andV; walk_at "ev"; intro _; walk_at "ev")
  | (apply ev_orV; walk_at "ev"; intro _; walk_at "ev")
  | (apply ev_notV; walk_at "ev")
  | (apply ev_cb <;> first | walk_at "rc" | walk_at "ev"))
local macro_rules | `(tactic| walk_at "rv") => `(tactic| first
  | exact rv_eqI | exact rv_neI | exact rv_eqS | exact rv_neS | exact rv_le | exact rv_lt | exact rv_ge | exact rv_gt | exact rv_inS | exact rv_ninS
  | exact rv_I0
  | exact rv_pow ⟨by decide, by decide, by decide⟩
  | exact rv_mod (by first | decide | omega)
  | exact rv_fdiv ⟨by decide, by decide⟩
  | exact rv_fdiv ⟨by omega, by omega⟩
  | exact rv_addS (by first | assumption | omega)
  | exact rv_mul (.inr ⟨by decide, by decide⟩) | exact rv_mul (.inl ⟨by decide, by decide⟩)
  | exact rv_mul (by first | exact .inl ⟨by omega, by omega⟩ | exact .inr ⟨by omega, by omega⟩)
  | exact rv_eq rfl | exact rv_ne rfl)
local macro_rules | `(tactic| walk_at "rc") => `(tactic| first
  | exact rc_abs | exact rc_int | exact rc_intB | exact rc_ord
  | exact rc_lenS (by first | assumption | omega))

/-! ### names and paths -/
def NS : List Nat := (Str.ofString "abcdefghijklmnopqrstuvwxyz0123456789_.").cps.toList
def nameOk (G n : List Nat) : Bool := !(!(decide (1 ≤ (n.length : Int)) && decide ((n.length : Int) ≤ 12)) || decide (n[0]? = some 46)) && n.all fun c => decide (c ∈ G)
def pathOk (l : List Nat) : Bool := decide (((cut1 47 l).length : Int) ≤ 4) && (cut1 47 l).all (nameOk NS)
section
variable {P : Program} {w : World} {K : PySem.W.Frag} {mg : Str → Option Value} {base : Heap}
def sp__is_name (_ : PySem.W.Frag) : Sp := sp1 (fun l : List Nat => [.str (S l)]) (fun l _ => l.length ≤ 40000) (fun l => .bl (nameOk NS l))
theorem ok__is_name {f : Addr} {fd : FuncData} (F : Fun K "_is_name" "_is_name" s__is_name f fd) (T : Tx mg)  : FnOk P w K mg base CX0 1 f fd ["name"] (sp__is_name K) := by
  refine F.ok sc__is_name (fun vs H Q E h => ?_) (fun cdv A outer s H vs Q E hr h => ?_)
  · obtain ⟨l, rfl, _⟩ := h
    rfl
  · obtain ⟨l, rfl, hl, q⟩ := h
    refine ⟨_, (pss_cons (ps_if (PW.pt (pw_or (pt_not (pt_chain op_le op_le pe_int (pe_callB Kn.cr_lenStr (by rfl) T.b_len PySem.boot_len (pa_cons (pv 0) pa_nil)) (C8.pe_gc (by rfl) T.c_NAME_LENGTH))) (pw_or1 (pt_val (pe_m1 PySem.F.slot_str_startswith PySem.F.type_str_startswith Kn.mt_startswith (pv 0) pe_str))))) (pss_one (ps_ret pe_bl)) pss_nil)
      (pss_one (ps_ret (pe_callB (cr_all rfl) (by rfl) T.b_all (by decide +kernel) (pa_cons (pe_lc (own := [("sign", 1)]) rfl sc__is_name.nd (pi_str (pv 0)) (blkOk_by (own := [("sign", 1)]) (N := N__is_name) (sc := defScope s__is_name) (by decide +kernel)) (fun _ _ _ _ _ => pg_name (i := 1) sc__is_name.nd rfl (Or.inl rfl)) (fun _ _ _ _ _ => pts_nil) (fun _ _ _ _ _ => (pe_cmpR op_inS (pv 1) (C8.pe_gc (by rfl) T.c_NAME_SIGNS) rfl))) pa_nil))))), ?_⟩
    refine q_when (b := !(decide (1 ≤ (l.length : Int)) && decide ((l.length : Int) ≤ 12)) || decide (l[0]? = some 46)) (et_or (et_not (et_test (ev_chain ev_c (ev_cb (ea_cons (ev_var rfl) ea_nil) (rc_lenS (by omega))) rv_le ev_c rv_le))) fun _ => et_B (ev_starts (c := 46) (ev_var rfl) (ev_cS rfl))) (fun hb H1 e1 => ?_) (fun hb H1 e1 => ?_)
    · refine s_ret ev_c fun H2 e2 => ?_
      have z : Q (.bl (nameOk NS l)) H2 := q H2 (e1.trans e2)
      unfold nameOk at z
      rw [hb] at z
      exact z
    · refine s_ret (v := .bl (l.all fun c => decide (c ∈ NS))) (ev_all (p := fun c : Nat => decide (c ∈ NS)) (el_lcS (ev_var rfl) hl (fun _ => rfl) fun c hc H2 e2 => ?_)) fun H2 e2 => ?_
      · exact ev_op (ev_var rfl) (ev_cS (l := NS) rfl) rv_inS
      · have z : Q (.bl (nameOk NS l)) H2 := q H2 (e1.trans e2)
        unfold nameOk at z
        rw [hb] at z
        exact z
def sp_is_path (_ : PySem.W.Frag) : Sp := sp1 (fun l : List Nat => [.str (S l)]) (fun l _ => l.length ≤ 30000) (fun l => .bl (pathOk l))
theorem ok_is_path {f : Addr} {fd : FuncData} (F : Fun K "is_path" "is_path" s_is_path f fd) (T : Tx mg) (C__is_name : Kn.Cl P w K mg base 1 "_is_name" (sp__is_name K)) : FnOk P w K mg base CX0 2 f fd ["value"] (sp_is_path K) := by
  refine F.ok sc_is_path (fun vs H Q E h => ?_) (fun cdv A outer s H vs Q E hr h => ?_)
  · obtain ⟨l, rfl, _⟩ := h
    rfl
  · obtain ⟨l, rfl, hl, q⟩ := h
    refine ⟨_, (pss_cons (ps_set (i := 1) sc_is_path.nd rfl (Or.inl rfl) (pe_m1 PySem.F.slot_str_split PySem.F.type_str_split Kn.mt_split (pv 0) pe_str))
      (pss_one (ps_ret (pe_and (pe_cmpR op_le (pe_callB Kn.cr_lenSeq (by rfl) T.b_len PySem.boot_len (pa_cons (pv 1) pa_nil)) (C8.pe_gc (by rfl) T.c_MOST_NAMES) (nomark _)) (pe_one (pe_callB (cr_all rfl) (by rfl) T.b_all (by decide +kernel) (pa_cons (pe_lc (own := [("name", 2)]) rfl sc_is_path.nd (pi_list (pv 1)) (blkOk_by (own := [("name", 2)]) (N := N_is_path) (sc := defScope s_is_path) (by decide +kernel)) (fun _ _ _ _ _ => pg_name (i := 2) sc_is_path.nd rfl (Or.inl rfl)) (fun _ _ _ _ _ => pts_nil) (fun _ _ _ _ _ => (Kn.pe_cl C__is_name hr (by decide) (by rfl) (pa_cons (pv 2) pa_nil)))) pa_nil))))))), ?_⟩
    have hc := cut1_len 47 l
    refine q_asgL (el_split (c := 47) (ev_var rfl) (ev_cS rfl) (by decide) (by omega)) fun p H1 np e1 hp => ?_
    refine s_ret (v := .bl (pathOk l)) (ev_andV (a := decide (((cut1 47 l).length : Int) ≤ 4)) (ev_is (ev_op (ev_len (ev_var rfl) (sq_of hp)) ev_c rv_le) (by rw [List.length_map])) fun _ => ev_all (p := nameOk NS) (el_lcM (g := fun p => V.str (S p)) (ev_var rfl) (sq_of hp) (by omega) (fun _ => rfl) fun n hn H2 e2 => ?_)) fun H2 e2 => q H2 (e1.trans e2)
    have := cut1_part hn
    exact ev_c1 (a := n) (by walk_at "ev") fun _ _ => (by omega)
end

section
variable {P : Program} {w : World} {K : PySem.W.Frag} {mg : Str → Option Value} {base : Heap}
/-! ### patterns -/
def unstar (c : Nat) : Nat := if c = 42 then 97 else c
def patOk (l : List Nat) : Bool := decide (cnt 42 l = 1) && pathOk (l.map unstar)
def sp_is_pattern (_ : PySem.W.Frag) : Sp := sp1 (fun l : List Nat => [.str (S l)]) (fun l _ => l.length ≤ 30000) (fun l => .bl (patOk l))
theorem ok_is_pattern {f : Addr} {fd : FuncData} (F : Fun K "is_pattern" "is_pattern" s_is_pattern f fd) (T : Tx mg) (C_is_path : Kn.Cl P w K mg base 2 "is_path" (sp_is_path K)) : FnOk P w K mg base CX0 3 f fd ["value"] (sp_is_pattern K) := by
  refine F.ok sc_is_pattern (fun vs H Q E h => ?_) (fun cdv A outer s H vs Q E hr h => ?_)
  · obtain ⟨l, rfl, _⟩ := h
    rfl
  · obtain ⟨l, rfl, hl, q⟩ := h
    refine ⟨_, (pss_one (ps_ret (Kn.pe_andB (Kn.peb_cmpR op_eq (Kn.peb_m1 PySem.F.slot_str_count PySem.F.type_str_count Kn.mt_count (pv 0) Kn.peb_str) pe_int (nomark _)) (Kn.pet_cl C_is_path hr (by decide) (by rfl) (pat_cons (CwR.pet_replC (pv 0)) pat_nil))))), ?_⟩
    refine s_ret (v := .bl (patOk l)) (ev_andV (ev_op (ev_count (c := 42) (ev_var rfl) (ev_cS rfl)) ev_c rv_eqI) fun _ => ev_c1 (a := l.map unstar) (ea_cons (ev_replC (c := 42) (d := 97) (ev_var rfl) (S1 _ rfl) (S1 _ rfl) (by omega)) ea_nil) fun _ _ => by rw [List.length_map]; exact hl) q
def sp__law_cell (K : PySem.W.Frag) : Sp := sp3 (fun (a : Addr) (_ : List Int) (k : Nat) => [.ref a, .int (k : Int)]) (fun a ns _ H => SqL K H a (ns.map V.int)) (fun _ ns k => .int (L2.cellOf ns k))
theorem ok__law_cell {f : Addr} {fd : FuncData} (F : Fun K "_law_cell" "_law_cell" s__law_cell f fd) (T : Tx mg)  : FnOk P w K mg base CX0 1 f fd ["script", "k"] (sp__law_cell K) := by
  refine F.ok sc__law_cell (fun vs H Q E h => ?_) (fun cdv A outer s H vs Q E hr h => ?_)
  · obtain ⟨a, ns, k, rfl, _⟩ := h
    rfl
  · obtain ⟨a, ns, k, rfl, hS, q⟩ := h
    refine ⟨_, (pss_cons (ps_if (pt_cmpR op_lt (pv 1) (pe_callB Kn.cr_lenSeq (by rfl) T.b_len PySem.boot_len (pa_cons (pv 0) pa_nil)) (nomark _)) (pss_one (ps_ret (pe_callTy Kn.cr_int1 (by rfl) T.b_int (by decide +kernel) (pa_cons (pe_ix ix_list (pv 0) (pv 1) (fun _ _ => rfl)) pa_nil)))) pss_nil)
      (pss_one (ps_ret pe_int))), ?_⟩
    refine q_when (et_test (ev_op (ev_var rfl) (ev_len (ev_var rfl) hS) rv_lt)) (fun hb H1 e1 => ?_) (fun hb H1 e1 => ?_)
    · have hk : k < ns.length := by
        rw [List.length_map, decide_eq_true_eq] at hb
        omega
      exact s_ret (ev_cb (ea_cons (ev_op (ev_var rfl) (ev_var rfl) (rv_ixL (ex_l e1 hS) (atI_cell hk))) ea_nil) rc_int) fun H2 e2 => q H2 (e1.trans e2)
    · have hk : ¬ k < ns.length := by
        rw [List.length_map, decide_eq_false_iff_not] at hb
        omega
      refine s_ret ev_c fun H2 e2 => ?_
      have z : Q (.int (L2.cellOf ns k)) H2 := q H2 (e1.trans e2)
      rw [cell_out hk] at z
      exact z

end
/-! ### the law's own reading -/
def goodOf (star : Bool) : List Nat := if star = true then NS ++ [42] else NS
def lawOk (star : Bool) (l : List Nat) : Bool := !(decide (4 < ((cut1 47 l).length : Int)) || !decide (cnt 42 l = if star = true then 1 else 0)) && (cut1 47 l).all (nameOk (goodOf star))
theorem ns42 : 42 ∉ NS := by decide +kernel
theorem ns97 : 97 ∈ NS := by decide +kernel
theorem unstar_47 (d : Nat) : unstar d = 47 ↔ d = 47 := by
  unfold unstar
  split
  · rename_i h
    subst h
    decide
  · exact Iff.rfl
theorem unstar_46 (d : Nat) : unstar d = 46 ↔ d = 46 := by
  unfold unstar
  split
  · rename_i h
    subst h
    decide
  · exact Iff.rfl
theorem unstar_in (c : Nat) : decide (unstar c ∈ NS) = decide (c ∈ NS ++ [42]) := by
  unfold unstar
  split
  · rename_i h
    subst h
    rw [decide_eq_true ns97, decide_eq_true (List.mem_append_right _ List.mem_cons_self)]
  · rename_i h
    have e : c ∈ NS ↔ c ∈ NS ++ [42] := ⟨List.mem_append_left _, fun z => by
      rcases List.mem_append.mp z with z | z
      · exact z
      · exact absurd (List.mem_singleton.mp z) h⟩
    rw [Bool.eq_iff_iff, decide_eq_true_eq, decide_eq_true_eq]
    exact e
theorem nameOk_unstar (n : List Nat) : nameOk NS (n.map unstar) = nameOk (NS ++ [42]) n := by
  have e1 : decide ((n.map unstar)[0]? = some 46) = decide (n[0]? = some 46) := by
    rw [List.getElem?_map, Bool.eq_iff_iff, decide_eq_true_eq, decide_eq_true_eq]
    cases n[0]? with
    | none => exact Iff.rfl
    | some c =>
      show some (unstar c) = some 46 ↔ some c = some 46
      rw [Option.some.injEq, Option.some.injEq]
      exact unstar_46 c
  have e2 : ((n.map unstar).all fun c => decide (c ∈ NS)) = n.all fun c => decide (c ∈ NS ++ [42]) := by
    rw [List.all_map]
    exact congrArg (n.all ·) (funext fun c => unstar_in c)
  unfold nameOk
  rw [List.length_map, e1, e2]
theorem le_not_lt (n : Nat) : decide ((n : Int) ≤ 4) = !decide (4 < (n : Int)) := by
  by_cases h : (n : Int) ≤ 4
  · rw [decide_eq_true h, decide_eq_false (by omega)]
    rfl
  · rw [decide_eq_false h, decide_eq_true (by omega)]
    rfl
theorem pat_law (l : List Nat) : patOk l = lawOk true l := by
  have e : (cut1 47 (l.map unstar)).all (nameOk NS) = (cut1 47 l).all (nameOk (NS ++ [42])) := by
    rw [cut1_map unstar_47, List.all_map]
    exact congrArg ((cut1 47 l).all ·) (funext fun n => nameOk_unstar n)
  unfold patOk pathOk lawOk goodOf
  rw [if_pos rfl, if_pos rfl, e, cut1_map unstar_47, List.length_map, le_not_lt, Bool.not_or, Bool.not_not]
  cases decide (cnt 42 l = 1) <;> cases decide (4 < ((cut1 47 l).length : Int)) <;> rfl
theorem path_law (l : List Nat) : pathOk l = lawOk false l := by
  unfold pathOk lawOk goodOf
  rw [if_neg Bool.false_ne_true, if_neg Bool.false_ne_true, le_not_lt, Bool.not_or, Bool.not_not]
  cases ha : (cut1 47 l).all (nameOk NS) with
  | false => rw [Bool.and_false, Bool.and_false]
  | true =>
    have h : 42 ∉ l := fun z => by
      obtain ⟨p, hp, hm⟩ := cut1_mem (c := 47) (by decide) z
      have h1 := List.all_eq_true.mp ha p hp
      unfold nameOk at h1
      rw [Bool.and_eq_true] at h1
      exact ns42 (of_decide_eq_true (List.all_eq_true.mp h1.2 42 hm))
    rw [cnt_none 42 l h]
    cases decide (4 < ((cut1 47 l).length : Int)) <;> rfl
/-! ### one sign of the law -/
def charSigns : List Nat := (Str.ofString "abcdefghijklmnopqrstuvwxyz0123456789_").cps.toList
def oddSigns : List Nat := (Str.ofString "A -Z,").cps.toList
theorem at_mod {l : List Nat} {n m : Int} (hm : 0 < m) (hl : (l.length : Int) = m) : atI l (n % m) = some (l.getD (n % m).toNat 0) := by
  have h1 : 0 ≤ n % m := Int.emod_nonneg n (by omega)
  have h2 : n % m < m := Int.emod_lt_of_pos n hm
  have h3 : (n % m).toNat < l.length := by omega
  refine atI_nat' (j := (n % m).toNat) (by omega) ?_
  rw [List.getD_eq_getElem?_getD, List.getElem?_eq_getElem h3]
  rfl
def charOf (n : Int) : Nat := if n % 24 = 0 then 46 else if n % 24 = 1 then 47 else if n % 24 = 2 then 42 else if (decide (n % 24 = 3) && decide (n / 24 % 5 = 0)) = true then oddSigns.getD (n / 120 % 5).toNat 0 else charSigns.getD (n / 24 % 37).toNat 0
section
variable {P : Program} {w : World} {K : PySem.W.Frag} {mg : Str → Option Value} {base : Heap}
def sp__law_char (_ : PySem.W.Frag) : Sp := sp1 (fun n : Int => [.int n]) (fun _ _ => True) (fun n => .str (S [charOf n]))
theorem ok__law_char {f : Addr} {fd : FuncData} (F : Fun K "_law_char" "_law_char" s__law_char f fd) (T : Tx mg)  : FnOk P w K mg base CX0 1 f fd ["number"] (sp__law_char K) := by
  refine F.ok sc__law_char (fun vs H Q E h => ?_) (fun cdv A outer s H vs Q E hr h => ?_)
  · obtain ⟨l, rfl, _⟩ := h
    rfl
  · obtain ⟨n, rfl, -, q⟩ := h
    refine ⟨_, (pss_cons (ps_set (i := 1) sc__law_char.nd rfl (Or.inl rfl) pe_str)
      (pss_cons (ps_set (i := 2) sc__law_char.nd rfl (Or.inl rfl) (pe_op op_mod (pe_callTy Kn.cr_int1 (by rfl) T.b_int (by decide +kernel) (pa_cons (pv 0) pa_nil)) pe_int))
      (pss_cons (ps_if (pt_cmpR op_eq (pv 2) pe_int (nomark _)) (pss_one (ps_ret pe_str)) pss_nil)
      (pss_cons (ps_if (pt_cmpR op_eq (pv 2) pe_int (nomark _)) (pss_one (ps_ret pe_str)) pss_nil)
      (pss_cons (ps_if (pt_cmpR op_eq (pv 2) pe_int (nomark _)) (pss_one (ps_ret pe_str)) pss_nil)
      (pss_cons (ps_if (PW.pt (pw_and (pt_cmpR op_eq (pv 2) pe_int (nomark _)) (pw_and1 (pt_cmpR op_eq (pe_op op_mod (pe_op op_fdiv (pe_callTy Kn.cr_int1 (by rfl) T.b_int (by decide +kernel) (pa_cons (pv 0) pa_nil)) pe_int) pe_int) pe_int (nomark _))))) (pss_one (ps_ret (pe_ix ix_str pe_str (pe_op op_mod (pe_op op_fdiv (pe_callTy Kn.cr_int1 (by rfl) T.b_int (by decide +kernel) (pa_cons (pv 0) pa_nil)) pe_int) pe_int) (fun _ _ => rfl)))) pss_nil)
      (pss_one (ps_ret (pe_ix ix_str (pv 1) (pe_op op_mod (pe_op op_fdiv (pe_callTy Kn.cr_int1 (by rfl) T.b_int (by decide +kernel) (pa_cons (pv 0) pa_nil)) pe_int) pe_int) (fun _ _ => rfl)))))))))), ?_⟩
    refine q_asg (ev_cS (l := charSigns) rfl) fun H1 e1 => ?_
    refine q_asg (v := .int (n % 24)) (by walk_at "ev") fun H2 e2 => ?_
    replace q : ∀ H3, Ex H2 H3 → Q (.str (S [charOf n])) H3 := fun H3 e => q H3 ((e1.trans e2).trans e)
    refine q_when (b := decide (n % 24 = 0)) (by walk_at "ev") (fun hb H3 e3 => ?_) (fun h0 H3 e3 => ?_)
    · refine s_ret (ev_cS (l := [46]) rfl) fun H4 e4 => ?_
      have z := q H4 (e3.trans e4)
      unfold charOf at z
      rw [if_pos (of_decide_eq_true hb)] at z
      exact z
    replace q := fun H4 e => q H4 (e3.trans e)
    refine q_when (b := decide (n % 24 = 1)) (by walk_at "ev") (fun hb H4 e4 => ?_) (fun h1 H4 e4 => ?_)
    · refine s_ret (ev_cS (l := [47]) rfl) fun H5 e5 => ?_
      have z := q H5 (e4.trans e5)
      unfold charOf at z
      rw [if_neg (of_decide_eq_false h0), if_pos (of_decide_eq_true hb)] at z
      exact z
    replace q := fun H5 e => q H5 (e4.trans e)
    refine q_when (b := decide (n % 24 = 2)) (by walk_at "ev") (fun hb H5 e5 => ?_) (fun h2 H5 e5 => ?_)
    · refine s_ret (ev_cS (l := [42]) rfl) fun H6 e6 => ?_
      have z := q H6 (e5.trans e6)
      unfold charOf at z
      rw [if_neg (of_decide_eq_false h0), if_neg (of_decide_eq_false h1), if_pos (of_decide_eq_true hb)] at z
      exact z
    replace q := fun H6 e => q H6 (e5.trans e)
    refine q_when (b := decide (n % 24 = 3) && decide (n / 24 % 5 = 0)) (by walk_at "ev") (fun hb H6 e6 => ?_) (fun h3 H6 e6 => ?_)
    · refine s_ret (ev_idxS (l := oddSigns) (i := n / 120 % 5) (ev_cS rfl) (by walk_at "ev") (by decide +kernel) (at_mod (by decide) (by decide +kernel))) fun H7 e7 => ?_
      have z := q H7 (e6.trans e7)
      unfold charOf at z
      rw [if_neg (of_decide_eq_false h0), if_neg (of_decide_eq_false h1), if_neg (of_decide_eq_false h2), if_pos hb] at z
      exact z
    · refine s_ret (ev_idxS (l := charSigns) (i := n / 24 % 37) (ev_var rfl) (by walk_at "ev") (by decide +kernel) (at_mod (by decide) (by decide +kernel))) fun H7 e7 => ?_
      have z := q H7 (e6.trans e7)
      unfold charOf at z
      rw [if_neg (of_decide_eq_false h0), if_neg (of_decide_eq_false h1), if_neg (of_decide_eq_false h2), if_neg (by rw [h3]; exact Bool.false_ne_true)] at z
      exact z
def sp__law_valid (_ : PySem.W.Frag) : Sp := sp2 (fun (l : List Nat) (star : Bool) => [.str (S l), .bl star]) (fun l _ _ => l.length ≤ 30000) (fun l star => .bl (lawOk star l))
theorem ok__law_valid {f : Addr} {fd : FuncData} (F : Fun K "_law_valid" "_law_valid" s__law_valid f fd) (T : Tx mg)  : FnOk P w K mg base CX0 1 f fd ["value", "star"] (sp__law_valid K) := by
  refine F.ok sc__law_valid (fun vs H Q E h => ?_) (fun cdv A outer s H vs Q E hr h => ?_)
  · obtain ⟨l, star, rfl, _⟩ := h
    rfl
  · obtain ⟨l, star, rfl, hl, q⟩ := h
    refine ⟨_, (pss_cons (ps_set (i := 2) sc__law_valid.nd rfl (Or.inl rfl) (pe_m1 PySem.F.slot_str_split PySem.F.type_str_split Kn.mt_split (pv 0) pe_str))
      (pss_cons (ps_set (i := 3) sc__law_valid.nd rfl (Or.inl rfl) pe_str)
      (pss_cons (ps_if (pt_val (pv 1)) (pss_one (ps_set (i := 3) sc__law_valid.nd rfl (Or.inl rfl) (pe_op Kn.op_addS (pv 3) pe_str))) pss_nil)
      (pss_cons (ps_if (PW.pt (pw_or (pt_cmpR op_gt (pe_callB Kn.cr_lenSeq (by rfl) T.b_len PySem.boot_len (pa_cons (pv 2) pa_nil)) pe_int (nomark _)) (pw_or1 (pt_cmpR op_ne (pe_m1 PySem.F.slot_str_count PySem.F.type_str_count Kn.mt_count (pv 0) pe_str) (pe_callTy Kn.cr_int1 (by rfl) T.b_int (by decide +kernel) (pa_cons (pv 1) pa_nil)) (nomark _))))) (pss_one (ps_ret pe_bl)) pss_nil)
      (pss_cons (ps_for PassesOwn.never rfl (pi_list (pv 2)) (pg_name (i := 4) sc__law_valid.nd rfl (Or.inl rfl)) (pss_cons (ps_if (PW.pt (pw_or (pt_cmpR op_lt (pe_callB Kn.cr_lenStr (by rfl) T.b_len PySem.boot_len (pa_cons (pv 4) pa_nil)) pe_int (nomark _)) (pw_or (pt_cmpR op_gt (pe_callB Kn.cr_lenStr (by rfl) T.b_len PySem.boot_len (pa_cons (pv 4) pa_nil)) pe_int (nomark _)) (pw_or1 (pt_cmpR op_eq (pe_ix ix_str (pv 4) pe_int (fun _ _ => rfl)) pe_str (nomark _)))))) (pss_one (ps_ret pe_bl)) pss_nil)
      (pss_one (ps_for PassesOwn.never rfl (pi_str (pv 4)) (pg_name (i := 5) sc__law_valid.nd rfl (Or.inl rfl)) (pss_one (ps_if (pt_cmpR op_notInS (pv 5) (pv 3) rfl) (pss_one (ps_ret pe_bl)) pss_nil))))))
      (pss_one (ps_ret pe_bl))))))), ?_⟩
    have hc := cut1_len 47 l
    refine q_asgL (el_split (c := 47) (ev_var rfl) (ev_cS rfl) (by decide) (by omega)) fun p H1 np e1 hp => ?_
    refine q_asg (ev_cS (l := NS) rfl) fun H2 e2 => ?_
    refine q_ifAsg (v := .str (S (goodOf star))) (b := star) (et_B (ev_var rfl)) (fun hb => ?_) (fun hb => ?_) fun H3 e3 => ?_
    · subst hb
      exact ev_op (ev_var rfl) (ev_cS (l := [42]) rfl) (rv_addS (by decide +kernel))
    · subst hb
      rfl
    replace hp := e3 _ _ (e2 _ _ hp)
    replace q : ∀ H4, Ex H3 H4 → Q (.bl (lawOk star l)) H4 := fun H4 e => q H4 (((e1.trans e2).trans e3).trans e)
    refine q_when (b := decide (4 < ((cut1 47 l).length : Int)) || !decide (cnt 42 l = if star = true then 1 else 0)) (et_or (et_is (et_test (ev_op (ev_len (ev_var rfl) (sq_of hp)) ev_c rv_gt)) (by rw [List.length_map])) fun _ => et_test (ev_op (ev_count (c := 42) (ev_var rfl) (ev_cS rfl)) (ev_cb (ea_cons (ev_var rfl) ea_nil) rc_intB) rv_neI)) (fun hb H4 e4 => ?_) (fun hb H4 e4 => ?_)
    · refine s_ret ev_c fun H5 e5 => ?_
      have z := q H5 (e4.trans e5)
      unfold lawOk at z
      rw [hb] at z
      exact z
    replace hp := e4 _ _ hp
    replace q : ∀ H5, Ex H4 H5 → Q (.bl ((cut1 47 l).all (nameOk (goodOf star)))) H5 := fun H5 e => by
      have z := q H5 (e4.trans e)
      unfold lawOk at z
      rw [hb] at z
      exact z
    -- the loop over the names
    refine q_forLn (xs := (cut1 47 l).map fun p => V.str (S p)) (ev_var rfl) (sq_of hp) (fun i σ' H' => ∃ x y, σ' = [some (.str (S l)), some (.bl star), some (.ref p), some (.str (S (goodOf star))), x, y] ∧ Ex H4 H' ∧ ∀ (j : Nat) n, j < i → (cut1 47 l)[j]? = some n → nameOk (goodOf star) n = true) (fun H5 e5 => ⟨_, _, rfl, e5, fun _ _ h => absurd h (Nat.not_lt_zero _)⟩) (fun i σ' H' _ ⟨_, _, _, e, _⟩ => sq_of (e _ _ hp)) ?_ ?_
    · rintro i x σ' H5 hx ⟨y1, y2, rfl, e5, hall⟩
      obtain ⟨n, hn, rfl⟩ : ∃ n, (cut1 47 l)[i]? = some n ∧ V.str (S n) = x := by
        rw [List.getElem?_map] at hx
        cases h : (cut1 47 l)[i]? with
        | none => rw [h] at hx; cases hx
        | some n => rw [h] at hx; exact ⟨n, rfl, Option.some.inj hx⟩
      have hnl := cut1_part (List.mem_of_getElem? hn)
      have bad : nameOk (goodOf star) n = false → (cut1 47 l).all (nameOk (goodOf star)) = false := fun h => by
        refine Bool.eq_false_iff.mpr fun z => ?_
        rw [List.all_eq_true.mp z n (List.mem_of_getElem? hn)] at h
        cases h
      refine q_when (b := !(decide (1 ≤ (n.length : Int)) && decide ((n.length : Int) ≤ 12)) || decide (n[0]? = some 46)) (et_is (et_or (a := decide ((n.length : Int) < 1)) (b := decide ((12 : Int) < (n.length : Int)) || decide (n[0]? = some 46)) (et_test (ev_op (ev_cb (ea_cons (ev_var rfl) ea_nil) (rc_lenS (by omega))) ev_c rv_lt)) fun h1 => et_or (et_test (ev_op (ev_cb (ea_cons (ev_var rfl) ea_nil) (rc_lenS (by omega))) ev_c rv_gt)) fun h2 => ?_) ?_) (fun hb2 H6 e6 => ?_) (fun hb2 H6 e6 => ?_)
      · have h1' := of_decide_eq_false h1
        obtain ⟨c, hc0⟩ : ∃ c, n[0]? = some c := ⟨n[0]'(by omega), List.getElem?_eq_getElem _⟩
        refine et_is (et_test (ev_op (ev_idxS (l := n) (c := c) (ev_var rfl) ev_c (by omega) (atI_nat (j := 0) hc0)) (ev_cS (l := [46]) rfl) rv_eqS)) ?_
        rw [hc0, Bool.eq_iff_iff, decide_eq_true_eq, decide_eq_true_eq]
        exact ⟨fun z => by rw [(List.cons.inj z).1], fun z => by rw [Option.some.inj z]⟩
      · by_cases h1 : (n.length : Int) < 1
        · rw [decide_eq_true h1, decide_eq_false (show ¬ 1 ≤ (n.length : Int) by omega)]
          rfl
        · rw [decide_eq_false h1, decide_eq_true (show 1 ≤ (n.length : Int) by omega)]
          by_cases h2 : (12 : Int) < (n.length : Int)
          · rw [decide_eq_true h2, decide_eq_false (show ¬ (n.length : Int) ≤ 12 by omega)]
            rfl
          · rw [decide_eq_false h2, decide_eq_true (show (n.length : Int) ≤ 12 by omega)]
            rfl
      · refine s_ret ev_c fun H7 e7 => ?_
        have z := q H7 ((e5.trans e6).trans e7)
        rw [bad (by unfold nameOk; rw [hb2]; rfl)] at z
        exact z
      · -- the loop over the signs
        refine s_forS (l := n) (ev_var rfl) (fun k σ' H' => ∃ y, σ' = [some (.str (S l)), some (.bl star), some (.ref p), some (.str (S (goodOf star))), some (.str (S n)), y] ∧ Ex H4 H' ∧ ∀ (j c : Nat), j < k → n[j]? = some c → c ∈ goodOf star) (fun H7 e7 => ⟨_, rfl, (e5.trans e6).trans e7, fun _ _ h => absurd h (Nat.not_lt_zero _)⟩) ?_ ?_
        · rintro k c σ' H7 hk ⟨y, rfl, e7, hall2⟩
          refine s_when (b := !decide (c ∈ goodOf star)) (et_test (ev_op (ev_var rfl) (ev_var rfl) rv_ninS)) (fun hb3 H8 e8 => ?_) (fun hb3 H8 e8 => ⟨_, rfl, e7.trans e8, fun j d hj hd => ?_⟩)
          · refine s_ret ev_c fun H9 e9 => ?_
            have z := q H9 ((e7.trans e8).trans e9)
            have hno : ¬ c ∈ goodOf star := fun h => by
              rw [decide_eq_true h] at hb3
              cases hb3
            rw [bad (by
              refine Bool.eq_false_iff.mpr fun h => ?_
              unfold nameOk at h
              rw [Bool.and_eq_true] at h
              exact hno (of_decide_eq_true (List.all_eq_true.mp h.2 c (List.mem_of_getElem? hk))))] at z
            exact z
          · by_cases h : j = k
            · subst h
              rw [hk] at hd
              cases Option.some.inj hd
              by_cases hm : c ∈ goodOf star
              · exact hm
              · rw [decide_eq_false hm] at hb3
                cases hb3
            · exact hall2 j d (by omega) hd
        · rintro σ' H7 ⟨y, rfl, e7, hall2⟩
          refine ⟨_, _, rfl, e7, fun j m hj hm => ?_⟩
          by_cases h : j = i
          · subst h
            rw [hn] at hm
            cases Option.some.inj hm
            unfold nameOk
            rw [hb2, Bool.not_false, Bool.true_and, List.all_eq_true]
            intro c hcm
            obtain ⟨j2, hj2⟩ := List.getElem?_of_mem hcm
            exact decide_eq_true (hall2 j2 c (List.getElem?_eq_some_iff.mp hj2).1 hj2)
          · exact hall j m (by omega) hm
    · rintro σ' H5 ⟨x, y, rfl, e5, hall⟩
      refine s_ret ev_c fun H6 e6 => ?_
      have z := q H6 (e5.trans e6)
      have e : (cut1 47 l).all (nameOk (goodOf star)) = true := by
        rw [List.all_eq_true]
        intro n hn
        obtain ⟨j, hj⟩ := List.getElem?_of_mem hn
        exact hall j n (by rw [List.length_map]; exact (List.getElem?_eq_some_iff.mp hj).1) hj
      rw [e] at z
      exact z
/-! ### the law -/
def sp_law (K : PySem.W.Frag) : Sp := sp2 (fun (a : Addr) (_ : List Int) => [.ref a]) (fun a ns H => SqL K H a (ns.map V.int) ∧ ns.length ≤ 63) (fun _ _ => .bl true)
theorem ok_law {f : Addr} {fd : FuncData} (F : Fun K "law" "law" s_law f fd) (T : Tx mg) (C__law_cell : Kn.Cl P w K mg base 1 "_law_cell" (sp__law_cell K)) (C__law_char : Kn.Cl P w K mg base 1 "_law_char" (sp__law_char K)) (C__law_valid : Kn.Cl P w K mg base 1 "_law_valid" (sp__law_valid K)) (C_is_path : Kn.Cl P w K mg base 2 "is_path" (sp_is_path K)) (C_is_pattern : Kn.Cl P w K mg base 3 "is_pattern" (sp_is_pattern K)) : FnOk P w K mg base CX0 4 f fd ["script"] (sp_law K) := by
  refine F.ok sc_law (fun vs H Q E h => ?_) (fun cdv A outer s H vs Q E hr h => ?_)
  · obtain ⟨a, ns, rfl, _⟩ := h
    rfl
  · obtain ⟨a, ns, rfl, ⟨hS, hl⟩, q⟩ := h
    refine ⟨_, (pss_cons (ps_set (i := 1) sc_law.nd rfl (Or.inl rfl) (pe_callB Kn.cr_abs (by rfl) T.b_abs (by decide +kernel) (pa_cons (Kn.pe_cl C__law_cell hr (by decide) (by rfl) (pa_cons (pv 0) (pa_cons pe_int pa_nil))) pa_nil)))
      (pss_cons (ps_set (i := 2) sc_law.nd rfl (Or.inl rfl) pe_str)
      (pss_cons (ps_set (i := 3) sc_law.nd rfl (Or.inl rfl) pe_int)
      (pss_cons (ps_for PassesOwn.never rfl (pi_list (pe_slice sl_list (pv 0) (po_some pe_int) (po_some pe_int))) (pg_name (i := 4) sc_law.nd rfl (Or.inl rfl)) (pss_cons (ps_set (i := 5) sc_law.nd rfl (Or.inl rfl) (Kn.pe_cl C__law_char hr (by decide) (by rfl) (pa_cons (pe_op op_fdiv (pe_callB Kn.cr_abs (by rfl) T.b_abs (by decide +kernel) (pa_cons (pe_callTy Kn.cr_int1 (by rfl) T.b_int (by decide +kernel) (pa_cons (pv 4) pa_nil)) pa_nil)) pe_int) pa_nil)))
      (pss_cons (ps_aug (i := 3) sc_law.nd rfl (Or.inl rfl) pe_int ip_add)
      (pss_cons (ps_if (PW.pt (pw_and (pt_cmpR op_eq (pe_op op_mod (pv 1) pe_int) pe_int (nomark _)) (pw_and1 (pt_cmpR op_gt (pv 3) (pe_op op_add pe_int (pe_op op_mod (pe_op op_fdiv (pv 1) pe_int) pe_int)) (nomark _))))) (pss_one (ps_set (i := 5) sc_law.nd rfl (Or.inl rfl) pe_str)) pss_nil)
      (pss_cons (ps_if (pt_cmpR op_eq (pv 5) pe_str (nomark _)) (pss_one (ps_set (i := 3) sc_law.nd rfl (Or.inl rfl) pe_int)) pss_nil)
      (pss_one (ps_if (PW.pt (pw_or (pt_cmpR op_ne (pe_op op_mod (pv 1) pe_int) pe_int (nomark _)) (pw_or1 (pt_cmpR op_lt (pe_callB Kn.cr_lenStr (by rfl) T.b_len PySem.boot_len (pa_cons (pv 2) pa_nil)) (pe_op op_add pe_int (pe_op op_mod (pe_op op_fdiv (pv 1) pe_int) pe_int)) (nomark _))))) (pss_one (ps_set (i := 2) sc_law.nd rfl (Or.inl rfl) (pe_op Kn.op_addS (pv 2) (pv 5)))) pss_nil)))))))
      (pss_cons (ps_set (i := 6) sc_law.nd rfl (Or.inl rfl) (pe_lst (pa_cons (Kn.pe_cl C_is_path hr (by decide) (by rfl) (pa_cons (pv 2) pa_nil)) (pa_cons (Kn.pe_cl C_is_pattern hr (by decide) (by rfl) (pa_cons (pv 2) pa_nil)) pa_nil))))
      (pss_cons (ps_if (PW.pt (pw_or (pt_not (pt_val (pe_callB Kn.cr_isi (by rfl) T.b_isinstance (by decide +kernel) (pa_cons (pe_ix ix_list (pv 6) pe_int (fun _ _ => rfl)) (pa_cons (pe_bltn (v := .ty "bool") (by rfl) T.b_bool (by decide +kernel) rfl) pa_nil))))) (pw_or1 (pt_not (pt_val (pe_callB Kn.cr_isi (by rfl) T.b_isinstance (by decide +kernel) (pa_cons (pe_ix ix_list (pv 6) pe_int (fun _ _ => rfl)) (pa_cons (pe_bltn (v := .ty "bool") (by rfl) T.b_bool (by decide +kernel) rfl) pa_nil)))))))) (pss_one (ps_ret pe_bl)) pss_nil)
      (pss_one (ps_ret (pe_cmpR (op_eqD hr.units) (pv 6) (pe_lst (pa_cons (Kn.pe_cl C__law_valid hr (by decide) (by rfl) (pa_cons (pv 2) (pa_cons pe_bl pa_nil))) (pa_cons (Kn.pe_cl C__law_valid hr (by decide) (by rfl) (pa_cons (pv 2) (pa_cons pe_bl pa_nil))) pa_nil))) (nomark _)))))))))), ?_⟩
    refine q_asg (v := .int ((cellOf ns 0).natAbs : Int)) (ev_cb (ea_cons (ev_c3 (a := a) (b := ns) (c := 0) (by walk_at "ev") fun H1 e => ex_l e hS) ea_nil) rc_abs) fun H1 e1 => ?_
    refine q_asg (ev_cS (l := []) rfl) fun H2 e2 => ?_
    refine q_asg ev_c fun H3 e3 => ?_
    replace hS := ex_l ((e1.trans e2).trans e3) hS
    replace q : ∀ H4, Ex H3 H4 → Q (.bl true) H4 := fun H4 e => q H4 (((e1.trans e2).trans e3).trans e)
    generalize ((cellOf ns 0).natAbs : Int) = f0
    refine q_forNLn (xs := ((ns.drop 1).take (63 - 1)).map V.int) (el_slN (g := V.int) (ev_var rfl) (by walk_at "ev") (by walk_at "ev") hS 1 63 rfl rfl) (fun p i σ' H' => ∃ (t : List Nat) (n : Int) (x y : Option V), σ' = [some (.ref a), some (.int f0), some (.str (S t)), some (.int n), x, y, none] ∧ Ex H3 H' ∧ t.length ≤ i ∧ H' p = some (.lst (((ns.drop 1).take (63 - 1)).map V.int))) (fun p H4 np e4 hp => ⟨[], 0, _, _, rfl, e4, Nat.le_refl _, hp⟩) (fun p i σ' H' _ ⟨_, _, _, _, _, _, _, h⟩ => sq_of h) ?_ ?_
    · rintro p i x σ' H4 hx ⟨t, n, x4, x5, rfl, e4, ht, hp⟩
      have hi : i < 62 := by
        have := (List.getElem?_eq_some_iff.mp hx).1
        rw [List.length_map, List.length_take] at this
        omega
      obtain ⟨c, rfl⟩ : ∃ c, V.int c = x := by
        rw [List.getElem?_map] at hx
        cases h : ((ns.drop 1).take (63 - 1))[i]? with
        | none => rw [h] at hx; cases hx
        | some n => rw [h] at hx; exact ⟨n, Option.some.inj hx⟩
      refine q_asg (v := .str (S [charOf (((c.natAbs : Nat) : Int) / 2)])) (ev_c1 (a := ((c.natAbs : Nat) : Int) / 2) (by walk_at "ev") fun _ _ => trivial) fun H5 e5 => ?_
      refine q_aug (a := n) (b := 1) rfl ev_c fun H6 e6 => ?_
      replace hp := e6 _ _ (e5 _ _ hp)
      replace e4 := (e4.trans e5).trans e6
      generalize charOf (((c.natAbs : Nat) : Int) / 2) = d
      refine q_ifM (b := decide (f0 % 2 = 1) && decide (1 + f0 / 2 % 13 < n + 1)) (fun σ' H' => ∃ d, σ' = [some (.ref a), some (.int f0), some (.str (S t)), some (.int (n + 1)), some (.int c), some (.str (S [d])), none] ∧ Ex H6 H') (by walk_at "ev") (fun _ H7 e7 N hN => s_asg (ev_cS (l := [47]) rfl) fun H8 e8 => hN _ _ ⟨47, rfl, e7.trans e8⟩) (fun _ H7 e7 N hN => s_next (hN _ _ ⟨d, rfl, e7⟩)) ?_
      rintro σ7 H7 ⟨d, rfl, e7⟩
      replace hp := e7 _ _ hp
      replace e4 := e4.trans e7
      refine q_ifM (b := decide ([d] = [47])) (fun σ' H' => ∃ n, σ' = [some (.ref a), some (.int f0), some (.str (S t)), some (.int n), some (.int c), some (.str (S [d])), none] ∧ Ex H7 H') (et_test (ev_op (ev_var rfl) (ev_cS (l := [47]) rfl) rv_eqS)) (fun _ H8 e8 N hN => s_asg ev_c fun H9 e9 => hN _ _ ⟨0, rfl, e8.trans e9⟩) (fun _ H8 e8 N hN => s_next (hN _ _ ⟨_, rfl, e8⟩)) ?_
      rintro σ8 H8 ⟨n2, rfl, e8⟩
      replace hp := e8 _ _ hp
      replace e4 := e4.trans e8
      refine s_when (b := !decide (f0 % 8 = 3) || decide ((t.length : Int) < 1 + f0 / 8 % 50)) (by walk_at "ev") (fun _ H9 e9 => ?_) (fun _ H9 e9 => ⟨t, n2, _, _, rfl, e4.trans e9, by omega, e9 _ _ hp⟩)
      refine s_asg (v := .str (S (t ++ [d]))) (ev_op (ev_var rfl) (ev_var rfl) (rv_addS (by show t.length + 1 ≤ 100000; omega))) fun H10 e10 => ⟨t ++ [d], n2, _, _, rfl, (e4.trans e9).trans e10, by rw [List.length_append]; show t.length + 1 ≤ i + 1; omega, e10 _ _ (e9 _ _ hp)⟩
    rintro p σ' H4 ⟨t, n, x4, x5, rfl, e4, ht, -⟩
    have htl : t.length ≤ 62 := by
      rw [List.length_map, List.length_take] at ht
      omega
    replace q : ∀ H5, Ex H4 H5 → Q (.bl true) H5 := fun H5 e => q H5 (e4.trans e)
    refine q_asgL (xs := [.bl (lawOk false t), .bl (lawOk true t)]) (el_lst (ea_cons (ev_is (ev_c1 (a := t) (by walk_at "ev") fun _ _ => (by omega)) (congrArg V.bl (path_law t))) (ea_cons (ev_is (ev_c1 (a := t) (by walk_at "ev") fun _ _ => (by omega)) (congrArg V.bl (pat_law t))) ea_nil)) (by simp)) fun p7 H7 np e7 hp => ?_
    replace q := fun H8 e => q H8 (e7.trans e)
    refine q_when (b := false) (et_or (a := false) (b := false) (et_not (a := true) (et_B (ev_isiB (ev_op (ev_var rfl) ev_c (rv_ixL (sq_of hp) (atI_nat (j := 0) rfl)))))) fun _ => et_not (a := true) (et_B (ev_isiB (ev_op (ev_var rfl) ev_c (rv_ixL (sq_of hp) (atI_nat (j := 1) rfl)))))) (fun hb => nomatch hb) fun _ H8 e8 => ?_
    replace q := fun H9 e => q H9 (e8.trans e)
    refine s_ret (v := .bl true) (ev_opL (xs := [.bl (lawOk false t), .bl (lawOk true t)]) (ev_var rfl) (el_lst (ea_cons (ev_c2 (a := t) (b := false) (by walk_at "ev") fun _ _ => (by omega)) (ea_cons (ev_c2 (a := t) (b := true) (by walk_at "ev") fun _ _ => (by omega)) ea_nil)) (by simp)) fun p2 H9 hp2 e9 => ?_) q
    exact eqD_true (sq_of (e9 _ _ (e8 _ _ hp))) (sq_of hp2) (fun _ _ => .cons (.bl _) (.cons (.bl _) .nil)) rfl (SeqAt.eqv_refl _ rfl)
end
theorem all_mk {l : PySem.W.OpenLaw} {w : World} {K : PySem.W.Frag} {h : Heap} {mg : Str → Option Value} {fa : Addr} (X : K.In h) (G : h.Ns mainGlobals mg) (hfa : mg "law" = some (.ref fa))
    {f0 f1 f2 f3 f4 f5 f6 : Addr} {od0 od1 od2 od3 od4 od5 od6 an0 an1 an2 an3 an4 an5 an6 : Option Addr} {sl0 sl1 sl2 sl3 sl4 sl5 sl6 : Array (Option Value)} {oc0 oc1 oc2 oc3 oc4 oc5 oc6 kV0 kV1 kV2 kV3 kV4 kV5 kV6 dc0 dc1 dc2 dc3 dc4 dc5 dc6 pm0 pm1 pm2 pm3 pm4 pm5 pm6 cd0 cd1 cd2 cd3 cd4 cd5 cd6 ct0 ct1 ct2 ct3 ct4 ct5 ct6 : Value}
    {tk_MOST_NAMES tk_NAME_LENGTH tk_NAME_SIGNS : Tok}
    (a0 : PySem.W.nsIn K mainGlobals "_is_name" = some (some (.ref f0)))
    (l0 : K.lookup f0 = some ⟨oc0, od0, .func (PySem.W.fnOf "_is_name" "_is_name" (defArgs s__is_name) (defBody s__is_name) (defScope s__is_name) .none kV0 dc0 pm0 an0 cd0 ct0), sl0⟩)
    (c0 : PySem.W.codeIn K cd0 "_is_name" = true)
    (k0 : PySem.W.keepIn K (.ref f0) = true)
    (a1 : PySem.W.nsIn K mainGlobals "is_path" = some (some (.ref f1)))
    (l1 : K.lookup f1 = some ⟨oc1, od1, .func (PySem.W.fnOf "is_path" "is_path" (defArgs s_is_path) (defBody s_is_path) (defScope s_is_path) .none kV1 dc1 pm1 an1 cd1 ct1), sl1⟩)
    (c1 : PySem.W.codeIn K cd1 "is_path" = true)
    (k1 : PySem.W.keepIn K (.ref f1) = true)
    (a2 : PySem.W.nsIn K mainGlobals "is_pattern" = some (some (.ref f2)))
    (l2 : K.lookup f2 = some ⟨oc2, od2, .func (PySem.W.fnOf "is_pattern" "is_pattern" (defArgs s_is_pattern) (defBody s_is_pattern) (defScope s_is_pattern) .none kV2 dc2 pm2 an2 cd2 ct2), sl2⟩)
    (c2 : PySem.W.codeIn K cd2 "is_pattern" = true)
    (k2 : PySem.W.keepIn K (.ref f2) = true)
    (a3 : PySem.W.nsIn K mainGlobals "_law_cell" = some (some (.ref f3)))
    (l3 : K.lookup f3 = some ⟨oc3, od3, .func (PySem.W.fnOf "_law_cell" "_law_cell" (defArgs s__law_cell) (defBody s__law_cell) (defScope s__law_cell) .none kV3 dc3 pm3 an3 cd3 ct3), sl3⟩)
    (c3 : PySem.W.codeIn K cd3 "_law_cell" = true)
    (k3 : PySem.W.keepIn K (.ref f3) = true)
    (a4 : PySem.W.nsIn K mainGlobals "_law_char" = some (some (.ref f4)))
    (l4 : K.lookup f4 = some ⟨oc4, od4, .func (PySem.W.fnOf "_law_char" "_law_char" (defArgs s__law_char) (defBody s__law_char) (defScope s__law_char) .none kV4 dc4 pm4 an4 cd4 ct4), sl4⟩)
    (c4 : PySem.W.codeIn K cd4 "_law_char" = true)
    (k4 : PySem.W.keepIn K (.ref f4) = true)
    (a5 : PySem.W.nsIn K mainGlobals "_law_valid" = some (some (.ref f5)))
    (l5 : K.lookup f5 = some ⟨oc5, od5, .func (PySem.W.fnOf "_law_valid" "_law_valid" (defArgs s__law_valid) (defBody s__law_valid) (defScope s__law_valid) .none kV5 dc5 pm5 an5 cd5 ct5), sl5⟩)
    (c5 : PySem.W.codeIn K cd5 "_law_valid" = true)
    (k5 : PySem.W.keepIn K (.ref f5) = true)
    (a6 : PySem.W.nsIn K mainGlobals "law" = some (some (.ref f6)))
    (l6 : K.lookup f6 = some ⟨oc6, od6, .func (PySem.W.fnOf "law" "law" (defArgs s_law) (defBody s_law) (defScope s_law) .none kV6 dc6 pm6 an6 cd6 ct6), sl6⟩)
    (c6 : PySem.W.codeIn K cd6 "law" = true)
    (k6 : PySem.W.keepIn K (.ref f6) = true)
    (zb_abs : PySem.W.nsIn K mainGlobals "abs" = some none)
    (zb_all : PySem.W.nsIn K mainGlobals "all" = some none)
    (zb_bool : PySem.W.nsIn K mainGlobals "bool" = some none)
    (zb_int : PySem.W.nsIn K mainGlobals "int" = some none)
    (zb_isinstance : PySem.W.nsIn K mainGlobals "isinstance" = some none)
    (zb_len : PySem.W.nsIn K mainGlobals "len" = some none)
    (zc_MOST_NAMES : PySem.W.nsIn K mainGlobals "MOST_NAMES" = some (some (.int 4 tk_MOST_NAMES)))
    (zc_NAME_LENGTH : PySem.W.nsIn K mainGlobals "NAME_LENGTH" = some (some (.int 12 tk_NAME_LENGTH)))
    (zc_NAME_SIGNS : PySem.W.nsIn K mainGlobals "NAME_SIGNS" = some (some (.str (Str.ofString "abcdefghijklmnopqrstuvwxyz0123456789_.") tk_NAME_SIGNS)))
    : ∃ fd : FuncData, (∀ (s : Shared) (v : Value), BindsTo s fd ⟨[v], []⟩ [("script", v)]) ∧ ∀ base : Heap, K.In base → base.Ns mainGlobals mg → FnOk l.prog w K mg base CX0 4 fa fd ["script"] (sp_law K) := by
  cases hfa.symm.trans (PySem.W.mg_of X G a6)
  have T : Tx mg := ⟨PySem.W.mg_none_of X G zb_abs, PySem.W.mg_none_of X G zb_all, PySem.W.mg_none_of X G zb_bool, PySem.W.mg_none_of X G zb_int, PySem.W.mg_none_of X G zb_isinstance, PySem.W.mg_none_of X G zb_len, ⟨_, PySem.W.mg_of X G zc_MOST_NAMES, ⟨_, rfl⟩⟩, ⟨_, PySem.W.mg_of X G zc_NAME_LENGTH, ⟨_, rfl⟩⟩, ⟨_, PySem.W.mg_of X G zc_NAME_SIGNS, ⟨_, rfl⟩⟩⟩
  have F0 := fun_mk (st := s__is_name) l0 c0 k0
  have b0 := F0.binds (ps := ["name"]) fun _ _ _ _ _ _ us hl => match us, hl with | [_], _ => rfl
  have F1 := fun_mk (st := s_is_path) l1 c1 k1
  have b1 := F1.binds (ps := ["value"]) fun _ _ _ _ _ _ us hl => match us, hl with | [_], _ => rfl
  have F2 := fun_mk (st := s_is_pattern) l2 c2 k2
  have b2 := F2.binds (ps := ["value"]) fun _ _ _ _ _ _ us hl => match us, hl with | [_], _ => rfl
  have F3 := fun_mk (st := s__law_cell) l3 c3 k3
  have b3 := F3.binds (ps := ["script", "k"]) fun _ _ _ _ _ _ us hl => match us, hl with | [_, _], _ => rfl
  have F4 := fun_mk (st := s__law_char) l4 c4 k4
  have b4 := F4.binds (ps := ["number"]) fun _ _ _ _ _ _ us hl => match us, hl with | [_], _ => rfl
  have F5 := fun_mk (st := s__law_valid) l5 c5 k5
  have b5 := F5.binds (ps := ["value", "star"]) fun _ _ _ _ _ _ us hl => match us, hl with | [_, _], _ => rfl
  have F6 := fun_mk (st := s_law) l6 c6 k6
  have b6 := F6.binds (ps := ["script"]) fun _ _ _ _ _ _ us hl => match us, hl with | [_], _ => rfl
  refine ⟨PySem.W.fnOf "law" "law" (defArgs s_law) (defBody s_law) (defScope s_law) .none kV6 dc6 pm6 an6 cd6 ct6, fun s v => .of_eq rfl, fun base _ _ => ?_⟩
  have C__is_name : Kn.Cl l.prog w K mg base 1 "_is_name" (sp__is_name K) := Kn.cl_of (ok__is_name F0 T) F0 (PySem.W.mg_of X G a0) b0
  have C_is_path : Kn.Cl l.prog w K mg base 2 "is_path" (sp_is_path K) := Kn.cl_of (ok_is_path F1 T C__is_name) F1 (PySem.W.mg_of X G a1) b1
  have C_is_pattern : Kn.Cl l.prog w K mg base 3 "is_pattern" (sp_is_pattern K) := Kn.cl_of (ok_is_pattern F2 T C_is_path) F2 (PySem.W.mg_of X G a2) b2
  have C__law_cell : Kn.Cl l.prog w K mg base 1 "_law_cell" (sp__law_cell K) := Kn.cl_of (ok__law_cell F3 T) F3 (PySem.W.mg_of X G a3) b3
  have C__law_char : Kn.Cl l.prog w K mg base 1 "_law_char" (sp__law_char K) := Kn.cl_of (ok__law_char F4 T) F4 (PySem.W.mg_of X G a4) b4
  have C__law_valid : Kn.Cl l.prog w K mg base 1 "_law_valid" (sp__law_valid K) := Kn.cl_of (ok__law_valid F5 T) F5 (PySem.W.mg_of X G a5) b5
  exact ok_law F6 T C__law_cell C__law_char C__law_valid C_is_path C_is_pattern
end My
open PySem PySem.W PyProof.Rows
set_option maxHeartbeats 0 in
theorem PySem.Challenge.cw_kilnyard_k04_paths_and_patterns_holds : PySem.Challenge.rw_kilnyard_k04_paths_and_patterns.Holds := by
  w_on; o_law; k_head; (case hw => w_witness2)
  k_fill
  refine L2.walk_of (l := PySem.Challenge.rw_kilnyard_k04_paths_and_patterns) (n := 63) (k := 4) (x := "script") (CX := fun _ => L2.CX0) (sp := fun w => My.sp_law _) rfl (by decide) rfl ⟨rfl, by decide, by decide⟩ (fun w h Y => PySem.W.kIn_of Y) ?F (fun _ _ a ns hl _ hS => ⟨a, ns, rfl, ⟨hS, hl⟩, fun _ _ => rfl⟩) (fun _ _ _ _ _ h => h)
  case F =>
    intro w mg fa h KX G hmg
    refine' My.all_mk KX G hmg ?a0 ?l0 ?c0 ?k0 ?a1 ?l1 ?c1 ?k1 ?a2 ?l2 ?c2 ?k2 ?a3 ?l3 ?c3 ?k3 ?a4 ?l4 ?c4 ?k4 ?a5 ?l5 ?c5 ?k5 ?a6 ?l6 ?c6 ?k6 ?zb_abs ?zb_all ?zb_bool ?zb_int ?zb_isinstance ?zb_len ?zc_MOST_NAMES ?zc_NAME_LENGTH ?zc_NAME_SIGNS
    (case a0 => k_is)
    (case l0 => k_is)
    (case c0 => k_is)
    (case k0 => k_is)
    (case a1 => k_is)
    (case l1 => k_is)
    (case c1 => k_is)
    (case k1 => k_is)
    (case a2 => k_is)
    (case l2 => k_is)
    (case c2 => k_is)
    (case k2 => k_is)
    (case a3 => k_is)
    (case l3 => k_is)
    (case c3 => k_is)
    (case k3 => k_is)
    (case a4 => k_is)
    (case l4 => k_is)
    (case c4 => k_is)
    (case k4 => k_is)
    (case a5 => k_is)
    (case l5 => k_is)
    (case c5 => k_is)
    (case k5 => k_is)
    (case a6 => k_is)
    (case l6 => k_is)
    (case c6 => k_is)
    (case k6 => k_is)
    (case zb_abs => k_is)
    (case zb_all => k_is)
    (case zb_bool => k_is)
    (case zb_int => k_is)
    (case zb_isinstance => k_is)
    (case zb_len => k_is)
    (case zc_MOST_NAMES => k_is)
    (case zc_NAME_LENGTH => k_is)
    (case zc_NAME_SIGNS => k_is)

